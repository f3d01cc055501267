/-
  Types' texts: walks.
-/
import Derived.Test.YtcfgjfahjaimiaaTyE
namespace Go.Proofs.Ytcfgjfahjaimiaa
open Go.RowKit
set_option linter.unusedVariables false
set_option linter.unusedSimpArgs false

def BytesP (base : Nat) (w : World) (v : Value) (x : List UInt8) (e : Ending) (w' : World) : Prop := ∃ v', e = .returned v' ∧ AppP base w v x v' w'
section
variable {base : Nat} {w w1 w2 : World} {v v1 v2 : Value} {x y : List UInt8}
theorem AppP.own (h : AppP base w v x v1 w1) : w1.ownsRow base 5 1 v1 x.length (x.map byteV) := h.1
theorem AppP.size (h : AppP base w v x v1 w1) : w.heap.size ≤ w1.heap.size := h.2.1.size
theorem AppP.trans (h : AppP base w v x v1 w1) (k : AppP base w1 v1 y v2 w2) : AppP base w v y v2 w2 :=
  ⟨k.1, h.2.1.wide k.2.1 fun n hn hs => by
    rcases h.2.2 n hs with h1 | h1
    · exact h1
    · omega, fun q hq => by
    rcases k.2.2 q hq with h1 | h1
    · exact h.2.2 q h1
    · exact .inr (Nat.le_trans h.size h1)⟩
theorem AppP.from {o : Obj} (h : AppP base (w.alloc o) v x v1 w1) : AppP base w v x v1 w1 :=
  ⟨h.1, ((Gr.refl w).alloc o).trans (h.2.1.mono (fun _ _ hq => hq)) , fun q hq => by
    rcases h.2.2 q hq with h1 | h1
    · exact .inl h1
    · exact .inr (by rw [World.size_alloc] at h1; omega)⟩
theorem AppP.here (h : w.ownsRow base 5 1 v x.length (x.map byteV)) : AppP base w v x v w := ⟨h, Gr.refl w, fun _ hq => .inl hq⟩
theorem AppP.drewF (h : AppP base w.drew v x v1 w1) : AppP base w v x v1 w1 := ⟨h.1, ⟨h.2.1.os, h.2.1.tape, h.2.1.output, h.2.1.size, h.2.1.block⟩, h.2.2⟩
theorem AppP.alloc_ (h : AppP base w v x v1 w1) (o : Obj) : AppP base w v x v1 (w1.alloc o) :=
  ⟨h.1.alloc o, h.2.1.alloc o, h.2.2⟩
theorem AppP.blk (h : AppP base w v x v1 w1) {g : Nat} {t : TypeId} {cs : Array Value} (hb : Blk w g t cs) (hg : v.ownBlock ≠ some g) : Blk w1 g t cs := h.2.1.blk hb hg
theorem AppP.rt (h : AppP base w v x v1 w1) (hv : ∀ q, v.ownBlock = some q → base ≤ q) {F : Nat → Prop} (hF : ∀ g, F g → g < base) {t : Ty} {vs : List Value} (hr : RT w F t vs) : RT w1 F t vs :=
  RT.keep (fun g hg hl => h.2.1.block g hl (fun hq => by have := hv g hq; have := hF g hg; omega)) h.2.1.size (fun _ _ h => h) _ _ hr
theorem AppP.sl (h : AppP base w v x v1 w1) (hv : ∀ q, v.ownBlock = some q → base ≤ q) {F : Nat → Prop} (hF : ∀ g, F g → g < base) {A : Option Addr} {l : List Ty} (hr : SlT w F A l) : SlT w1 F A l :=
  hr.keep (fun g hg hl => h.2.1.block g hl (fun hq => by have := hv g hq; have := hF g hg; omega)) h.2.1.size (fun _ _ h => h)
theorem AppP.own_ge (h : AppP base w v x v1 w1) : ∀ q, v1.ownBlock = some q → base ≤ q := fun q hq => (h.1.lt q hq).1
end
theorem wpAnyH_two {P : Program} {ops : Array Oper} {Q : Exit → Act → World → Prop} {S : World → Prop} {n i j : Nat} {L : Array Bool} {a : Act} {w : World} {o u : Oper} (hr : Region.ready .any ops L = [i, j]) (ho : ops[i]? = some o) (hg : o.guard = none) (hu : ops[j]? = some u) (hk : u.guard = none)
    (h : o.wp P a w (fun a' w' => S w' ∧ wpAnyH P .any ops Q S n (L.setIfInBounds i true) a' w') Q) (h2 : u.wp P a w (fun a' w' => S w' ∧ wpAnyH P .any ops Q S n (L.setIfInBounds j true) a' w') Q) : wpAnyH P .any ops Q S (n + 1) L a w := by
  refine wpAnyH_all hr (by simp) fun m hm => ?_
  have hm : m = i ∨ m = j := by simpa using hm
  rcases hm with rfl | rfl
  · unfold wpOp
    have hw : Region.wanted o (yielded ops a.tmps) = true := by simp [Region.wanted, hg]
    simp only [ho, hw, if_true]
    exact .inl h
  · unfold wpOp
    have hw : Region.wanted u (yielded ops a.tmps) = true := by simp [Region.wanted, hk]
    simp only [hu, hw, if_true]
    exact .inl h2
set_option maxRecDepth 100000 in
set_option maxHeartbeats 2000000 in
theorem declared_any (w : World) (base : Nat) (v : Value) (l : List UInt8) (k : Int) (p n : ByteArray) (A B : Option Addr) (la lr : List Ty) (c d : Nat) (hbs : base ≤ w.heap.size) (hown : w.ownsRow base 5 1 v l.length (l.map byteV)) (hl : l.length + p.size + n.size + 1 ≤ 100000000) :
    Calls Try.prog 62 #[v, .agg #[.int .i64 k, .string p, .string n, .slice A la.length c, .slice B lr.length d]] w (BytesP base w v (l ++ (p.data.toList ++ ([46] ++ n.data.toList)))) := by
  have HO := Lib.hid hown
  have hne0 : v.ownBlock ≠ some w.heap.size := fun h => by have := (hown.lt _ h).2; omega
  clear hown
  go_enter Try.func62, Try.ntmps62
  go_wp2
  have hbx0 : Blk (w.alloc (.cells #[.int .i64 k, .string p, .string n, .slice A la.length c, .slice B lr.length d] 26)).drew w.heap.size 26 #[.int .i64 k, .string p, .string n, .slice A la.length c, .slice B lr.length d] := (Blk.new _ _ _).drew
  refine wp_region_held_drew (S := fun W => Blk W w.heap.size 26 #[.int .i64 k, .string p, .string n, .slice A la.length c, .slice B lr.length d]) (by kernel_rfl) hbx0 (fun hS0 => ?_)
  refine wpAnyH_take (i := 0) (v := v) rfl (by kernel_rfl) (by kernel_rfl) (by kernel_rfl) (fun _ _ _ h => h) (Or.inl ⟨rfl, fun w' hS => by (unfold execOp; go_simp)⟩) hS0 ?_
  simp only [Act.put, List.getElem_toArray, List.getElem_cons_zero, List.getElem_cons_succ, List.setIfInBounds_toArray, List.set_cons_zero, List.set_cons_succ]
  refine wpAnyH_take (i := 1) (v := .pointer (some ⟨w.heap.size, 1, none⟩)) rfl (by kernel_rfl) (by kernel_rfl) (by kernel_rfl) (fun _ _ _ h => h) (Or.inl ⟨rfl, fun w' hS => by (unfold execOp; go_simp)⟩) hS0 ?_
  simp only [Act.put, List.getElem_toArray, List.getElem_cons_zero, List.getElem_cons_succ, List.setIfInBounds_toArray, List.set_cons_zero, List.set_cons_succ]
  refine wpAnyH_take (i := 2) (v := .string p) rfl (by kernel_rfl) (by kernel_rfl) (by kernel_rfl) (fun _ _ _ h => h) (Or.inl ⟨rfl, fun w' hS => by (have z0 := hS.cell 1; have zl := hS.lt; unfold execOp; go_simp)⟩) hS0 ?_
  simp only [Act.put, List.getElem_toArray, List.getElem_cons_zero, List.getElem_cons_succ, List.setIfInBounds_toArray, List.set_cons_zero, List.set_cons_succ]
  refine wpAnyH_take (i := 6) (v := .pointer (some ⟨w.heap.size, 2, none⟩)) rfl (by kernel_rfl) (by kernel_rfl) (by kernel_rfl) (fun _ _ _ h => h) (Or.inl ⟨rfl, fun w' hS => by (unfold execOp; go_simp)⟩) hS0 ?_
  simp only [Act.put, List.getElem_toArray, List.getElem_cons_zero, List.getElem_cons_succ, List.setIfInBounds_toArray, List.set_cons_zero, List.set_cons_succ]
  refine wpAnyH_take (i := 7) (v := .string n) rfl (by kernel_rfl) (by kernel_rfl) (by kernel_rfl) (fun _ _ _ h => h) (Or.inl ⟨rfl, fun w' hS => by (have z0 := hS.cell 2; have zl := hS.lt; unfold execOp; go_simp)⟩) hS0 ?_
  simp only [Act.put, List.getElem_toArray, List.getElem_cons_zero, List.getElem_cons_succ, List.setIfInBounds_toArray, List.set_cons_zero, List.set_cons_succ]
  have ho1 : (w.alloc (.cells #[.int .i64 k, .string p, .string n, .slice A la.length c, .slice B lr.length d] 26)).drew.ownsRow base 5 1 v l.length (l.map byteV) := HO.out.alloc _
  have hb1 : base ≤ (w.alloc (.cells #[.int .i64 k, .string p, .string n, .slice A la.length c, .slice B lr.length d] 26)).drew.heap.size := by show base ≤ (w.alloc _).heap.size; simp; omega
  have hsz1 : (w.alloc (.cells #[.int .i64 k, .string p, .string n, .slice A la.length c, .slice B lr.length d] 26)).drew.heap.size = w.heap.size + 1 := by show (w.alloc _).heap.size = _; simp
  refine wpAnyH_two (i := 3) (j := 4) (by kernel_rfl) rfl rfl rfl rfl (op_app (.tmp 5) (.tmp 7) _ _ rfl _ _ rfl rfl _ (app_string ho1 79 p (by omega) hb1) ?_) (op_val (v := .slice (some ⟨w.heap.size + 1, 0, none⟩) 1 1) (w' := ((w.alloc (.cells #[.int .i64 k, .string p, .string n, .slice A la.length c, .slice B lr.length d] 26)).drew).alloc (.cells #[.int .u8 46] 5)) (by unfold execOp; go_simp) ?_)
  · intro v2 w2 hA2
    have hbx2 := hA2.blk hbx0 hne0
    refine And.intro hbx2 ?_
    simp only [Act.put, List.getElem_toArray, List.getElem_cons_zero, List.getElem_cons_succ, List.setIfInBounds_toArray, List.set_cons_zero, List.set_cons_succ]
    have hs2 := hA2.size
    rw [hsz1] at hs2
    refine wpAnyH_one (i := 4) (by kernel_rfl) rfl rfl (op_val (v := .slice (some ⟨w2.heap.size, 0, none⟩) 1 1) (w' := w2.alloc (.cells #[.int .u8 46] 5)) (by unfold execOp; go_simp) (And.intro (hbx2.alloc _) ?_))
    have hne2 : v2.ownBlock ≠ some w.heap.size := by
      intro h
      rcases hA2.2.2 _ h with h1 | h1
      · exact hne0 h1
      · rw [hsz1] at h1; omega
    have hA2 := hA2.alloc_ (.cells #[.int .u8 46] 5)
    have hbx2 := hbx2.alloc (.cells #[.int .u8 46] 5)
    obtain ⟨q9, hq9e⟩ : ∃ q, w2.heap.size = q := ⟨_, rfl⟩
    have hq9 : Blk (w2.alloc (.cells #[.int .u8 46] 5)) q9 5 #[.int .u8 (46 : UInt8).toNat] := by subst hq9e; exact Blk.new _ _ _
    rw [hq9e]
    have hbs2 : base ≤ (w2.alloc (.cells #[.int .u8 46] 5)).heap.size := by simp; omega
    clear hq9e
    simp only [Act.put, List.getElem_toArray, List.getElem_cons_zero, List.getElem_cons_succ, List.setIfInBounds_toArray, List.set_cons_zero, List.set_cons_succ]
    refine wpAnyH_one (i := 5) (by kernel_rfl) rfl rfl (op_app (.tmp 8) (.tmp 9) _ _ rfl _ _ rfl rfl _ (app_one hA2.own 79 q9 46 hq9 (by have h9 : p.data.toList.length = p.size := (by simp); rw [List.length_append]; omega) hbs2) ?_)
    intro v3 w3 hA3
    refine And.intro (hA3.blk hbx2 hne2) ?_
    simp only [Act.put, List.getElem_toArray, List.getElem_cons_zero, List.getElem_cons_succ, List.setIfInBounds_toArray, List.set_cons_zero, List.set_cons_succ]
    have hbx3 := hA3.blk hbx2 hne2
    have hT3 := hA2.trans hA3
    refine wpAnyH_one (i := 8) (by kernel_rfl) rfl rfl (op_app (.tmp 10) (.tmp 12) _ _ rfl _ _ rfl rfl _ (app_string hA3.own 79 n (by have h9 : p.data.toList.length = p.size := (by simp); rw [List.length_append, List.length_append]; simp only [List.length_cons, List.length_nil]; omega) (by have := hA3.size; omega)) ?_)
    intro v4 w4 hA4
    have hne3 : v3.ownBlock ≠ some w.heap.size := by
      intro h
      rcases hT3.2.2 _ h with h1 | h1
      · exact hne0 h1
      · exact absurd h1 (by simp)
    refine And.intro (hA4.blk hbx3 hne3) ?_
    simp only [Act.put, List.getElem_toArray, List.getElem_cons_zero, List.getElem_cons_succ, List.setIfInBounds_toArray, List.set_cons_zero, List.set_cons_succ]
    refine wpAnyH_one (i := 9) (by kernel_rfl) rfl rfl (op_val (v := v4) (by unfold execOp; go_simp) (And.intro (hA4.blk hbx3 hne3) ?_))
    simp only [Act.put, List.getElem_toArray, List.getElem_cons_zero, List.getElem_cons_succ, List.setIfInBounds_toArray, List.set_cons_zero, List.set_cons_succ]
    refine wpAnyH_done (by kernel_rfl) ?_ _
    go_wp2
    go_ret
    refine ⟨v4, rfl, ?_⟩
    have := (AppP.from (w := w) (AppP.drewF (hT3.trans hA4)))
    simpa [List.append_assoc] using this
  · refine And.intro (hbx0.alloc _) ?_
    simp only [Act.put, List.getElem_toArray, List.getElem_cons_zero, List.getElem_cons_succ, List.setIfInBounds_toArray, List.set_cons_zero, List.set_cons_succ]
    have ho2 : (((w.alloc (.cells #[.int .i64 k, .string p, .string n, .slice A la.length c, .slice B lr.length d] 26)).drew).alloc (.cells #[.int .u8 46] 5)).ownsRow base 5 1 v l.length (l.map byteV) := ho1.alloc _
    have hbq : Blk (((w.alloc (.cells #[.int .i64 k, .string p, .string n, .slice A la.length c, .slice B lr.length d] 26)).drew).alloc (.cells #[.int .u8 46] 5)) (w.heap.size + 1) 5 #[.int .u8 (46 : UInt8).toNat] := Blk.new_at (by rw [hsz1])
    have hneq : v.ownBlock ≠ some (w.heap.size + 1) := fun h => by have := (HO.out.lt _ h).2; omega
    refine wpAnyH_one (i := 3) (by kernel_rfl) rfl rfl (op_app (.tmp 5) (.tmp 7) _ _ rfl _ _ rfl rfl _ (app_string ho2 79 p (by omega) (by simp; omega)) ?_)
    intro v2 w2 hA2
    have hbx2 := hA2.blk (hbx0.alloc _) hne0
    refine And.intro hbx2 ?_
    have hq9 := hA2.blk hbq hneq
    obtain ⟨q9, hq9e⟩ : ∃ q, w.heap.size + 1 = q := ⟨_, rfl⟩
    rw [hq9e] at hq9 ⊢
    have hs2 := hA2.size
    simp only [World.size_alloc, hsz1] at hs2
    have hne2 : v2.ownBlock ≠ some w.heap.size := by
      intro h
      rcases hA2.2.2 _ h with h1 | h1
      · exact hne0 h1
      · simp only [World.size_alloc, hsz1] at h1; omega
    have hA2 := AppP.from hA2
    have hbs2 : base ≤ w2.heap.size := by omega
    clear hq9e hbq
    simp only [Act.put, List.getElem_toArray, List.getElem_cons_zero, List.getElem_cons_succ, List.setIfInBounds_toArray, List.set_cons_zero, List.set_cons_succ]
    refine wpAnyH_one (i := 5) (by kernel_rfl) rfl rfl (op_app (.tmp 8) (.tmp 9) _ _ rfl _ _ rfl rfl _ (app_one hA2.own 79 q9 46 hq9 (by have h9 : p.data.toList.length = p.size := (by simp); rw [List.length_append]; omega) hbs2) ?_)
    intro v3 w3 hA3
    refine And.intro (hA3.blk hbx2 hne2) ?_
    simp only [Act.put, List.getElem_toArray, List.getElem_cons_zero, List.getElem_cons_succ, List.setIfInBounds_toArray, List.set_cons_zero, List.set_cons_succ]
    have hbx3 := hA3.blk hbx2 hne2
    have hT3 := hA2.trans hA3
    refine wpAnyH_one (i := 8) (by kernel_rfl) rfl rfl (op_app (.tmp 10) (.tmp 12) _ _ rfl _ _ rfl rfl _ (app_string hA3.own 79 n (by have h9 : p.data.toList.length = p.size := (by simp); rw [List.length_append, List.length_append]; simp only [List.length_cons, List.length_nil]; omega) (by have := hA3.size; omega)) ?_)
    intro v4 w4 hA4
    have hne3 : v3.ownBlock ≠ some w.heap.size := by
      intro h
      rcases hT3.2.2 _ h with h1 | h1
      · exact hne0 h1
      · exact absurd h1 (by simp)
    refine And.intro (hA4.blk hbx3 hne3) ?_
    simp only [Act.put, List.getElem_toArray, List.getElem_cons_zero, List.getElem_cons_succ, List.setIfInBounds_toArray, List.set_cons_zero, List.set_cons_succ]
    refine wpAnyH_one (i := 9) (by kernel_rfl) rfl rfl (op_val (v := v4) (by unfold execOp; go_simp) (And.intro (hA4.blk hbx3 hne3) ?_))
    simp only [Act.put, List.getElem_toArray, List.getElem_cons_zero, List.getElem_cons_succ, List.setIfInBounds_toArray, List.set_cons_zero, List.set_cons_succ]
    refine wpAnyH_done (by kernel_rfl) ?_ _
    go_wp2
    go_ret
    refine ⟨v4, rfl, ?_⟩
    have := (AppP.from (w := w) (AppP.drewF (hT3.trans hA4)))
    simpa [List.append_assoc] using this
end Go.Proofs.Ytcfgjfahjaimiaa
