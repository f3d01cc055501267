/-
  The queue: what it is in memory, its methods.
-/
import Derived.Test.YtibfikadamfpdaaHp
import Derived.Test.YtibfikadamfpdaaOps
namespace Go.Proofs.Ytibfikadamfpdaa
open Go.RowKit
set_option linter.unusedVariables false
set_option linter.unusedSimpArgs false

def ints (l : List Nat) : List Value := l.map fun (i : Nat) => Value.int .i64 (i : Int)
theorem ints_length (l : List Nat) : (ints l).length = l.length := by simp [ints]
theorem ints_get {l : List Nat} {i : Nat} (h : i < l.length) : (ints l)[i]? = some (.int .i64 (fl l i : Int)) := by
  simp [ints, fl_get h]
theorem ints_set (l : List Nat) (i x : Nat) : (ints l).set i (.int .i64 (x : Int)) = ints (l.set i x) := by
  simp [ints, List.map_set]
/-- A queue in memory. -/
structure QR (w : World) (base qb : Nat) (A : Option Addr) (n c : Nat) (v : Value) (l : List Nat) : Prop where
  box : Blk w qb 60 #[.slice A n c, v]
  own : w.ownsRow base 3 1 v l.length (ints l)
def txt9 (N : List ByteArray) (i : Nat) : ByteArray := (N[i]?).getD ⟨#[]⟩
theorem txt9_get {N : List ByteArray} {i : Nat} (h : i < N.length) : (N.map Value.string)[i]? = some (.string (txt9 N i)) := by
  simp [txt9, List.getElem?_eq_getElem h]
theorem own_form {w : World} {base : Nat} {e : TypeId} {v : Value} {n : Nat} {xs : List Value} (h : w.ownsRow base e 1 v n xs) (hn : 0 < n) : ∃ g cap, v = .slice (some ⟨g, 0, none⟩) n cap ∧ base ≤ g ∧ g < w.heap.size ∧ n ≤ cap := by
  rcases h.2 with ⟨_, h0⟩ | ⟨g, cap, cur, hv, hb, hg, hc, _⟩
  · omega
  · exact ⟨g, cap, hv, hb, (Array.getElem?_eq_some_iff.1 hg).1, hc⟩
section
variable {w w' : World} {base qb : Nat} {A : Option Addr} {n c : Nat} {v : Value} {l : List Nat}
theorem QR.ne (h : QR w base qb A n c v l) : v.ownBlock ≠ some qb := own_blk_ne h.own h.box (by decide)
theorem QR.below (h : QR w base qb A n c v l) (hb : Below w.heap.size w w') : QR w' base qb A n c v l := ⟨h.box.below hb h.box.lt, own_below h.own hb⟩
theorem QR.at_ (h : QR w base qb A n c v l) {i : Nat} (hi : i < l.length) : ∃ g cap, v = .slice (some ⟨g, 0, none⟩) l.length cap ∧ g < w.heap.size ∧ w.cell? ⟨g, i, none⟩ = some (.int .i64 (fl l i : Int)) ∧ ∀ j, w.frozen? ⟨g, j, none⟩ = false := by
  obtain ⟨g, cap, rfl, _, hg, _⟩ := own_form h.own (by omega)
  exact ⟨g, cap, rfl, hg, (h.own.cellAt i (by omega)).trans (ints_get hi), fun j => h.own.frozenAt j⟩
end
theorem below_drewN {B : Nat} {w w' : World} (h : Below B w w') (k : Nat) : Below B w (w'.drewN k) := ⟨h.os, h.tape, h.output, h.size, h.block⟩
def nlt (N : List ByteArray) (a b : Nat) : Bool := Op.bytesLess (txt9 N a).toList (txt9 N b).toList
set_option maxRecDepth 100000 in
theorem len_any (w : World) (base qb : Nat) (A : Option Addr) (n c : Nat) (v : Value) (l : List Nat) (hq : QR w base qb A n c v l) :
    Calls Try.prog 31 #[.pointer (some ⟨qb, 0, none⟩)] w fun e w' => e = .returned (.int .i64 (l.length : Int)) ∧ w = w' := by
  have hb := hq.box.cell 1
  obtain ⟨B, d, rfl⟩ := own_shape hq.own
  simp at hb
  go_enter Try.func31, Try.ntmps31
  go_wp2
  go_ret
  exact ⟨rfl, rfl⟩
set_option maxRecDepth 100000 in
set_option maxHeartbeats 1000000 in
theorem less_any (w : World) (base qb : Nat) (A : Option Addr) (c : Nat) (v : Value) (l : List Nat) (N : List ByteArray) (hq : QR w base qb A N.length c v l) (hN : SlV w base A (N.map Value.string)) (hl : ∀ x ∈ l, x < N.length) (hn : N.length ≤ 8) (hll : l.length ≤ 8) (i j : Nat) (hi : i < l.length) (hj : j < l.length) :
    Calls Try.prog 54 #[.pointer (some ⟨qb, 0, none⟩), .int .i64 i, .int .i64 j] w fun e w' => e = .returned (.bool (Op.bytesLess (txt9 N (fl l i)).toList (txt9 N (fl l j)).toList)) ∧ Below w.heap.size w w' := by
  have b0 := hq.box.cell 0
  have b1 := hq.box.cell 1
  simp at b0 b1
  obtain ⟨g, cap, rfl, hg, ci, _⟩ := hq.at_ hi
  obtain ⟨g', cap', hv, _, cj, _⟩ := hq.at_ hj
  simp at hv
  obtain ⟨rfl, rfl⟩ := hv
  have li := hl _ (List.mem_of_getElem? (fl_get hi))
  have lj := hl _ (List.mem_of_getElem? (fl_get hj))
  obtain ⟨a, o, rfl, _, si⟩ := hN.at_ (txt9_get li)
  obtain ⟨a', o', hA, _, sj⟩ := hN.at_ (txt9_get lj)
  simp at hA
  obtain ⟨rfl, rfl⟩ := hA
  have i1 : (i : Int) < (l.length : Int) := by omega
  have j1 : (j : Int) < (l.length : Int) := by omega
  have li1 : (fl l i : Int) < (N.length : Int) := by omega
  have lj1 : (fl l j : Int) < (N.length : Int) := by omega
  clear hq hN hl
  go_enter Try.func54, Try.ntmps54
  go_wp2
  go_quiet (fail)
  go_wp2
  go_ret
  exact ⟨rfl, below_drewN (Below.refl _ _) _⟩
theorem nlt_less (w : World) (base qb : Nat) (A : Option Addr) (c : Nat) (v : Value) (l : List Nat) (N : List ByteArray) (hq : QR w base qb A N.length c v l) (hN : SlV w base A (N.map Value.string)) (hl : ∀ x ∈ l, x < N.length) (hn : N.length ≤ 8) (hll : l.length ≤ 8) (i j : Nat) (hi : i < l.length) (hj : j < l.length) (b : Bool) (hlt : nlt N (fl l i) (fl l j) = b) :
    Calls Try.prog 54 #[.pointer (some ⟨qb, 0, none⟩), .int .i64 i, .int .i64 j] w fun e w' => e = .returned (.bool b) ∧ Below w.heap.size w w' := by
  subst hlt
  exact less_any w base qb A c v l N hq hN hl hn hll i j hi hj
theorem own_set {w : World} {base n size : Nat} {e : TypeId} {v : Value} {xs : List Value} (h : w.ownsRow base e size v n xs) {p : Addr} (hne : v.ownBlock ≠ some p.block) (u : Value) : (w.setCell p u).ownsRow base e size v n xs :=
  h.kept (row := some p.block) ⟨rfl, rfl, rfl, by simp [World.setCell], fun k _ hk => Below.heap_setCell w p u k (fun e => hk (by rw [e]))⟩ (.inr hne)
theorem own_cut {w : World} {base g cap : Nat} {l : List Nat} {x : Nat} {e : TypeId} (h : w.ownsRow base e 1 (.slice (some ⟨g, 0, none⟩) (l ++ [x]).length cap) (l ++ [x]).length (ints (l ++ [x]))) : w.ownsRow base e 1 (.slice (some ⟨g, 0, none⟩) l.length cap) l.length (ints l) := by
  rcases h.2 with ⟨h, _⟩ | ⟨g', cap', cur, hv, h1, h2, h3, h4, h5, h6⟩
  · cases h
  · simp at hv
    obtain ⟨rfl, rfl⟩ := hv
    refine ⟨by simp [ints_length], .inr ⟨g, cap, cur, rfl, h1, h2, by simp at h3; omega, h4, h5, ?_⟩⟩
    have e1 := congrArg (List.take l.length) h6
    rw [List.take_take] at e1
    have e2 : min l.length ((l ++ [x]).length * 1) = l.length * 1 := by simp
    rw [e2] at e1
    rw [e1]
    simp [ints]
/-- So much memory is another one: of the queue's own row alone. -/
def QF (v : Value) : Nat → Prop := fun k => v.ownBlock = some k
set_option maxRecDepth 100000 in
set_option maxHeartbeats 1000000 in
theorem swap_any (w : World) (base qb : Nat) (A : Option Addr) (n c : Nat) (v : Value) (l : List Nat) (hq : QR w base qb A n c v l) (hll : l.length ≤ 8) (i j : Nat) (hi : i < l.length) (hj : j < l.length) :
    Calls Try.prog 57 #[.pointer (some ⟨qb, 0, none⟩), .int .i64 i, .int .i64 j] w fun e w' => e = .returned (.tuple #[]) ∧ QR w' base qb A n c v (swL l i j) ∧ Gr (QF v) w w' := by
  have b1 := hq.box.cell 1
  simp at b1
  have hne := hq.ne
  obtain ⟨g, cap, rfl, hg, ci, hf⟩ := hq.at_ hi
  obtain ⟨g', cap', hv, _, cj, _⟩ := hq.at_ hj
  simp at hv
  obtain ⟨rfl, rfl⟩ := hv
  have hgq : g ≠ qb := by simpa [Value.ownBlock] using hne
  have i1 : (i : Int) < (l.length : Int) := by omega
  have j1 : (j : Int) < (l.length : Int) := by omega
  have fi := hf i
  have fj := hf j
  obtain ⟨u, hu⟩ : ∃ u, (w.setCell ⟨g, i, none⟩ (.int .i64 (fl l j : Int))).cell? ⟨g, j, none⟩ = some u := by
    by_cases e : i = j
    · subst e
      exact ⟨_, World.cell?_setCell_same' _ _ _ (by rw [ci]; rfl)⟩
    · exact ⟨_, (World.cell?_setCell_other _ _ _ _ (fun h => e (by simp at h <;> omega))).trans cj⟩
  have fj2 : (w.setCell ⟨g, i, none⟩ (.int .i64 (fl l j : Int))).frozen? ⟨g, j, none⟩ = false := by rw [World.frozen?_setCell]; exact fj
  have HQ := Lib.hid hq
  clear hq hne hf
  go_enter Try.func57, Try.ntmps57
  go_wp2
  refine wp_region_held (S := fun x => x.cell? ⟨qb, 1, none⟩ = some (.slice (some ⟨g, 0, none⟩) l.length cap)) (by kernel_rfl) ?_
  rw [show ({ w with drawn := w.drawn + 1 } : World) = w.drew from rfl]
  have hS0 : w.drew.cell? ⟨qb, 1, none⟩ = some (.slice (some ⟨g, 0, none⟩) l.length cap) := b1
  have o1 := HQ.out.own.drew.stored i (.int .i64 (fl l j : Int))
  have o2 := o1.1.stored j (.int .i64 (fl l i : Int))
  have hbx := (HQ.out.box.drew.far (p := ⟨g, i, none⟩) (Ne.symm hgq) (.int .i64 (fl l j : Int))).far (p := ⟨g, j, none⟩) (Ne.symm hgq) (.int .i64 (fl l i : Int))
  have hS1 := (HQ.out.box.drew.far (p := ⟨g, i, none⟩) (Ne.symm hgq) (.int .i64 (fl l j : Int))).cell 1
  have hS2 := hbx.cell 1
  simp only [List.getElem?_toArray, List.getElem?_cons_succ, List.getElem?_cons_zero] at hS1 hS2
  have HE : QR ((w.drew.setCell ⟨g, i, none⟩ (.int .i64 (fl l j : Int))).setCell ⟨g, j, none⟩ (.int .i64 (fl l i : Int))) base qb A n c (.slice (some ⟨g, 0, none⟩) l.length cap) (swL l i j) ∧ Gr (QF (.slice (some ⟨g, 0, none⟩) l.length cap)) w ((w.drew.setCell ⟨g, i, none⟩ (.int .i64 (fl l j : Int))).setCell ⟨g, j, none⟩ (.int .i64 (fl l i : Int))) := by
    refine ⟨⟨hbx, ?_⟩, ?_⟩
    · rw [swL_length]
      have := o2.1
      rw [ints_set, ints_set] at this
      exact this
    · exact (((Gr.refl w).drew).setCell (p := ⟨g, i, none⟩) (.inr (show QF (.slice (some ⟨g, 0, none⟩) l.length cap) g from rfl)) _).setCell (p := ⟨g, j, none⟩) (.inr (show QF (.slice (some ⟨g, 0, none⟩) l.length cap) g from rfl)) _
  clear o1 o2 hbx
  have h2 : w.drew.cell? ⟨g, i, none⟩ = some (.int .i64 (fl l i : Int)) := ci
  have h3 : w.drew.cell? ⟨g, j, none⟩ = some (.int .i64 (fl l j : Int)) := cj
  have h4 : w.drew.frozen? ⟨g, i, none⟩ = false := fi
  have h5 : (w.drew.setCell ⟨g, i, none⟩ (.int .i64 (fl l j : Int))).cell? ⟨g, j, none⟩ = some u := hu
  have h6 : (w.drew.setCell ⟨g, i, none⟩ (.int .i64 (fl l j : Int))).frozen? ⟨g, j, none⟩ = false := fj2
  clear b1 ci cj fi fj hu fj2 HQ
  generalize w.drew = W at hS0 hS1 hS2 HE h2 h3 h4 h5 h6 ⊢
  refine wpAnyH_take (i := 0) (v := .pointer (some ⟨qb, 0, none⟩)) rfl (by kernel_rfl) (by kernel_rfl) (by kernel_rfl) (fun _ _ _ h => h) (Or.inl ⟨rfl, fun w' hS => by (unfold execOp; go_simp)⟩) hS0 ?_
  simp only [Act.put, List.getElem_toArray, List.getElem_cons_zero, List.getElem_cons_succ, List.setIfInBounds_toArray, List.set_cons_zero, List.set_cons_succ]
  refine wpAnyH_take (i := 1) (v := .pointer (some ⟨qb, 0, none⟩)) rfl (by kernel_rfl) (by kernel_rfl) (by kernel_rfl) (fun _ _ _ h => h) (Or.inl ⟨rfl, fun w' hS => by (unfold execOp; go_simp)⟩) hS0 ?_
  simp only [Act.put, List.getElem_toArray, List.getElem_cons_zero, List.getElem_cons_succ, List.setIfInBounds_toArray, List.set_cons_zero, List.set_cons_succ]
  refine wpAnyH_take (i := 2) (v := .pointer (some ⟨qb, 1, none⟩)) rfl (by kernel_rfl) (by kernel_rfl) (by kernel_rfl) (fun _ _ _ h => h) (Or.inl ⟨rfl, fun w' hS => by (unfold execOp; go_simp)⟩) hS0 ?_
  simp only [Act.put, List.getElem_toArray, List.getElem_cons_zero, List.getElem_cons_succ, List.setIfInBounds_toArray, List.set_cons_zero, List.set_cons_succ]
  refine wpAnyH_take (i := 3) (v := .slice (some ⟨g, 0, none⟩) l.length cap) rfl (by kernel_rfl) (by kernel_rfl) (by kernel_rfl) (fun _ _ _ h => h) (Or.inl ⟨rfl, fun w' hS => by (unfold execOp; go_simp)⟩) hS0 ?_
  simp only [Act.put, List.getElem_toArray, List.getElem_cons_zero, List.getElem_cons_succ, List.setIfInBounds_toArray, List.set_cons_zero, List.set_cons_succ]
  refine wpAnyH_take (i := 4) (v := .int .i64 i) rfl (by kernel_rfl) (by kernel_rfl) (by kernel_rfl) (fun _ _ _ h => h) (Or.inl ⟨rfl, fun w' hS => by (unfold execOp; go_simp)⟩) hS0 ?_
  simp only [Act.put, List.getElem_toArray, List.getElem_cons_zero, List.getElem_cons_succ, List.setIfInBounds_toArray, List.set_cons_zero, List.set_cons_succ]
  refine wpAnyH_take (i := 5) (v := .pointer (some ⟨qb, 0, none⟩)) rfl (by kernel_rfl) (by kernel_rfl) (by kernel_rfl) (fun _ _ _ h => h) (Or.inl ⟨rfl, fun w' hS => by (unfold execOp; go_simp)⟩) hS0 ?_
  simp only [Act.put, List.getElem_toArray, List.getElem_cons_zero, List.getElem_cons_succ, List.setIfInBounds_toArray, List.set_cons_zero, List.set_cons_succ]
  refine wpAnyH_take (i := 6) (v := .pointer (some ⟨qb, 0, none⟩)) rfl (by kernel_rfl) (by kernel_rfl) (by kernel_rfl) (fun _ _ _ h => h) (Or.inl ⟨rfl, fun w' hS => by (unfold execOp; go_simp)⟩) hS0 ?_
  simp only [Act.put, List.getElem_toArray, List.getElem_cons_zero, List.getElem_cons_succ, List.setIfInBounds_toArray, List.set_cons_zero, List.set_cons_succ]
  refine wpAnyH_take (i := 7) (v := .pointer (some ⟨qb, 1, none⟩)) rfl (by kernel_rfl) (by kernel_rfl) (by kernel_rfl) (fun _ _ _ h => h) (Or.inl ⟨rfl, fun w' hS => by (unfold execOp; go_simp)⟩) hS0 ?_
  simp only [Act.put, List.getElem_toArray, List.getElem_cons_zero, List.getElem_cons_succ, List.setIfInBounds_toArray, List.set_cons_zero, List.set_cons_succ]
  refine wpAnyH_take (i := 8) (v := .slice (some ⟨g, 0, none⟩) l.length cap) rfl (by kernel_rfl) (by kernel_rfl) (by kernel_rfl) (fun _ _ _ h => h) (Or.inl ⟨rfl, fun w' hS => by (unfold execOp; go_simp)⟩) hS0 ?_
  simp only [Act.put, List.getElem_toArray, List.getElem_cons_zero, List.getElem_cons_succ, List.setIfInBounds_toArray, List.set_cons_zero, List.set_cons_succ]
  refine wpAnyH_take (i := 9) (v := .int .i64 j) rfl (by kernel_rfl) (by kernel_rfl) (by kernel_rfl) (fun _ _ _ h => h) (Or.inl ⟨rfl, fun w' hS => by (unfold execOp; go_simp)⟩) hS0 ?_
  simp only [Act.put, List.getElem_toArray, List.getElem_cons_zero, List.getElem_cons_succ, List.setIfInBounds_toArray, List.set_cons_zero, List.set_cons_succ]
  refine wpAnyH_take (i := 10) (v := .pointer (some ⟨qb, 0, none⟩)) rfl (by kernel_rfl) (by kernel_rfl) (by kernel_rfl) (fun _ _ _ h => h) (Or.inl ⟨rfl, fun w' hS => by (unfold execOp; go_simp)⟩) hS0 ?_
  simp only [Act.put, List.getElem_toArray, List.getElem_cons_zero, List.getElem_cons_succ, List.setIfInBounds_toArray, List.set_cons_zero, List.set_cons_succ]
  refine wpAnyH_take (i := 11) (v := .pointer (some ⟨qb, 0, none⟩)) rfl (by kernel_rfl) (by kernel_rfl) (by kernel_rfl) (fun _ _ _ h => h) (Or.inl ⟨rfl, fun w' hS => by (unfold execOp; go_simp)⟩) hS0 ?_
  simp only [Act.put, List.getElem_toArray, List.getElem_cons_zero, List.getElem_cons_succ, List.setIfInBounds_toArray, List.set_cons_zero, List.set_cons_succ]
  refine wpAnyH_take (i := 12) (v := .pointer (some ⟨qb, 1, none⟩)) rfl (by kernel_rfl) (by kernel_rfl) (by kernel_rfl) (fun _ _ _ h => h) (Or.inl ⟨rfl, fun w' hS => by (unfold execOp; go_simp)⟩) hS0 ?_
  simp only [Act.put, List.getElem_toArray, List.getElem_cons_zero, List.getElem_cons_succ, List.setIfInBounds_toArray, List.set_cons_zero, List.set_cons_succ]
  refine wpAnyH_take (i := 13) (v := .slice (some ⟨g, 0, none⟩) l.length cap) rfl (by kernel_rfl) (by kernel_rfl) (by kernel_rfl) (fun _ _ _ h => h) (Or.inl ⟨rfl, fun w' hS => by (unfold execOp; go_simp)⟩) hS0 ?_
  simp only [Act.put, List.getElem_toArray, List.getElem_cons_zero, List.getElem_cons_succ, List.setIfInBounds_toArray, List.set_cons_zero, List.set_cons_succ]
  refine wpAnyH_take (i := 14) (v := .int .i64 j) rfl (by kernel_rfl) (by kernel_rfl) (by kernel_rfl) (fun _ _ _ h => h) (Or.inl ⟨rfl, fun w' hS => by (unfold execOp; go_simp)⟩) hS0 ?_
  simp only [Act.put, List.getElem_toArray, List.getElem_cons_zero, List.getElem_cons_succ, List.setIfInBounds_toArray, List.set_cons_zero, List.set_cons_succ]
  refine wpAnyH_take (i := 15) (v := .pointer (some ⟨g, j, none⟩)) rfl (by kernel_rfl) (by kernel_rfl) (by kernel_rfl) (fun _ _ _ h => h) (Or.inl ⟨rfl, fun w' hS => by (unfold execOp; go_simp)⟩) hS0 ?_
  simp only [Act.put, List.getElem_toArray, List.getElem_cons_zero, List.getElem_cons_succ, List.setIfInBounds_toArray, List.set_cons_zero, List.set_cons_succ]
  refine wpAnyH_take (i := 17) (v := .pointer (some ⟨qb, 0, none⟩)) rfl (by kernel_rfl) (by kernel_rfl) (by kernel_rfl) (fun _ _ _ h => h) (Or.inl ⟨rfl, fun w' hS => by (unfold execOp; go_simp)⟩) hS0 ?_
  simp only [Act.put, List.getElem_toArray, List.getElem_cons_zero, List.getElem_cons_succ, List.setIfInBounds_toArray, List.set_cons_zero, List.set_cons_succ]
  refine wpAnyH_take (i := 18) (v := .pointer (some ⟨qb, 0, none⟩)) rfl (by kernel_rfl) (by kernel_rfl) (by kernel_rfl) (fun _ _ _ h => h) (Or.inl ⟨rfl, fun w' hS => by (unfold execOp; go_simp)⟩) hS0 ?_
  simp only [Act.put, List.getElem_toArray, List.getElem_cons_zero, List.getElem_cons_succ, List.setIfInBounds_toArray, List.set_cons_zero, List.set_cons_succ]
  refine wpAnyH_take (i := 19) (v := .pointer (some ⟨qb, 1, none⟩)) rfl (by kernel_rfl) (by kernel_rfl) (by kernel_rfl) (fun _ _ _ h => h) (Or.inl ⟨rfl, fun w' hS => by (unfold execOp; go_simp)⟩) hS0 ?_
  simp only [Act.put, List.getElem_toArray, List.getElem_cons_zero, List.getElem_cons_succ, List.setIfInBounds_toArray, List.set_cons_zero, List.set_cons_succ]
  refine wpAnyH_take (i := 20) (v := .slice (some ⟨g, 0, none⟩) l.length cap) rfl (by kernel_rfl) (by kernel_rfl) (by kernel_rfl) (fun _ _ _ h => h) (Or.inl ⟨rfl, fun w' hS => by (unfold execOp; go_simp)⟩) hS0 ?_
  simp only [Act.put, List.getElem_toArray, List.getElem_cons_zero, List.getElem_cons_succ, List.setIfInBounds_toArray, List.set_cons_zero, List.set_cons_succ]
  refine wpAnyH_take (i := 21) (v := .int .i64 i) rfl (by kernel_rfl) (by kernel_rfl) (by kernel_rfl) (fun _ _ _ h => h) (Or.inl ⟨rfl, fun w' hS => by (unfold execOp; go_simp)⟩) hS0 ?_
  simp only [Act.put, List.getElem_toArray, List.getElem_cons_zero, List.getElem_cons_succ, List.setIfInBounds_toArray, List.set_cons_zero, List.set_cons_succ]
  refine wpAnyH_take (i := 22) (v := .pointer (some ⟨g, i, none⟩)) rfl (by kernel_rfl) (by kernel_rfl) (by kernel_rfl) (fun _ _ _ h => h) (Or.inl ⟨rfl, fun w' hS => by (unfold execOp; go_simp)⟩) hS0 ?_
  simp only [Act.put, List.getElem_toArray, List.getElem_cons_zero, List.getElem_cons_succ, List.setIfInBounds_toArray, List.set_cons_zero, List.set_cons_succ]
  refine wpAnyH_two (i := 16) (j := 23) (by kernel_rfl) rfl rfl rfl rfl (op_val (v := .int .i64 (fl l j : Int)) (w' := W) (by unfold execOp; go_simp) (And.intro hS0 ?_)) (op_val (v := .int .i64 (fl l i : Int)) (w' := W) (by unfold execOp; go_simp) (And.intro hS0 ?_))
  · simp only [Act.put, List.getElem_toArray, List.getElem_cons_zero, List.getElem_cons_succ, List.setIfInBounds_toArray, List.set_cons_zero, List.set_cons_succ]
    refine wpAnyH_one (i := 23) (by kernel_rfl) rfl rfl (op_val (v := .int .i64 (fl l i : Int)) (w' := W) (by unfold execOp; go_simp) (And.intro hS0 ?_))
    simp only [Act.put, List.getElem_toArray, List.getElem_cons_zero, List.getElem_cons_succ, List.setIfInBounds_toArray, List.set_cons_zero, List.set_cons_succ]
    refine wpAnyH_take (i := 24) (v := .pointer (some ⟨g, i, none⟩)) rfl (by kernel_rfl) (by kernel_rfl) (by kernel_rfl) (fun _ _ _ h => h) (Or.inl ⟨rfl, fun w' hS => by (unfold execOp; go_simp)⟩) hS0 ?_
    simp only [Act.put, List.getElem_toArray, List.getElem_cons_zero, List.getElem_cons_succ, List.setIfInBounds_toArray, List.set_cons_zero, List.set_cons_succ]
    refine wpAnyH_one (i := 25) (by kernel_rfl) rfl rfl (op_skip (w' := W.setCell ⟨g, i, none⟩ (.int .i64 (fl l j : Int))) (by unfold execOp; go_simp) (And.intro hS1 ?_))
    simp only [Act.put, List.getElem_toArray, List.getElem_cons_zero, List.getElem_cons_succ, List.setIfInBounds_toArray, List.set_cons_zero, List.set_cons_succ]
    refine wpAnyH_take (i := 26) (v := .pointer (some ⟨g, j, none⟩)) rfl (by kernel_rfl) (by kernel_rfl) (by kernel_rfl) (fun _ _ _ h => h) (Or.inl ⟨rfl, fun w' hS => by (unfold execOp; go_simp)⟩) hS1 ?_
    simp only [Act.put, List.getElem_toArray, List.getElem_cons_zero, List.getElem_cons_succ, List.setIfInBounds_toArray, List.set_cons_zero, List.set_cons_succ]
    refine wpAnyH_one (i := 27) (by kernel_rfl) rfl rfl (op_skip (w' := (W.setCell ⟨g, i, none⟩ (.int .i64 (fl l j : Int))).setCell ⟨g, j, none⟩ (.int .i64 (fl l i : Int))) (by unfold execOp; go_simp) (And.intro hS2 ?_))
    simp only [Act.put, List.getElem_toArray, List.getElem_cons_zero, List.getElem_cons_succ, List.setIfInBounds_toArray, List.set_cons_zero, List.set_cons_succ]
    refine wpAnyH_done (by kernel_rfl) ?_ _
    go_wp2
    go_end0
    exact ⟨rfl, HE⟩
  · simp only [Act.put, List.getElem_toArray, List.getElem_cons_zero, List.getElem_cons_succ, List.setIfInBounds_toArray, List.set_cons_zero, List.set_cons_succ]
    refine wpAnyH_one (i := 16) (by kernel_rfl) rfl rfl (op_val (v := .int .i64 (fl l j : Int)) (w' := W) (by unfold execOp; go_simp) (And.intro hS0 ?_))
    simp only [Act.put, List.getElem_toArray, List.getElem_cons_zero, List.getElem_cons_succ, List.setIfInBounds_toArray, List.set_cons_zero, List.set_cons_succ]
    refine wpAnyH_take (i := 24) (v := .pointer (some ⟨g, i, none⟩)) rfl (by kernel_rfl) (by kernel_rfl) (by kernel_rfl) (fun _ _ _ h => h) (Or.inl ⟨rfl, fun w' hS => by (unfold execOp; go_simp)⟩) hS0 ?_
    simp only [Act.put, List.getElem_toArray, List.getElem_cons_zero, List.getElem_cons_succ, List.setIfInBounds_toArray, List.set_cons_zero, List.set_cons_succ]
    refine wpAnyH_one (i := 25) (by kernel_rfl) rfl rfl (op_skip (w' := W.setCell ⟨g, i, none⟩ (.int .i64 (fl l j : Int))) (by unfold execOp; go_simp) (And.intro hS1 ?_))
    simp only [Act.put, List.getElem_toArray, List.getElem_cons_zero, List.getElem_cons_succ, List.setIfInBounds_toArray, List.set_cons_zero, List.set_cons_succ]
    refine wpAnyH_take (i := 26) (v := .pointer (some ⟨g, j, none⟩)) rfl (by kernel_rfl) (by kernel_rfl) (by kernel_rfl) (fun _ _ _ h => h) (Or.inl ⟨rfl, fun w' hS => by (unfold execOp; go_simp)⟩) hS1 ?_
    simp only [Act.put, List.getElem_toArray, List.getElem_cons_zero, List.getElem_cons_succ, List.setIfInBounds_toArray, List.set_cons_zero, List.set_cons_succ]
    refine wpAnyH_one (i := 27) (by kernel_rfl) rfl rfl (op_skip (w' := (W.setCell ⟨g, i, none⟩ (.int .i64 (fl l j : Int))).setCell ⟨g, j, none⟩ (.int .i64 (fl l i : Int))) (by unfold execOp; go_simp) (And.intro hS2 ?_))
    simp only [Act.put, List.getElem_toArray, List.getElem_cons_zero, List.getElem_cons_succ, List.setIfInBounds_toArray, List.set_cons_zero, List.set_cons_succ]
    refine wpAnyH_done (by kernel_rfl) ?_ _
    go_wp2
    go_end0
    exact ⟨rfl, HE⟩
set_option maxRecDepth 100000 in
set_option maxHeartbeats 1000000 in
theorem pop_any (w : World) (base qb : Nat) (A : Option Addr) (n c : Nat) (v : Value) (l : List Nat) (x : Nat) (hq : QR w base qb A n c v (l ++ [x])) (hll : l.length ≤ 8) :
    Calls Try.prog 55 #[.pointer (some ⟨qb, 0, none⟩)] w fun e w' => e = .returned (.iface 3 (.int .i64 x)) ∧ (∃ v', QR w' base qb A n c v' l ∧ v'.ownBlock = v.ownBlock) ∧ Gr (fun k => k = qb) w w' := by
  have b1 := hq.box.cell 1
  simp at b1
  have bf := hq.box.frozen 1
  have hne := hq.ne
  obtain ⟨g, cap, rfl, hg, ci, hf⟩ := hq.at_ (i := l.length) (by simp)
  rw [fl_last] at ci
  have hcap : l.length + 1 ≤ cap := by
    rcases hq.own.2 with ⟨h, _⟩ | ⟨g', cap', cur, hv, _, _, hc, _⟩
    · cases h
    · simp at hv
      obtain ⟨rfl, rfl⟩ := hv
      simpa using hc
  rw [List.length_append, List.length_singleton] at b1
  have e1 : ((l.length + 1 : Nat) : Int) = (l.length : Int) + 1 := by omega
  have l1 : (l.length : Int) ≤ 8 := by omega
  have HQ := Lib.hid hq
  clear hq hne hf
  go_enter Try.func55, Try.ntmps55
  go_wp2
  go_ret
  have hne := HQ.out.ne
  refine ⟨rfl, ⟨_, ⟨HQ.out.box.set_ 1 _, ?_⟩, rfl⟩, (Gr.refl w).setCell (S := fun k => k = qb) (p := ⟨qb, 1, none⟩) (.inr rfl) _⟩
  exact own_set (p := ⟨qb, 1, none⟩) (own_cut HQ.out.own) (by simpa [Value.ownBlock] using hne) _
theorem assert_int (x : Int) (w : World) : (Instr.typeAssert (.iface 3 (.int .i64 x)) 20 3 false).run Try.prog w = .ok (.int .i64 x) w := by
  kernel_rfl
theorem int_info : (Try.prog.info? 3).map (fun i => (i.zero, i.size, i.bytes)) = some (some (.int .i64 0), 1, 8) := by kernel_rfl
set_option maxRecDepth 100000 in
set_option maxHeartbeats 2000000 in
theorem push_any (w : World) (base qb : Nat) (A : Option Addr) (n c : Nat) (v : Value) (l : List Nat) (x : Nat) (hq : QR w base qb A n c v l) (hll : l.length ≤ 8) (hbase : base ≤ w.heap.size) :
    Calls Try.prog 56 #[.pointer (some ⟨qb, 0, none⟩), .iface 3 (.int .i64 x)] w fun e w' => e = .returned (.tuple #[]) ∧ (∃ v', QR w' base qb A n c v' (l ++ [x]) ∧ (v'.ownBlock = v.ownBlock ∨ ∀ k, v'.ownBlock = some k → w.heap.size ≤ k)) ∧ Gr (fun k => k = qb ∨ v.ownBlock = some k) w w' := by
  obtain ⟨i0, hi0, hz0, hz1, hz2⟩ := info_parts int_info
  have b1 := hq.box.cell 1
  simp at b1
  have hlt := hq.box.lt
  have hne := hq.ne
  obtain ⟨B, d, rfl⟩ := own_shape hq.own
  have hown := hq.own
  have hbox := hq.box
  clear hq
  go_enter Try.func56, Try.ntmps56
  go_wp2
  have ko := hown.drew
  have kb := hbox.drew
  have kF : Gr (fun k => k = qb ∨ (Value.slice B l.length d).ownBlock = some k) w w.drew := (Gr.refl w).drew
  have kS : w.heap.size = w.drew.heap.size := rfl
  have hS0 : w.drew.cell? ⟨qb, 1, none⟩ = some (.slice B l.length d) := b1
  refine wp_region_split (S := fun x => x.cell? ⟨qb, 1, none⟩ = some (.slice B l.length d)) 9 (by kernel_rfl) (by kernel_rfl) hS0 (fun hS0 => ?_)
  simp only [List.take_succ_cons, List.take_zero]
  have ha := assert_int x
  clear b1 hown hbox
  have hzS := kS
  clear kS
  generalize w.drew = W at ko kb kF hS0 hzS ⊢
  refine wpAnyH_take (i := 0) (v := .pointer (some ⟨qb, 0, none⟩)) rfl (by kernel_rfl) (by kernel_rfl) (by kernel_rfl) (fun _ _ _ h => h) (Or.inl ⟨rfl, fun w' hS => by (unfold execOp; go_simp)⟩) hS0 ?_
  simp only [Act.put, List.getElem_toArray, List.getElem_cons_zero, List.getElem_cons_succ, List.setIfInBounds_toArray, List.set_cons_zero, List.set_cons_succ]
  refine wpAnyH_take (i := 1) (v := .pointer (some ⟨qb, 0, none⟩)) rfl (by kernel_rfl) (by kernel_rfl) (by kernel_rfl) (fun _ _ _ h => h) (Or.inl ⟨rfl, fun w' hS => by (unfold execOp; go_simp)⟩) hS0 ?_
  simp only [Act.put, List.getElem_toArray, List.getElem_cons_zero, List.getElem_cons_succ, List.setIfInBounds_toArray, List.set_cons_zero, List.set_cons_succ]
  refine wpAnyH_take (i := 2) (v := .pointer (some ⟨qb, 0, none⟩)) rfl (by kernel_rfl) (by kernel_rfl) (by kernel_rfl) (fun _ _ _ h => h) (Or.inl ⟨rfl, fun w' hS => by (unfold execOp; go_simp)⟩) hS0 ?_
  simp only [Act.put, List.getElem_toArray, List.getElem_cons_zero, List.getElem_cons_succ, List.setIfInBounds_toArray, List.set_cons_zero, List.set_cons_succ]
  refine wpAnyH_take (i := 3) (v := .pointer (some ⟨qb, 1, none⟩)) rfl (by kernel_rfl) (by kernel_rfl) (by kernel_rfl) (fun _ _ _ h => h) (Or.inl ⟨rfl, fun w' hS => by (unfold execOp; go_simp)⟩) hS0 ?_
  simp only [Act.put, List.getElem_toArray, List.getElem_cons_zero, List.getElem_cons_succ, List.setIfInBounds_toArray, List.set_cons_zero, List.set_cons_succ]
  refine wpAnyH_take (i := 4) (v := .slice B l.length d) rfl (by kernel_rfl) (by kernel_rfl) (by kernel_rfl) (fun _ _ _ h => h) (Or.inl ⟨rfl, fun w' hS => by (unfold execOp; go_simp)⟩) hS0 ?_
  simp only [Act.put, List.getElem_toArray, List.getElem_cons_zero, List.getElem_cons_succ, List.setIfInBounds_toArray, List.set_cons_zero, List.set_cons_succ]
  refine wpAnyH_take (i := 5) (v := .iface 3 (.int .i64 x)) rfl (by kernel_rfl) (by kernel_rfl) (by kernel_rfl) (fun _ _ _ h => h) (Or.inl ⟨rfl, fun w' hS => by (unfold execOp; go_simp)⟩) hS0 ?_
  simp only [Act.put, List.getElem_toArray, List.getElem_cons_zero, List.getElem_cons_succ, List.setIfInBounds_toArray, List.set_cons_zero, List.set_cons_succ]
  refine wpAnyH_take (i := 6) (v := .int .i64 x) rfl (by kernel_rfl) (by kernel_rfl) (by kernel_rfl) (fun _ _ _ h => h) (Or.inl ⟨rfl, fun w' hS => by (unfold execOp; go_simp)⟩) hS0 ?_
  simp only [Act.put, List.getElem_toArray, List.getElem_cons_zero, List.getElem_cons_succ, List.setIfInBounds_toArray, List.set_cons_zero, List.set_cons_succ]
  obtain ⟨W1, hW1⟩ : ∃ W1, W.alloc (.cells #[.int .i64 x] 3) = W1 := ⟨_, rfl⟩
  have hB1 : Below W.heap.size W W1 := by rw [← hW1]; exact (Below.refl _ W).alloc (Nat.le_refl _) _
  have hN1 : Blk W1 W.heap.size 3 #[.int .i64 x] := by rw [← hW1]; exact Blk.new _ _ _
  have k1 := own_below ko hB1
  have kb1 := kb.bel2 hB1
  have hS1 : W1.cell? ⟨qb, 1, none⟩ = some (.slice B l.length d) := (kb1.cell 1).trans rfl
  refine wpAnyH_one (i := 7) (by kernel_rfl) rfl rfl (op_val (v := .slice (some ⟨W.heap.size, 0, none⟩) 1 1) (w' := W1) (by rw [← hW1]; unfold execOp; go_simp) (And.intro hS1 ?_))
  simp only [Act.put, List.getElem_toArray, List.getElem_cons_zero, List.getElem_cons_succ, List.setIfInBounds_toArray, List.set_cons_zero, List.set_cons_succ]
  refine wpAnyH_one (i := 8) (by kernel_rfl) rfl rfl (wp_append_any W1 (.tmp 8) (.tmp 11) 26 rfl base 3 i0 _ 1 8 Try.underlying26 hi0 hz0 hz1 hz2 rfl (by omega) (.slice B l.length d) l.length (ints l) rfl k1 (W.heap.size + 1) (some ⟨W.heap.size, 0, none⟩) 1 1 [.int .i64 x] rfl ⟨rfl, fun _ => ⟨_, rfl, by simp, fun j u hu => by rw [add0]; exact (hN1.cell j).trans (by simpa using hu)⟩⟩ (by simp [Value.oneCell']) (by simp only [maxLen]; omega) (by omega) (by have := hB1.size; omega) ?_)
  intro v' w2 hown2 hgrow hat
  have kb2 := kb1.grown hgrow (Ne.symm hne)
  have hS2 : w2.cell? ⟨qb, 1, none⟩ = some (.slice B l.length d) := (kb2.cell 1).trans rfl
  have hf2 := kb2.frozen 1
  refine And.intro hS2 ?_
  simp only [Act.put, List.getElem_toArray, List.getElem_cons_zero, List.getElem_cons_succ, List.setIfInBounds_toArray, List.set_cons_zero, List.set_cons_succ]
  refine wpAnyH_done (by kernel_rfl) ?_ _
  refine wpAny_one (i := 9) (by kernel_rfl) rfl rfl (op_val (v := .pointer (some ⟨qb, 0, none⟩)) (w' := w2) (by unfold execOp; go_simp) ?_)
  simp only [Act.put, List.getElem_toArray, List.getElem_cons_zero, List.getElem_cons_succ, List.setIfInBounds_toArray, List.set_cons_zero, List.set_cons_succ]
  refine wpAny_one (i := 10) (by kernel_rfl) rfl rfl (op_val (v := .pointer (some ⟨qb, 1, none⟩)) (w' := w2) (by unfold execOp; go_simp) ?_)
  simp only [Act.put, List.getElem_toArray, List.getElem_cons_zero, List.getElem_cons_succ, List.setIfInBounds_toArray, List.set_cons_zero, List.set_cons_succ]
  obtain ⟨B', d', rfl⟩ := own_shape hown2
  have kb3 := kb2.set_ 1 (.slice B' (l.length + 1) d')
  refine wpAny_one (i := 11) (by kernel_rfl) rfl rfl (op_skip (w' := w2.setCell ⟨qb, 1, none⟩ (.slice B' (l.length + 1) d')) (by unfold execOp; go_simp) ?_)
  simp only [Act.put, List.getElem_toArray, List.getElem_cons_zero, List.getElem_cons_succ, List.setIfInBounds_toArray, List.set_cons_zero, List.set_cons_succ]
  refine wpAny_done (by kernel_rfl) ?_ _
  go_wp2
  go_end0
  have e1 : (l ++ [x]).length = l.length + 1 := by simp
  have hne2 : (Value.slice B' (l.length + 1) d').ownBlock ≠ some qb := own_blk_ne hown2 kb2 (by decide)
  refine ⟨rfl, ⟨_, ⟨kb3, ?_⟩, ?_⟩, ?_⟩
  · rw [e1]
    have := own_set (p := ⟨qb, 1, none⟩) hown2 hne2 (.slice B' (l.length + 1) d')
    simpa [ints] using this
  · rcases hat with h | h
    · exact .inl h
    · refine .inr fun k hk => ?_
      rw [h] at hk
      injection hk with hk
      have := hB1.size
      omega
  · refine Gr.setCell (p := ⟨qb, 1, none⟩) ?_ (.inr (.inl rfl)) _
    exact kF.trans ((Gr.of_below hB1).trans (Gr.of_grown hgrow fun k hk _ => .inr hk))
end Go.Proofs.Ytibfikadamfpdaa
