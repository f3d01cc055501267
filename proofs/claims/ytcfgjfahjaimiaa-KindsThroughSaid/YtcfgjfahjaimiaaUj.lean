/-
  Made rows of records; kinds' copiedField.
-/
import Derived.Test.YtcfgjfahjaimiaaUg
namespace Go.Proofs.Ytcfgjfahjaimiaa
open Go.RowKit
set_option linter.unusedVariables false
set_option linter.unusedSimpArgs false

section
variable {α : Type} {R : Rel α} {n : Nat} {w w' : World} {F F' : Nat → Prop}
theorem SlG.clr (hR : Keeps R) {g : Nat} {A : Option Addr} {l : List α} (h : SlG n R w F A l) (hg : Gr (fun x => x = g) w w') (hB : ∀ k, F k → k ≠ g) : SlG n R w' F A l :=
  h.keep hR (fun k hk hl => hg.block k hl (hB k hk)) hg.size (fun _ _ h => h)
theorem SlG.more (hR : Keeps R) {A : Option Addr} {l : List α} (h : SlG n R w F A l) (hF : ∀ k, F k → F' k) : SlG n R w F' A l := h.keep hR (fun _ _ _ => rfl) (Nat.le_refl _) (fun k _ hk => hF k hk)
/-- A made row of records in a block of its own. -/
def FdG (n : Nat) (T : TypeId) (R : Rel α) (w : World) (F : Nat → Prop) (g : Nat) (l : List α) : Prop := ∃ cs, Blk w g T cs ∧ ¬ F g ∧ RowsOf R w F l cs.toList
theorem RowsOf.len (hz : Sized R n) : ∀ {l : List α} {xs : List Value}, RowsOf R w F l xs → xs.length = l.length * n
  | [], xs, h => by
    have h : xs = [] := h
    subst h; simp
  | a :: r, xs, h => by
    obtain ⟨h1, q, rfl, h2, h3⟩ := h
    have e1 := hz _ _ _ _ h2
    have e2 := RowsOf.len hz h3
    rw [List.length_append, List.length_cons, e1, e2, Nat.add_mul, Nat.one_mul, Nat.add_comm]
variable {T : TypeId}
theorem FdG.bel (hR : Keeps R) {g : Nat} {l : List α} (h : FdG n T R w F g l) (hb : Below w.heap.size w w') : FdG n T R w' F g l := by
  obtain ⟨cs, h1, h2, h3⟩ := h
  exact ⟨cs, h1.bel2 hb, h2, RowsOf.keep hR (fun g _ hg => hb.block g hg) hb.size (fun g _ h => h) _ _ h3⟩
theorem FdG.at_ (hz : Sized R n) {g : Nat} {l : List α} (h : FdG n T R w F g l) {i : Nat} {u : α} (hu : l[i]? = some u) : ∃ us, R w F u us ∧ ∀ (j : Nat) (v : Value), us[j]? = some v → w.cell? ⟨g, i * n + j, none⟩ = some v := by
  obtain ⟨cs, h1, h2, h3⟩ := h
  obtain ⟨us, h4, h5⟩ := RowsOf.at hz h3 i u hu
  exact ⟨us, h4, fun j v hv => by rw [h1.cell, ← Array.getElem?_toList]; exact h5 j v hv⟩
theorem FdG.thaw {g : Nat} {l : List α} (h : FdG n T R w F g l) (i : Nat) : w.frozen? ⟨g, i, none⟩ = false := by
  obtain ⟨cs, h1, h2, h3⟩ := h
  exact h1.frozen i
theorem FdG.lt {g : Nat} {l : List α} (h : FdG n T R w F g l) : g < w.heap.size := by
  obtain ⟨cs, h1, h2, h3⟩ := h
  exact h1.lt
theorem FdG.slice (hR : Keeps R) (hz : Sized R n) {g : Nat} {l : List α} (h : FdG n T R w F g l) (hF : ∀ k, F k → F' k) (hg : F' g) : SlG n R w F' (some ⟨g, 0, none⟩) l := by
  obtain ⟨cs, h1, h2, h3⟩ := h
  refine ⟨cs.toList, ⟨RowsOf.len hz h3, fun _ => ⟨g, 0, rfl, hg, h1.lt, fun j u hu => ?_⟩⟩, RowsOf.keep hR (fun _ _ _ => rfl) (Nat.le_refl _) (fun k _ hk => hF k hk) _ _ h3⟩
  rw [Nat.zero_add, h1.cell, ← Array.getElem?_toList]
  exact hu
theorem RowsOf.set_ (hz : Sized R n) {a : α} {vs : List Value} (ha : R w F a vs) : ∀ {l : List α} {xs : List Value} {i : Nat}, RowsOf R w F l xs → i < l.length → RowsOf R w F (l.set i a) (xs.take (i * n) ++ (vs ++ xs.drop (i * n + vs.length)))
  | [], xs, i, h, hi => by simp at hi
  | t :: r, xs, 0, h, hi => by
    obtain ⟨h1, q, rfl, h2, h3⟩ := h
    have e1 := hz _ _ _ _ h2
    have e2 := hz _ _ _ _ ha
    simp only [Nat.zero_mul, List.take_zero, List.nil_append, Nat.zero_add, List.set_cons_zero]
    refine ⟨vs, q, ?_, ha, h3⟩
    rw [e2, ← e1, List.drop_left]
  | t :: r, xs, i + 1, h, hi => by
    obtain ⟨h1, q, rfl, h2, h3⟩ := h
    have e1 := hz _ _ _ _ h2
    have ih := RowsOf.set_ hz ha (i := i) h3 (by simpa using hi)
    rw [List.set_cons_succ]
    refine ⟨h1, _, ?_, h2, ih⟩
    have f1 : (i + 1) * n = h1.length + i * n := by rw [e1, Nat.add_mul, Nat.one_mul, Nat.add_comm]
    rw [f1, List.take_append, List.take_of_length_le (by omega), Nat.add_sub_cancel_left, show h1.length + i * n + vs.length = h1.length + (i * n + vs.length) by omega, List.drop_append, List.drop_eq_nil_of_le (by omega), List.nil_append, Nat.add_sub_cancel_left, List.append_assoc]
theorem putCs_mid {g : Nat} {t : TypeId} : ∀ (vs : List Value) (i : Nat) (w : World) (cs : Array Value), Blk w g t cs → i + vs.length ≤ cs.size → Blk (putCs w g i vs) g t (cs.toList.take i ++ (vs ++ cs.toList.drop (i + vs.length))).toArray
  | [], i, w, cs, h, hl => by
    have e : (cs.toList.take i ++ ([] ++ cs.toList.drop (i + 0))).toArray = cs := by simp
    show Blk w g t (cs.toList.take i ++ ([] ++ cs.toList.drop (i + 0))).toArray
    rw [e]
    exact h
  | v :: r, i, w, cs, h, hl => by
    have h2 := putCs_mid r (i + 1) (w.setCell ⟨g, i, none⟩ v) (cs.setIfInBounds i v) (h.set_ i v) (by simp at hl ⊢; omega)
    have hi : i < cs.toList.length := by simp at hl ⊢; omega
    have e : (cs.setIfInBounds i v).toList.take (i + 1) ++ (r ++ (cs.setIfInBounds i v).toList.drop (i + 1 + r.length)) = cs.toList.take i ++ ((v :: r) ++ cs.toList.drop (i + (v :: r).length)) := by
      rw [Array.toList_setIfInBounds, List.take_add_one, List.take_set, List.getElem?_set_self hi, Option.toList_some, List.append_assoc, List.drop_set_of_lt (by omega)]
      congr 1
      · rw [List.set_eq_of_length_le (by simp; omega)]
      · simp; congr 1; omega
    rw [e] at h2
    exact h2
theorem FdG.put (hR : Keeps R) (hz : Sized R n) {g : Nat} {l : List α} (h : FdG n T R w F g l) {i : Nat} (hi : i < l.length) {a : α} {vs : List Value} (ha : R w F a vs) : FdG n T R (putCs w g (i * n) vs) F g (l.set i a) := by
  obtain ⟨cs, h1, h2, h3⟩ := h
  have hG := putCs_gr g vs (i * n) w
  have hL := RowsOf.len hz h3
  have hv := hz _ _ _ _ ha
  have hfit : i * n + vs.length ≤ cs.size := by
    rw [hv, ← Array.length_toList, hL]
    have := Nat.mul_le_mul_right n (show i + 1 ≤ l.length from hi)
    rw [Nat.add_mul, Nat.one_mul] at this
    exact this
  refine ⟨_, putCs_mid vs (i * n) w cs h1 hfit, h2, ?_⟩
  have := RowsOf.keep (F' := F) hR (fun k hk hl => hG.block k hl (by rintro rfl; exact h2 hk)) hG.size (fun _ _ h => h) _ _ (RowsOf.set_ hz ha h3 hi)
  simpa using this
end
/-- A field in memory of its own. -/
def NewFP (f : Fi) (w : World) (e : Ending) (w' : World) : Prop := ∃ (k : Int) (p n : ByteArray) (A : Option Addr) (m c : Nat) (A' : Option Addr) (m' c' : Nat), e = .returned (.agg #[.string f.name, .int .i64 k, .string p, .string n, .slice A m c, .slice A' m' c']) ∧ RFi w' (fun k => w.heap.size ≤ k) f [.string f.name, .int .i64 k, .string p, .string n, .slice A m c, .slice A' m' c'] ∧ Below w.heap.size w w'
theorem Keeps.clr {α : Type} {R : Rel α} (hR : Keeps R) {w w' : World} {F F' : Nat → Prop} {g : Nat} {a : α} {vs : List Value} (h : R w F a vs) (hg : Gr (fun x => x = g) w w') (hB : ∀ k, F k → k ≠ g) (hF : ∀ k, F k → F' k) : R w' F' a vs :=
  hR _ _ _ _ _ _ (fun k hk hl => hg.block k hl (hB k hk)) hg.size (fun k _ h => hF k h) h
set_option maxRecDepth 100000 in
set_option maxHeartbeats 4000000 in
theorem cfield_any (f : Fi) (hc : f.ty.count ≤ 2000000) (hok : f.ok 140737488355328) (w : World) (F : Nat → Prop) (vs : List Value) (hr : RFi w F f vs) : Calls Try.prog 26 #[.agg vs.toArray] w (NewFP f w) := by
  obtain ⟨nm, t⟩ := f
  obtain ⟨tv, rfl, hrt⟩ := hr
  have hnm : nm.size ≤ 140737488355328 := hok.1
  have hmx : t.mx ≤ 140737488355328 := hok.2
  dsimp only at hrt hc
  have HC := Lib.hid (fun w' (h : Below w.heap.size w w') => copied_all 2000000 (Nat.le_refl _) t hc hmx w' F _ (hrt.bel h))
  obtain ⟨k1, p1, n1', A1, m1, c1, B1, l1, d1, rfl⟩ := hrt.shape
  simp only [tyC] at HC ⊢
  clear hrt hok hmx
  go_enter Try.func26, Try.ntmps26
  go_wp2
  have hS1 : Below w.heap.size w ((w.alloc (.cells #[.string nm, .int .i64 k1, .string p1, .string n1', .slice A1 m1 c1, .slice B1 l1 d1] 40)).alloc (.cells #[.string ⟨#[]⟩, .int .i64 0, .string ⟨#[]⟩, .string ⟨#[]⟩, .slice none 0 0, .slice none 0 0] 40)) := ((Below.refl _ w).alloc (Nat.le_refl _) _).alloc (by simp) _
  have hK1 : Blk ((w.alloc (.cells #[.string nm, .int .i64 k1, .string p1, .string n1', .slice A1 m1 c1, .slice B1 l1 d1] 40)).alloc (.cells #[.string ⟨#[]⟩, .int .i64 0, .string ⟨#[]⟩, .string ⟨#[]⟩, .slice none 0 0, .slice none 0 0] 40)) w.heap.size 40 #[.string nm, .int .i64 k1, .string p1, .string n1', .slice A1 m1 c1, .slice B1 l1 d1] := (Blk.new _ _ _).alloc _
  have hR1 : Blk ((w.alloc (.cells #[.string nm, .int .i64 k1, .string p1, .string n1', .slice A1 m1 c1, .slice B1 l1 d1] 40)).alloc (.cells #[.string ⟨#[]⟩, .int .i64 0, .string ⟨#[]⟩, .string ⟨#[]⟩, .slice none 0 0, .slice none 0 0] 40)) (w.heap.size + 1) 40 #[.string ⟨#[]⟩, .int .i64 0, .string ⟨#[]⟩, .string ⟨#[]⟩, .slice none 0 0, .slice none 0 0] := Blk.new_at (by simp)
  change (Code.wp _ _ _ _ ((w.alloc (.cells #[.string nm, .int .i64 k1, .string p1, .string n1', .slice A1 m1 c1, .slice B1 l1 d1] 40)).alloc (.cells #[.string ⟨#[]⟩, .int .i64 0, .string ⟨#[]⟩, .string ⟨#[]⟩, .slice none 0 0, .slice none 0 0] 40)))
  generalize (w.alloc (.cells #[.string nm, .int .i64 k1, .string p1, .string n1', .slice A1 m1 c1, .slice B1 l1 d1] 40)).alloc (.cells #[.string ⟨#[]⟩, .int .i64 0, .string ⟨#[]⟩, .string ⟨#[]⟩, .slice none 0 0, .slice none 0 0] 40) = W at hS1 hK1 hR1 ⊢
  have hsW := hR1.lt
  refine wp_region_held_drew (S := fun V => Below w.heap.size w V ∧ Blk V w.heap.size 40 #[.string nm, .int .i64 k1, .string p1, .string n1', .slice A1 m1 c1, .slice B1 l1 d1]) (by kernel_rfl) ⟨hS1.drew, hK1.drew⟩ (fun hS0 => ?_)
  refine wpAnyH_take (i := 0) (v := .pointer (some ⟨w.heap.size, 0, none⟩)) rfl (by kernel_rfl) (by kernel_rfl) (by kernel_rfl) (fun _ _ _ h => h) (Or.inl ⟨rfl, fun w' hS => by (unfold execOp; go_simp)⟩) hS0 ?_
  simp only [Act.put, List.getElem_toArray, List.getElem_cons_zero, List.getElem_cons_succ, List.setIfInBounds_toArray, List.set_cons_zero, List.set_cons_succ]
  refine wpAnyH_take (i := 1) (v := .string nm) rfl (by kernel_rfl) (by kernel_rfl) (by kernel_rfl) (fun _ _ _ h => h) (Or.inl ⟨rfl, fun w' hS => by (have z0 := hS.2.cell 0; have zl := hS.2.lt; unfold execOp; go_simp)⟩) hS0 ?_
  simp only [Act.put, List.getElem_toArray, List.getElem_cons_zero, List.getElem_cons_succ, List.setIfInBounds_toArray, List.set_cons_zero, List.set_cons_succ]
  refine wpAnyH_take (i := 3) (v := .pointer (some ⟨w.heap.size, 1, none⟩)) rfl (by kernel_rfl) (by kernel_rfl) (by kernel_rfl) (fun _ _ _ h => h) (Or.inl ⟨rfl, fun w' hS => by (unfold execOp; go_simp)⟩) hS0 ?_
  simp only [Act.put, List.getElem_toArray, List.getElem_cons_zero, List.getElem_cons_succ, List.setIfInBounds_toArray, List.set_cons_zero, List.set_cons_succ]
  refine wpAnyH_take (i := 4) (v := .agg #[.int .i64 k1, .string p1, .string n1', .slice A1 m1 c1, .slice B1 l1 d1]) rfl (by kernel_rfl) (by kernel_rfl) (by kernel_rfl) (fun _ _ _ h => h) (Or.inl ⟨rfl, fun w' hS => by (have z1 := hS.2.cell 1; have z2 := hS.2.cell 2; have z3 := hS.2.cell 3; have z4 := hS.2.cell 4; have z5 := hS.2.cell 5; have zl := hS.2.lt; unfold execOp; go_simp)⟩) hS0 ?_
  simp only [Act.put, List.getElem_toArray, List.getElem_cons_zero, List.getElem_cons_succ, List.setIfInBounds_toArray, List.set_cons_zero, List.set_cons_succ]
  have hW0 : Below W.heap.size W W.drew := (Below.refl _ W).drew
  refine wpAnyH_one (i := 2) (by kernel_rfl) rfl rfl (op_call (args := #[.string nm]) (f := 52) (by unfold execOp; go_simp) ((clone_any nm _ (by omega)).mono ?_))
  rintro e w1 ⟨rfl, hb1⟩
  have hW1 : Below W.heap.size W w1 := hW0.trans (hb1.mono hW0.size)
  have hB1 := hS1.trans (hW1.mono hS1.size)
  refine And.intro ⟨hB1, hK1.below hW1 hK1.lt⟩ ?_
  simp only [Act.put, List.getElem_toArray, List.getElem_cons_zero, List.getElem_cons_succ, List.setIfInBounds_toArray, List.set_cons_zero, List.set_cons_succ]
  refine wpAnyH_one (i := 5) (by kernel_rfl) rfl rfl (op_call (args := #[.agg #[.int .i64 k1, .string p1, .string n1', .slice A1 m1 c1, .slice B1 l1 d1]]) (f := 53) (by unfold execOp; go_simp) ((HC.out _ hB1).mono ?_))
  rintro e w2 ⟨k2, p2, n2, A2, m2, c2, B2, l2, d2, rfl, hr2, hb2⟩
  have hW2 : Below W.heap.size W w2 := hW1.trans (hb2.mono hW1.size)
  have hB2 := hS1.trans (hW2.mono hS1.size)
  refine And.intro ⟨hB2, hK1.below hW2 hK1.lt⟩ ?_
  simp only [Act.put, List.getElem_toArray, List.getElem_cons_zero, List.getElem_cons_succ, List.setIfInBounds_toArray, List.set_cons_zero, List.set_cons_succ]
  refine wpAnyH_one (i := 6) (by kernel_rfl) rfl rfl (op_val (v := .agg #[.string nm, .int .i64 k2, .string p2, .string n2, .slice A2 m2 c2, .slice B2 l2 d2]) (by unfold execOp; go_simp) (And.intro ⟨hB2, hK1.below hW2 hK1.lt⟩ ?_))
  simp only [Act.put, List.getElem_toArray, List.getElem_cons_zero, List.getElem_cons_succ, List.setIfInBounds_toArray, List.set_cons_zero, List.set_cons_succ]
  have hR4 := hR1.below hW2 hsW
  have x0 := hR4.cell 0
  have f0 := hR4.frozen 0
  have x1 := hR4.cell 1
  have f1 := hR4.frozen 1
  have x2 := hR4.cell 2
  have f2 := hR4.frozen 2
  have x3 := hR4.cell 3
  have f3 := hR4.frozen 3
  have x4 := hR4.cell 4
  have f4 := hR4.frozen 4
  have x5 := hR4.cell 5
  have f5 := hR4.frozen 5
  have xl := hR4.lt
  obtain ⟨V, hVe⟩ : ∃ V, putCs w2 (w.heap.size + 1) 0 [.string nm, .int .i64 k2, .string p2, .string n2, .slice A2 m2 c2, .slice B2 l2 d2] = V := ⟨_, rfl⟩
  have hVg : Gr (fun x => x = w.heap.size + 1) w2 V := hVe ▸ putCs_gr _ _ 0 w2
  have hVb : Blk V (w.heap.size + 1) 40 #[.string nm, .int .i64 k2, .string p2, .string n2, .slice A2 m2 c2, .slice B2 l2 d2] := hVe ▸ putCs_blk0 (vs := [.string nm, .int .i64 k2, .string p2, .string n2, .slice A2 m2 c2, .slice B2 l2 d2]) hR4 rfl
  have hVw : Below w.heap.size w V := hB2.trans (hVg.belowN hB2.size (fun k hk e => by have e2 : k = w.heap.size + 1 := e; omega))
  have hVk : Blk V w.heap.size 40 #[.string nm, .int .i64 k1, .string p1, .string n1', .slice A1 m1 c1, .slice B1 l1 d1] := (hVg.block _ (hK1.below hW2 hK1.lt).lt (fun e => by have : w.heap.size = w.heap.size + 1 := e; omega)).trans (hK1.below hW2 hK1.lt)
  refine wpAnyH_one (i := 7) (by kernel_rfl) rfl rfl (op_skip (w' := V) (by rw [← hVe]; simp only [putCs]; unfold execOp; go_simp) (And.intro ⟨hVw, hVk⟩ ?_))
  simp only [Act.put, List.getElem_toArray, List.getElem_cons_zero, List.getElem_cons_succ, List.setIfInBounds_toArray, List.set_cons_zero, List.set_cons_succ]
  refine wpAnyH_done (by kernel_rfl) ?_ _
  have HVW := Lib.hid hVw
  have HT := Lib.hid (RT_keeps.clr (F' := fun q => w.heap.size ≤ q) hr2 hVg (fun k hk e => by have h1 : w1.heap.size ≤ k := hk; have h2 := hW1.size; have e2 : k = w.heap.size + 1 := e; omega) (fun k hk => by have h1 : w1.heap.size ≤ k := hk; have h2 := hB1.size; show w.heap.size ≤ k; omega))
  have y0 := hVb.cell 0
  have y1 := hVb.cell 1
  have y2 := hVb.cell 2
  have y3 := hVb.cell 3
  have y4 := hVb.cell 4
  have y5 := hVb.cell 5
  have yl := hVb.lt
  clear hVe hVg hVb hVw hVk x0 f0 x1 f1 x2 f2 x3 f3 x4 f4 x5 f5 hR4 hr2 hb1 hb2 hW0 hW1 hW2 hB1 hB2 hS0 hS1 hK1 hR1
  go_wp2
  exact bodyPost_ret (v := .agg #[.string nm, .int .i64 k2, .string p2, .string n2, .slice A2 m2 c2, .slice B2 l2 d2]) (by simp [results, Try.results26, go_sem, y0, y1, y2, y3, y4, y5]) rfl ⟨_, _, _, _, _, _, _, _, _, rfl, ⟨_, rfl, HT.out⟩, HVW.out⟩
end Go.Proofs.Ytcfgjfahjaimiaa
