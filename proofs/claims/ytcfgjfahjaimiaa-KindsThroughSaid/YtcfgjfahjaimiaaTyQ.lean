/-
  A type anew: walks.
-/
import Derived.Test.YtcfgjfahjaimiaaTyP
namespace Go.Proofs.Ytcfgjfahjaimiaa
open Go.RowKit
set_option linter.unusedVariables false
set_option linter.unusedSimpArgs false

theorem op_skip {P : Program} {o : Oper} {a : Act} {w w' : World} {K : Act → World → Prop} {Q : Exit → Act → World → Prop} (h : (execOp a.eval o).run P w = .ok .skip w') (hk : K (a.put o.dst undef) w') : o.wp P a w K Q := by
  unfold Oper.wp
  rw [h]
  exact hk
def put5 (w : World) (g : Nat) (v0 v1 v2 v3 v4 : Value) : World := ((((w.setCell ⟨g, 0, none⟩ v0).setCell ⟨g, 1, none⟩ v1).setCell ⟨g, 2, none⟩ v2).setCell ⟨g, 3, none⟩ v3).setCell ⟨g, 4, none⟩ v4
theorem put5_gr (w : World) (g : Nat) (v0 v1 v2 v3 v4 : Value) : Gr (fun x => x = g) w (put5 w g v0 v1 v2 v3 v4) := (((((Gr.refl w).in_ _ _).in_ _ _).in_ _ _).in_ _ _).in_ _ _
theorem put5_blk {w : World} {g : Nat} (h : Blk w g 26 z5) (v0 v1 v2 v3 v4 : Value) : Blk (put5 w g v0 v1 v2 v3 v4) g 26 #[v0, v1, v2, v3, v4] := ((((h.set_ 0 _).set_ 1 _).set_ 2 _).set_ 3 _).set_ 4 _
theorem put5_bel {a w : World} {B g : Nat} (hb : Below B a w) (h : B ≤ g) (v0 v1 v2 v3 v4 : Value) : Below B a (put5 w g v0 v1 v2 v3 v4) :=
  ((((hb.setCell (p := ⟨g, 0, none⟩) h v0).setCell (p := ⟨g, 1, none⟩) h v1).setCell (p := ⟨g, 2, none⟩) h v2).setCell (p := ⟨g, 3, none⟩) h v3).setCell (p := ⟨g, 4, none⟩) h v4
set_option maxRecDepth 100000 in
set_option maxHeartbeats 4000000 in
theorem rebuilt_copied (N : Nat) (ih : CpyC N) (hN : N ≤ 2000000) (k : Int) (p n : ByteArray) (la lr : List Ty) (hct : (Ty.mk k p n la lr).count ≤ N + 1) (hsz : (Ty.mk k p n la lr).mx ≤ 140737488355328) (w : World) (F : Nat → Prop) (A B : Option Addr) (c d : Nat) (ha : SlT w F A la) (hb : SlT w F B lr) :
    Calls Try.prog 70 #[.agg #[.int .i64 k, .string p, .string n, .slice A la.length c, .slice B lr.length d], (.func (Fn.func 53) #[] #[])] w (NewP (.mk k p n la lr) w) := by
  rw [count_mk] at hct
  rw [mx_mk] at hsz
  have H1 := Lib.hid (fun w' (h : Below w.heap.size w w') => each_copied N ih hN la (by omega) (by omega) w' F A c (ha.bel h))
  have H2 := Lib.hid (fun w' (h : Below w.heap.size w w') => each_copied N ih hN lr (by omega) (by omega) w' F B d (hb.bel h))
  clear ha hb
  go_enter Try.func70, Try.ntmps70
  go_wp2
  have hS1 : Below w.heap.size w ((w.alloc (.cells #[.int .i64 k, .string p, .string n, .slice A la.length c, .slice B lr.length d] 26)).alloc (.cells z5 26)) := ((Below.refl _ w).alloc (Nat.le_refl _) _).alloc (by simp) _
  have hK1 : Blk ((w.alloc (.cells #[.int .i64 k, .string p, .string n, .slice A la.length c, .slice B lr.length d] 26)).alloc (.cells z5 26)) w.heap.size 26 #[.int .i64 k, .string p, .string n, .slice A la.length c, .slice B lr.length d] := (Blk.new _ _ _).alloc _
  have hR1 : Blk ((w.alloc (.cells #[.int .i64 k, .string p, .string n, .slice A la.length c, .slice B lr.length d] 26)).alloc (.cells z5 26)) (w.heap.size + 1) 26 z5 := Blk.new_at (by simp)
  change (Code.wp _ _ _ _ ((w.alloc (.cells #[.int .i64 k, .string p, .string n, .slice A la.length c, .slice B lr.length d] 26)).alloc (.cells z5 26)))
  generalize (w.alloc (.cells #[.int .i64 k, .string p, .string n, .slice A la.length c, .slice B lr.length d] 26)).alloc (.cells z5 26) = W at hS1 hK1 hR1 ⊢
  have hsW := hR1.lt
  refine wp_region_held_drew (S := fun V => Below w.heap.size w V ∧ Blk V w.heap.size 26 #[.int .i64 k, .string p, .string n, .slice A la.length c, .slice B lr.length d]) (by kernel_rfl) ⟨hS1.drew, hK1.drew⟩ (fun hS0 => ?_)
  refine wpAnyH_take (i := 0) (v := .pointer (some ⟨w.heap.size, 0, none⟩)) rfl (by kernel_rfl) (by kernel_rfl) (by kernel_rfl) (fun _ _ _ h => h) (Or.inl ⟨rfl, fun w' hS => by (unfold execOp; go_simp)⟩) hS0 ?_
  simp only [Act.put, List.getElem_toArray, List.getElem_cons_zero, List.getElem_cons_succ, List.setIfInBounds_toArray, List.set_cons_zero, List.set_cons_succ]
  refine wpAnyH_take (i := 1) (v := .int .i64 k) rfl (by kernel_rfl) (by kernel_rfl) (by kernel_rfl) (fun _ _ _ h => h) (Or.inl ⟨rfl, fun w' hS => by (have z0 := hS.2.cell 0; have z1 := hS.2.cell 1; have z2 := hS.2.cell 2; have z3 := hS.2.cell 3; have z4 := hS.2.cell 4; have zl := hS.2.lt; unfold execOp; go_simp)⟩) hS0 ?_
  simp only [Act.put, List.getElem_toArray, List.getElem_cons_zero, List.getElem_cons_succ, List.setIfInBounds_toArray, List.set_cons_zero, List.set_cons_succ]
  refine wpAnyH_take (i := 2) (v := .pointer (some ⟨w.heap.size, 1, none⟩)) rfl (by kernel_rfl) (by kernel_rfl) (by kernel_rfl) (fun _ _ _ h => h) (Or.inl ⟨rfl, fun w' hS => by (unfold execOp; go_simp)⟩) hS0 ?_
  simp only [Act.put, List.getElem_toArray, List.getElem_cons_zero, List.getElem_cons_succ, List.setIfInBounds_toArray, List.set_cons_zero, List.set_cons_succ]
  refine wpAnyH_take (i := 3) (v := .string p) rfl (by kernel_rfl) (by kernel_rfl) (by kernel_rfl) (fun _ _ _ h => h) (Or.inl ⟨rfl, fun w' hS => by (have z0 := hS.2.cell 0; have z1 := hS.2.cell 1; have z2 := hS.2.cell 2; have z3 := hS.2.cell 3; have z4 := hS.2.cell 4; have zl := hS.2.lt; unfold execOp; go_simp)⟩) hS0 ?_
  simp only [Act.put, List.getElem_toArray, List.getElem_cons_zero, List.getElem_cons_succ, List.setIfInBounds_toArray, List.set_cons_zero, List.set_cons_succ]
  refine wpAnyH_take (i := 5) (v := .pointer (some ⟨w.heap.size, 2, none⟩)) rfl (by kernel_rfl) (by kernel_rfl) (by kernel_rfl) (fun _ _ _ h => h) (Or.inl ⟨rfl, fun w' hS => by (unfold execOp; go_simp)⟩) hS0 ?_
  simp only [Act.put, List.getElem_toArray, List.getElem_cons_zero, List.getElem_cons_succ, List.setIfInBounds_toArray, List.set_cons_zero, List.set_cons_succ]
  refine wpAnyH_take (i := 6) (v := .string n) rfl (by kernel_rfl) (by kernel_rfl) (by kernel_rfl) (fun _ _ _ h => h) (Or.inl ⟨rfl, fun w' hS => by (have z0 := hS.2.cell 0; have z1 := hS.2.cell 1; have z2 := hS.2.cell 2; have z3 := hS.2.cell 3; have z4 := hS.2.cell 4; have zl := hS.2.lt; unfold execOp; go_simp)⟩) hS0 ?_
  simp only [Act.put, List.getElem_toArray, List.getElem_cons_zero, List.getElem_cons_succ, List.setIfInBounds_toArray, List.set_cons_zero, List.set_cons_succ]
  refine wpAnyH_take (i := 8) (v := .pointer (some ⟨w.heap.size, 3, none⟩)) rfl (by kernel_rfl) (by kernel_rfl) (by kernel_rfl) (fun _ _ _ h => h) (Or.inl ⟨rfl, fun w' hS => by (unfold execOp; go_simp)⟩) hS0 ?_
  simp only [Act.put, List.getElem_toArray, List.getElem_cons_zero, List.getElem_cons_succ, List.setIfInBounds_toArray, List.set_cons_zero, List.set_cons_succ]
  refine wpAnyH_take (i := 9) (v := .slice A la.length c) rfl (by kernel_rfl) (by kernel_rfl) (by kernel_rfl) (fun _ _ _ h => h) (Or.inl ⟨rfl, fun w' hS => by (have z0 := hS.2.cell 0; have z1 := hS.2.cell 1; have z2 := hS.2.cell 2; have z3 := hS.2.cell 3; have z4 := hS.2.cell 4; have zl := hS.2.lt; unfold execOp; go_simp)⟩) hS0 ?_
  simp only [Act.put, List.getElem_toArray, List.getElem_cons_zero, List.getElem_cons_succ, List.setIfInBounds_toArray, List.set_cons_zero, List.set_cons_succ]
  refine wpAnyH_take (i := 10) (v := (.func (Fn.func 53) #[] #[])) rfl (by kernel_rfl) (by kernel_rfl) (by kernel_rfl) (fun _ _ _ h => h) (Or.inl ⟨rfl, fun w' hS => by (unfold execOp; go_simp)⟩) hS0 ?_
  simp only [Act.put, List.getElem_toArray, List.getElem_cons_zero, List.getElem_cons_succ, List.setIfInBounds_toArray, List.set_cons_zero, List.set_cons_succ]
  refine wpAnyH_take (i := 12) (v := .pointer (some ⟨w.heap.size, 4, none⟩)) rfl (by kernel_rfl) (by kernel_rfl) (by kernel_rfl) (fun _ _ _ h => h) (Or.inl ⟨rfl, fun w' hS => by (unfold execOp; go_simp)⟩) hS0 ?_
  simp only [Act.put, List.getElem_toArray, List.getElem_cons_zero, List.getElem_cons_succ, List.setIfInBounds_toArray, List.set_cons_zero, List.set_cons_succ]
  refine wpAnyH_take (i := 13) (v := .slice B lr.length d) rfl (by kernel_rfl) (by kernel_rfl) (by kernel_rfl) (fun _ _ _ h => h) (Or.inl ⟨rfl, fun w' hS => by (have z0 := hS.2.cell 0; have z1 := hS.2.cell 1; have z2 := hS.2.cell 2; have z3 := hS.2.cell 3; have z4 := hS.2.cell 4; have zl := hS.2.lt; unfold execOp; go_simp)⟩) hS0 ?_
  simp only [Act.put, List.getElem_toArray, List.getElem_cons_zero, List.getElem_cons_succ, List.setIfInBounds_toArray, List.set_cons_zero, List.set_cons_succ]
  refine wpAnyH_take (i := 14) (v := (.func (Fn.func 53) #[] #[])) rfl (by kernel_rfl) (by kernel_rfl) (by kernel_rfl) (fun _ _ _ h => h) (Or.inl ⟨rfl, fun w' hS => by (unfold execOp; go_simp)⟩) hS0 ?_
  simp only [Act.put, List.getElem_toArray, List.getElem_cons_zero, List.getElem_cons_succ, List.setIfInBounds_toArray, List.set_cons_zero, List.set_cons_succ]
  have hW0 : Below W.heap.size W W.drew := (Below.refl _ W).drew
  refine wpAnyH_one (i := 4) (by kernel_rfl) rfl rfl (op_call (args := #[.string p]) (f := 52) (by unfold execOp; go_simp) ((clone_any p _ (by omega)).mono ?_))
  rintro e w1 ⟨rfl, hb1⟩
  have hW1 : Below W.heap.size W w1 := hW0.trans (hb1.mono hW0.size)
  have hB1 := hS1.trans (hW1.mono hS1.size)
  refine And.intro ⟨hB1, hK1.below hW1 hK1.lt⟩ ?_
  simp only [Act.put, List.getElem_toArray, List.getElem_cons_zero, List.getElem_cons_succ, List.setIfInBounds_toArray, List.set_cons_zero, List.set_cons_succ]
  refine wpAnyH_one (i := 7) (by kernel_rfl) rfl rfl (op_call (args := #[.string n]) (f := 52) (by unfold execOp; go_simp) ((clone_any n _ (by omega)).mono ?_))
  rintro e w2 ⟨rfl, hb2⟩
  have hW2 : Below W.heap.size W w2 := hW1.trans (hb2.mono hW1.size)
  have hB2 := hS1.trans (hW2.mono hS1.size)
  refine And.intro ⟨hB2, hK1.below hW2 hK1.lt⟩ ?_
  simp only [Act.put, List.getElem_toArray, List.getElem_cons_zero, List.getElem_cons_succ, List.setIfInBounds_toArray, List.set_cons_zero, List.set_cons_succ]
  refine wpAnyH_one (i := 11) (by kernel_rfl) rfl rfl (op_call (args := #[.slice A la.length c, (.func (Fn.func 53) #[] #[])]) (f := 80) (by unfold execOp; go_simp) ((H1.out _ hB2).mono ?_))
  rintro e w3 ⟨A3, c3, rfl, hs3, hb3⟩
  have hW3 : Below W.heap.size W w3 := hW2.trans (hb3.mono hW2.size)
  have hB3 := hS1.trans (hW3.mono hS1.size)
  refine And.intro ⟨hB3, hK1.below hW3 hK1.lt⟩ ?_
  simp only [Act.put, List.getElem_toArray, List.getElem_cons_zero, List.getElem_cons_succ, List.setIfInBounds_toArray, List.set_cons_zero, List.set_cons_succ]
  refine wpAnyH_one (i := 15) (by kernel_rfl) rfl rfl (op_call (args := #[.slice B lr.length d, (.func (Fn.func 53) #[] #[])]) (f := 80) (by unfold execOp; go_simp) ((H2.out _ hB3).mono ?_))
  rintro e w4 ⟨A4, c4, rfl, hs4, hb4⟩
  have hW4 : Below W.heap.size W w4 := hW3.trans (hb4.mono hW3.size)
  have hB4 := hS1.trans (hW4.mono hS1.size)
  refine And.intro ⟨hB4, hK1.below hW4 hK1.lt⟩ ?_
  simp only [Act.put, List.getElem_toArray, List.getElem_cons_zero, List.getElem_cons_succ, List.setIfInBounds_toArray, List.set_cons_zero, List.set_cons_succ]
  refine wpAnyH_one (i := 16) (by kernel_rfl) rfl rfl (op_val (v := .agg #[.int .i64 k, .string p, .string n, .slice A3 la.length c3, .slice A4 lr.length c4]) (by unfold execOp; go_simp) (And.intro ⟨hB4, hK1.below hW4 hK1.lt⟩ ?_))
  simp only [Act.put, List.getElem_toArray, List.getElem_cons_zero, List.getElem_cons_succ, List.setIfInBounds_toArray, List.set_cons_zero, List.set_cons_succ]
  have hR4 := hR1.below hW4 hsW
  have x0 := hR4.cell 0
  have x1 := hR4.cell 1
  have x2 := hR4.cell 2
  have x3 := hR4.cell 3
  have x4 := hR4.cell 4
  have xl := hR4.lt
  have f0 := hR4.frozen 0
  have f1 := hR4.frozen 1
  have f2 := hR4.frozen 2
  have f3 := hR4.frozen 3
  have f4 := hR4.frozen 4
  simp only [z5] at x0 x1 x2 x3 x4
  obtain ⟨V, hVe⟩ : ∃ V, ((((w4.setCell ⟨w.heap.size + 1, 0, none⟩ (.int .i64 k)).setCell ⟨w.heap.size + 1, 1, none⟩ (.string p)).setCell ⟨w.heap.size + 1, 2, none⟩ (.string n)).setCell ⟨w.heap.size + 1, 3, none⟩ (.slice A3 la.length c3)).setCell ⟨w.heap.size + 1, 4, none⟩ (.slice A4 lr.length c4) = V := ⟨_, rfl⟩
  have hVg : Gr (fun x => x = w.heap.size + 1) w4 V := by
    rw [← hVe]
    exact (((((Gr.refl w4).in_ _ _).in_ _ _).in_ _ _).in_ _ _).in_ _ _
  have hVb : Blk V (w.heap.size + 1) 26 #[.int .i64 k, .string p, .string n, .slice A3 la.length c3, .slice A4 lr.length c4] := by
    rw [← hVe]
    exact ((((hR4.set_ 0 _).set_ 1 _).set_ 2 _).set_ 3 _).set_ 4 _
  have hVw : Below w.heap.size w V := ⟨hVg.os.trans hB4.os, hVg.tape.trans hB4.tape, hVg.output.trans hB4.output, Nat.le_trans hB4.size hVg.size, fun q hq => (hVg.block q (by have := hB4.size; omega) (fun e => by have : q = w.heap.size + 1 := e; omega)).trans (hB4.block q hq)⟩
  have hVk : Blk V w.heap.size 26 #[.int .i64 k, .string p, .string n, .slice A la.length c, .slice B lr.length d] := (hVg.block _ (hK1.below hW4 hK1.lt).lt (fun e => by have : w.heap.size = w.heap.size + 1 := e; omega)).trans (hK1.below hW4 hK1.lt)
  refine wpAnyH_one (i := 17) (by kernel_rfl) rfl rfl (op_skip (w' := V) (by rw [← hVe]; unfold execOp; go_simp) (And.intro ⟨hVw, hVk⟩ ?_))
  simp only [Act.put, List.getElem_toArray, List.getElem_cons_zero, List.getElem_cons_succ, List.setIfInBounds_toArray, List.set_cons_zero, List.set_cons_succ]
  refine wpAnyH_done (by kernel_rfl) ?_ _
  have HVW := Lib.hid hVw
  have HT := Lib.hid (RT.mk_ (k := k) (p := p) (n := n) (c := c3) (c' := c4) (w := V) (F := fun q => w.heap.size ≤ q)
    (SlT.keep (F' := fun q => w.heap.size ≤ q) (hs3.bel hb4) (fun q hq hl => hVg.block q hl (fun e => by have : q = w.heap.size + 1 := e; have : w2.heap.size ≤ q := hq; have := hW2.size; omega)) hVg.size (fun q _ hq => by have : w2.heap.size ≤ q := hq; have := hB2.size; show w.heap.size ≤ q; omega))
    (SlT.keep (F' := fun q => w.heap.size ≤ q) hs4 (fun q hq hl => hVg.block q hl (fun e => by have : q = w.heap.size + 1 := e; have : w3.heap.size ≤ q := hq; have := hW3.size; omega)) hVg.size (fun q _ hq => by have : w3.heap.size ≤ q := hq; have := hB3.size; show w.heap.size ≤ q; omega)))
  have y0 := hVb.cell 0
  have y1 := hVb.cell 1
  have y2 := hVb.cell 2
  have y3 := hVb.cell 3
  have y4 := hVb.cell 4
  have yl := hVb.lt
  clear hVe hVg hVb hVw hVk x0 x1 x2 x3 x4 f0 f1 f2 f3 f4 hR4 hs3 hs4 hb1 hb2 hb3 hb4 hW0 hW1 hW2 hW3 hW4 hB1 hB2 hB3 hB4 hS0 hS1 hK1 hR1 H1 H2 ih
  go_wp2
  exact bodyPost_ret (v := .agg #[.int .i64 k, .string p, .string n, .slice A3 la.length c3, .slice A4 lr.length c4]) (by simp [results, Try.results70, go_sem, y0, y1, y2, y3, y4]) rfl ⟨_, _, _, _, _, _, _, _, _, rfl, HT.out, HVW.out⟩
set_option maxRecDepth 100000 in
set_option maxHeartbeats 2000000 in
theorem copied_step (N : Nat) (ih : CpyC N) (hN : N ≤ 2000000) : CpyC (N + 1) := by
  rintro ⟨k, p, n, la, lr⟩ hct hsz w F vs hr
  obtain ⟨A, c, B, d, rfl, ha, hb⟩ := hr.openL
  have HI := Lib.hid (fun w' (h : Below w.heap.size w w') => rebuilt_copied N ih hN k p n la lr hct hsz w' F A B c d (ha.bel h) (hb.bel h))
  show Calls Try.prog 53 #[.agg #[.int .i64 k, .string p, .string n, .slice A la.length c, .slice B lr.length d]] w _
  clear hr ha hb ih
  have hS1 : Below w.heap.size w ((w.alloc (.cells #[.int .i64 k, .string p, .string n, .slice A la.length c, .slice B lr.length d] 26)).alloc (.cells z5 26)) := ((Below.refl _ w).alloc (Nat.le_refl _) _).alloc (by simp) _
  have HS1 := Lib.hid hS1
  have hR1 : Blk ((w.alloc (.cells #[.int .i64 k, .string p, .string n, .slice A la.length c, .slice B lr.length d] 26)).alloc (.cells z5 26)) (w.heap.size + 1) 26 z5 := Blk.new_at (by simp)
  have HR1 := Lib.hid hR1
  clear hS1 hR1
  go_enter Try.func53, Try.ntmps53
  go_wp2_with (go_at_call 70; refine (HI.out _ HS1.out).mono ?_; rintro e w5 ⟨k2, p2, n2, A2, m2, c2, B2, l2, d2, rfl, hr5, hb5⟩; have hR5 := HR1.out.below hb5 HR1.out.lt; have x0 := hR5.cell 0; have x1 := hR5.cell 1; have x2 := hR5.cell 2; have x3 := hR5.cell 3; have x4 := hR5.cell 4; simp only [z5] at x0 x1 x2 x3 x4; have xl := hR5.lt; have f0 := hR5.frozen 0; have f1 := hR5.frozen 1; have f2 := hR5.frozen 2; have f3 := hR5.frozen 3; have f4 := hR5.frozen 4; have HRR := Lib.hid hr5; have HBB := Lib.hid hb5; have HR5 := Lib.hid hR5; clear hr5 hb5 hR5)
  have hV := put5_blk HR5.out (.int .i64 k2) (.string p2) (.string n2) (.slice A2 m2 c2) (.slice B2 l2 d2)
  have HV5 := Lib.hid (put5_bel ((HS1.out.trans (HBB.out.mono HS1.out.size))) (show w.heap.size ≤ w.heap.size + 1 by omega) (.int .i64 k2) (.string p2) (.string n2) (.slice A2 m2 c2) (.slice B2 l2 d2))
  have HVR := Lib.hid ((HRR.out.gr (put5_gr w5 (w.heap.size + 1) (.int .i64 k2) (.string p2) (.string n2) (.slice A2 m2 c2) (.slice B2 l2 d2)) (fun h => by simp at h; omega)).more (F' := fun q => w.heap.size ≤ q) (fun q hq => by simp at hq; show w.heap.size ≤ q; omega))
  have y0 := hV.cell 0
  have y1 := hV.cell 1
  have y2 := hV.cell 2
  have y3 := hV.cell 3
  have y4 := hV.cell 4
  clear hV x0 x1 x2 x3 x4 f0 f1 f2 f3 f4
  show bodyPost _ _ _ _ _ (put5 w5 (w.heap.size + 1) (.int .i64 k2) (.string p2) (.string n2) (.slice A2 m2 c2) (.slice B2 l2 d2))
  generalize put5 w5 (w.heap.size + 1) (.int .i64 k2) (.string p2) (.string n2) (.slice A2 m2 c2) (.slice B2 l2 d2) = V at HV5 HVR y0 y1 y2 y3 y4 ⊢
  exact bodyPost_ret (v := .agg #[.int .i64 k2, .string p2, .string n2, .slice A2 m2 c2, .slice B2 l2 d2]) (by simp [results, Try.results53, go_sem, y0, y1, y2, y3, y4]) rfl ⟨_, _, _, _, _, _, _, _, _, rfl, HVR.out, HV5.out⟩
theorem copied_all : ∀ N : Nat, N ≤ 2000000 → CpyC N
  | 0, _ => fun t h => by have := count_pos t; omega
  | N + 1, h => copied_step N (copied_all N (by omega)) (by omega)
end Go.Proofs.Ytcfgjfahjaimiaa
