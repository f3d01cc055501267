/-
  kinds' copiedDecl and Find: walks.
-/
import Derived.Test.YtkgilhdoahkakaaUk
namespace Go.Proofs.Ytkgilhdoahkakaa
open Go.RowKit
set_option linter.unusedVariables false
set_option linter.unusedSimpArgs false

def NewDP (d : Dl) (w : World) (e : Ending) (w' : World) : Prop := (∃ (k : Int) (p n : ByteArray) (A : Option Addr) (m c : Nat) (B : Option Addr) (m' c' : Nat) (D : Option Addr) (x : Nat), e = .returned (.agg #[.int .i64 d.kind, .string d.name, .string d.of, .int .i64 d.value, .int .i64 k, .string p, .string n, .slice A m c, .slice B m' c', .slice D d.fields.length x]) ∧ RDl w' (fun k => w.heap.size ≤ k) d [.int .i64 d.kind, .string d.name, .string d.of, .int .i64 d.value, .int .i64 k, .string p, .string n, .slice A m c, .slice B m' c', .slice D d.fields.length x]) ∧ Below w.heap.size w w'
theorem dl_good {us : List Un} (hok : ∀ u ∈ us, u.ok 140737488355328) (hcn : ∀ u ∈ us, u.cnt ≤ 2000) (p n : ByteArray) : ((fndP us p n).getD dlZ).ok 140737488355328 ∧ ((fndP us p n).getD dlZ).cnt ≤ 2000 := by
  have hz : dlZ.ok 140737488355328 ∧ dlZ.cnt ≤ 2000 := by
    constructor
    · refine ⟨by decide, by decide, by decide, by decide, fun f hf => ?_⟩
      cases hf
    · decide
  cases hf : fndP us p n with
  | none => exact hz
  | some d =>
    show d.ok 140737488355328 ∧ d.cnt ≤ 2000
    rw [fndP] at hf
    have hm := declP_mem hf
    cases hu : unitP us p with
    | none =>
      rw [hu] at hm
      cases hm
    | some u =>
      rw [hu] at hm
      have hm : d ∈ u.decls := hm
      have h1 := hok u (unitP_mem hu)
      have h2 := hcn u (unitP_mem hu)
      refine ⟨h1.2.2.1.2 d hm, ?_⟩
      have h3 := sumL_mem Dl.cnt u.decls d hm
      unfold Un.cnt at h2
      omega
set_option maxRecDepth 100000 in
set_option maxHeartbeats 4000000 in
theorem cdecl_any (d : Dl) (hc : d.cnt ≤ 2000) (hok : d.ok 140737488355328) (w : World) (F : Nat → Prop) (vs : List Value) (hr : RDl w F d vs) : Calls Try.prog 42 #[.agg vs.toArray] w (NewDP d w) := by
  obtain ⟨dk, dn, dof, dv, t, fs⟩ := d
  have hc' : t.count + fs.length + sumL (fun f : Fi => f.ty.count) fs ≤ 2000 := hc
  obtain ⟨hnm, hof, hmx, _, hfok⟩ := hok
  obtain ⟨tv, Af, cf, rfl, hrt, hfs⟩ := hr
  dsimp only at hrt hfs hnm hof hmx hfok
  have HC := Lib.hid (fun w' (h : Below w.heap.size w w') => copied_all 2000000 (Nat.le_refl _) t (by omega) hmx w' F _ (hrt.bel h))
  have HE := Lib.hid (fun w' (h : Below w.heap.size w w') => cfields_any fs (by omega) (fun f hf => by have := sumL_mem (fun f : Fi => f.ty.count) fs f hf; omega) hfok w' F Af cf (hfs.bel RFi_keeps h))
  obtain ⟨k1, p1, n1', A1, m1, c1, B1, l1, d1, rfl⟩ := hrt.shape
  simp only [tyC] at HC
  simp only [tyC, List.cons_append, List.nil_append]
  clear hrt hfs hmx hfok hc hc'
  go_enter Try.func42, Try.ntmps42
  go_wp2
  have hS1 : Below w.heap.size w ((w.alloc (.cells #[.int .i64 dk, .string dn, .string dof, .int .i64 dv, .int .i64 k1, .string p1, .string n1', .slice A1 m1 c1, .slice B1 l1 d1, .slice Af fs.length cf] 33)).alloc (.cells #[.int .i64 0, .string ⟨#[]⟩, .string ⟨#[]⟩, .int .i64 0, .int .i64 0, .string ⟨#[]⟩, .string ⟨#[]⟩, .slice none 0 0, .slice none 0 0, .slice none 0 0] 33)) := ((Below.refl _ w).alloc (Nat.le_refl _) _).alloc (by simp) _
  have hK1 : Blk ((w.alloc (.cells #[.int .i64 dk, .string dn, .string dof, .int .i64 dv, .int .i64 k1, .string p1, .string n1', .slice A1 m1 c1, .slice B1 l1 d1, .slice Af fs.length cf] 33)).alloc (.cells #[.int .i64 0, .string ⟨#[]⟩, .string ⟨#[]⟩, .int .i64 0, .int .i64 0, .string ⟨#[]⟩, .string ⟨#[]⟩, .slice none 0 0, .slice none 0 0, .slice none 0 0] 33)) w.heap.size 33 #[.int .i64 dk, .string dn, .string dof, .int .i64 dv, .int .i64 k1, .string p1, .string n1', .slice A1 m1 c1, .slice B1 l1 d1, .slice Af fs.length cf] := (Blk.new _ _ _).alloc _
  have hR1 : Blk ((w.alloc (.cells #[.int .i64 dk, .string dn, .string dof, .int .i64 dv, .int .i64 k1, .string p1, .string n1', .slice A1 m1 c1, .slice B1 l1 d1, .slice Af fs.length cf] 33)).alloc (.cells #[.int .i64 0, .string ⟨#[]⟩, .string ⟨#[]⟩, .int .i64 0, .int .i64 0, .string ⟨#[]⟩, .string ⟨#[]⟩, .slice none 0 0, .slice none 0 0, .slice none 0 0] 33)) (w.heap.size + 1) 33 #[.int .i64 0, .string ⟨#[]⟩, .string ⟨#[]⟩, .int .i64 0, .int .i64 0, .string ⟨#[]⟩, .string ⟨#[]⟩, .slice none 0 0, .slice none 0 0, .slice none 0 0] := Blk.new_at (by simp)
  change (Code.wp _ _ _ _ ((w.alloc (.cells #[.int .i64 dk, .string dn, .string dof, .int .i64 dv, .int .i64 k1, .string p1, .string n1', .slice A1 m1 c1, .slice B1 l1 d1, .slice Af fs.length cf] 33)).alloc (.cells #[.int .i64 0, .string ⟨#[]⟩, .string ⟨#[]⟩, .int .i64 0, .int .i64 0, .string ⟨#[]⟩, .string ⟨#[]⟩, .slice none 0 0, .slice none 0 0, .slice none 0 0] 33)))
  generalize (w.alloc (.cells #[.int .i64 dk, .string dn, .string dof, .int .i64 dv, .int .i64 k1, .string p1, .string n1', .slice A1 m1 c1, .slice B1 l1 d1, .slice Af fs.length cf] 33)).alloc (.cells #[.int .i64 0, .string ⟨#[]⟩, .string ⟨#[]⟩, .int .i64 0, .int .i64 0, .string ⟨#[]⟩, .string ⟨#[]⟩, .slice none 0 0, .slice none 0 0, .slice none 0 0] 33) = W at hS1 hK1 hR1 ⊢
  have hsW := hR1.lt
  refine wp_region_held_drew (S := fun V => Below w.heap.size w V ∧ Blk V w.heap.size 33 #[.int .i64 dk, .string dn, .string dof, .int .i64 dv, .int .i64 k1, .string p1, .string n1', .slice A1 m1 c1, .slice B1 l1 d1, .slice Af fs.length cf]) (by kernel_rfl) ⟨hS1.drew, hK1.drew⟩ (fun hS0 => ?_)
  refine wpAnyH_take (i := 0) (v := .pointer (some ⟨w.heap.size, 0, none⟩)) rfl (by kernel_rfl) (by kernel_rfl) (by kernel_rfl) (fun _ _ _ h => h) (Or.inl ⟨rfl, fun w' hS => by (unfold execOp; go_simp)⟩) hS0 ?_
  simp only [Act.put, List.getElem_toArray, List.getElem_cons_zero, List.getElem_cons_succ, List.setIfInBounds_toArray, List.set_cons_zero, List.set_cons_succ]
  refine wpAnyH_take (i := 1) (v := .int .i64 dk) rfl (by kernel_rfl) (by kernel_rfl) (by kernel_rfl) (fun _ _ _ h => h) (Or.inl ⟨rfl, fun w' hS => by (have z0 := hS.2.cell 0; have zl := hS.2.lt; unfold execOp; go_simp)⟩) hS0 ?_
  simp only [Act.put, List.getElem_toArray, List.getElem_cons_zero, List.getElem_cons_succ, List.setIfInBounds_toArray, List.set_cons_zero, List.set_cons_succ]
  refine wpAnyH_take (i := 2) (v := .pointer (some ⟨w.heap.size, 1, none⟩)) rfl (by kernel_rfl) (by kernel_rfl) (by kernel_rfl) (fun _ _ _ h => h) (Or.inl ⟨rfl, fun w' hS => by (unfold execOp; go_simp)⟩) hS0 ?_
  simp only [Act.put, List.getElem_toArray, List.getElem_cons_zero, List.getElem_cons_succ, List.setIfInBounds_toArray, List.set_cons_zero, List.set_cons_succ]
  refine wpAnyH_take (i := 3) (v := .string dn) rfl (by kernel_rfl) (by kernel_rfl) (by kernel_rfl) (fun _ _ _ h => h) (Or.inl ⟨rfl, fun w' hS => by (have z1 := hS.2.cell 1; have zl := hS.2.lt; unfold execOp; go_simp)⟩) hS0 ?_
  simp only [Act.put, List.getElem_toArray, List.getElem_cons_zero, List.getElem_cons_succ, List.setIfInBounds_toArray, List.set_cons_zero, List.set_cons_succ]
  refine wpAnyH_take (i := 5) (v := .pointer (some ⟨w.heap.size, 2, none⟩)) rfl (by kernel_rfl) (by kernel_rfl) (by kernel_rfl) (fun _ _ _ h => h) (Or.inl ⟨rfl, fun w' hS => by (unfold execOp; go_simp)⟩) hS0 ?_
  simp only [Act.put, List.getElem_toArray, List.getElem_cons_zero, List.getElem_cons_succ, List.setIfInBounds_toArray, List.set_cons_zero, List.set_cons_succ]
  refine wpAnyH_take (i := 6) (v := .string dof) rfl (by kernel_rfl) (by kernel_rfl) (by kernel_rfl) (fun _ _ _ h => h) (Or.inl ⟨rfl, fun w' hS => by (have z2 := hS.2.cell 2; have zl := hS.2.lt; unfold execOp; go_simp)⟩) hS0 ?_
  simp only [Act.put, List.getElem_toArray, List.getElem_cons_zero, List.getElem_cons_succ, List.setIfInBounds_toArray, List.set_cons_zero, List.set_cons_succ]
  refine wpAnyH_take (i := 8) (v := .pointer (some ⟨w.heap.size, 3, none⟩)) rfl (by kernel_rfl) (by kernel_rfl) (by kernel_rfl) (fun _ _ _ h => h) (Or.inl ⟨rfl, fun w' hS => by (unfold execOp; go_simp)⟩) hS0 ?_
  simp only [Act.put, List.getElem_toArray, List.getElem_cons_zero, List.getElem_cons_succ, List.setIfInBounds_toArray, List.set_cons_zero, List.set_cons_succ]
  refine wpAnyH_take (i := 9) (v := .int .i64 dv) rfl (by kernel_rfl) (by kernel_rfl) (by kernel_rfl) (fun _ _ _ h => h) (Or.inl ⟨rfl, fun w' hS => by (have z3 := hS.2.cell 3; have zl := hS.2.lt; unfold execOp; go_simp)⟩) hS0 ?_
  simp only [Act.put, List.getElem_toArray, List.getElem_cons_zero, List.getElem_cons_succ, List.setIfInBounds_toArray, List.set_cons_zero, List.set_cons_succ]
  refine wpAnyH_take (i := 10) (v := .pointer (some ⟨w.heap.size, 4, none⟩)) rfl (by kernel_rfl) (by kernel_rfl) (by kernel_rfl) (fun _ _ _ h => h) (Or.inl ⟨rfl, fun w' hS => by (unfold execOp; go_simp)⟩) hS0 ?_
  simp only [Act.put, List.getElem_toArray, List.getElem_cons_zero, List.getElem_cons_succ, List.setIfInBounds_toArray, List.set_cons_zero, List.set_cons_succ]
  refine wpAnyH_take (i := 11) (v := .agg #[.int .i64 k1, .string p1, .string n1', .slice A1 m1 c1, .slice B1 l1 d1]) rfl (by kernel_rfl) (by kernel_rfl) (by kernel_rfl) (fun _ _ _ h => h) (Or.inl ⟨rfl, fun w' hS => by (have z4 := hS.2.cell 4; have z5 := hS.2.cell 5; have z6 := hS.2.cell 6; have z7 := hS.2.cell 7; have z8 := hS.2.cell 8; have zl := hS.2.lt; unfold execOp; go_simp)⟩) hS0 ?_
  simp only [Act.put, List.getElem_toArray, List.getElem_cons_zero, List.getElem_cons_succ, List.setIfInBounds_toArray, List.set_cons_zero, List.set_cons_succ]
  refine wpAnyH_take (i := 13) (v := .pointer (some ⟨w.heap.size, 9, none⟩)) rfl (by kernel_rfl) (by kernel_rfl) (by kernel_rfl) (fun _ _ _ h => h) (Or.inl ⟨rfl, fun w' hS => by (unfold execOp; go_simp)⟩) hS0 ?_
  simp only [Act.put, List.getElem_toArray, List.getElem_cons_zero, List.getElem_cons_succ, List.setIfInBounds_toArray, List.set_cons_zero, List.set_cons_succ]
  refine wpAnyH_take (i := 14) (v := .slice Af fs.length cf) rfl (by kernel_rfl) (by kernel_rfl) (by kernel_rfl) (fun _ _ _ h => h) (Or.inl ⟨rfl, fun w' hS => by (have z9 := hS.2.cell 9; have zl := hS.2.lt; unfold execOp; go_simp)⟩) hS0 ?_
  simp only [Act.put, List.getElem_toArray, List.getElem_cons_zero, List.getElem_cons_succ, List.setIfInBounds_toArray, List.set_cons_zero, List.set_cons_succ]
  have hW0 : Below W.heap.size W W.drew := (Below.refl _ W).drew
  refine wpAnyH_one (i := 4) (by kernel_rfl) rfl rfl (op_call (args := #[.string dn]) (f := 72) (by unfold execOp; go_simp) ((clone_any dn _ (by omega)).mono ?_))
  rintro e w1 ⟨rfl, hb1⟩
  have hW1 : Below W.heap.size W w1 := hW0.trans (hb1.mono hW0.size)
  have hB1 := hS1.trans (hW1.mono hS1.size)
  refine And.intro ⟨hB1, hK1.below hW1 hK1.lt⟩ ?_
  simp only [Act.put, List.getElem_toArray, List.getElem_cons_zero, List.getElem_cons_succ, List.setIfInBounds_toArray, List.set_cons_zero, List.set_cons_succ]
  refine wpAnyH_one (i := 7) (by kernel_rfl) rfl rfl (op_call (args := #[.string dof]) (f := 72) (by unfold execOp; go_simp) ((clone_any dof _ (by omega)).mono ?_))
  rintro e w2 ⟨rfl, hb2⟩
  have hW2 : Below W.heap.size W w2 := hW1.trans (hb2.mono hW1.size)
  have hB2 := hS1.trans (hW2.mono hS1.size)
  refine And.intro ⟨hB2, hK1.below hW2 hK1.lt⟩ ?_
  simp only [Act.put, List.getElem_toArray, List.getElem_cons_zero, List.getElem_cons_succ, List.setIfInBounds_toArray, List.set_cons_zero, List.set_cons_succ]
  refine wpAnyH_one (i := 12) (by kernel_rfl) rfl rfl (op_call (args := #[.agg #[.int .i64 k1, .string p1, .string n1', .slice A1 m1 c1, .slice B1 l1 d1]]) (f := 73) (by unfold execOp; go_simp) ((HC.out _ hB2).mono ?_))
  rintro e w3 ⟨k2, p2, n2, A2, m2, c2, B2, l2, d2, rfl, hr2, hb3⟩
  have hW3 : Below W.heap.size W w3 := hW2.trans (hb3.mono hW2.size)
  have hB3 := hS1.trans (hW3.mono hS1.size)
  refine And.intro ⟨hB3, hK1.below hW3 hK1.lt⟩ ?_
  simp only [Act.put, List.getElem_toArray, List.getElem_cons_zero, List.getElem_cons_succ, List.setIfInBounds_toArray, List.set_cons_zero, List.set_cons_succ]
  refine wpAnyH_one (i := 15) (by kernel_rfl) rfl rfl (op_call (args := #[.slice Af fs.length cf, (.func (Fn.func 46) #[] #[])]) (f := 44) (by unfold execOp; go_simp) ((HE.out _ hB3).mono ?_))
  rintro e w4 ⟨Ag, cg, rfl, hs2, hb4⟩
  have hW4 : Below W.heap.size W w4 := hW3.trans (hb4.mono hW3.size)
  have hB4 := hS1.trans (hW4.mono hS1.size)
  refine And.intro ⟨hB4, hK1.below hW4 hK1.lt⟩ ?_
  simp only [Act.put, List.getElem_toArray, List.getElem_cons_zero, List.getElem_cons_succ, List.setIfInBounds_toArray, List.set_cons_zero, List.set_cons_succ]
  refine wpAnyH_one (i := 16) (by kernel_rfl) rfl rfl (op_val (v := .agg #[.int .i64 dk, .string dn, .string dof, .int .i64 dv, .int .i64 k2, .string p2, .string n2, .slice A2 m2 c2, .slice B2 l2 d2, .slice Ag fs.length cg]) (by unfold execOp; go_simp) (And.intro ⟨hB4, hK1.below hW4 hK1.lt⟩ ?_))
  simp only [Act.put, List.getElem_toArray, List.getElem_cons_zero, List.getElem_cons_succ, List.setIfInBounds_toArray, List.set_cons_zero, List.set_cons_succ]
  have hR4 := hR1.below hW4 hsW
  have x0 := hR4.cell 0
  have f0 := hR4.frozen 0
  have x1 := hR4.cell 1
  have f1 := hR4.frozen 1
  have x2 := hR4.cell 2
  have f2 := hR4.frozen 2
  have x3 := hR4.cell 3
  have f3 := hR4.frozen 3
  have x4 := hR4.cell 4
  have f4 := hR4.frozen 4
  have x5 := hR4.cell 5
  have f5 := hR4.frozen 5
  have x6 := hR4.cell 6
  have f6 := hR4.frozen 6
  have x7 := hR4.cell 7
  have f7 := hR4.frozen 7
  have x8 := hR4.cell 8
  have f8 := hR4.frozen 8
  have x9 := hR4.cell 9
  have f9 := hR4.frozen 9
  have xl := hR4.lt
  obtain ⟨V, hVe⟩ : ∃ V, putCs w4 (w.heap.size + 1) 0 [.int .i64 dk, .string dn, .string dof, .int .i64 dv, .int .i64 k2, .string p2, .string n2, .slice A2 m2 c2, .slice B2 l2 d2, .slice Ag fs.length cg] = V := ⟨_, rfl⟩
  have hVg : Gr (fun x => x = w.heap.size + 1) w4 V := hVe ▸ putCs_gr _ _ 0 w4
  have hVb : Blk V (w.heap.size + 1) 33 #[.int .i64 dk, .string dn, .string dof, .int .i64 dv, .int .i64 k2, .string p2, .string n2, .slice A2 m2 c2, .slice B2 l2 d2, .slice Ag fs.length cg] := hVe ▸ putCs_blk0 (vs := [.int .i64 dk, .string dn, .string dof, .int .i64 dv, .int .i64 k2, .string p2, .string n2, .slice A2 m2 c2, .slice B2 l2 d2, .slice Ag fs.length cg]) hR4 rfl
  have hVw : Below w.heap.size w V := hB4.trans (hVg.belowN hB4.size (fun k hk e => by have e2 : k = w.heap.size + 1 := e; omega))
  have hVk : Blk V w.heap.size 33 #[.int .i64 dk, .string dn, .string dof, .int .i64 dv, .int .i64 k1, .string p1, .string n1', .slice A1 m1 c1, .slice B1 l1 d1, .slice Af fs.length cf] := (hVg.block _ (hK1.below hW4 hK1.lt).lt (fun e => by have : w.heap.size = w.heap.size + 1 := e; omega)).trans (hK1.below hW4 hK1.lt)
  refine wpAnyH_one (i := 17) (by kernel_rfl) rfl rfl (op_skip (w' := V) (by rw [← hVe]; simp only [putCs]; unfold execOp; go_simp) (And.intro ⟨hVw, hVk⟩ ?_))
  simp only [Act.put, List.getElem_toArray, List.getElem_cons_zero, List.getElem_cons_succ, List.setIfInBounds_toArray, List.set_cons_zero, List.set_cons_succ]
  refine wpAnyH_done (by kernel_rfl) ?_ _
  have HVW := Lib.hid hVw
  have HT := Lib.hid (RT_keeps.clr (F' := fun q => w.heap.size ≤ q) (RT.bel hr2 hb4) hVg (fun k hk e => by have h1 : w2.heap.size ≤ k := hk; have h2 := hW2.size; have e2 : k = w.heap.size + 1 := e; omega) (fun k hk => by have h1 : w2.heap.size ≤ k := hk; have h2 := hB2.size; show w.heap.size ≤ k; omega))
  have HF := Lib.hid ((hs2.clr RFi_keeps hVg (fun k hk e => by have h1 : w3.heap.size ≤ k := hk; have h2 := hW3.size; have e2 : k = w.heap.size + 1 := e; omega)).more (F' := fun q => w.heap.size ≤ q) RFi_keeps (fun k hk => by have h1 : w3.heap.size ≤ k := hk; have h2 := hB3.size; show w.heap.size ≤ k; omega))
  have y0 := hVb.cell 0
  have y1 := hVb.cell 1
  have y2 := hVb.cell 2
  have y3 := hVb.cell 3
  have y4 := hVb.cell 4
  have y5 := hVb.cell 5
  have y6 := hVb.cell 6
  have y7 := hVb.cell 7
  have y8 := hVb.cell 8
  have y9 := hVb.cell 9
  have yl := hVb.lt
  clear hVe hVg hVb hVw hVk x0 f0 x1 f1 x2 f2 x3 f3 x4 f4 x5 f5 x6 f6 x7 f7 x8 f8 x9 f9 hR4 hr2 hs2 hb1 hb2 hb3 hb4 hW0 hW1 hW2 hW3 hW4 hB1 hB2 hB3 hB4 hS0 hS1 hK1 hR1
  go_wp2
  exact bodyPost_ret (v := .agg #[.int .i64 dk, .string dn, .string dof, .int .i64 dv, .int .i64 k2, .string p2, .string n2, .slice A2 m2 c2, .slice B2 l2 d2, .slice Ag fs.length cg]) (by simp [results, Try.results42, go_sem, y0, y1, y2, y3, y4, y5, y6, y7, y8, y9]) rfl ⟨⟨_, _, _, _, _, _, _, _, _, _, _, rfl, ⟨_, _, _, rfl, HT.out, HF.out⟩⟩, HVW.out⟩
set_option maxRecDepth 100000 in
set_option maxHeartbeats 4000000 in
theorem kfind_any (us : List Un) (hok : ∀ u ∈ us, u.ok 140737488355328) (hcn : ∀ u ∈ us, u.cnt ≤ 2000) (p n : ByteArray) (hlen : us.length ≤ 140737488355328) (w : World) (F : Nat → Prop) (A : Option Addr) (c : Nat) (hr : SlG 4 RUn w F A us) :
    Calls Try.prog 19 #[.slice A us.length c, .string p, .string n] w fun e w' => (∃ vs : List Value, e = .returned (.tuple #[.agg vs.toArray, .bool (fndP us p n).isSome]) ∧ DlV (fun _ => True) ((fndP us p n).getD dlZ) w' vs) ∧ Below w.heap.size w w' := by
  have hg := dl_good hok hcn p n
  have hb1 := ((Below.refl _ w).alloc (Nat.le_refl _) (.cells #[.int .i64 0, .string ⟨#[]⟩, .string ⟨#[]⟩, .int .i64 0, .int .i64 0, .string ⟨#[]⟩, .string ⟨#[]⟩, .slice none 0 0, .slice none 0 0, .slice none 0 0] 33))
  have HC := Lib.hid (find_any us hok p n hlen (w.alloc (.cells #[.int .i64 0, .string ⟨#[]⟩, .string ⟨#[]⟩, .int .i64 0, .int .i64 0, .string ⟨#[]⟩, .string ⟨#[]⟩, .slice none 0 0, .slice none 0 0, .slice none 0 0] 33)) (fun k => k < w.heap.size) A c ((hr.low RUn_keeps).bel RUn_keeps hb1) (fun k h => Nat.lt_of_lt_of_le h hb1.size))
  generalize (fndP us p n).isSome = b at HC ⊢
  generalize (fndP us p n).getD dlZ = d at HC hg ⊢
  obtain ⟨hgo, hgc⟩ := hg
  have HD := Lib.hid (fun w' F' vs h => cdecl_any d hgc hgo w' F' vs h)
  have HB1 := Lib.hid hb1
  have HK := Lib.hid (Blk.new w 33 #[.int .i64 0, .string ⟨#[]⟩, .string ⟨#[]⟩, .int .i64 0, .int .i64 0, .string ⟨#[]⟩, .string ⟨#[]⟩, .slice none 0 0, .slice none 0 0, .slice none 0 0])
  clear hr hb1 hgo hgc
  go_enter Try.func19, Try.ntmps19
  go_wp2_with (first | (go_at_call 41; refine HC.out.mono ?_; rintro e w5 ⟨⟨vs, rfl, hv⟩, hb5⟩; obtain ⟨dk, dn, dof, dv, dt, fs⟩ := d; have hv2 := hv; obtain ⟨tv, Af, cf, rfl, hrt, hfs⟩ := hv; dsimp only at hrt hfs; obtain ⟨k1, p1, n1', A1, m1, c1, B1, l1, d1, rfl⟩ := hrt.shape; simp only [tyC, List.cons_append, List.nil_append] at hv2 ⊢; have HB5 := Lib.hid hb5; have HD5 := Lib.hid (HD.out _ _ _ (RDl.bel hv2 ((Below.refl _ w5).alloc (Nat.le_refl _) (.cells #[.int .i64 dk, .string dn, .string dof, .int .i64 dv, .int .i64 k1, .string p1, .string n1', .slice A1 m1 c1, .slice B1 l1 d1, .slice Af fs.length cf] 33)))); clear hb5 hrt hfs hv2) | (go_at_call 42; refine HD5.out.mono ?_; rintro e w6 ⟨⟨k2, p2, n2, A2, m2, c2, B2, l2, d2, Ag, cg, rfl, hd6⟩, hb6⟩; dsimp only at hd6 ⊢; have hw6 := HB1.out.trans ((HB5.out.trans (((Below.refl _ w5).alloc (Nat.le_refl _) (.cells #[.int .i64 dk, .string dn, .string dof, .int .i64 dv, .int .i64 k1, .string p1, .string n1', .slice A1 m1 c1, .slice B1 l1 d1, .slice Af fs.length cf] 33)).trans (hb6.mono (by simp)) |>.mono HB5.out.size)).mono HB1.out.size); have HW6 := Lib.hid hw6; have hk6 := (HK.out.bel2 HB5.out).bel2 (((Below.refl _ w5).alloc (Nat.le_refl _) (.cells #[.int .i64 dk, .string dn, .string dof, .int .i64 dv, .int .i64 k1, .string p1, .string n1', .slice A1 m1 c1, .slice B1 l1 d1, .slice Af fs.length cf] 33)).trans (hb6.mono (by simp))); have mm0 := hk6.cell 0; have mf0 := hk6.frozen 0; have mm1 := hk6.cell 1; have mf1 := hk6.frozen 1; have mm2 := hk6.cell 2; have mf2 := hk6.frozen 2; have mm3 := hk6.cell 3; have mf3 := hk6.frozen 3; have mm4 := hk6.cell 4; have mf4 := hk6.frozen 4; have mm5 := hk6.cell 5; have mf5 := hk6.frozen 5; have mm6 := hk6.cell 6; have mf6 := hk6.frozen 6; have mm7 := hk6.cell 7; have mf7 := hk6.frozen 7; have mm8 := hk6.cell 8; have mf8 := hk6.frozen 8; have mm9 := hk6.cell 9; have mf9 := hk6.frozen 9; have ml := hk6.lt; have HK6 := Lib.hid hk6; have HD6 := Lib.hid hd6; have HL6 := Lib.hid (show w.heap.size < (w5.alloc (.cells #[.int .i64 dk, .string dn, .string dof, .int .i64 dv, .int .i64 k1, .string p1, .string n1', .slice A1 m1 c1, .slice B1 l1 d1, .slice Af fs.length cf] 33)).heap.size by have h1 := HB5.out.size; simp at h1 ⊢; omega); clear hb6 hw6 hk6 hd6))
  have hV := putCs_blk0 (vs := [.int .i64 dk, .string dn, .string dof, .int .i64 dv, .int .i64 k2, .string p2, .string n2, .slice A2 m2 c2, .slice B2 l2 d2, .slice Ag fs.length cg]) HK6.out rfl
  have hVg : Below w.heap.size w (putCs w6 w.heap.size 0 [.int .i64 dk, .string dn, .string dof, .int .i64 dv, .int .i64 k2, .string p2, .string n2, .slice A2 m2 c2, .slice B2 l2 d2, .slice Ag fs.length cg]) := HW6.out.trans ((putCs_gr w.heap.size [.int .i64 dk, .string dn, .string dof, .int .i64 dv, .int .i64 k2, .string p2, .string n2, .slice A2 m2 c2, .slice B2 l2 d2, .slice Ag fs.length cg] 0 w6).belowN HW6.out.size (fun k hk e => by have e2 : k = w.heap.size := e; omega))
  have HV := Lib.hid hVg
  have HVR := Lib.hid (show DlV (fun _ => True) ⟨dk, dn, dof, dv, dt, fs⟩ (putCs w6 w.heap.size 0 [.int .i64 dk, .string dn, .string dof, .int .i64 dv, .int .i64 k2, .string p2, .string n2, .slice A2 m2 c2, .slice B2 l2 d2, .slice Ag fs.length cg]) [.int .i64 dk, .string dn, .string dof, .int .i64 dv, .int .i64 k2, .string p2, .string n2, .slice A2 m2 c2, .slice B2 l2 d2, .slice Ag fs.length cg] from RDl_keeps.clr HD6.out (putCs_gr _ _ 0 w6) (fun k hk e => by have h1 : (w5.alloc (.cells #[.int .i64 dk, .string dn, .string dof, .int .i64 dv, .int .i64 k1, .string p1, .string n1', .slice A1 m1 c1, .slice B1 l1 d1, .slice Af fs.length cf] 33)).heap.size ≤ k := hk; have h2 := HL6.out; omega) (fun _ _ => trivial))
  have y0 := hV.cell 0
  have y1 := hV.cell 1
  have y2 := hV.cell 2
  have y3 := hV.cell 3
  have y4 := hV.cell 4
  have y5 := hV.cell 5
  have y6 := hV.cell 6
  have y7 := hV.cell 7
  have y8 := hV.cell 8
  have y9 := hV.cell 9
  clear hV hVg mm0 mf0 mm1 mf1 mm2 mf2 mm3 mf3 mm4 mf4 mm5 mf5 mm6 mf6 mm7 mf7 mm8 mf8 mm9 mf9
  show bodyPost _ _ _ _ _ (putCs w6 w.heap.size 0 [.int .i64 dk, .string dn, .string dof, .int .i64 dv, .int .i64 k2, .string p2, .string n2, .slice A2 m2 c2, .slice B2 l2 d2, .slice Ag fs.length cg])
  generalize putCs w6 w.heap.size 0 [.int .i64 dk, .string dn, .string dof, .int .i64 dv, .int .i64 k2, .string p2, .string n2, .slice A2 m2 c2, .slice B2 l2 d2, .slice Ag fs.length cg] = V at HV HVR y0 y1 y2 y3 y4 y5 y6 y7 y8 y9 ⊢
  exact bodyPost_ret (v := .tuple #[.agg #[.int .i64 dk, .string dn, .string dof, .int .i64 dv, .int .i64 k2, .string p2, .string n2, .slice A2 m2 c2, .slice B2 l2 d2, .slice Ag fs.length cg], .bool b]) (by simp [results, Try.results19, go_sem, y0, y1, y2, y3, y4, y5, y6, y7, y8, y9]) rfl ⟨⟨_, rfl, HVR.out⟩, HV.out⟩
end Go.Proofs.Ytkgilhdoahkakaa
