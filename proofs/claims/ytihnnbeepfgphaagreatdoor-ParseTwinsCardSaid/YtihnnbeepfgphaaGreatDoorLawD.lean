/-
  Two trees that are one: the document's test: a walk.
-/
import Derived.Test.YtihnnbeepfgphaaGreatDoorLawP
namespace Go.Proofs.YtihnnbeepfgphaaGreatDoor
open Go.RowKit
set_option linter.unusedVariables false
set_option linter.unusedSimpArgs false

set_option maxRecDepth 100000 in
set_option maxHeartbeats 4000000 in
theorem same_any : ∀ (N : Nat) (t : Tr), t.nodes ≤ N → N ≤ 20000 → ∀ (w : World) (F F' : Nat → Prop) (vs us : List Value), Rep w F t vs → Rep w F' t us →
    Calls Tryz.prog 17 #[.agg vs.toArray, .agg us.toArray] w fun e w' => e = .returned (.bool true) ∧ Below w.heap.size w w'
  | 0, t, ht, _, _, _, _, _, _, _, _ => by have := nodes_pos t; omega
  | N + 1, .mk k op m p tx a ks, ht, hN, w, F, F', vs, us, hr, hr' => by
    have ih := same_any N
    obtain ⟨A, c, rfl, hkids⟩ := hr.openL
    obtain ⟨A', c', rfl, hkids'⟩ := hr'.openL
    rw [nodes_mk] at ht
    have hln := len_nodes ks
    have HK := Lib.hid hkids
    have HK' := Lib.hid hkids'
    clear hr hkids hr' hkids'
    show Calls Tryz.prog 17 #[.agg #[.int .i64 k, .int .i64 op, .int .i64 m, .string (bs p), .string (bs tx), .int .i64 a, .slice A ks.length c], .agg #[.int .i64 k, .int .i64 op, .int .i64 m, .string (bs p), .string (bs tx), .int .i64 a, .slice A' ks.length c']] w _
    go_enter Tryz.func17, Tryz.ntmps17
    go_wp2
    go_loopg [5] ks.length (fun gk v5 wr => ∃ j : Nat, j + gk = ks.length ∧ v5 = .int .i64 j ∧ Below w.heap.size w wr ∧ Blk wr w.heap.size 28 #[.int .i64 k, .int .i64 op, .int .i64 m, .string (bs p), .string (bs tx), .int .i64 a, .slice A ks.length c] ∧ Blk wr (w.heap.size + 1) 28 #[.int .i64 k, .int .i64 op, .int .i64 m, .string (bs p), .string (bs tx), .int .i64 a, .slice A' ks.length c'])
    case atStart => exact ⟨0, by simp, rfl, ((Below.refl _ _).alloc (Nat.le_refl _) _).alloc (by simp) _, (Blk.new _ _ _).alloc _, Blk.new_at (by simp)⟩
    case round =>
      obtain ⟨j, hj, rfl, hb, hbx, hby⟩ := hrel
      have bx := hbx.cell 6
      have bz := hbx.lt
      have cx := hby.cell 6
      have cz := hby.lt
      cases gk with
      | zero =>
        obtain rfl : j = ks.length := by omega
        clear hj
        go_wp2
        go_ret
        exact ⟨rfl, hb⟩
      | succ f =>
        have hjl : j < ks.length := by omega
        obtain ⟨u, hu⟩ : ∃ u, ks[j] = u := ⟨_, rfl⟩
        have hkid : ks[j]? = some u := by rw [← hu]; exact List.getElem?_eq_getElem hjl
        obtain ⟨g, vs, rfl, hF, hgl, hrep, hat⟩ := HK.out j u hkid
        obtain ⟨g', us, rfl, hF', hgl', hrep', hat'⟩ := HK'.out j u hkid
        have hnk := nodes_kid ks j u hkid
        have HI := Lib.hid (show ∀ w', Below w.heap.size w w' → _ from fun w' hb' => ih u (by omega) (by omega) w' F F' vs us (hrep.bel hb') (hrep'.bel hb'))
        obtain ⟨k1, op1, m1, p1, t1, a1, n1, c1, A1, rfl⟩ := hrep.shape
        obtain ⟨k2, op2, m2, p2, t2, a2, n2, c2, A2, rfl⟩ := hrep'.shape
        have q0 := hat 0 _ rfl
        have q1 := hat 1 _ rfl
        have q2 := hat 2 _ rfl
        have q3 := hat 3 _ rfl
        have q4 := hat 4 _ rfl
        have q5 := hat 5 _ rfl
        have q6 := hat 6 _ rfl
        have r0 := hat' 0 _ rfl
        have r1 := hat' 1 _ rfl
        have r2 := hat' 2 _ rfl
        have r3 := hat' 3 _ rfl
        have r4 := hat' 4 _ rfl
        have r5 := hat' 5 _ rfl
        have r6 := hat' 6 _ rfl
        have j0 : (0 : Int) ≤ (j : Int) := by omega
        have j1 : (j : Int) < (ks.length : Int) := by omega
        have j2 : (j : Int) ≤ 20000 := by omega
        clear hu hkid hat hat' hrep hrep' ih
        simp only [Nat.add_zero] at q0 r0
        go_wp2
        have HX := Lib.hid hbx
        have HY := Lib.hid hby
        refine wp_region_held_drew (S := fun W => Below w.heap.size w W ∧ Blk W w.heap.size 28 #[.int .i64 k, .int .i64 op, .int .i64 m, .string (bs p), .string (bs tx), .int .i64 a, .slice (some ⟨g, 0, none⟩) ks.length c] ∧ Blk W (w.heap.size + 1) 28 #[.int .i64 k, .int .i64 op, .int .i64 m, .string (bs p), .string (bs tx), .int .i64 a, .slice (some ⟨g', 0, none⟩) ks.length c']) (by kernel_rfl) ⟨hb.drew, hbx.drew, hby.drew⟩ (fun hS0 => ?_)
        refine wpAnyH_take (i := 0) (v := .pointer (some ⟨w.heap.size, 6, none⟩)) rfl (by kernel_rfl) (by kernel_rfl) (by kernel_rfl) (fun _ _ _ h => h) (Or.inl ⟨rfl, fun w' hS => by (unfold execOp; go_simp)⟩) hS0 ?_
        simp only [Act.put, List.getElem_toArray, List.getElem_cons_zero, List.getElem_cons_succ, List.setIfInBounds_toArray, List.set_cons_zero, List.set_cons_succ]
        refine wpAnyH_take (i := 1) (v := .slice (some ⟨g, 0, none⟩) ks.length c) rfl (by kernel_rfl) (by kernel_rfl) (by kernel_rfl) (fun _ _ _ h => h) (Or.inl ⟨rfl, fun w' hS => by (have z0 := hS.2.1.cell 6; have zl := hS.2.1.lt; unfold execOp; go_simp)⟩) hS0 ?_
        simp only [Act.put, List.getElem_toArray, List.getElem_cons_zero, List.getElem_cons_succ, List.setIfInBounds_toArray, List.set_cons_zero, List.set_cons_succ]
        refine wpAnyH_take (i := 2) (v := .int .i64 j) rfl (by kernel_rfl) (by kernel_rfl) (by kernel_rfl) (fun _ _ _ h => h) (Or.inl ⟨rfl, fun w' hS => by (unfold execOp; go_simp)⟩) hS0 ?_
        simp only [Act.put, List.getElem_toArray, List.getElem_cons_zero, List.getElem_cons_succ, List.setIfInBounds_toArray, List.set_cons_zero, List.set_cons_succ]
        refine wpAnyH_take (i := 3) (v := .pointer (some ⟨g, j * 7, none⟩)) rfl (by kernel_rfl) (by kernel_rfl) (by kernel_rfl) (fun _ _ _ h => h) (Or.inl ⟨rfl, fun w' hS => by (unfold execOp; go_simp)⟩) hS0 ?_
        simp only [Act.put, List.getElem_toArray, List.getElem_cons_zero, List.getElem_cons_succ, List.setIfInBounds_toArray, List.set_cons_zero, List.set_cons_succ]
        refine wpAnyH_take (i := 4) (v := .agg #[.int .i64 k1, .int .i64 op1, .int .i64 m1, .string (bs p1), .string (bs t1), .int .i64 a1, .slice A1 n1 c1]) rfl (by kernel_rfl) (by kernel_rfl) (by kernel_rfl) (fun _ _ _ h => h) (Or.inl ⟨rfl, fun w' hS => by (have y0 := (hS.1.cell (p := ⟨g, _, none⟩) hgl).trans q0; have y1 := (hS.1.cell (p := ⟨g, _, none⟩) hgl).trans q1; have y2 := (hS.1.cell (p := ⟨g, _, none⟩) hgl).trans q2; have y3 := (hS.1.cell (p := ⟨g, _, none⟩) hgl).trans q3; have y4 := (hS.1.cell (p := ⟨g, _, none⟩) hgl).trans q4; have y5 := (hS.1.cell (p := ⟨g, _, none⟩) hgl).trans q5; have y6 := (hS.1.cell (p := ⟨g, _, none⟩) hgl).trans q6; unfold execOp; go_simp)⟩) hS0 ?_
        simp only [Act.put, List.getElem_toArray, List.getElem_cons_zero, List.getElem_cons_succ, List.setIfInBounds_toArray, List.set_cons_zero, List.set_cons_succ]
        refine wpAnyH_take (i := 5) (v := .pointer (some ⟨w.heap.size + 1, 6, none⟩)) rfl (by kernel_rfl) (by kernel_rfl) (by kernel_rfl) (fun _ _ _ h => h) (Or.inl ⟨rfl, fun w' hS => by (unfold execOp; go_simp)⟩) hS0 ?_
        simp only [Act.put, List.getElem_toArray, List.getElem_cons_zero, List.getElem_cons_succ, List.setIfInBounds_toArray, List.set_cons_zero, List.set_cons_succ]
        refine wpAnyH_take (i := 6) (v := .slice (some ⟨g', 0, none⟩) ks.length c') rfl (by kernel_rfl) (by kernel_rfl) (by kernel_rfl) (fun _ _ _ h => h) (Or.inl ⟨rfl, fun w' hS => by (have z0 := hS.2.2.cell 6; have zl := hS.2.2.lt; unfold execOp; go_simp)⟩) hS0 ?_
        simp only [Act.put, List.getElem_toArray, List.getElem_cons_zero, List.getElem_cons_succ, List.setIfInBounds_toArray, List.set_cons_zero, List.set_cons_succ]
        refine wpAnyH_take (i := 7) (v := .int .i64 j) rfl (by kernel_rfl) (by kernel_rfl) (by kernel_rfl) (fun _ _ _ h => h) (Or.inl ⟨rfl, fun w' hS => by (unfold execOp; go_simp)⟩) hS0 ?_
        simp only [Act.put, List.getElem_toArray, List.getElem_cons_zero, List.getElem_cons_succ, List.setIfInBounds_toArray, List.set_cons_zero, List.set_cons_succ]
        refine wpAnyH_take (i := 8) (v := .pointer (some ⟨g', j * 7, none⟩)) rfl (by kernel_rfl) (by kernel_rfl) (by kernel_rfl) (fun _ _ _ h => h) (Or.inl ⟨rfl, fun w' hS => by (unfold execOp; go_simp)⟩) hS0 ?_
        simp only [Act.put, List.getElem_toArray, List.getElem_cons_zero, List.getElem_cons_succ, List.setIfInBounds_toArray, List.set_cons_zero, List.set_cons_succ]
        refine wpAnyH_take (i := 9) (v := .agg #[.int .i64 k2, .int .i64 op2, .int .i64 m2, .string (bs p2), .string (bs t2), .int .i64 a2, .slice A2 n2 c2]) rfl (by kernel_rfl) (by kernel_rfl) (by kernel_rfl) (fun _ _ _ h => h) (Or.inl ⟨rfl, fun w' hS => by (have y0 := (hS.1.cell (p := ⟨g', _, none⟩) hgl').trans r0; have y1 := (hS.1.cell (p := ⟨g', _, none⟩) hgl').trans r1; have y2 := (hS.1.cell (p := ⟨g', _, none⟩) hgl').trans r2; have y3 := (hS.1.cell (p := ⟨g', _, none⟩) hgl').trans r3; have y4 := (hS.1.cell (p := ⟨g', _, none⟩) hgl').trans r4; have y5 := (hS.1.cell (p := ⟨g', _, none⟩) hgl').trans r5; have y6 := (hS.1.cell (p := ⟨g', _, none⟩) hgl').trans r6; unfold execOp; go_simp)⟩) hS0 ?_
        simp only [Act.put, List.getElem_toArray, List.getElem_cons_zero, List.getElem_cons_succ, List.setIfInBounds_toArray, List.set_cons_zero, List.set_cons_succ]
        refine wpAnyH_one (i := 10) (by kernel_rfl) rfl rfl (op_call (args := #[.agg #[.int .i64 k1, .int .i64 op1, .int .i64 m1, .string (bs p1), .string (bs t1), .int .i64 a1, .slice A1 n1 c1], .agg #[.int .i64 k2, .int .i64 op2, .int .i64 m2, .string (bs p2), .string (bs t2), .int .i64 a2, .slice A2 n2 c2]])  (f := 17) (by unfold execOp; go_simp) ((HI.out _ hS0.1).mono ?_))
        rintro e w5 ⟨rfl, hb5⟩
        have hB5 := hS0.1.trans (hb5.mono hS0.1.size)
        have hX5 := hS0.2.1.bel hb5
        have hY5 := hS0.2.2.bel hb5
        refine And.intro ⟨hB5, hX5, hY5⟩ ?_
        simp only [Act.put, List.getElem_toArray, List.getElem_cons_zero, List.getElem_cons_succ, List.setIfInBounds_toArray, List.set_cons_zero, List.set_cons_succ]
        refine wpAnyH_one (i := 11) (by kernel_rfl) rfl rfl (op_val (v := .bool false) (by unfold execOp; go_simp) (And.intro ⟨hB5, hX5, hY5⟩ ?_))
        simp only [Act.put, List.getElem_toArray, List.getElem_cons_zero, List.getElem_cons_succ, List.setIfInBounds_toArray, List.set_cons_zero, List.set_cons_succ]
        refine wpAnyH_done (by kernel_rfl) ?_ _
        clear hS0
        go_wp2
        go_roundg f
        case measure => omega
        case rel => exact ⟨j + 1, by omega, by go_num, hB5, hX5, hY5⟩
end Go.Proofs.YtihnnbeepfgphaaGreatDoor
