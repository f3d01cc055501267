/-
  mortiseref7's SameFields and SameDecl, on what is the same: walks.
-/
import Derived.Test.YtcfgjfahjaimiaaUg
namespace Go.Proofs.Ytcfgjfahjaimiaa
open Go.RowKit
set_option linter.unusedVariables false
set_option linter.unusedSimpArgs false

set_option maxRecDepth 100000 in
set_option maxHeartbeats 4000000 in
theorem rsamef_any (l : List Fi) (hc : sumL (fun f => f.ty.count) l ≤ 2000) (hl : l.length ≤ 2000) (w : World) (F F' : Nat → Prop) (A B : Option Addr) (c c' : Nat) (ha : SlG 6 RFi w F A l) (hb : SlG 6 RFi w F' B l) :
    Calls Try.prog 12 #[.slice A l.length c, .slice B l.length c'] w (TruthP w true) := by
  have HA := Lib.hid ha
  have HB := Lib.hid hb
  have HC := Lib.hid hc
  have n0 : (0 : Int) ≤ (l.length : Int) := by omega
  have n1 : (l.length : Int) ≤ 2000 := by omega
  clear ha hb hc
  go_enter Try.func12, Try.ntmps12
  go_wp2
  go_loopg [5] l.length (fun gk v5 wr => ∃ (j : Nat), j + gk = l.length ∧ v5 = .int .i64 j ∧ Below w.heap.size w wr)
  case atStart => exact ⟨0, by simp, rfl, Below.refl _ _⟩
  case round =>
    obtain ⟨j, hj, rfl, hbw⟩ := hrel
    have HBW := Lib.hid hbw
    cases gk with
    | zero =>
      obtain rfl : j = l.length := by omega
      clear hj hbw
      go_wp2
      go_ret
      exact ⟨rfl, HBW.out⟩
    | succ f =>
      have hjl : j < l.length := by omega
      obtain ⟨u, hu⟩ : ∃ u, l[j]? = some u := ⟨_, List.getElem?_eq_getElem hjl⟩
      have j1 : (j : Int) < (l.length : Int) := by omega
      have j0 : (0 : Int) ≤ (j : Int) := by omega
      have j2 : (j : Int) ≤ 2000 := by omega
      have hcu : u.ty.count ≤ 2000000 := by
        have := sumL_kid (fun f : Fi => f.ty.count) l j u hu
        have h2 := HC.out
        omega
      obtain ⟨g, o, vs, rfl, _, hgl, hrep, hat⟩ := (HA.out.bel RFi_keeps hbw).at_ RFi_sized hu
      obtain ⟨g', o', vs', rfl, _, hgl', hrep', hat'⟩ := (HB.out.bel RFi_keeps hbw).at_ RFi_sized hu
      obtain ⟨tv, rfl, hrt⟩ := hrep
      obtain ⟨tv', rfl, hrt'⟩ := hrep'
      have HI := Lib.hid (fun w' (h : Below wr.heap.size wr w') => rsame_all 2000000 (Nat.le_refl _) u.ty u.ty hcu w' _ _ _ _ (hrt.bel h) (hrt'.bel h))
      rw [same_refl] at HI
      obtain ⟨k1, p1, n1', A1, m1, c1, B1, l1, d1, rfl⟩ := hrt.shape
      obtain ⟨k2, p2, n2', A2, m2, c2, B2, l2, d2, rfl⟩ := hrt'.shape
      simp only [tyC] at hat hat' HI
      have q0 := hat 0 _ rfl
      have r0 := hat' 0 _ rfl
      have q1 := hat 1 _ rfl
      have r1 := hat' 1 _ rfl
      have q2 := hat 2 _ rfl
      have r2 := hat' 2 _ rfl
      have q3 := hat 3 _ rfl
      have r3 := hat' 3 _ rfl
      have q4 := hat 4 _ rfl
      have r4 := hat' 4 _ rfl
      have q5 := hat 5 _ rfl
      have r5 := hat' 5 _ rfl
      simp only [Nat.add_zero] at q0 r0
      obtain ⟨nm, hnm⟩ : ∃ nm, u.name = nm := ⟨_, rfl⟩
      rw [hnm] at q0 r0
      clear hu hat hat' hrt hrt' hnm hbw
      go_wp2
      refine wp_region_held_drew (S := fun V => Below wr.heap.size wr V) (by kernel_rfl) (Below.refl _ wr).drew (fun hS0 => ?_)
      refine wpAnyH_take (i := 0) (v := .slice (some ⟨g, o, none⟩) l.length c) rfl (by kernel_rfl) (by kernel_rfl) (by kernel_rfl) (fun _ _ _ h => h) (Or.inl ⟨rfl, fun w' hS => by (unfold execOp; go_simp)⟩) hS0 ?_
      simp only [Act.put, List.getElem_toArray, List.getElem_cons_zero, List.getElem_cons_succ, List.setIfInBounds_toArray, List.set_cons_zero, List.set_cons_succ]
      refine wpAnyH_take (i := 1) (v := .int .i64 j) rfl (by kernel_rfl) (by kernel_rfl) (by kernel_rfl) (fun _ _ _ h => h) (Or.inl ⟨rfl, fun w' hS => by (unfold execOp; go_simp)⟩) hS0 ?_
      simp only [Act.put, List.getElem_toArray, List.getElem_cons_zero, List.getElem_cons_succ, List.setIfInBounds_toArray, List.set_cons_zero, List.set_cons_succ]
      refine wpAnyH_take (i := 2) (v := .pointer (some ⟨g, o + j * 6, none⟩)) rfl (by kernel_rfl) (by kernel_rfl) (by kernel_rfl) (fun _ _ _ h => h) (Or.inl ⟨rfl, fun w' hS => by (unfold execOp; go_simp)⟩) hS0 ?_
      simp only [Act.put, List.getElem_toArray, List.getElem_cons_zero, List.getElem_cons_succ, List.setIfInBounds_toArray, List.set_cons_zero, List.set_cons_succ]
      refine wpAnyH_take (i := 3) (v := .pointer (some ⟨g, o + j * 6, none⟩)) rfl (by kernel_rfl) (by kernel_rfl) (by kernel_rfl) (fun _ _ _ h => h) (Or.inl ⟨rfl, fun w' hS => by (unfold execOp; go_simp)⟩) hS0 ?_
      simp only [Act.put, List.getElem_toArray, List.getElem_cons_zero, List.getElem_cons_succ, List.setIfInBounds_toArray, List.set_cons_zero, List.set_cons_succ]
      refine wpAnyH_take (i := 4) (v := .string nm) rfl (by kernel_rfl) (by kernel_rfl) (by kernel_rfl) (fun _ _ _ h => h) (Or.inl ⟨rfl, fun w' hS => by (have z0 := (hS.cell (p := ⟨g, _, none⟩) hgl).trans q0; unfold execOp; go_simp)⟩) hS0 ?_
      simp only [Act.put, List.getElem_toArray, List.getElem_cons_zero, List.getElem_cons_succ, List.setIfInBounds_toArray, List.set_cons_zero, List.set_cons_succ]
      refine wpAnyH_take (i := 5) (v := (.slice (some ⟨g', o', none⟩) l.length c')) rfl (by kernel_rfl) (by kernel_rfl) (by kernel_rfl) (fun _ _ _ h => h) (Or.inl ⟨rfl, fun w' hS => by (unfold execOp; go_simp)⟩) hS0 ?_
      simp only [Act.put, List.getElem_toArray, List.getElem_cons_zero, List.getElem_cons_succ, List.setIfInBounds_toArray, List.set_cons_zero, List.set_cons_succ]
      refine wpAnyH_take (i := 6) (v := .int .i64 j) rfl (by kernel_rfl) (by kernel_rfl) (by kernel_rfl) (fun _ _ _ h => h) (Or.inl ⟨rfl, fun w' hS => by (unfold execOp; go_simp)⟩) hS0 ?_
      simp only [Act.put, List.getElem_toArray, List.getElem_cons_zero, List.getElem_cons_succ, List.setIfInBounds_toArray, List.set_cons_zero, List.set_cons_succ]
      refine wpAnyH_take (i := 7) (v := (.pointer (some ⟨g', o' + j * 6, none⟩))) rfl (by kernel_rfl) (by kernel_rfl) (by kernel_rfl) (fun _ _ _ h => h) (Or.inl ⟨rfl, fun w' hS => by (unfold execOp; go_simp)⟩) hS0 ?_
      simp only [Act.put, List.getElem_toArray, List.getElem_cons_zero, List.getElem_cons_succ, List.setIfInBounds_toArray, List.set_cons_zero, List.set_cons_succ]
      refine wpAnyH_take (i := 8) (v := (.pointer (some ⟨g', o' + j * 6, none⟩))) rfl (by kernel_rfl) (by kernel_rfl) (by kernel_rfl) (fun _ _ _ h => h) (Or.inl ⟨rfl, fun w' hS => by (unfold execOp; go_simp)⟩) hS0 ?_
      simp only [Act.put, List.getElem_toArray, List.getElem_cons_zero, List.getElem_cons_succ, List.setIfInBounds_toArray, List.set_cons_zero, List.set_cons_succ]
      refine wpAnyH_take (i := 9) (v := .string nm) rfl (by kernel_rfl) (by kernel_rfl) (by kernel_rfl) (fun _ _ _ h => h) (Or.inl ⟨rfl, fun w' hS => by (have z0 := (hS.cell (p := ⟨g', _, none⟩) hgl').trans r0; unfold execOp; go_simp)⟩) hS0 ?_
      simp only [Act.put, List.getElem_toArray, List.getElem_cons_zero, List.getElem_cons_succ, List.setIfInBounds_toArray, List.set_cons_zero, List.set_cons_succ]
      refine wpAnyH_take (i := 10) (v := .bool false) rfl (by kernel_rfl) (by kernel_rfl) (by kernel_rfl) (fun _ _ _ h => h) (Or.inl ⟨rfl, fun w' hS => by (unfold execOp; go_simp)⟩) hS0 ?_
      simp only [Act.put, List.getElem_toArray, List.getElem_cons_zero, List.getElem_cons_succ, List.setIfInBounds_toArray, List.set_cons_zero, List.set_cons_succ]
      refine wpAnyH_take (i := 11) (v := .bool false) rfl (by kernel_rfl) (by kernel_rfl) (by kernel_rfl) (fun _ _ _ h => h) (Or.inl ⟨rfl, fun w' hS => by (unfold execOp; go_simp)⟩) hS0 ?_
      simp only [Act.put, List.getElem_toArray, List.getElem_cons_zero, List.getElem_cons_succ, List.setIfInBounds_toArray, List.set_cons_zero, List.set_cons_succ]
      refine wpAnyH_take (i := 12) (v := .slice (some ⟨g, o, none⟩) l.length c) rfl (by kernel_rfl) (by kernel_rfl) (by kernel_rfl) (fun _ _ _ h => h) (Or.inl ⟨by kernel_rfl, fun w' hS => by (unfold execOp; go_simp)⟩) hS0 ?_
      simp only [Act.put, List.getElem_toArray, List.getElem_cons_zero, List.getElem_cons_succ, List.setIfInBounds_toArray, List.set_cons_zero, List.set_cons_succ]
      refine wpAnyH_take (i := 13) (v := .int .i64 j) rfl (by kernel_rfl) (by kernel_rfl) (by kernel_rfl) (fun _ _ _ h => h) (Or.inl ⟨by kernel_rfl, fun w' hS => by (unfold execOp; go_simp)⟩) hS0 ?_
      simp only [Act.put, List.getElem_toArray, List.getElem_cons_zero, List.getElem_cons_succ, List.setIfInBounds_toArray, List.set_cons_zero, List.set_cons_succ]
      refine wpAnyH_take (i := 14) (v := .pointer (some ⟨g, o + j * 6, none⟩)) rfl (by kernel_rfl) (by kernel_rfl) (by kernel_rfl) (fun _ _ _ h => h) (Or.inl ⟨by kernel_rfl, fun w' hS => by (unfold execOp; go_simp)⟩) hS0 ?_
      simp only [Act.put, List.getElem_toArray, List.getElem_cons_zero, List.getElem_cons_succ, List.setIfInBounds_toArray, List.set_cons_zero, List.set_cons_succ]
      refine wpAnyH_take (i := 15) (v := .pointer (some ⟨g, o + j * 6 + 1, none⟩)) rfl (by kernel_rfl) (by kernel_rfl) (by kernel_rfl) (fun _ _ _ h => h) (Or.inl ⟨by kernel_rfl, fun w' hS => by (unfold execOp; go_simp)⟩) hS0 ?_
      simp only [Act.put, List.getElem_toArray, List.getElem_cons_zero, List.getElem_cons_succ, List.setIfInBounds_toArray, List.set_cons_zero, List.set_cons_succ]
      refine wpAnyH_take (i := 16) (v := .agg #[.int .i64 k1, .string p1, .string n1', .slice A1 m1 c1, .slice B1 l1 d1]) rfl (by kernel_rfl) (by kernel_rfl) (by kernel_rfl) (fun _ _ _ h => h) (Or.inl ⟨by kernel_rfl, fun w' hS => by (have z1 := (hS.cell (p := ⟨g, _, none⟩) hgl).trans q1; have z2 := (hS.cell (p := ⟨g, _, none⟩) hgl).trans q2; have z3 := (hS.cell (p := ⟨g, _, none⟩) hgl).trans q3; have z4 := (hS.cell (p := ⟨g, _, none⟩) hgl).trans q4; have z5 := (hS.cell (p := ⟨g, _, none⟩) hgl).trans q5; unfold execOp; go_simp)⟩) hS0 ?_
      simp only [Act.put, List.getElem_toArray, List.getElem_cons_zero, List.getElem_cons_succ, List.setIfInBounds_toArray, List.set_cons_zero, List.set_cons_succ]
      refine wpAnyH_take (i := 17) (v := (.slice (some ⟨g', o', none⟩) l.length c')) rfl (by kernel_rfl) (by kernel_rfl) (by kernel_rfl) (fun _ _ _ h => h) (Or.inl ⟨by kernel_rfl, fun w' hS => by (unfold execOp; go_simp)⟩) hS0 ?_
      simp only [Act.put, List.getElem_toArray, List.getElem_cons_zero, List.getElem_cons_succ, List.setIfInBounds_toArray, List.set_cons_zero, List.set_cons_succ]
      refine wpAnyH_take (i := 18) (v := .int .i64 j) rfl (by kernel_rfl) (by kernel_rfl) (by kernel_rfl) (fun _ _ _ h => h) (Or.inl ⟨by kernel_rfl, fun w' hS => by (unfold execOp; go_simp)⟩) hS0 ?_
      simp only [Act.put, List.getElem_toArray, List.getElem_cons_zero, List.getElem_cons_succ, List.setIfInBounds_toArray, List.set_cons_zero, List.set_cons_succ]
      refine wpAnyH_take (i := 19) (v := (.pointer (some ⟨g', o' + j * 6, none⟩))) rfl (by kernel_rfl) (by kernel_rfl) (by kernel_rfl) (fun _ _ _ h => h) (Or.inl ⟨by kernel_rfl, fun w' hS => by (unfold execOp; go_simp)⟩) hS0 ?_
      simp only [Act.put, List.getElem_toArray, List.getElem_cons_zero, List.getElem_cons_succ, List.setIfInBounds_toArray, List.set_cons_zero, List.set_cons_succ]
      refine wpAnyH_take (i := 20) (v := (.pointer (some ⟨g', o' + j * 6 + 1, none⟩))) rfl (by kernel_rfl) (by kernel_rfl) (by kernel_rfl) (fun _ _ _ h => h) (Or.inl ⟨by kernel_rfl, fun w' hS => by (unfold execOp; go_simp)⟩) hS0 ?_
      simp only [Act.put, List.getElem_toArray, List.getElem_cons_zero, List.getElem_cons_succ, List.setIfInBounds_toArray, List.set_cons_zero, List.set_cons_succ]
      refine wpAnyH_take (i := 21) (v := .agg #[.int .i64 k2, .string p2, .string n2', .slice A2 m2 c2, .slice B2 l2 d2]) rfl (by kernel_rfl) (by kernel_rfl) (by kernel_rfl) (fun _ _ _ h => h) (Or.inl ⟨by kernel_rfl, fun w' hS => by (have z1 := (hS.cell (p := ⟨g', _, none⟩) hgl').trans r1; have z2 := (hS.cell (p := ⟨g', _, none⟩) hgl').trans r2; have z3 := (hS.cell (p := ⟨g', _, none⟩) hgl').trans r3; have z4 := (hS.cell (p := ⟨g', _, none⟩) hgl').trans r4; have z5 := (hS.cell (p := ⟨g', _, none⟩) hgl').trans r5; unfold execOp; go_simp)⟩) hS0 ?_
      simp only [Act.put, List.getElem_toArray, List.getElem_cons_zero, List.getElem_cons_succ, List.setIfInBounds_toArray, List.set_cons_zero, List.set_cons_succ]
      refine wpAnyH_oneG (i := 22) (by kernel_rfl) rfl (by kernel_rfl) (op_call (args := #[.agg #[.int .i64 k1, .string p1, .string n1', .slice A1 m1 c1, .slice B1 l1 d1], .agg #[.int .i64 k2, .string p2, .string n2', .slice A2 m2 c2, .slice B2 l2 d2]]) (f := 27) (by unfold execOp; go_simp) ((HI.out _ hS0).mono ?_))
      rintro e w11 ⟨rfl, hb11⟩
      have hS1 : Below wr.heap.size wr w11 := hS0.trans (hb11.mono hS0.size)
      refine And.intro hS1 ?_
      simp only [Act.put, List.getElem_toArray, List.getElem_cons_zero, List.getElem_cons_succ, List.setIfInBounds_toArray, List.set_cons_zero, List.set_cons_succ]
      refine wpAnyH_take (i := 23) (v := .bool false) rfl (by kernel_rfl) (by kernel_rfl) (by kernel_rfl) (fun _ _ _ h => h) (Or.inl ⟨by kernel_rfl, fun w' hS => by (unfold execOp; go_simp)⟩) hS1 ?_
      simp only [Act.put, List.getElem_toArray, List.getElem_cons_zero, List.getElem_cons_succ, List.setIfInBounds_toArray, List.set_cons_zero, List.set_cons_succ]
      refine wpAnyH_take (i := 24) (v := .bool false) rfl (by kernel_rfl) (by kernel_rfl) (by kernel_rfl) (fun _ _ _ h => h) (Or.inl ⟨rfl, fun w' hS => by (unfold execOp; go_simp)⟩) hS1 ?_
      simp only [Act.put, List.getElem_toArray, List.getElem_cons_zero, List.getElem_cons_succ, List.setIfInBounds_toArray, List.set_cons_zero, List.set_cons_succ]
      refine wpAnyH_done (by kernel_rfl) ?_ _
      have HX := Lib.hid (HBW.out.trans (hS1.mono HBW.out.size))
      clear hS0 hS1 hb11
      go_wp2
      go_roundg f
      case measure => omega
      case rel => exact ⟨j + 1, by omega, by go_num, HX.out⟩
end Go.Proofs.Ytcfgjfahjaimiaa
