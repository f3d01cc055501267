/-
  Which units are one, by the document: fields and functions: walks.
-/
import Derived.Test.YtnkojjkijkhlbaaSs
namespace Go.Proofs.Ytnkojjkijkhlbaa
open Go.RowKit
set_option linter.unusedVariables false
set_option linter.unusedSimpArgs false

set_option maxRecDepth 100000 in
set_option maxHeartbeats 8000000 in
theorem samF_any  : SamC 6 RFi 92 (fun l => l.length ≤ 140737488355328 ∧ ∀ f ∈ l, f.ty.count ≤ 2000000) (fun l => l.length ≤ 140737488355328) := by
  intro la lb hP hP2 w F F' A B c d ha hb b hbb
  obtain ⟨hla, hok⟩ := hP
  have HOK := Lib.hid hok
  clear hok
  have hlb := hP2
  clear hP2
  by_cases hl : la.length = lb.length
  case neg =>
    have hbf : b = false := iff_f hbb (fun e => hl (by rw [e]))
    subst hbf
    have hlbn : ((la.length : Int) != (lb.length : Int)) = true := by simp; omega
    clear hl hbb ha hb
    go_enter Try.func92, Try.ntmps92
    go_wp2
    go_ret
    exact ⟨rfl, Below.refl _ _⟩
  rw [← hl]
  have HA := Lib.hid ha
  have HB := Lib.hid hb
  have HL := Lib.hid hl
  have HBB := Lib.hid hbb
  have n0 : (0 : Int) ≤ (la.length : Int) := by omega
  have n1 : (la.length : Int) ≤ 140737488355328 := by omega
  clear ha hb hl hbb
  go_enter Try.func92, Try.ntmps92
  go_wp2
  go_loopg [5] la.length (fun gk v5 wr => ∃ j : Nat, j + gk = la.length ∧ v5 = .int .i64 j ∧ Below w.heap.size w wr ∧ la.take j = lb.take j)
  case atStart => exact ⟨0, by simp, rfl, Below.refl _ _, by simp⟩
  case round =>
    obtain ⟨j, hj, rfl, hbw, htk⟩ := hrel
    have HTK := Lib.hid htk
    have HBW := Lib.hid hbw
    clear htk
    cases gk with
    | zero =>
      obtain rfl : j = la.length := by omega
      have hbt : b = true := HBB.out.2 (by
        have h := HTK.out
        rw [List.take_length, List.take_of_length_le (by rw [← HL.out]; exact Nat.le_refl _)] at h
        exact h)
      subst hbt
      clear hj hbw
      go_wp2
      go_ret
      exact ⟨rfl, HBW.out⟩
    | succ f =>
      have hjl : j < la.length := by omega
      obtain ⟨u, hu⟩ : ∃ u, la[j]? = some u := ⟨_, List.getElem?_eq_getElem hjl⟩
      obtain ⟨v, hv⟩ : ∃ v, lb[j]? = some v := ⟨_, List.getElem?_eq_getElem (by rw [← HL.out]; exact hjl)⟩
      have j1 : (j : Int) < (la.length : Int) := by omega
      have j0 : (0 : Int) ≤ (j : Int) := by omega
      have j2 : (j : Int) ≤ 140737488355328 := by omega
      obtain ⟨g, o, vs, rfl, _, hgl, hrep, hat⟩ := (HA.out.bel RFi_keeps hbw).at_ RFi_sized hu
      obtain ⟨g', o', us, rfl, _, hgl', hrep', hat'⟩ := (HB.out.bel RFi_keeps hbw).at_ RFi_sized hv
      have HNE := Lib.hid (fun h : u ≠ v => iff_f HBB.out (ne_at hu hv h))
      have HTE := Lib.hid (fun e : u = v => take_eq hu hv e HTK.out)
      obtain ⟨nm, ty⟩ := u
      obtain ⟨nm2, ty2⟩ := v
      have hcu := HOK.out _ (List.mem_of_getElem? hu)
      obtain ⟨tv, rfl, hrt⟩ := hrep
      obtain ⟨tv', rfl, hrt'⟩ := hrep'
      dsimp only at hrt hrt' hcu
      have HI := Lib.hid (fun (b' : Bool) (hb' : b' = true ↔ ty = ty2) w' (h : Below wr.heap.size wr w') => (show Calls Try.prog 91 #[.agg tv.toArray, .agg tv'.toArray] w' (TruthP w' b') from by
        have e : b' = same ty ty2 := Bool.eq_iff_iff.2 (hb'.trans (same_iff ty ty2).symm)
        rw [e]
        exact rsame_all 2000000 (Nat.le_refl _) ty ty2 hcu w' _ _ _ _ (hrt.bel h) (hrt'.bel h)))
      obtain ⟨k1, p1, n1', A1, m1, c1, B1, l1, d1, rfl⟩ := hrt.shape
      obtain ⟨k2, p2, n2', A2, m2, c2, B2, l2, d2, rfl⟩ := hrt'.shape
      simp only [tyC] at hat hat' HI
      have q0 := hat 0 _ rfl
      have r0 := hat' 0 _ rfl
      have q1 := hat 1 _ rfl
      have r1 := hat' 1 _ rfl
      have q2 := hat 2 _ rfl
      have r2 := hat' 2 _ rfl
      have q3 := hat 3 _ rfl
      have r3 := hat' 3 _ rfl
      have q4 := hat 4 _ rfl
      have r4 := hat' 4 _ rfl
      have q5 := hat 5 _ rfl
      have r5 := hat' 5 _ rfl
      simp only [Nat.add_zero] at q0 r0
      clear hat hat' hu hv hbw hrt hrt' hcu
      by_cases h0 : nm = nm2
      case neg =>
        have hbf : b = false := HNE.out (fun e => by injection e with e0 e1; exact h0 e0)
        subst hbf
        have HN := Lib.hid (show ((nm.toList == nm2.toList) = false) ∧ ((nm.toList != nm2.toList) = true) from ⟨by simpa [toList_inj] using h0, by simpa [toList_inj] using h0⟩)
        clear h0 HNE HTE
        go_wp2
        refine wp_region_held_drew (S := fun V => Below wr.heap.size wr V) (by kernel_rfl) (Below.refl _ wr).drew (fun hS0 => ?_)
        refine wpAnyH_take (i := 0) (v := (.slice (some ⟨g, o, none⟩) la.length c)) rfl (by kernel_rfl) (by kernel_rfl) (by kernel_rfl) (fun _ _ _ h => h) (Or.inl ⟨rfl, fun w' hS => by (unfold execOp; go_simp)⟩) hS0 ?_
        simp only [Act.put, List.getElem_toArray, List.getElem_cons_zero, List.getElem_cons_succ, List.setIfInBounds_toArray, List.set_cons_zero, List.set_cons_succ]
        refine wpAnyH_take (i := 1) (v := .int .i64 j) rfl (by kernel_rfl) (by kernel_rfl) (by kernel_rfl) (fun _ _ _ h => h) (Or.inl ⟨rfl, fun w' hS => by (unfold execOp; go_simp)⟩) hS0 ?_
        simp only [Act.put, List.getElem_toArray, List.getElem_cons_zero, List.getElem_cons_succ, List.setIfInBounds_toArray, List.set_cons_zero, List.set_cons_succ]
        refine wpAnyH_take (i := 2) (v := (.pointer (some ⟨g, o + j * 6, none⟩))) rfl (by kernel_rfl) (by kernel_rfl) (by kernel_rfl) (fun _ _ _ h => h) (Or.inl ⟨rfl, fun w' hS => by (unfold execOp; go_simp)⟩) hS0 ?_
        simp only [Act.put, List.getElem_toArray, List.getElem_cons_zero, List.getElem_cons_succ, List.setIfInBounds_toArray, List.set_cons_zero, List.set_cons_succ]
        refine wpAnyH_take (i := 3) (v := (.pointer (some ⟨g, o + j * 6, none⟩))) rfl (by kernel_rfl) (by kernel_rfl) (by kernel_rfl) (fun _ _ _ h => h) (Or.inl ⟨rfl, fun w' hS => by (unfold execOp; go_simp)⟩) hS0 ?_
        simp only [Act.put, List.getElem_toArray, List.getElem_cons_zero, List.getElem_cons_succ, List.setIfInBounds_toArray, List.set_cons_zero, List.set_cons_succ]
        refine wpAnyH_take (i := 4) (v := .string nm) rfl (by kernel_rfl) (by kernel_rfl) (by kernel_rfl) (fun _ _ _ h => h) (Or.inl ⟨rfl, fun w' hS => by (have z0 := (hS.cell (p := ⟨g, _, none⟩) hgl).trans q0; unfold execOp; go_simp)⟩) hS0 ?_
        simp only [Act.put, List.getElem_toArray, List.getElem_cons_zero, List.getElem_cons_succ, List.setIfInBounds_toArray, List.set_cons_zero, List.set_cons_succ]
        refine wpAnyH_take (i := 5) (v := ((.slice (some ⟨g', o', none⟩) la.length d))) rfl (by kernel_rfl) (by kernel_rfl) (by kernel_rfl) (fun _ _ _ h => h) (Or.inl ⟨rfl, fun w' hS => by (unfold execOp; go_simp)⟩) hS0 ?_
        simp only [Act.put, List.getElem_toArray, List.getElem_cons_zero, List.getElem_cons_succ, List.setIfInBounds_toArray, List.set_cons_zero, List.set_cons_succ]
        refine wpAnyH_take (i := 6) (v := .int .i64 j) rfl (by kernel_rfl) (by kernel_rfl) (by kernel_rfl) (fun _ _ _ h => h) (Or.inl ⟨rfl, fun w' hS => by (unfold execOp; go_simp)⟩) hS0 ?_
        simp only [Act.put, List.getElem_toArray, List.getElem_cons_zero, List.getElem_cons_succ, List.setIfInBounds_toArray, List.set_cons_zero, List.set_cons_succ]
        refine wpAnyH_take (i := 7) (v := (.pointer (some ⟨g', o' + j * 6, none⟩))) rfl (by kernel_rfl) (by kernel_rfl) (by kernel_rfl) (fun _ _ _ h => h) (Or.inl ⟨rfl, fun w' hS => by (unfold execOp; go_simp)⟩) hS0 ?_
        simp only [Act.put, List.getElem_toArray, List.getElem_cons_zero, List.getElem_cons_succ, List.setIfInBounds_toArray, List.set_cons_zero, List.set_cons_succ]
        refine wpAnyH_take (i := 8) (v := (.pointer (some ⟨g', o' + j * 6, none⟩))) rfl (by kernel_rfl) (by kernel_rfl) (by kernel_rfl) (fun _ _ _ h => h) (Or.inl ⟨rfl, fun w' hS => by (unfold execOp; go_simp)⟩) hS0 ?_
        simp only [Act.put, List.getElem_toArray, List.getElem_cons_zero, List.getElem_cons_succ, List.setIfInBounds_toArray, List.set_cons_zero, List.set_cons_succ]
        refine wpAnyH_take (i := 9) (v := .string nm2) rfl (by kernel_rfl) (by kernel_rfl) (by kernel_rfl) (fun _ _ _ h => h) (Or.inl ⟨rfl, fun w' hS => by (have z0 := (hS.cell (p := ⟨g', _, none⟩) hgl').trans r0; unfold execOp; go_simp)⟩) hS0 ?_
        simp only [Act.put, List.getElem_toArray, List.getElem_cons_zero, List.getElem_cons_succ, List.setIfInBounds_toArray, List.set_cons_zero, List.set_cons_succ]
        refine wpAnyH_take (i := 10) (v := .bool true) rfl (by kernel_rfl) (by kernel_rfl) (by kernel_rfl) (fun _ _ _ h => h) (Or.inl ⟨rfl, fun w' hS => by (have e1 := HN.out.1; have e2 := HN.out.2; unfold execOp; go_simp)⟩) hS0 ?_
        simp only [Act.put, List.getElem_toArray, List.getElem_cons_zero, List.getElem_cons_succ, List.setIfInBounds_toArray, List.set_cons_zero, List.set_cons_succ]
        refine wpAnyH_take (i := 11) (v := .bool true) rfl (by kernel_rfl) (by kernel_rfl) (by kernel_rfl) (fun _ _ _ h => h) (Or.inl ⟨rfl, fun w' hS => by (unfold execOp; go_simp)⟩) hS0 ?_
        simp only [Act.put, List.getElem_toArray, List.getElem_cons_zero, List.getElem_cons_succ, List.setIfInBounds_toArray, List.set_cons_zero, List.set_cons_succ]
        refine wpAnyH_take (i := 12) (v := undef) rfl (by kernel_rfl) (by kernel_rfl) (by kernel_rfl) (fun _ _ _ h => h) (Or.inr ⟨by kernel_rfl, rfl⟩) hS0 ?_
        simp only [Act.put, List.getElem_toArray, List.getElem_cons_zero, List.getElem_cons_succ, List.setIfInBounds_toArray, List.set_cons_zero, List.set_cons_succ]
        refine wpAnyH_take (i := 13) (v := undef) rfl (by kernel_rfl) (by kernel_rfl) (by kernel_rfl) (fun _ _ _ h => h) (Or.inr ⟨by kernel_rfl, rfl⟩) hS0 ?_
        simp only [Act.put, List.getElem_toArray, List.getElem_cons_zero, List.getElem_cons_succ, List.setIfInBounds_toArray, List.set_cons_zero, List.set_cons_succ]
        refine wpAnyH_take (i := 14) (v := undef) rfl (by kernel_rfl) (by kernel_rfl) (by kernel_rfl) (fun _ _ _ h => h) (Or.inr ⟨by kernel_rfl, rfl⟩) hS0 ?_
        simp only [Act.put, List.getElem_toArray, List.getElem_cons_zero, List.getElem_cons_succ, List.setIfInBounds_toArray, List.set_cons_zero, List.set_cons_succ]
        refine wpAnyH_take (i := 15) (v := undef) rfl (by kernel_rfl) (by kernel_rfl) (by kernel_rfl) (fun _ _ _ h => h) (Or.inr ⟨by kernel_rfl, rfl⟩) hS0 ?_
        simp only [Act.put, List.getElem_toArray, List.getElem_cons_zero, List.getElem_cons_succ, List.setIfInBounds_toArray, List.set_cons_zero, List.set_cons_succ]
        refine wpAnyH_take (i := 16) (v := undef) rfl (by kernel_rfl) (by kernel_rfl) (by kernel_rfl) (fun _ _ _ h => h) (Or.inr ⟨by kernel_rfl, rfl⟩) hS0 ?_
        simp only [Act.put, List.getElem_toArray, List.getElem_cons_zero, List.getElem_cons_succ, List.setIfInBounds_toArray, List.set_cons_zero, List.set_cons_succ]
        refine wpAnyH_take (i := 17) (v := undef) rfl (by kernel_rfl) (by kernel_rfl) (by kernel_rfl) (fun _ _ _ h => h) (Or.inr ⟨by kernel_rfl, rfl⟩) hS0 ?_
        simp only [Act.put, List.getElem_toArray, List.getElem_cons_zero, List.getElem_cons_succ, List.setIfInBounds_toArray, List.set_cons_zero, List.set_cons_succ]
        refine wpAnyH_take (i := 18) (v := undef) rfl (by kernel_rfl) (by kernel_rfl) (by kernel_rfl) (fun _ _ _ h => h) (Or.inr ⟨by kernel_rfl, rfl⟩) hS0 ?_
        simp only [Act.put, List.getElem_toArray, List.getElem_cons_zero, List.getElem_cons_succ, List.setIfInBounds_toArray, List.set_cons_zero, List.set_cons_succ]
        refine wpAnyH_take (i := 19) (v := undef) rfl (by kernel_rfl) (by kernel_rfl) (by kernel_rfl) (fun _ _ _ h => h) (Or.inr ⟨by kernel_rfl, rfl⟩) hS0 ?_
        simp only [Act.put, List.getElem_toArray, List.getElem_cons_zero, List.getElem_cons_succ, List.setIfInBounds_toArray, List.set_cons_zero, List.set_cons_succ]
        refine wpAnyH_take (i := 20) (v := undef) rfl (by kernel_rfl) (by kernel_rfl) (by kernel_rfl) (fun _ _ _ h => h) (Or.inr ⟨by kernel_rfl, rfl⟩) hS0 ?_
        simp only [Act.put, List.getElem_toArray, List.getElem_cons_zero, List.getElem_cons_succ, List.setIfInBounds_toArray, List.set_cons_zero, List.set_cons_succ]
        refine wpAnyH_take (i := 21) (v := undef) rfl (by kernel_rfl) (by kernel_rfl) (by kernel_rfl) (fun _ _ _ h => h) (Or.inr ⟨by kernel_rfl, rfl⟩) hS0 ?_
        simp only [Act.put, List.getElem_toArray, List.getElem_cons_zero, List.getElem_cons_succ, List.setIfInBounds_toArray, List.set_cons_zero, List.set_cons_succ]
        refine wpAnyH_take (i := 22) (v := undef) rfl (by kernel_rfl) (by kernel_rfl) (by kernel_rfl) (fun _ _ _ h => h) (Or.inr ⟨by kernel_rfl, rfl⟩) hS0 ?_
        simp only [Act.put, List.getElem_toArray, List.getElem_cons_zero, List.getElem_cons_succ, List.setIfInBounds_toArray, List.set_cons_zero, List.set_cons_succ]
        refine wpAnyH_take (i := 23) (v := undef) rfl (by kernel_rfl) (by kernel_rfl) (by kernel_rfl) (fun _ _ _ h => h) (Or.inr ⟨by kernel_rfl, rfl⟩) hS0 ?_
        simp only [Act.put, List.getElem_toArray, List.getElem_cons_zero, List.getElem_cons_succ, List.setIfInBounds_toArray, List.set_cons_zero, List.set_cons_succ]
        refine wpAnyH_take (i := 24) (v := .bool true) rfl (by kernel_rfl) (by kernel_rfl) (by kernel_rfl) (fun _ _ _ h => h) (Or.inl ⟨rfl, fun w' hS => by (unfold execOp; go_simp)⟩) hS0 ?_
        simp only [Act.put, List.getElem_toArray, List.getElem_cons_zero, List.getElem_cons_succ, List.setIfInBounds_toArray, List.set_cons_zero, List.set_cons_succ]
        refine wpAnyH_done (by kernel_rfl) ?_ _
        have HX := Lib.hid (HBW.out.trans (hS0.mono HBW.out.size))
        clear hS0 
        go_wp2
        go_ret
        exact ⟨rfl, HX.out⟩
      subst h0
      by_cases h1 : ty = ty2
      case neg =>
        have hbf : b = false := HNE.out (fun e => by injection e with e0 e1; exact h1 e1)
        subst hbf
        replace HI := Lib.hid (HI.out false (by simp [h1]))
        clear h1 HNE HTE
        go_wp2
        refine wp_region_held_drew (S := fun V => Below wr.heap.size wr V) (by kernel_rfl) (Below.refl _ wr).drew (fun hS0 => ?_)
        refine wpAnyH_take (i := 0) (v := (.slice (some ⟨g, o, none⟩) la.length c)) rfl (by kernel_rfl) (by kernel_rfl) (by kernel_rfl) (fun _ _ _ h => h) (Or.inl ⟨rfl, fun w' hS => by (unfold execOp; go_simp)⟩) hS0 ?_
        simp only [Act.put, List.getElem_toArray, List.getElem_cons_zero, List.getElem_cons_succ, List.setIfInBounds_toArray, List.set_cons_zero, List.set_cons_succ]
        refine wpAnyH_take (i := 1) (v := .int .i64 j) rfl (by kernel_rfl) (by kernel_rfl) (by kernel_rfl) (fun _ _ _ h => h) (Or.inl ⟨rfl, fun w' hS => by (unfold execOp; go_simp)⟩) hS0 ?_
        simp only [Act.put, List.getElem_toArray, List.getElem_cons_zero, List.getElem_cons_succ, List.setIfInBounds_toArray, List.set_cons_zero, List.set_cons_succ]
        refine wpAnyH_take (i := 2) (v := (.pointer (some ⟨g, o + j * 6, none⟩))) rfl (by kernel_rfl) (by kernel_rfl) (by kernel_rfl) (fun _ _ _ h => h) (Or.inl ⟨rfl, fun w' hS => by (unfold execOp; go_simp)⟩) hS0 ?_
        simp only [Act.put, List.getElem_toArray, List.getElem_cons_zero, List.getElem_cons_succ, List.setIfInBounds_toArray, List.set_cons_zero, List.set_cons_succ]
        refine wpAnyH_take (i := 3) (v := (.pointer (some ⟨g, o + j * 6, none⟩))) rfl (by kernel_rfl) (by kernel_rfl) (by kernel_rfl) (fun _ _ _ h => h) (Or.inl ⟨rfl, fun w' hS => by (unfold execOp; go_simp)⟩) hS0 ?_
        simp only [Act.put, List.getElem_toArray, List.getElem_cons_zero, List.getElem_cons_succ, List.setIfInBounds_toArray, List.set_cons_zero, List.set_cons_succ]
        refine wpAnyH_take (i := 4) (v := .string nm) rfl (by kernel_rfl) (by kernel_rfl) (by kernel_rfl) (fun _ _ _ h => h) (Or.inl ⟨rfl, fun w' hS => by (have z0 := (hS.cell (p := ⟨g, _, none⟩) hgl).trans q0; unfold execOp; go_simp)⟩) hS0 ?_
        simp only [Act.put, List.getElem_toArray, List.getElem_cons_zero, List.getElem_cons_succ, List.setIfInBounds_toArray, List.set_cons_zero, List.set_cons_succ]
        refine wpAnyH_take (i := 5) (v := ((.slice (some ⟨g', o', none⟩) la.length d))) rfl (by kernel_rfl) (by kernel_rfl) (by kernel_rfl) (fun _ _ _ h => h) (Or.inl ⟨rfl, fun w' hS => by (unfold execOp; go_simp)⟩) hS0 ?_
        simp only [Act.put, List.getElem_toArray, List.getElem_cons_zero, List.getElem_cons_succ, List.setIfInBounds_toArray, List.set_cons_zero, List.set_cons_succ]
        refine wpAnyH_take (i := 6) (v := .int .i64 j) rfl (by kernel_rfl) (by kernel_rfl) (by kernel_rfl) (fun _ _ _ h => h) (Or.inl ⟨rfl, fun w' hS => by (unfold execOp; go_simp)⟩) hS0 ?_
        simp only [Act.put, List.getElem_toArray, List.getElem_cons_zero, List.getElem_cons_succ, List.setIfInBounds_toArray, List.set_cons_zero, List.set_cons_succ]
        refine wpAnyH_take (i := 7) (v := (.pointer (some ⟨g', o' + j * 6, none⟩))) rfl (by kernel_rfl) (by kernel_rfl) (by kernel_rfl) (fun _ _ _ h => h) (Or.inl ⟨rfl, fun w' hS => by (unfold execOp; go_simp)⟩) hS0 ?_
        simp only [Act.put, List.getElem_toArray, List.getElem_cons_zero, List.getElem_cons_succ, List.setIfInBounds_toArray, List.set_cons_zero, List.set_cons_succ]
        refine wpAnyH_take (i := 8) (v := (.pointer (some ⟨g', o' + j * 6, none⟩))) rfl (by kernel_rfl) (by kernel_rfl) (by kernel_rfl) (fun _ _ _ h => h) (Or.inl ⟨rfl, fun w' hS => by (unfold execOp; go_simp)⟩) hS0 ?_
        simp only [Act.put, List.getElem_toArray, List.getElem_cons_zero, List.getElem_cons_succ, List.setIfInBounds_toArray, List.set_cons_zero, List.set_cons_succ]
        refine wpAnyH_take (i := 9) (v := .string nm) rfl (by kernel_rfl) (by kernel_rfl) (by kernel_rfl) (fun _ _ _ h => h) (Or.inl ⟨rfl, fun w' hS => by (have z0 := (hS.cell (p := ⟨g', _, none⟩) hgl').trans r0; unfold execOp; go_simp)⟩) hS0 ?_
        simp only [Act.put, List.getElem_toArray, List.getElem_cons_zero, List.getElem_cons_succ, List.setIfInBounds_toArray, List.set_cons_zero, List.set_cons_succ]
        refine wpAnyH_take (i := 10) (v := .bool false) rfl (by kernel_rfl) (by kernel_rfl) (by kernel_rfl) (fun _ _ _ h => h) (Or.inl ⟨rfl, fun w' hS => by (unfold execOp; go_simp)⟩) hS0 ?_
        simp only [Act.put, List.getElem_toArray, List.getElem_cons_zero, List.getElem_cons_succ, List.setIfInBounds_toArray, List.set_cons_zero, List.set_cons_succ]
        refine wpAnyH_take (i := 11) (v := .bool false) rfl (by kernel_rfl) (by kernel_rfl) (by kernel_rfl) (fun _ _ _ h => h) (Or.inl ⟨rfl, fun w' hS => by (unfold execOp; go_simp)⟩) hS0 ?_
        simp only [Act.put, List.getElem_toArray, List.getElem_cons_zero, List.getElem_cons_succ, List.setIfInBounds_toArray, List.set_cons_zero, List.set_cons_succ]
        refine wpAnyH_take (i := 12) (v := (.slice (some ⟨g, o, none⟩) la.length c)) rfl (by kernel_rfl) (by kernel_rfl) (by kernel_rfl) (fun _ _ _ h => h) (Or.inl ⟨by kernel_rfl, fun w' hS => by (unfold execOp; go_simp)⟩) hS0 ?_
        simp only [Act.put, List.getElem_toArray, List.getElem_cons_zero, List.getElem_cons_succ, List.setIfInBounds_toArray, List.set_cons_zero, List.set_cons_succ]
        refine wpAnyH_take (i := 13) (v := .int .i64 j) rfl (by kernel_rfl) (by kernel_rfl) (by kernel_rfl) (fun _ _ _ h => h) (Or.inl ⟨by kernel_rfl, fun w' hS => by (unfold execOp; go_simp)⟩) hS0 ?_
        simp only [Act.put, List.getElem_toArray, List.getElem_cons_zero, List.getElem_cons_succ, List.setIfInBounds_toArray, List.set_cons_zero, List.set_cons_succ]
        refine wpAnyH_take (i := 14) (v := (.pointer (some ⟨g, o + j * 6, none⟩))) rfl (by kernel_rfl) (by kernel_rfl) (by kernel_rfl) (fun _ _ _ h => h) (Or.inl ⟨by kernel_rfl, fun w' hS => by (unfold execOp; go_simp)⟩) hS0 ?_
        simp only [Act.put, List.getElem_toArray, List.getElem_cons_zero, List.getElem_cons_succ, List.setIfInBounds_toArray, List.set_cons_zero, List.set_cons_succ]
        refine wpAnyH_take (i := 15) (v := (.pointer (some ⟨g, o + j * 6 + 1, none⟩))) rfl (by kernel_rfl) (by kernel_rfl) (by kernel_rfl) (fun _ _ _ h => h) (Or.inl ⟨by kernel_rfl, fun w' hS => by (unfold execOp; go_simp)⟩) hS0 ?_
        simp only [Act.put, List.getElem_toArray, List.getElem_cons_zero, List.getElem_cons_succ, List.setIfInBounds_toArray, List.set_cons_zero, List.set_cons_succ]
        refine wpAnyH_take (i := 16) (v := (.agg #[.int .i64 k1, .string p1, .string n1', .slice A1 m1 c1, .slice B1 l1 d1])) rfl (by kernel_rfl) (by kernel_rfl) (by kernel_rfl) (fun _ _ _ h => h) (Or.inl ⟨by kernel_rfl, fun w' hS => by (have z1 := (hS.cell (p := ⟨g, _, none⟩) hgl).trans q1; have z2 := (hS.cell (p := ⟨g, _, none⟩) hgl).trans q2; have z3 := (hS.cell (p := ⟨g, _, none⟩) hgl).trans q3; have z4 := (hS.cell (p := ⟨g, _, none⟩) hgl).trans q4; have z5 := (hS.cell (p := ⟨g, _, none⟩) hgl).trans q5; unfold execOp; go_simp)⟩) hS0 ?_
        simp only [Act.put, List.getElem_toArray, List.getElem_cons_zero, List.getElem_cons_succ, List.setIfInBounds_toArray, List.set_cons_zero, List.set_cons_succ]
        refine wpAnyH_take (i := 17) (v := ((.slice (some ⟨g', o', none⟩) la.length d))) rfl (by kernel_rfl) (by kernel_rfl) (by kernel_rfl) (fun _ _ _ h => h) (Or.inl ⟨by kernel_rfl, fun w' hS => by (unfold execOp; go_simp)⟩) hS0 ?_
        simp only [Act.put, List.getElem_toArray, List.getElem_cons_zero, List.getElem_cons_succ, List.setIfInBounds_toArray, List.set_cons_zero, List.set_cons_succ]
        refine wpAnyH_take (i := 18) (v := .int .i64 j) rfl (by kernel_rfl) (by kernel_rfl) (by kernel_rfl) (fun _ _ _ h => h) (Or.inl ⟨by kernel_rfl, fun w' hS => by (unfold execOp; go_simp)⟩) hS0 ?_
        simp only [Act.put, List.getElem_toArray, List.getElem_cons_zero, List.getElem_cons_succ, List.setIfInBounds_toArray, List.set_cons_zero, List.set_cons_succ]
        refine wpAnyH_take (i := 19) (v := (.pointer (some ⟨g', o' + j * 6, none⟩))) rfl (by kernel_rfl) (by kernel_rfl) (by kernel_rfl) (fun _ _ _ h => h) (Or.inl ⟨by kernel_rfl, fun w' hS => by (unfold execOp; go_simp)⟩) hS0 ?_
        simp only [Act.put, List.getElem_toArray, List.getElem_cons_zero, List.getElem_cons_succ, List.setIfInBounds_toArray, List.set_cons_zero, List.set_cons_succ]
        refine wpAnyH_take (i := 20) (v := (.pointer (some ⟨g', o' + j * 6 + 1, none⟩))) rfl (by kernel_rfl) (by kernel_rfl) (by kernel_rfl) (fun _ _ _ h => h) (Or.inl ⟨by kernel_rfl, fun w' hS => by (unfold execOp; go_simp)⟩) hS0 ?_
        simp only [Act.put, List.getElem_toArray, List.getElem_cons_zero, List.getElem_cons_succ, List.setIfInBounds_toArray, List.set_cons_zero, List.set_cons_succ]
        refine wpAnyH_take (i := 21) (v := (.agg #[.int .i64 k2, .string p2, .string n2', .slice A2 m2 c2, .slice B2 l2 d2])) rfl (by kernel_rfl) (by kernel_rfl) (by kernel_rfl) (fun _ _ _ h => h) (Or.inl ⟨by kernel_rfl, fun w' hS => by (have z1 := (hS.cell (p := ⟨g', _, none⟩) hgl').trans r1; have z2 := (hS.cell (p := ⟨g', _, none⟩) hgl').trans r2; have z3 := (hS.cell (p := ⟨g', _, none⟩) hgl').trans r3; have z4 := (hS.cell (p := ⟨g', _, none⟩) hgl').trans r4; have z5 := (hS.cell (p := ⟨g', _, none⟩) hgl').trans r5; unfold execOp; go_simp)⟩) hS0 ?_
        simp only [Act.put, List.getElem_toArray, List.getElem_cons_zero, List.getElem_cons_succ, List.setIfInBounds_toArray, List.set_cons_zero, List.set_cons_succ]
        refine wpAnyH_oneG (i := 22) (by kernel_rfl) rfl (by kernel_rfl) (op_call (args := #[.agg #[.int .i64 k1, .string p1, .string n1', .slice A1 m1 c1, .slice B1 l1 d1], .agg #[.int .i64 k2, .string p2, .string n2', .slice A2 m2 c2, .slice B2 l2 d2]]) (f := 91) (by unfold execOp; go_simp) ((HI.out _ hS0).mono ?_))
        rintro e w20 ⟨rfl, hb20⟩
        have hS1 := hS0.trans (hb20.mono hS0.size)
        refine And.intro hS1 ?_
        simp only [Act.put, List.getElem_toArray, List.getElem_cons_zero, List.getElem_cons_succ, List.setIfInBounds_toArray, List.set_cons_zero, List.set_cons_succ]
        refine wpAnyH_take (i := 23) (v := .bool true) rfl (by kernel_rfl) (by kernel_rfl) (by kernel_rfl) (fun _ _ _ h => h) (Or.inl ⟨by kernel_rfl, fun w' hS => by (unfold execOp; go_simp)⟩) hS1 ?_
        simp only [Act.put, List.getElem_toArray, List.getElem_cons_zero, List.getElem_cons_succ, List.setIfInBounds_toArray, List.set_cons_zero, List.set_cons_succ]
        refine wpAnyH_take (i := 24) (v := .bool true) rfl (by kernel_rfl) (by kernel_rfl) (by kernel_rfl) (fun _ _ _ h => h) (Or.inl ⟨rfl, fun w' hS => by (unfold execOp; go_simp)⟩) hS1 ?_
        simp only [Act.put, List.getElem_toArray, List.getElem_cons_zero, List.getElem_cons_succ, List.setIfInBounds_toArray, List.set_cons_zero, List.set_cons_succ]
        refine wpAnyH_done (by kernel_rfl) ?_ _
        have HX := Lib.hid (HBW.out.trans (hS1.mono HBW.out.size))
        clear hS0 hS1 hb20
        go_wp2
        go_ret
        exact ⟨rfl, HX.out⟩
      replace HI := Lib.hid (HI.out true (by simp [h1]))
      subst h1
      go_wp2
      refine wp_region_held_drew (S := fun V => Below wr.heap.size wr V) (by kernel_rfl) (Below.refl _ wr).drew (fun hS0 => ?_)
      refine wpAnyH_take (i := 0) (v := (.slice (some ⟨g, o, none⟩) la.length c)) rfl (by kernel_rfl) (by kernel_rfl) (by kernel_rfl) (fun _ _ _ h => h) (Or.inl ⟨rfl, fun w' hS => by (unfold execOp; go_simp)⟩) hS0 ?_
      simp only [Act.put, List.getElem_toArray, List.getElem_cons_zero, List.getElem_cons_succ, List.setIfInBounds_toArray, List.set_cons_zero, List.set_cons_succ]
      refine wpAnyH_take (i := 1) (v := .int .i64 j) rfl (by kernel_rfl) (by kernel_rfl) (by kernel_rfl) (fun _ _ _ h => h) (Or.inl ⟨rfl, fun w' hS => by (unfold execOp; go_simp)⟩) hS0 ?_
      simp only [Act.put, List.getElem_toArray, List.getElem_cons_zero, List.getElem_cons_succ, List.setIfInBounds_toArray, List.set_cons_zero, List.set_cons_succ]
      refine wpAnyH_take (i := 2) (v := (.pointer (some ⟨g, o + j * 6, none⟩))) rfl (by kernel_rfl) (by kernel_rfl) (by kernel_rfl) (fun _ _ _ h => h) (Or.inl ⟨rfl, fun w' hS => by (unfold execOp; go_simp)⟩) hS0 ?_
      simp only [Act.put, List.getElem_toArray, List.getElem_cons_zero, List.getElem_cons_succ, List.setIfInBounds_toArray, List.set_cons_zero, List.set_cons_succ]
      refine wpAnyH_take (i := 3) (v := (.pointer (some ⟨g, o + j * 6, none⟩))) rfl (by kernel_rfl) (by kernel_rfl) (by kernel_rfl) (fun _ _ _ h => h) (Or.inl ⟨rfl, fun w' hS => by (unfold execOp; go_simp)⟩) hS0 ?_
      simp only [Act.put, List.getElem_toArray, List.getElem_cons_zero, List.getElem_cons_succ, List.setIfInBounds_toArray, List.set_cons_zero, List.set_cons_succ]
      refine wpAnyH_take (i := 4) (v := .string nm) rfl (by kernel_rfl) (by kernel_rfl) (by kernel_rfl) (fun _ _ _ h => h) (Or.inl ⟨rfl, fun w' hS => by (have z0 := (hS.cell (p := ⟨g, _, none⟩) hgl).trans q0; unfold execOp; go_simp)⟩) hS0 ?_
      simp only [Act.put, List.getElem_toArray, List.getElem_cons_zero, List.getElem_cons_succ, List.setIfInBounds_toArray, List.set_cons_zero, List.set_cons_succ]
      refine wpAnyH_take (i := 5) (v := ((.slice (some ⟨g', o', none⟩) la.length d))) rfl (by kernel_rfl) (by kernel_rfl) (by kernel_rfl) (fun _ _ _ h => h) (Or.inl ⟨rfl, fun w' hS => by (unfold execOp; go_simp)⟩) hS0 ?_
      simp only [Act.put, List.getElem_toArray, List.getElem_cons_zero, List.getElem_cons_succ, List.setIfInBounds_toArray, List.set_cons_zero, List.set_cons_succ]
      refine wpAnyH_take (i := 6) (v := .int .i64 j) rfl (by kernel_rfl) (by kernel_rfl) (by kernel_rfl) (fun _ _ _ h => h) (Or.inl ⟨rfl, fun w' hS => by (unfold execOp; go_simp)⟩) hS0 ?_
      simp only [Act.put, List.getElem_toArray, List.getElem_cons_zero, List.getElem_cons_succ, List.setIfInBounds_toArray, List.set_cons_zero, List.set_cons_succ]
      refine wpAnyH_take (i := 7) (v := (.pointer (some ⟨g', o' + j * 6, none⟩))) rfl (by kernel_rfl) (by kernel_rfl) (by kernel_rfl) (fun _ _ _ h => h) (Or.inl ⟨rfl, fun w' hS => by (unfold execOp; go_simp)⟩) hS0 ?_
      simp only [Act.put, List.getElem_toArray, List.getElem_cons_zero, List.getElem_cons_succ, List.setIfInBounds_toArray, List.set_cons_zero, List.set_cons_succ]
      refine wpAnyH_take (i := 8) (v := (.pointer (some ⟨g', o' + j * 6, none⟩))) rfl (by kernel_rfl) (by kernel_rfl) (by kernel_rfl) (fun _ _ _ h => h) (Or.inl ⟨rfl, fun w' hS => by (unfold execOp; go_simp)⟩) hS0 ?_
      simp only [Act.put, List.getElem_toArray, List.getElem_cons_zero, List.getElem_cons_succ, List.setIfInBounds_toArray, List.set_cons_zero, List.set_cons_succ]
      refine wpAnyH_take (i := 9) (v := .string nm) rfl (by kernel_rfl) (by kernel_rfl) (by kernel_rfl) (fun _ _ _ h => h) (Or.inl ⟨rfl, fun w' hS => by (have z0 := (hS.cell (p := ⟨g', _, none⟩) hgl').trans r0; unfold execOp; go_simp)⟩) hS0 ?_
      simp only [Act.put, List.getElem_toArray, List.getElem_cons_zero, List.getElem_cons_succ, List.setIfInBounds_toArray, List.set_cons_zero, List.set_cons_succ]
      refine wpAnyH_take (i := 10) (v := .bool false) rfl (by kernel_rfl) (by kernel_rfl) (by kernel_rfl) (fun _ _ _ h => h) (Or.inl ⟨rfl, fun w' hS => by (unfold execOp; go_simp)⟩) hS0 ?_
      simp only [Act.put, List.getElem_toArray, List.getElem_cons_zero, List.getElem_cons_succ, List.setIfInBounds_toArray, List.set_cons_zero, List.set_cons_succ]
      refine wpAnyH_take (i := 11) (v := .bool false) rfl (by kernel_rfl) (by kernel_rfl) (by kernel_rfl) (fun _ _ _ h => h) (Or.inl ⟨rfl, fun w' hS => by (unfold execOp; go_simp)⟩) hS0 ?_
      simp only [Act.put, List.getElem_toArray, List.getElem_cons_zero, List.getElem_cons_succ, List.setIfInBounds_toArray, List.set_cons_zero, List.set_cons_succ]
      refine wpAnyH_take (i := 12) (v := (.slice (some ⟨g, o, none⟩) la.length c)) rfl (by kernel_rfl) (by kernel_rfl) (by kernel_rfl) (fun _ _ _ h => h) (Or.inl ⟨by kernel_rfl, fun w' hS => by (unfold execOp; go_simp)⟩) hS0 ?_
      simp only [Act.put, List.getElem_toArray, List.getElem_cons_zero, List.getElem_cons_succ, List.setIfInBounds_toArray, List.set_cons_zero, List.set_cons_succ]
      refine wpAnyH_take (i := 13) (v := .int .i64 j) rfl (by kernel_rfl) (by kernel_rfl) (by kernel_rfl) (fun _ _ _ h => h) (Or.inl ⟨by kernel_rfl, fun w' hS => by (unfold execOp; go_simp)⟩) hS0 ?_
      simp only [Act.put, List.getElem_toArray, List.getElem_cons_zero, List.getElem_cons_succ, List.setIfInBounds_toArray, List.set_cons_zero, List.set_cons_succ]
      refine wpAnyH_take (i := 14) (v := (.pointer (some ⟨g, o + j * 6, none⟩))) rfl (by kernel_rfl) (by kernel_rfl) (by kernel_rfl) (fun _ _ _ h => h) (Or.inl ⟨by kernel_rfl, fun w' hS => by (unfold execOp; go_simp)⟩) hS0 ?_
      simp only [Act.put, List.getElem_toArray, List.getElem_cons_zero, List.getElem_cons_succ, List.setIfInBounds_toArray, List.set_cons_zero, List.set_cons_succ]
      refine wpAnyH_take (i := 15) (v := (.pointer (some ⟨g, o + j * 6 + 1, none⟩))) rfl (by kernel_rfl) (by kernel_rfl) (by kernel_rfl) (fun _ _ _ h => h) (Or.inl ⟨by kernel_rfl, fun w' hS => by (unfold execOp; go_simp)⟩) hS0 ?_
      simp only [Act.put, List.getElem_toArray, List.getElem_cons_zero, List.getElem_cons_succ, List.setIfInBounds_toArray, List.set_cons_zero, List.set_cons_succ]
      refine wpAnyH_take (i := 16) (v := (.agg #[.int .i64 k1, .string p1, .string n1', .slice A1 m1 c1, .slice B1 l1 d1])) rfl (by kernel_rfl) (by kernel_rfl) (by kernel_rfl) (fun _ _ _ h => h) (Or.inl ⟨by kernel_rfl, fun w' hS => by (have z1 := (hS.cell (p := ⟨g, _, none⟩) hgl).trans q1; have z2 := (hS.cell (p := ⟨g, _, none⟩) hgl).trans q2; have z3 := (hS.cell (p := ⟨g, _, none⟩) hgl).trans q3; have z4 := (hS.cell (p := ⟨g, _, none⟩) hgl).trans q4; have z5 := (hS.cell (p := ⟨g, _, none⟩) hgl).trans q5; unfold execOp; go_simp)⟩) hS0 ?_
      simp only [Act.put, List.getElem_toArray, List.getElem_cons_zero, List.getElem_cons_succ, List.setIfInBounds_toArray, List.set_cons_zero, List.set_cons_succ]
      refine wpAnyH_take (i := 17) (v := ((.slice (some ⟨g', o', none⟩) la.length d))) rfl (by kernel_rfl) (by kernel_rfl) (by kernel_rfl) (fun _ _ _ h => h) (Or.inl ⟨by kernel_rfl, fun w' hS => by (unfold execOp; go_simp)⟩) hS0 ?_
      simp only [Act.put, List.getElem_toArray, List.getElem_cons_zero, List.getElem_cons_succ, List.setIfInBounds_toArray, List.set_cons_zero, List.set_cons_succ]
      refine wpAnyH_take (i := 18) (v := .int .i64 j) rfl (by kernel_rfl) (by kernel_rfl) (by kernel_rfl) (fun _ _ _ h => h) (Or.inl ⟨by kernel_rfl, fun w' hS => by (unfold execOp; go_simp)⟩) hS0 ?_
      simp only [Act.put, List.getElem_toArray, List.getElem_cons_zero, List.getElem_cons_succ, List.setIfInBounds_toArray, List.set_cons_zero, List.set_cons_succ]
      refine wpAnyH_take (i := 19) (v := (.pointer (some ⟨g', o' + j * 6, none⟩))) rfl (by kernel_rfl) (by kernel_rfl) (by kernel_rfl) (fun _ _ _ h => h) (Or.inl ⟨by kernel_rfl, fun w' hS => by (unfold execOp; go_simp)⟩) hS0 ?_
      simp only [Act.put, List.getElem_toArray, List.getElem_cons_zero, List.getElem_cons_succ, List.setIfInBounds_toArray, List.set_cons_zero, List.set_cons_succ]
      refine wpAnyH_take (i := 20) (v := (.pointer (some ⟨g', o' + j * 6 + 1, none⟩))) rfl (by kernel_rfl) (by kernel_rfl) (by kernel_rfl) (fun _ _ _ h => h) (Or.inl ⟨by kernel_rfl, fun w' hS => by (unfold execOp; go_simp)⟩) hS0 ?_
      simp only [Act.put, List.getElem_toArray, List.getElem_cons_zero, List.getElem_cons_succ, List.setIfInBounds_toArray, List.set_cons_zero, List.set_cons_succ]
      refine wpAnyH_take (i := 21) (v := (.agg #[.int .i64 k2, .string p2, .string n2', .slice A2 m2 c2, .slice B2 l2 d2])) rfl (by kernel_rfl) (by kernel_rfl) (by kernel_rfl) (fun _ _ _ h => h) (Or.inl ⟨by kernel_rfl, fun w' hS => by (have z1 := (hS.cell (p := ⟨g', _, none⟩) hgl').trans r1; have z2 := (hS.cell (p := ⟨g', _, none⟩) hgl').trans r2; have z3 := (hS.cell (p := ⟨g', _, none⟩) hgl').trans r3; have z4 := (hS.cell (p := ⟨g', _, none⟩) hgl').trans r4; have z5 := (hS.cell (p := ⟨g', _, none⟩) hgl').trans r5; unfold execOp; go_simp)⟩) hS0 ?_
      simp only [Act.put, List.getElem_toArray, List.getElem_cons_zero, List.getElem_cons_succ, List.setIfInBounds_toArray, List.set_cons_zero, List.set_cons_succ]
      refine wpAnyH_oneG (i := 22) (by kernel_rfl) rfl (by kernel_rfl) (op_call (args := #[.agg #[.int .i64 k1, .string p1, .string n1', .slice A1 m1 c1, .slice B1 l1 d1], .agg #[.int .i64 k2, .string p2, .string n2', .slice A2 m2 c2, .slice B2 l2 d2]]) (f := 91) (by unfold execOp; go_simp) ((HI.out _ hS0).mono ?_))
      rintro e w20 ⟨rfl, hb20⟩
      have hS1 := hS0.trans (hb20.mono hS0.size)
      refine And.intro hS1 ?_
      simp only [Act.put, List.getElem_toArray, List.getElem_cons_zero, List.getElem_cons_succ, List.setIfInBounds_toArray, List.set_cons_zero, List.set_cons_succ]
      refine wpAnyH_take (i := 23) (v := .bool false) rfl (by kernel_rfl) (by kernel_rfl) (by kernel_rfl) (fun _ _ _ h => h) (Or.inl ⟨by kernel_rfl, fun w' hS => by (unfold execOp; go_simp)⟩) hS1 ?_
      simp only [Act.put, List.getElem_toArray, List.getElem_cons_zero, List.getElem_cons_succ, List.setIfInBounds_toArray, List.set_cons_zero, List.set_cons_succ]
      refine wpAnyH_take (i := 24) (v := .bool false) rfl (by kernel_rfl) (by kernel_rfl) (by kernel_rfl) (fun _ _ _ h => h) (Or.inl ⟨rfl, fun w' hS => by (unfold execOp; go_simp)⟩) hS1 ?_
      simp only [Act.put, List.getElem_toArray, List.getElem_cons_zero, List.getElem_cons_succ, List.setIfInBounds_toArray, List.set_cons_zero, List.set_cons_succ]
      refine wpAnyH_done (by kernel_rfl) ?_ _
      have HX := Lib.hid (HBW.out.trans (hS1.mono HBW.out.size))
      clear hS0 hS1 hb20
      go_wp2
      go_roundg f
      case measure => omega
      case rel => exact ⟨j + 1, by omega, by go_num, HX.out, (by first | exact HTE.out rfl | exact HTE.out trivial)⟩
set_option maxRecDepth 100000 in
set_option maxHeartbeats 8000000 in
theorem samN_any (u v : Fn8) (hu : u.body.length ≤ 140737488355328 ∧ okSs 140737488355328 u.body) (hv : v.body.length ≤ 140737488355328 ∧ okSs 140737488355328 v.body) (w : World) (F F' : Nat → Prop) (vs us : List Value) (ha : RFn w F u vs) (hb : RFn w F' v us) (b : Bool) (hbb : b = true ↔ u = v) :
    Calls Try.prog 65 #[.agg vs.toArray, .agg us.toArray] w (TruthP w b) := by
  obtain ⟨s, wk, ps, ls, bo⟩ := u
  obtain ⟨s2, wk2, ps2, ls2, bo2⟩ := v
  obtain ⟨A7, c7, rfl, k1⟩ := ha
  obtain ⟨B7, d7, rfl, k2⟩ := hb
  dsimp only at hu hv k1 k2
  have HI := Lib.hid (fun (b' : Bool) (hb' : b' = true ↔ bo = bo2) w' (h : Below w.heap.size w w') => samS_all (cntSs bo) bo bo2 ⟨Nat.le_refl _, hu.1, hu.2⟩ hv w' F F' A7 B7 c7 d7 (k1.bel RS_keeps h) (k2.bel RS_keeps h) b' hb')
  dsimp only
  have ha := True.intro
  have hb := True.intro
  clear hu hv k1 k2
  by_cases h0 : s = s2
  case neg =>
    have hbf : b = false := iff_f hbb (fun e => by injection e with e0 e1 e2 e3 e4; exact h0 e0)
    subst hbf
    clear hbb
    have e1 : (s.toList == s2.toList) = false := by simpa [toList_inj] using h0
    have e2 : (s.toList != s2.toList) = true := by simpa [toList_inj] using h0
    clear h0
    clear ha hb
    have hb1 := ((Below.refl _ w).alloc (Nat.le_refl _) (.cells #[.string s, .bool wk, .int .i64 ps, .int .i64 ls, .slice A7 bo.length c7] 64))
    have hb2 := hb1.alloc hb1.size (.cells #[.string s2, .bool wk2, .int .i64 ps2, .int .i64 ls2, .slice B7 bo2.length d7] 64)
    have hx := (Blk.new w 64 #[.string s, .bool wk, .int .i64 ps, .int .i64 ls, .slice A7 bo.length c7]).alloc (.cells #[.string s2, .bool wk2, .int .i64 ps2, .int .i64 ls2, .slice B7 bo2.length d7] 64)
    have hy := Blk.new (w.alloc (.cells #[.string s, .bool wk, .int .i64 ps, .int .i64 ls, .slice A7 bo.length c7] 64)) 64 #[.string s2, .bool wk2, .int .i64 ps2, .int .i64 ls2, .slice B7 bo2.length d7]
    rw [show (w.alloc (.cells #[.string s, .bool wk, .int .i64 ps, .int .i64 ls, .slice A7 bo.length c7] 64)).heap.size = w.heap.size + 1 from by simp] at hy
    have HB2 := Lib.hid hb2
    have HXX := Lib.hid hx
    have HYY := Lib.hid hy
    clear hb1 hb2 hx hy
    go_enter Try.func65, Try.ntmps65
    go_wp2
    go_ret
    exact ⟨by first | rfl | simp, HB2.out⟩
  subst h0
  by_cases h1 : wk = wk2
  case neg =>
    have hbf : b = false := iff_f hbb (fun e => by injection e with e0 e1 e2 e3 e4; exact h1 e1)
    subst hbf
    clear hbb
    have e1 : (wk == wk2) = false := by simpa using h1
    clear h1
    clear ha hb
    have hb1 := ((Below.refl _ w).alloc (Nat.le_refl _) (.cells #[.string s, .bool wk, .int .i64 ps, .int .i64 ls, .slice A7 bo.length c7] 64))
    have hb2 := hb1.alloc hb1.size (.cells #[.string s, .bool wk2, .int .i64 ps2, .int .i64 ls2, .slice B7 bo2.length d7] 64)
    have hx := (Blk.new w 64 #[.string s, .bool wk, .int .i64 ps, .int .i64 ls, .slice A7 bo.length c7]).alloc (.cells #[.string s, .bool wk2, .int .i64 ps2, .int .i64 ls2, .slice B7 bo2.length d7] 64)
    have hy := Blk.new (w.alloc (.cells #[.string s, .bool wk, .int .i64 ps, .int .i64 ls, .slice A7 bo.length c7] 64)) 64 #[.string s, .bool wk2, .int .i64 ps2, .int .i64 ls2, .slice B7 bo2.length d7]
    rw [show (w.alloc (.cells #[.string s, .bool wk, .int .i64 ps, .int .i64 ls, .slice A7 bo.length c7] 64)).heap.size = w.heap.size + 1 from by simp] at hy
    have HB2 := Lib.hid hb2
    have HXX := Lib.hid hx
    have HYY := Lib.hid hy
    clear hb1 hb2 hx hy
    go_enter Try.func65, Try.ntmps65
    go_wp2
    go_ret
    exact ⟨by first | rfl | simp, HB2.out⟩
  subst h1
  by_cases h2 : ps = ps2
  case neg =>
    have hbf : b = false := iff_f hbb (fun e => by injection e with e0 e1 e2 e3 e4; exact h2 e2)
    subst hbf
    clear hbb
    have e1 : (ps == ps2) = false := by simpa using h2
    have e2 : (ps != ps2) = true := by simpa using h2
    clear h2
    clear ha hb
    have hb1 := ((Below.refl _ w).alloc (Nat.le_refl _) (.cells #[.string s, .bool wk, .int .i64 ps, .int .i64 ls, .slice A7 bo.length c7] 64))
    have hb2 := hb1.alloc hb1.size (.cells #[.string s, .bool wk, .int .i64 ps2, .int .i64 ls2, .slice B7 bo2.length d7] 64)
    have hx := (Blk.new w 64 #[.string s, .bool wk, .int .i64 ps, .int .i64 ls, .slice A7 bo.length c7]).alloc (.cells #[.string s, .bool wk, .int .i64 ps2, .int .i64 ls2, .slice B7 bo2.length d7] 64)
    have hy := Blk.new (w.alloc (.cells #[.string s, .bool wk, .int .i64 ps, .int .i64 ls, .slice A7 bo.length c7] 64)) 64 #[.string s, .bool wk, .int .i64 ps2, .int .i64 ls2, .slice B7 bo2.length d7]
    rw [show (w.alloc (.cells #[.string s, .bool wk, .int .i64 ps, .int .i64 ls, .slice A7 bo.length c7] 64)).heap.size = w.heap.size + 1 from by simp] at hy
    have HB2 := Lib.hid hb2
    have HXX := Lib.hid hx
    have HYY := Lib.hid hy
    clear hb1 hb2 hx hy
    go_enter Try.func65, Try.ntmps65
    go_wp2
    go_ret
    exact ⟨by first | rfl | simp, HB2.out⟩
  subst h2
  by_cases h3 : ls = ls2
  case neg =>
    have hbf : b = false := iff_f hbb (fun e => by injection e with e0 e1 e2 e3 e4; exact h3 e3)
    subst hbf
    clear hbb
    have e1 : (ls == ls2) = false := by simpa using h3
    have e2 : (ls != ls2) = true := by simpa using h3
    clear h3
    clear ha hb
    have hb1 := ((Below.refl _ w).alloc (Nat.le_refl _) (.cells #[.string s, .bool wk, .int .i64 ps, .int .i64 ls, .slice A7 bo.length c7] 64))
    have hb2 := hb1.alloc hb1.size (.cells #[.string s, .bool wk, .int .i64 ps, .int .i64 ls2, .slice B7 bo2.length d7] 64)
    have hx := (Blk.new w 64 #[.string s, .bool wk, .int .i64 ps, .int .i64 ls, .slice A7 bo.length c7]).alloc (.cells #[.string s, .bool wk, .int .i64 ps, .int .i64 ls2, .slice B7 bo2.length d7] 64)
    have hy := Blk.new (w.alloc (.cells #[.string s, .bool wk, .int .i64 ps, .int .i64 ls, .slice A7 bo.length c7] 64)) 64 #[.string s, .bool wk, .int .i64 ps, .int .i64 ls2, .slice B7 bo2.length d7]
    rw [show (w.alloc (.cells #[.string s, .bool wk, .int .i64 ps, .int .i64 ls, .slice A7 bo.length c7] 64)).heap.size = w.heap.size + 1 from by simp] at hy
    have HB2 := Lib.hid hb2
    have HXX := Lib.hid hx
    have HYY := Lib.hid hy
    clear hb1 hb2 hx hy
    go_enter Try.func65, Try.ntmps65
    go_wp2
    go_ret
    exact ⟨by first | rfl | simp, HB2.out⟩
  subst h3
  by_cases h4 : bo = bo2
  case neg =>
    have hbf : b = false := iff_f hbb (fun e => by injection e with e0 e1 e2 e3 e4; exact h4 e4)
    subst hbf
    clear hbb
    replace HI := Lib.hid (HI.out false (by simp [h4]))
    clear h4
    clear ha hb
    have hb1 := ((Below.refl _ w).alloc (Nat.le_refl _) (.cells #[.string s, .bool wk, .int .i64 ps, .int .i64 ls, .slice A7 bo.length c7] 64))
    have hb2 := hb1.alloc hb1.size (.cells #[.string s, .bool wk, .int .i64 ps, .int .i64 ls, .slice B7 bo2.length d7] 64)
    have hx := (Blk.new w 64 #[.string s, .bool wk, .int .i64 ps, .int .i64 ls, .slice A7 bo.length c7]).alloc (.cells #[.string s, .bool wk, .int .i64 ps, .int .i64 ls, .slice B7 bo2.length d7] 64)
    have hy := Blk.new (w.alloc (.cells #[.string s, .bool wk, .int .i64 ps, .int .i64 ls, .slice A7 bo.length c7] 64)) 64 #[.string s, .bool wk, .int .i64 ps, .int .i64 ls, .slice B7 bo2.length d7]
    rw [show (w.alloc (.cells #[.string s, .bool wk, .int .i64 ps, .int .i64 ls, .slice A7 bo.length c7] 64)).heap.size = w.heap.size + 1 from by simp] at hy
    have HB2 := Lib.hid hb2
    have HXX := Lib.hid hx
    have HYY := Lib.hid hy
    clear hb1 hb2 hx hy
    go_enter Try.func65, Try.ntmps65
    go_wp2_with (first | (go_at_call 93; ((with_reducible refine (HI.out _ HB2.out).mono ?_); rintro e w20 ⟨rfl, hb20⟩); have HB20 := Lib.hid (HB2.out.trans (hb20.mono HB2.out.size)); have hx0 := HXX.out.bel2 hb20; have hy0 := HYY.out.bel2 hb20; have HX0 := Lib.hid hx0; have HY0 := Lib.hid hy0; have xa00 := hx0.cell 0; have ya00 := hy0.cell 0; have xa01 := hx0.cell 1; have ya01 := hy0.cell 1; have xa02 := hx0.cell 2; have ya02 := hy0.cell 2; have xa03 := hx0.cell 3; have ya03 := hy0.cell 3; have xa04 := hx0.cell 4; have ya04 := hy0.cell 4; have xl0 := hx0.lt; have yl0 := hy0.lt; clear hb20 hx0 hy0))
    go_ret
    exact ⟨by first | rfl | simp, HB20.out⟩
  replace HI := Lib.hid (HI.out true (by simp [h4]))
  subst h4
  have hbt : b = true := hbb.2 rfl
  subst hbt
  clear hbb ha hb
  have hb1 := ((Below.refl _ w).alloc (Nat.le_refl _) (.cells #[.string s, .bool wk, .int .i64 ps, .int .i64 ls, .slice A7 bo.length c7] 64))
  have hb2 := hb1.alloc hb1.size (.cells #[.string s, .bool wk, .int .i64 ps, .int .i64 ls, .slice B7 bo.length d7] 64)
  have hx := (Blk.new w 64 #[.string s, .bool wk, .int .i64 ps, .int .i64 ls, .slice A7 bo.length c7]).alloc (.cells #[.string s, .bool wk, .int .i64 ps, .int .i64 ls, .slice B7 bo.length d7] 64)
  have hy := Blk.new (w.alloc (.cells #[.string s, .bool wk, .int .i64 ps, .int .i64 ls, .slice A7 bo.length c7] 64)) 64 #[.string s, .bool wk, .int .i64 ps, .int .i64 ls, .slice B7 bo.length d7]
  rw [show (w.alloc (.cells #[.string s, .bool wk, .int .i64 ps, .int .i64 ls, .slice A7 bo.length c7] 64)).heap.size = w.heap.size + 1 from by simp] at hy
  have HB2 := Lib.hid hb2
  have HXX := Lib.hid hx
  have HYY := Lib.hid hy
  clear hb1 hb2 hx hy
  go_enter Try.func65, Try.ntmps65
  go_wp2_with (first | (go_at_call 93; ((with_reducible refine (HI.out _ HB2.out).mono ?_); rintro e w20 ⟨rfl, hb20⟩); have HB20 := Lib.hid (HB2.out.trans (hb20.mono HB2.out.size)); have hx0 := HXX.out.bel2 hb20; have hy0 := HYY.out.bel2 hb20; have HX0 := Lib.hid hx0; have HY0 := Lib.hid hy0; have xa00 := hx0.cell 0; have ya00 := hy0.cell 0; have xa01 := hx0.cell 1; have ya01 := hy0.cell 1; have xa02 := hx0.cell 2; have ya02 := hy0.cell 2; have xa03 := hx0.cell 3; have ya03 := hy0.cell 3; have xa04 := hx0.cell 4; have ya04 := hy0.cell 4; have xl0 := hx0.lt; have yl0 := hy0.lt; clear hb20 hx0 hy0))
  go_ret
  exact ⟨by first | rfl | simp, HB20.out⟩
end Go.Proofs.Ytnkojjkijkhlbaa
