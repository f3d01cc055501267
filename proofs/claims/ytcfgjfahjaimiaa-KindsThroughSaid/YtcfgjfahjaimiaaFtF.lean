/-
  What may stand where another is wanted: kinds.Fits.
-/
import Derived.Test.YtcfgjfahjaimiaaFtA
namespace Go.Proofs.Ytcfgjfahjaimiaa
open Go.RowKit
set_option linter.unusedVariables false
set_option linter.unusedSimpArgs false

def fitB (k0 k1 : Int) (s ok m h : Bool) : Bool := if k0 = 0 then false else if s = true then true else if k0 = 4 then (k1 == 5 || (k1 == 6 || (k1 == 7 || k1 == 8))) else (ok && m && h)
set_option maxRecDepth 100000 in
set_option maxHeartbeats 4000000 in
theorem fits_core (w : World) (k0 k1 : Int) (p0 n0 p1 n1 : ByteArray) (A0 B0 A1 B1 A V : Option Addr) (m0 c0 l0 d0 m1 c1 l1 d1 c cv nv nu : Nat) (F : Nat → Prop) (dk dv : Int) (dn dof : ByteArray) (dt : Ty) (fs ms : List Fi) (s ok m h : Bool)
   (HS : (∀ w' : World, Below w.heap.size w w' → Calls Try.prog 19 #[.agg #[.int .i64 k0, .string p0, .string n0, .slice A0 m0 c0, .slice B0 l0 d0], .agg #[.int .i64 k1, .string p1, .string n1, .slice A1 m1 c1, .slice B1 l1 d1]] w' (TruthP w' s)))
   (HI : (∀ w' : World, Below w.heap.size w w' → Calls Try.prog 32 #[.slice A nu c, .agg #[.int .i64 k1, .string p1, .string n1, .slice A1 m1 c1, .slice B1 l1 d1]] w' (fun e w2 => (∃ vs : List Value, e = .returned (.tuple #[.agg vs.toArray, .bool ok]) ∧ DlV F ⟨dk, dn, dof, dv, dt, fs⟩ w2 vs) ∧ Below w'.heap.size w' w2)))
   (HMY : (∀ w' : World, Below w.heap.size w w' → Calls Try.prog 33 #[.slice A nu c, .agg #[.int .i64 k0, .string p0, .string n0, .slice A0 m0 c0, .slice B0 l0 d0]] w' (TruthP w' m)))
   (HSO : (∀ w' : World, Below w.heap.size w w' → Calls Try.prog 25 #[.slice A nu c, .slice V nv cv, .agg #[.int .i64 k0, .string p0, .string n0, .slice A0 m0 c0, .slice B0 l0 d0]] w' (SoP ms w')))
   (HH : (∀ w' : World, Below w.heap.size w w' → ∀ (F2 : Nat → Prop) (M : Option Addr) (cm : Nat), ms.length ≤ cm → SlG 6 RFi w' F2 M ms → ∀ (Af : Option Addr) (cf : Nat), SlG 6 RFi w' F Af fs → Calls Try.prog 34 #[.slice M ms.length cm, .slice Af fs.length cf] w' (TruthP w' h))) :
    Calls Try.prog 14 #[.slice A nu c, .slice V nv cv, .agg #[.int .i64 k0, .string p0, .string n0, .slice A0 m0 c0, .slice B0 l0 d0], .agg #[.int .i64 k1, .string p1, .string n1, .slice A1 m1 c1, .slice B1 l1 d1]] w (TruthP w (fitB k0 k1 s ok m h)) := by
  replace HS := Lib.hid HS
  replace HI := Lib.hid HI
  replace HMY := Lib.hid HMY
  replace HSO := Lib.hid HSO
  replace HH := Lib.hid HH
  have hb1 := ((Below.refl _ w).alloc (Nat.le_refl _) (.cells #[.int .i64 k0, .string p0, .string n0, .slice A0 m0 c0, .slice B0 l0 d0] 26))
  have hb2 := hb1.alloc hb1.size (.cells #[.int .i64 k1, .string p1, .string n1, .slice A1 m1 c1, .slice B1 l1 d1] 26)
  have HB2 := Lib.hid hb2
  have hka := (Blk.new w 26 #[.int .i64 k0, .string p0, .string n0, .slice A0 m0 c0, .slice B0 l0 d0]).alloc (.cells #[.int .i64 k1, .string p1, .string n1, .slice A1 m1 c1, .slice B1 l1 d1] 26)
  have hkb := Blk.new (w.alloc (.cells #[.int .i64 k0, .string p0, .string n0, .slice A0 m0 c0, .slice B0 l0 d0] 26)) 26 #[.int .i64 k1, .string p1, .string n1, .slice A1 m1 c1, .slice B1 l1 d1]
  rw [show (w.alloc (.cells #[.int .i64 k0, .string p0, .string n0, .slice A0 m0 c0, .slice B0 l0 d0] 26)).heap.size = w.heap.size + 1 from by simp] at hkb
  have HKA := Lib.hid hka
  have HKB := Lib.hid hkb
  clear hb1 hb2 hka hkb
  by_cases h0 : k0 = 0
  · have e0 : (k0 == 0) = true := by rw [h0]; decide
    rw [show fitB k0 k1 s ok m h = false from if_pos h0]
    clear h0
    go_enter Try.func14, Try.ntmps14
    go_wp2
    all_goals (go_ret; exact ⟨rfl, HB2.out⟩)
  have e0 : (k0 == 0) = false := by simpa using h0
  cases s with
  | true =>
    rw [show fitB k0 k1 true ok m h = true from by unfold fitB; rw [if_neg h0, if_pos rfl]]
    clear h0
    go_enter Try.func14, Try.ntmps14
    go_wp2_with (first | (go_at_call 19; refine (HS.out _ HB2.out).mono ?_; rintro e w4 ⟨rfl, hb4⟩; have hw4 := HB2.out.trans (hb4.mono HB2.out.size); have HW4 := Lib.hid hw4; have hka4 := HKA.out.bel2 hb4; have hkb4 := HKB.out.bel2 hb4; have ma0 := hka4.cell 0; have mb0 := hkb4.cell 0; have ma1 := hka4.cell 1; have mb1 := hkb4.cell 1; have ma2 := hka4.cell 2; have mb2 := hkb4.cell 2; have ma3 := hka4.cell 3; have mb3 := hkb4.cell 3; have ma4 := hka4.cell 4; have mb4 := hkb4.cell 4; have mal := hka4.lt; have mbl := hkb4.lt; have HKA4 := Lib.hid hka4; have HKB4 := Lib.hid hkb4; clear hb4 hw4 hka4 hkb4) | (go_at_call 32; refine (HI.out _ HW4.out).mono ?_; rintro e w5 ⟨⟨vs, rfl, hv⟩, hb5⟩; obtain ⟨tv, Af, cf, rfl, hrt, hfs⟩ := hv; obtain ⟨tk, tp, tn, A3, a3', a3, B3, b3', b3, rfl⟩ := hrt.shape; simp only [tyC, List.cons_append, List.nil_append] at hfs ⊢; have HFS5 := Lib.hid hfs; have hw5 := HW4.out.trans (hb5.mono HW4.out.size); have HW5 := Lib.hid hw5; have hka5 := HKA4.out.bel2 hb5; have na0 := hka5.cell 0; have na1 := hka5.cell 1; have na2 := hka5.cell 2; have na3 := hka5.cell 3; have na4 := hka5.cell 4; have nal := hka5.lt; have HKA5 := Lib.hid hka5; clear hb5 hw5 hka5 hrt hfs))
    all_goals (go_ret; exact ⟨rfl, HW4.out⟩)
  | false =>
  by_cases h4 : k0 = 4
  · have e4 : (k0 == 4) = true := by rw [h4]; decide
    obtain ⟨R, hR⟩ : ∃ R, fitB k0 k1 false ok m h = R := ⟨_, rfl⟩
    have HR := Lib.hid (show (k1 == 5 || (k1 == 6 || (k1 == 7 || k1 == 8))) = R by rw [← hR]; unfold fitB; rw [if_neg h0, if_neg (by decide), if_pos h4])
    rw [hR]
    clear h0 h4 hR
    go_enter Try.func14, Try.ntmps14
    go_wp2_with (first | (go_at_call 19; refine (HS.out _ HB2.out).mono ?_; rintro e w4 ⟨rfl, hb4⟩; have hw4 := HB2.out.trans (hb4.mono HB2.out.size); have HW4 := Lib.hid hw4; have hka4 := HKA.out.bel2 hb4; have hkb4 := HKB.out.bel2 hb4; have ma0 := hka4.cell 0; have mb0 := hkb4.cell 0; have ma1 := hka4.cell 1; have mb1 := hkb4.cell 1; have ma2 := hka4.cell 2; have mb2 := hkb4.cell 2; have ma3 := hka4.cell 3; have mb3 := hkb4.cell 3; have ma4 := hka4.cell 4; have mb4 := hkb4.cell 4; have mal := hka4.lt; have mbl := hkb4.lt; have HKA4 := Lib.hid hka4; have HKB4 := Lib.hid hkb4; clear hb4 hw4 hka4 hkb4) | (go_at_call 32; refine (HI.out _ HW4.out).mono ?_; rintro e w5 ⟨⟨vs, rfl, hv⟩, hb5⟩; obtain ⟨tv, Af, cf, rfl, hrt, hfs⟩ := hv; obtain ⟨tk, tp, tn, A3, a3', a3, B3, b3', b3, rfl⟩ := hrt.shape; simp only [tyC, List.cons_append, List.nil_append] at hfs ⊢; have HFS5 := Lib.hid hfs; have hw5 := HW4.out.trans (hb5.mono HW4.out.size); have HW5 := Lib.hid hw5; have hka5 := HKA4.out.bel2 hb5; have na0 := hka5.cell 0; have na1 := hka5.cell 1; have na2 := hka5.cell 2; have na3 := hka5.cell 3; have na4 := hka5.cell 4; have nal := hka5.lt; have HKA5 := Lib.hid hka5; clear hb5 hw5 hka5 hrt hfs))
    all_goals (go_ret; exact ⟨by rw [← HR.out]; simp_all [Bool.or_assoc], HW4.out⟩)
  have e4 : (k0 == 4) = false := by simpa using h4
  rw [show fitB k0 k1 false ok m h = (ok && m && h) from by unfold fitB; rw [if_neg h0, if_neg (by decide), if_neg h4]]
  clear h0 h4
  cases ok with
  | false =>
    rw [show (false && m && h) = false from rfl]
    go_enter Try.func14, Try.ntmps14
    go_wp2_with (first | (go_at_call 19; refine (HS.out _ HB2.out).mono ?_; rintro e w4 ⟨rfl, hb4⟩; have hw4 := HB2.out.trans (hb4.mono HB2.out.size); have HW4 := Lib.hid hw4; have hka4 := HKA.out.bel2 hb4; have hkb4 := HKB.out.bel2 hb4; have ma0 := hka4.cell 0; have mb0 := hkb4.cell 0; have ma1 := hka4.cell 1; have mb1 := hkb4.cell 1; have ma2 := hka4.cell 2; have mb2 := hkb4.cell 2; have ma3 := hka4.cell 3; have mb3 := hkb4.cell 3; have ma4 := hka4.cell 4; have mb4 := hkb4.cell 4; have mal := hka4.lt; have mbl := hkb4.lt; have HKA4 := Lib.hid hka4; have HKB4 := Lib.hid hkb4; clear hb4 hw4 hka4 hkb4) | (go_at_call 32; refine (HI.out _ HW4.out).mono ?_; rintro e w5 ⟨⟨vs, rfl, hv⟩, hb5⟩; obtain ⟨tv, Af, cf, rfl, hrt, hfs⟩ := hv; obtain ⟨tk, tp, tn, A3, a3', a3, B3, b3', b3, rfl⟩ := hrt.shape; simp only [tyC, List.cons_append, List.nil_append] at hfs ⊢; have HFS5 := Lib.hid hfs; have hw5 := HW4.out.trans (hb5.mono HW4.out.size); have HW5 := Lib.hid hw5; have hka5 := HKA4.out.bel2 hb5; have na0 := hka5.cell 0; have na1 := hka5.cell 1; have na2 := hka5.cell 2; have na3 := hka5.cell 3; have na4 := hka5.cell 4; have nal := hka5.lt; have HKA5 := Lib.hid hka5; clear hb5 hw5 hka5 hrt hfs))
    have HW6 := Lib.hid (HW5.out.alloc HW5.out.size (.cells #[.int .i64 dk, .string dn, .string dof, .int .i64 dv, .int .i64 tk, .string tp, .string tn, .slice A3 a3' a3, .slice B3 b3' b3, .slice Af fs.length cf] 57))
    have HKA6 := Lib.hid (HKA5.out.alloc (.cells #[.int .i64 dk, .string dn, .string dof, .int .i64 dv, .int .i64 tk, .string tp, .string tn, .slice A3 a3' a3, .slice B3 b3' b3, .slice Af fs.length cf] 57))
    have HKD6 := Lib.hid (Blk.new w5 57 #[.int .i64 dk, .string dn, .string dof, .int .i64 dv, .int .i64 tk, .string tp, .string tn, .slice A3 a3' a3, .slice B3 b3' b3, .slice Af fs.length cf])
    have HFS6 := Lib.hid (HFS5.out.bel RFi_keeps ((Below.refl _ w5).alloc (Nat.le_refl _) (.cells #[.int .i64 dk, .string dn, .string dof, .int .i64 dv, .int .i64 tk, .string tp, .string tn, .slice A3 a3' a3, .slice B3 b3' b3, .slice Af fs.length cf] 57)))
    generalize (w5.alloc (.cells #[.int .i64 dk, .string dn, .string dof, .int .i64 dv, .int .i64 tk, .string tp, .string tn, .slice A3 a3' a3, .slice B3 b3' b3, .slice Af fs.length cf] 57)) = W6 at HW6 HKA6 HKD6 HFS6 ⊢
    refine wp_region_held_drew (S := fun V => Below W6.heap.size W6 V) (by kernel_rfl) (Below.refl _ _).drew (fun hS0 => ?_)
    generalize W6.drew = W1 at hS0 ⊢
    refine wpAnyH_take (i := 0) (v := .bool false) rfl (by kernel_rfl) (by kernel_rfl) (by kernel_rfl) (fun _ _ _ h => h) (Or.inl ⟨rfl, fun w' hS => by (unfold execOp; go_simp)⟩) hS0 ?_
    simp only [Act.put, List.getElem_toArray, List.getElem_cons_zero, List.getElem_cons_succ, List.setIfInBounds_toArray, List.set_cons_zero, List.set_cons_succ]
    refine wpAnyH_take (i := 1) (v := .bool false) rfl (by kernel_rfl) (by kernel_rfl) (by kernel_rfl) (fun _ _ _ h => h) (Or.inl ⟨rfl, fun w' hS => by (unfold execOp; go_simp)⟩) hS0 ?_
    simp only [Act.put, List.getElem_toArray, List.getElem_cons_zero, List.getElem_cons_succ, List.setIfInBounds_toArray, List.set_cons_zero, List.set_cons_succ]
    refine wpAnyH_take (i := 2) (v := undef) rfl (by kernel_rfl) (by kernel_rfl) (by kernel_rfl) (fun _ _ _ h => h) (Or.inr ⟨by kernel_rfl, rfl⟩) hS0 ?_
    simp only [Act.put, List.getElem_toArray, List.getElem_cons_zero, List.getElem_cons_succ, List.setIfInBounds_toArray, List.set_cons_zero, List.set_cons_succ]
    refine wpAnyH_take (i := 3) (v := undef) rfl (by kernel_rfl) (by kernel_rfl) (by kernel_rfl) (fun _ _ _ h => h) (Or.inr ⟨by kernel_rfl, rfl⟩) hS0 ?_
    simp only [Act.put, List.getElem_toArray, List.getElem_cons_zero, List.getElem_cons_succ, List.setIfInBounds_toArray, List.set_cons_zero, List.set_cons_succ]
    refine wpAnyH_take (i := 4) (v := undef) rfl (by kernel_rfl) (by kernel_rfl) (by kernel_rfl) (fun _ _ _ h => h) (Or.inr ⟨by kernel_rfl, rfl⟩) hS0 ?_
    simp only [Act.put, List.getElem_toArray, List.getElem_cons_zero, List.getElem_cons_succ, List.setIfInBounds_toArray, List.set_cons_zero, List.set_cons_succ]
    refine wpAnyH_take (i := 5) (v := .bool false) rfl (by kernel_rfl) (by kernel_rfl) (by kernel_rfl) (fun _ _ _ h => h) (Or.inl ⟨rfl, fun w' hS => by (unfold execOp; go_simp)⟩) hS0 ?_
    simp only [Act.put, List.getElem_toArray, List.getElem_cons_zero, List.getElem_cons_succ, List.setIfInBounds_toArray, List.set_cons_zero, List.set_cons_succ]
    refine wpAnyH_take (i := 6) (v := .bool false) rfl (by kernel_rfl) (by kernel_rfl) (by kernel_rfl) (fun _ _ _ h => h) (Or.inl ⟨rfl, fun w' hS => by (unfold execOp; go_simp)⟩) hS0 ?_
    simp only [Act.put, List.getElem_toArray, List.getElem_cons_zero, List.getElem_cons_succ, List.setIfInBounds_toArray, List.set_cons_zero, List.set_cons_succ]
    refine wpAnyH_take (i := 7) (v := undef) rfl (by kernel_rfl) (by kernel_rfl) (by kernel_rfl) (fun _ _ _ h => h) (Or.inr ⟨by kernel_rfl, rfl⟩) hS0 ?_
    simp only [Act.put, List.getElem_toArray, List.getElem_cons_zero, List.getElem_cons_succ, List.setIfInBounds_toArray, List.set_cons_zero, List.set_cons_succ]
    refine wpAnyH_take (i := 8) (v := undef) rfl (by kernel_rfl) (by kernel_rfl) (by kernel_rfl) (fun _ _ _ h => h) (Or.inr ⟨by kernel_rfl, rfl⟩) hS0 ?_
    simp only [Act.put, List.getElem_toArray, List.getElem_cons_zero, List.getElem_cons_succ, List.setIfInBounds_toArray, List.set_cons_zero, List.set_cons_succ]
    refine wpAnyH_take (i := 9) (v := undef) rfl (by kernel_rfl) (by kernel_rfl) (by kernel_rfl) (fun _ _ _ h => h) (Or.inr ⟨by kernel_rfl, rfl⟩) hS0 ?_
    simp only [Act.put, List.getElem_toArray, List.getElem_cons_zero, List.getElem_cons_succ, List.setIfInBounds_toArray, List.set_cons_zero, List.set_cons_succ]
    refine wpAnyH_take (i := 10) (v := undef) rfl (by kernel_rfl) (by kernel_rfl) (by kernel_rfl) (fun _ _ _ h => h) (Or.inr ⟨by kernel_rfl, rfl⟩) hS0 ?_
    simp only [Act.put, List.getElem_toArray, List.getElem_cons_zero, List.getElem_cons_succ, List.setIfInBounds_toArray, List.set_cons_zero, List.set_cons_succ]
    refine wpAnyH_take (i := 11) (v := undef) rfl (by kernel_rfl) (by kernel_rfl) (by kernel_rfl) (fun _ _ _ h => h) (Or.inr ⟨by kernel_rfl, rfl⟩) hS0 ?_
    simp only [Act.put, List.getElem_toArray, List.getElem_cons_zero, List.getElem_cons_succ, List.setIfInBounds_toArray, List.set_cons_zero, List.set_cons_succ]
    refine wpAnyH_take (i := 12) (v := undef) rfl (by kernel_rfl) (by kernel_rfl) (by kernel_rfl) (fun _ _ _ h => h) (Or.inr ⟨by kernel_rfl, rfl⟩) hS0 ?_
    simp only [Act.put, List.getElem_toArray, List.getElem_cons_zero, List.getElem_cons_succ, List.setIfInBounds_toArray, List.set_cons_zero, List.set_cons_succ]
    refine wpAnyH_take (i := 13) (v := undef) rfl (by kernel_rfl) (by kernel_rfl) (by kernel_rfl) (fun _ _ _ h => h) (Or.inr ⟨by kernel_rfl, rfl⟩) hS0 ?_
    simp only [Act.put, List.getElem_toArray, List.getElem_cons_zero, List.getElem_cons_succ, List.setIfInBounds_toArray, List.set_cons_zero, List.set_cons_succ]
    refine wpAnyH_take (i := 14) (v := .bool false) rfl (by kernel_rfl) (by kernel_rfl) (by kernel_rfl) (fun _ _ _ h => h) (Or.inl ⟨rfl, fun w' hS => by (unfold execOp; go_simp)⟩) hS0 ?_
    simp only [Act.put, List.getElem_toArray, List.getElem_cons_zero, List.getElem_cons_succ, List.setIfInBounds_toArray, List.set_cons_zero, List.set_cons_succ]
    refine wpAnyH_take (i := 15) (v := .bool false) rfl (by kernel_rfl) (by kernel_rfl) (by kernel_rfl) (fun _ _ _ h => h) (Or.inl ⟨rfl, fun w' hS => by (unfold execOp; go_simp)⟩) hS0 ?_
    simp only [Act.put, List.getElem_toArray, List.getElem_cons_zero, List.getElem_cons_succ, List.setIfInBounds_toArray, List.set_cons_zero, List.set_cons_succ]
    refine wpAnyH_done (by kernel_rfl) ?_ _
    have HWE := Lib.hid (HW6.out.trans (hS0.mono HW6.out.size))
    go_wp2
    go_ret
    exact ⟨rfl, HWE.out⟩
  | true =>
  cases m with
  | false =>
    rw [show (true && false && h) = false from rfl]
    go_enter Try.func14, Try.ntmps14
    go_wp2_with (first | (go_at_call 19; refine (HS.out _ HB2.out).mono ?_; rintro e w4 ⟨rfl, hb4⟩; have hw4 := HB2.out.trans (hb4.mono HB2.out.size); have HW4 := Lib.hid hw4; have hka4 := HKA.out.bel2 hb4; have hkb4 := HKB.out.bel2 hb4; have ma0 := hka4.cell 0; have mb0 := hkb4.cell 0; have ma1 := hka4.cell 1; have mb1 := hkb4.cell 1; have ma2 := hka4.cell 2; have mb2 := hkb4.cell 2; have ma3 := hka4.cell 3; have mb3 := hkb4.cell 3; have ma4 := hka4.cell 4; have mb4 := hkb4.cell 4; have mal := hka4.lt; have mbl := hkb4.lt; have HKA4 := Lib.hid hka4; have HKB4 := Lib.hid hkb4; clear hb4 hw4 hka4 hkb4) | (go_at_call 32; refine (HI.out _ HW4.out).mono ?_; rintro e w5 ⟨⟨vs, rfl, hv⟩, hb5⟩; obtain ⟨tv, Af, cf, rfl, hrt, hfs⟩ := hv; obtain ⟨tk, tp, tn, A3, a3', a3, B3, b3', b3, rfl⟩ := hrt.shape; simp only [tyC, List.cons_append, List.nil_append] at hfs ⊢; have HFS5 := Lib.hid hfs; have hw5 := HW4.out.trans (hb5.mono HW4.out.size); have HW5 := Lib.hid hw5; have hka5 := HKA4.out.bel2 hb5; have na0 := hka5.cell 0; have na1 := hka5.cell 1; have na2 := hka5.cell 2; have na3 := hka5.cell 3; have na4 := hka5.cell 4; have nal := hka5.lt; have HKA5 := Lib.hid hka5; clear hb5 hw5 hka5 hrt hfs))
    have HW6 := Lib.hid (HW5.out.alloc HW5.out.size (.cells #[.int .i64 dk, .string dn, .string dof, .int .i64 dv, .int .i64 tk, .string tp, .string tn, .slice A3 a3' a3, .slice B3 b3' b3, .slice Af fs.length cf] 57))
    have HKA6 := Lib.hid (HKA5.out.alloc (.cells #[.int .i64 dk, .string dn, .string dof, .int .i64 dv, .int .i64 tk, .string tp, .string tn, .slice A3 a3' a3, .slice B3 b3' b3, .slice Af fs.length cf] 57))
    have HKD6 := Lib.hid (Blk.new w5 57 #[.int .i64 dk, .string dn, .string dof, .int .i64 dv, .int .i64 tk, .string tp, .string tn, .slice A3 a3' a3, .slice B3 b3' b3, .slice Af fs.length cf])
    have HFS6 := Lib.hid (HFS5.out.bel RFi_keeps ((Below.refl _ w5).alloc (Nat.le_refl _) (.cells #[.int .i64 dk, .string dn, .string dof, .int .i64 dv, .int .i64 tk, .string tp, .string tn, .slice A3 a3' a3, .slice B3 b3' b3, .slice Af fs.length cf] 57)))
    generalize (w5.alloc (.cells #[.int .i64 dk, .string dn, .string dof, .int .i64 dv, .int .i64 tk, .string tp, .string tn, .slice A3 a3' a3, .slice B3 b3' b3, .slice Af fs.length cf] 57)) = W6 at HW6 HKA6 HKD6 HFS6 ⊢
    refine wp_region_held_drew (S := fun V => Below W6.heap.size W6 V) (by kernel_rfl) (Below.refl _ _).drew (fun hS0 => ?_)
    generalize W6.drew = W1 at hS0 ⊢
    refine wpAnyH_take (i := 0) (v := .bool true) rfl (by kernel_rfl) (by kernel_rfl) (by kernel_rfl) (fun _ _ _ h => h) (Or.inl ⟨rfl, fun w' hS => by (unfold execOp; go_simp)⟩) hS0 ?_
    simp only [Act.put, List.getElem_toArray, List.getElem_cons_zero, List.getElem_cons_succ, List.setIfInBounds_toArray, List.set_cons_zero, List.set_cons_succ]
    refine wpAnyH_take (i := 1) (v := .bool true) rfl (by kernel_rfl) (by kernel_rfl) (by kernel_rfl) (fun _ _ _ h => h) (Or.inl ⟨rfl, fun w' hS => by (unfold execOp; go_simp)⟩) hS0 ?_
    simp only [Act.put, List.getElem_toArray, List.getElem_cons_zero, List.getElem_cons_succ, List.setIfInBounds_toArray, List.set_cons_zero, List.set_cons_succ]
    refine wpAnyH_take (i := 2) (v := .slice A nu c) rfl (by kernel_rfl) (by kernel_rfl) (by kernel_rfl) (fun _ _ _ h => h) (Or.inl ⟨by kernel_rfl, fun w' hS => by (unfold execOp; go_simp)⟩) hS0 ?_
    simp only [Act.put, List.getElem_toArray, List.getElem_cons_zero, List.getElem_cons_succ, List.setIfInBounds_toArray, List.set_cons_zero, List.set_cons_succ]
    refine wpAnyH_take (i := 3) (v := (.agg #[.int .i64 k0, .string p0, .string n0, .slice A0 m0 c0, .slice B0 l0 d0])) rfl (by kernel_rfl) (by kernel_rfl) (by kernel_rfl) (fun _ _ _ h => h) (Or.inl ⟨by kernel_rfl, fun w' hS => by (have hk := HKA6.out.bel2 hS; have x0 := hk.cell 0; have x1 := hk.cell 1; have x2 := hk.cell 2; have x3 := hk.cell 3; have x4 := hk.cell 4; have xl := hk.lt; unfold execOp; go_simp)⟩) hS0 ?_
    simp only [Act.put, List.getElem_toArray, List.getElem_cons_zero, List.getElem_cons_succ, List.setIfInBounds_toArray, List.set_cons_zero, List.set_cons_succ]
    refine wpAnyH_oneG (i := 4) (by kernel_rfl) rfl (by kernel_rfl) (op_call (args := #[.slice A nu c, .agg #[.int .i64 k0, .string p0, .string n0, .slice A0 m0 c0, .slice B0 l0 d0]]) (f := 33) (by unfold execOp; go_simp) ((HMY.out _ (HW6.out.trans (hS0.mono HW6.out.size))).mono ?_))
    rintro e w20 ⟨rfl, hb20⟩
    have hS1 := hS0.trans (hb20.mono hS0.size)
    refine And.intro hS1 ?_
    simp only [Act.put, List.getElem_toArray, List.getElem_cons_zero, List.getElem_cons_succ, List.setIfInBounds_toArray, List.set_cons_zero, List.set_cons_succ]
    refine wpAnyH_take (i := 5) (v := .bool false) rfl (by kernel_rfl) (by kernel_rfl) (by kernel_rfl) (fun _ _ _ h => h) (Or.inl ⟨rfl, fun w' hS => by (unfold execOp; go_simp)⟩) hS1 ?_
    simp only [Act.put, List.getElem_toArray, List.getElem_cons_zero, List.getElem_cons_succ, List.setIfInBounds_toArray, List.set_cons_zero, List.set_cons_succ]
    refine wpAnyH_take (i := 6) (v := .bool false) rfl (by kernel_rfl) (by kernel_rfl) (by kernel_rfl) (fun _ _ _ h => h) (Or.inl ⟨rfl, fun w' hS => by (unfold execOp; go_simp)⟩) hS1 ?_
    simp only [Act.put, List.getElem_toArray, List.getElem_cons_zero, List.getElem_cons_succ, List.setIfInBounds_toArray, List.set_cons_zero, List.set_cons_succ]
    refine wpAnyH_take (i := 7) (v := undef) rfl (by kernel_rfl) (by kernel_rfl) (by kernel_rfl) (fun _ _ _ h => h) (Or.inr ⟨by kernel_rfl, rfl⟩) hS1 ?_
    simp only [Act.put, List.getElem_toArray, List.getElem_cons_zero, List.getElem_cons_succ, List.setIfInBounds_toArray, List.set_cons_zero, List.set_cons_succ]
    refine wpAnyH_take (i := 8) (v := undef) rfl (by kernel_rfl) (by kernel_rfl) (by kernel_rfl) (fun _ _ _ h => h) (Or.inr ⟨by kernel_rfl, rfl⟩) hS1 ?_
    simp only [Act.put, List.getElem_toArray, List.getElem_cons_zero, List.getElem_cons_succ, List.setIfInBounds_toArray, List.set_cons_zero, List.set_cons_succ]
    refine wpAnyH_take (i := 9) (v := undef) rfl (by kernel_rfl) (by kernel_rfl) (by kernel_rfl) (fun _ _ _ h => h) (Or.inr ⟨by kernel_rfl, rfl⟩) hS1 ?_
    simp only [Act.put, List.getElem_toArray, List.getElem_cons_zero, List.getElem_cons_succ, List.setIfInBounds_toArray, List.set_cons_zero, List.set_cons_succ]
    refine wpAnyH_take (i := 10) (v := undef) rfl (by kernel_rfl) (by kernel_rfl) (by kernel_rfl) (fun _ _ _ h => h) (Or.inr ⟨by kernel_rfl, rfl⟩) hS1 ?_
    simp only [Act.put, List.getElem_toArray, List.getElem_cons_zero, List.getElem_cons_succ, List.setIfInBounds_toArray, List.set_cons_zero, List.set_cons_succ]
    refine wpAnyH_take (i := 11) (v := undef) rfl (by kernel_rfl) (by kernel_rfl) (by kernel_rfl) (fun _ _ _ h => h) (Or.inr ⟨by kernel_rfl, rfl⟩) hS1 ?_
    simp only [Act.put, List.getElem_toArray, List.getElem_cons_zero, List.getElem_cons_succ, List.setIfInBounds_toArray, List.set_cons_zero, List.set_cons_succ]
    refine wpAnyH_take (i := 12) (v := undef) rfl (by kernel_rfl) (by kernel_rfl) (by kernel_rfl) (fun _ _ _ h => h) (Or.inr ⟨by kernel_rfl, rfl⟩) hS1 ?_
    simp only [Act.put, List.getElem_toArray, List.getElem_cons_zero, List.getElem_cons_succ, List.setIfInBounds_toArray, List.set_cons_zero, List.set_cons_succ]
    refine wpAnyH_take (i := 13) (v := undef) rfl (by kernel_rfl) (by kernel_rfl) (by kernel_rfl) (fun _ _ _ h => h) (Or.inr ⟨by kernel_rfl, rfl⟩) hS1 ?_
    simp only [Act.put, List.getElem_toArray, List.getElem_cons_zero, List.getElem_cons_succ, List.setIfInBounds_toArray, List.set_cons_zero, List.set_cons_succ]
    refine wpAnyH_take (i := 14) (v := .bool false) rfl (by kernel_rfl) (by kernel_rfl) (by kernel_rfl) (fun _ _ _ h => h) (Or.inl ⟨rfl, fun w' hS => by (unfold execOp; go_simp)⟩) hS1 ?_
    simp only [Act.put, List.getElem_toArray, List.getElem_cons_zero, List.getElem_cons_succ, List.setIfInBounds_toArray, List.set_cons_zero, List.set_cons_succ]
    refine wpAnyH_take (i := 15) (v := .bool false) rfl (by kernel_rfl) (by kernel_rfl) (by kernel_rfl) (fun _ _ _ h => h) (Or.inl ⟨rfl, fun w' hS => by (unfold execOp; go_simp)⟩) hS1 ?_
    simp only [Act.put, List.getElem_toArray, List.getElem_cons_zero, List.getElem_cons_succ, List.setIfInBounds_toArray, List.set_cons_zero, List.set_cons_succ]
    refine wpAnyH_done (by kernel_rfl) ?_ _
    have HWE := Lib.hid (HW6.out.trans (hS1.mono HW6.out.size))
    go_wp2
    go_ret
    exact ⟨rfl, HWE.out⟩
  | true =>
    rw [show (true && true && h) = h from rfl]
    go_enter Try.func14, Try.ntmps14
    go_wp2_with (first | (go_at_call 19; refine (HS.out _ HB2.out).mono ?_; rintro e w4 ⟨rfl, hb4⟩; have hw4 := HB2.out.trans (hb4.mono HB2.out.size); have HW4 := Lib.hid hw4; have hka4 := HKA.out.bel2 hb4; have hkb4 := HKB.out.bel2 hb4; have ma0 := hka4.cell 0; have mb0 := hkb4.cell 0; have ma1 := hka4.cell 1; have mb1 := hkb4.cell 1; have ma2 := hka4.cell 2; have mb2 := hkb4.cell 2; have ma3 := hka4.cell 3; have mb3 := hkb4.cell 3; have ma4 := hka4.cell 4; have mb4 := hkb4.cell 4; have mal := hka4.lt; have mbl := hkb4.lt; have HKA4 := Lib.hid hka4; have HKB4 := Lib.hid hkb4; clear hb4 hw4 hka4 hkb4) | (go_at_call 32; refine (HI.out _ HW4.out).mono ?_; rintro e w5 ⟨⟨vs, rfl, hv⟩, hb5⟩; obtain ⟨tv, Af, cf, rfl, hrt, hfs⟩ := hv; obtain ⟨tk, tp, tn, A3, a3', a3, B3, b3', b3, rfl⟩ := hrt.shape; simp only [tyC, List.cons_append, List.nil_append] at hfs ⊢; have HFS5 := Lib.hid hfs; have hw5 := HW4.out.trans (hb5.mono HW4.out.size); have HW5 := Lib.hid hw5; have hka5 := HKA4.out.bel2 hb5; have na0 := hka5.cell 0; have na1 := hka5.cell 1; have na2 := hka5.cell 2; have na3 := hka5.cell 3; have na4 := hka5.cell 4; have nal := hka5.lt; have HKA5 := Lib.hid hka5; clear hb5 hw5 hka5 hrt hfs))
    have HW6 := Lib.hid (HW5.out.alloc HW5.out.size (.cells #[.int .i64 dk, .string dn, .string dof, .int .i64 dv, .int .i64 tk, .string tp, .string tn, .slice A3 a3' a3, .slice B3 b3' b3, .slice Af fs.length cf] 57))
    have HKA6 := Lib.hid (HKA5.out.alloc (.cells #[.int .i64 dk, .string dn, .string dof, .int .i64 dv, .int .i64 tk, .string tp, .string tn, .slice A3 a3' a3, .slice B3 b3' b3, .slice Af fs.length cf] 57))
    have HKD6 := Lib.hid (Blk.new w5 57 #[.int .i64 dk, .string dn, .string dof, .int .i64 dv, .int .i64 tk, .string tp, .string tn, .slice A3 a3' a3, .slice B3 b3' b3, .slice Af fs.length cf])
    have HFS6 := Lib.hid (HFS5.out.bel RFi_keeps ((Below.refl _ w5).alloc (Nat.le_refl _) (.cells #[.int .i64 dk, .string dn, .string dof, .int .i64 dv, .int .i64 tk, .string tp, .string tn, .slice A3 a3' a3, .slice B3 b3' b3, .slice Af fs.length cf] 57)))
    generalize (w5.alloc (.cells #[.int .i64 dk, .string dn, .string dof, .int .i64 dv, .int .i64 tk, .string tp, .string tn, .slice A3 a3' a3, .slice B3 b3' b3, .slice Af fs.length cf] 57)) = W6 at HW6 HKA6 HKD6 HFS6 ⊢
    refine wp_region_held_drew (S := fun V => Below W6.heap.size W6 V) (by kernel_rfl) (Below.refl _ _).drew (fun hS0 => ?_)
    generalize W6.drew = W1 at hS0 ⊢
    refine wpAnyH_take (i := 0) (v := .bool true) rfl (by kernel_rfl) (by kernel_rfl) (by kernel_rfl) (fun _ _ _ h => h) (Or.inl ⟨rfl, fun w' hS => by (unfold execOp; go_simp)⟩) hS0 ?_
    simp only [Act.put, List.getElem_toArray, List.getElem_cons_zero, List.getElem_cons_succ, List.setIfInBounds_toArray, List.set_cons_zero, List.set_cons_succ]
    refine wpAnyH_take (i := 1) (v := .bool true) rfl (by kernel_rfl) (by kernel_rfl) (by kernel_rfl) (fun _ _ _ h => h) (Or.inl ⟨rfl, fun w' hS => by (unfold execOp; go_simp)⟩) hS0 ?_
    simp only [Act.put, List.getElem_toArray, List.getElem_cons_zero, List.getElem_cons_succ, List.setIfInBounds_toArray, List.set_cons_zero, List.set_cons_succ]
    refine wpAnyH_take (i := 2) (v := .slice A nu c) rfl (by kernel_rfl) (by kernel_rfl) (by kernel_rfl) (fun _ _ _ h => h) (Or.inl ⟨by kernel_rfl, fun w' hS => by (unfold execOp; go_simp)⟩) hS0 ?_
    simp only [Act.put, List.getElem_toArray, List.getElem_cons_zero, List.getElem_cons_succ, List.setIfInBounds_toArray, List.set_cons_zero, List.set_cons_succ]
    refine wpAnyH_take (i := 3) (v := (.agg #[.int .i64 k0, .string p0, .string n0, .slice A0 m0 c0, .slice B0 l0 d0])) rfl (by kernel_rfl) (by kernel_rfl) (by kernel_rfl) (fun _ _ _ h => h) (Or.inl ⟨by kernel_rfl, fun w' hS => by (have hk := HKA6.out.bel2 hS; have x0 := hk.cell 0; have x1 := hk.cell 1; have x2 := hk.cell 2; have x3 := hk.cell 3; have x4 := hk.cell 4; have xl := hk.lt; unfold execOp; go_simp)⟩) hS0 ?_
    simp only [Act.put, List.getElem_toArray, List.getElem_cons_zero, List.getElem_cons_succ, List.setIfInBounds_toArray, List.set_cons_zero, List.set_cons_succ]
    refine wpAnyH_oneG (i := 4) (by kernel_rfl) rfl (by kernel_rfl) (op_call (args := #[.slice A nu c, .agg #[.int .i64 k0, .string p0, .string n0, .slice A0 m0 c0, .slice B0 l0 d0]]) (f := 33) (by unfold execOp; go_simp) ((HMY.out _ (HW6.out.trans (hS0.mono HW6.out.size))).mono ?_))
    rintro e w20 ⟨rfl, hb20⟩
    have hS1 := hS0.trans (hb20.mono hS0.size)
    refine And.intro hS1 ?_
    simp only [Act.put, List.getElem_toArray, List.getElem_cons_zero, List.getElem_cons_succ, List.setIfInBounds_toArray, List.set_cons_zero, List.set_cons_succ]
    refine wpAnyH_take (i := 5) (v := .bool true) rfl (by kernel_rfl) (by kernel_rfl) (by kernel_rfl) (fun _ _ _ h => h) (Or.inl ⟨rfl, fun w' hS => by (unfold execOp; go_simp)⟩) hS1 ?_
    simp only [Act.put, List.getElem_toArray, List.getElem_cons_zero, List.getElem_cons_succ, List.setIfInBounds_toArray, List.set_cons_zero, List.set_cons_succ]
    refine wpAnyH_take (i := 6) (v := .bool true) rfl (by kernel_rfl) (by kernel_rfl) (by kernel_rfl) (fun _ _ _ h => h) (Or.inl ⟨rfl, fun w' hS => by (unfold execOp; go_simp)⟩) hS1 ?_
    simp only [Act.put, List.getElem_toArray, List.getElem_cons_zero, List.getElem_cons_succ, List.setIfInBounds_toArray, List.set_cons_zero, List.set_cons_succ]
    refine wpAnyH_take (i := 7) (v := .slice A nu c) rfl (by kernel_rfl) (by kernel_rfl) (by kernel_rfl) (fun _ _ _ h => h) (Or.inl ⟨by kernel_rfl, fun w' hS => by (unfold execOp; go_simp)⟩) hS1 ?_
    simp only [Act.put, List.getElem_toArray, List.getElem_cons_zero, List.getElem_cons_succ, List.setIfInBounds_toArray, List.set_cons_zero, List.set_cons_succ]
    refine wpAnyH_take (i := 8) (v := .slice V nv cv) rfl (by kernel_rfl) (by kernel_rfl) (by kernel_rfl) (fun _ _ _ h => h) (Or.inl ⟨by kernel_rfl, fun w' hS => by (unfold execOp; go_simp)⟩) hS1 ?_
    simp only [Act.put, List.getElem_toArray, List.getElem_cons_zero, List.getElem_cons_succ, List.setIfInBounds_toArray, List.set_cons_zero, List.set_cons_succ]
    refine wpAnyH_take (i := 9) (v := (.agg #[.int .i64 k0, .string p0, .string n0, .slice A0 m0 c0, .slice B0 l0 d0])) rfl (by kernel_rfl) (by kernel_rfl) (by kernel_rfl) (fun _ _ _ h => h) (Or.inl ⟨by kernel_rfl, fun w' hS => by (have hk := HKA6.out.bel2 hS; have x0 := hk.cell 0; have x1 := hk.cell 1; have x2 := hk.cell 2; have x3 := hk.cell 3; have x4 := hk.cell 4; have xl := hk.lt; unfold execOp; go_simp)⟩) hS1 ?_
    simp only [Act.put, List.getElem_toArray, List.getElem_cons_zero, List.getElem_cons_succ, List.setIfInBounds_toArray, List.set_cons_zero, List.set_cons_succ]
    refine wpAnyH_take (i := 11) (v := (.pointer (some ⟨w5.heap.size, 9, none⟩))) rfl (by kernel_rfl) (by kernel_rfl) (by kernel_rfl) (fun _ _ _ h => h) (Or.inl ⟨by kernel_rfl, fun w' hS => by (unfold execOp; go_simp)⟩) hS1 ?_
    simp only [Act.put, List.getElem_toArray, List.getElem_cons_zero, List.getElem_cons_succ, List.setIfInBounds_toArray, List.set_cons_zero, List.set_cons_succ]
    refine wpAnyH_take (i := 12) (v := .slice Af fs.length cf) rfl (by kernel_rfl) (by kernel_rfl) (by kernel_rfl) (fun _ _ _ h => h) (Or.inl ⟨by kernel_rfl, fun w' hS => by (have hk := HKD6.out.bel2 hS; have x9 := hk.cell 9; have xl := hk.lt; unfold execOp; go_simp)⟩) hS1 ?_
    simp only [Act.put, List.getElem_toArray, List.getElem_cons_zero, List.getElem_cons_succ, List.setIfInBounds_toArray, List.set_cons_zero, List.set_cons_succ]
    refine wpAnyH_oneG (i := 10) (by kernel_rfl) rfl (by kernel_rfl) (op_call (args := #[.slice A nu c, .slice V nv cv, .agg #[.int .i64 k0, .string p0, .string n0, .slice A0 m0 c0, .slice B0 l0 d0]]) (f := 25) (by unfold execOp; go_simp) ((HSO.out _ (HW6.out.trans (hS1.mono HW6.out.size))).mono ?_))
    rintro e w21 ⟨⟨Am, cmx, rfl, hcm, hsm⟩, hb21⟩
    have hS2 := hS1.trans (hb21.mono hS1.size)
    refine And.intro hS2 ?_
    simp only [Act.put, List.getElem_toArray, List.getElem_cons_zero, List.getElem_cons_succ, List.setIfInBounds_toArray, List.set_cons_zero, List.set_cons_succ]
    refine wpAnyH_oneG (i := 13) (by kernel_rfl) rfl (by kernel_rfl) (op_call (args := #[.slice Am ms.length cmx, .slice Af fs.length cf]) (f := 34) (by unfold execOp; go_simp) ((HH.out _ (HW6.out.trans (hS2.mono HW6.out.size)) _ Am cmx hcm hsm Af cf (HFS6.out.bel RFi_keeps hS2)).mono ?_))
    rintro e w22 ⟨rfl, hb22⟩
    have hS3 := hS2.trans (hb22.mono hS2.size)
    refine And.intro hS3 ?_
    simp only [Act.put, List.getElem_toArray, List.getElem_cons_zero, List.getElem_cons_succ, List.setIfInBounds_toArray, List.set_cons_zero, List.set_cons_succ]
    refine wpAnyH_take (i := 14) (v := .bool h) rfl (by kernel_rfl) (by kernel_rfl) (by kernel_rfl) (fun _ _ _ h => h) (Or.inl ⟨rfl, fun w' hS => by (unfold execOp; go_simp)⟩) hS3 ?_
    simp only [Act.put, List.getElem_toArray, List.getElem_cons_zero, List.getElem_cons_succ, List.setIfInBounds_toArray, List.set_cons_zero, List.set_cons_succ]
    refine wpAnyH_take (i := 15) (v := .bool h) rfl (by kernel_rfl) (by kernel_rfl) (by kernel_rfl) (fun _ _ _ h => h) (Or.inl ⟨rfl, fun w' hS => by (unfold execOp; go_simp)⟩) hS3 ?_
    simp only [Act.put, List.getElem_toArray, List.getElem_cons_zero, List.getElem_cons_succ, List.setIfInBounds_toArray, List.set_cons_zero, List.set_cons_succ]
    refine wpAnyH_done (by kernel_rfl) ?_ _
    have HWE := Lib.hid (HW6.out.trans (hS3.mono HW6.out.size))
    go_wp2
    go_ret
    exact ⟨rfl, HWE.out⟩
end Go.Proofs.Ytcfgjfahjaimiaa

namespace Go.Proofs.Ytcfgjfahjaimiaa
open Go.RowKit
set_option linter.unusedVariables false
set_option linter.unusedSimpArgs false

def mset (us : List Un) (vars : List Fi) (t : Ty) : List Fi := Srt.isort ltF (methP us vars t)
def mayT (us : List Un) : Ty → Bool
  | .mk k p n _ _ => mayP us k p n
def ifT (us : List Un) : Ty → Option Dl
  | .mk k p n _ _ => ifP us k p n
def fitsP (us : List Un) (vars : List Fi) (a b : Ty) : Bool :=
  fitB (kindOf a) (kindOf b) (same a b) (ifT us b).isSome (mayT us a) (((ifT us b).getD dlZ).fields.all (hasP (mset us vars a)))
theorem few_ct {l : List Fi} (h : Few l) : ∀ m ∈ l, m.ty.count ≤ 2000000 := by
  intro m hm
  obtain ⟨i, hi⟩ := List.mem_iff_getElem?.1 hm
  have h1 := sumL_kid (fun f : Fi => f.ty.count) l i m hi
  have h2 := h.2.1
  have h3 : m.ty.count ≤ sumL (fun f : Fi => f.ty.count) l := by
    have h1' : sumL (fun f : Fi => f.ty.count) (l.take i) + m.ty.count ≤ sumL (fun f : Fi => f.ty.count) l := h1
    omega
  omega
theorem kfits_any (us : List Un) (hok : ∀ u ∈ us, u.ok 140737488355328) (hlen : us.length ≤ 140737488355328) (hcn : ∀ u ∈ us, u.cnt ≤ 2000) (vars : List Fi) (hlv : vars.length ≤ 140737488355328) (a b : Ty) (hca : a.count ≤ 2000000) (w : World) (F : Nat → Prop) (A V : Option Addr) (c cv : Nat) (vs ws : List Value) (hr : SlG 4 RUn w F A us) (hv : SlG 6 RFi w F V vars) (ha : RT w F a vs) (hb : RT w F b ws) (hF : ∀ k, F k → k < w.heap.size) :
    Calls Try.prog 14 #[.slice A us.length c, .slice V vars.length cv, .agg vs.toArray, .agg ws.toArray] w (TruthP w (fitsP us vars a b)) := by
  have hf := (methP_few hok hcn vars a).sort
  have hi : Few ((ifT us b).getD dlZ).fields := by cases b; exact ifaceP_few hok hcn _ _ _
  have hs : ∀ w' : World, Below w.heap.size w w' → Calls Try.prog 19 #[.agg vs.toArray, .agg ws.toArray] w' (TruthP w' (same a b)) := fun w' h => same_all 2000000 (Nat.le_refl _) a b hca w' F F vs ws (ha.bel h) (hb.bel h)
  have hso : ∀ w' : World, Below w.heap.size w w' → Calls Try.prog 25 #[.slice A us.length c, .slice V vars.length cv, .agg vs.toArray] w' (SoP (mset us vars a) w') := fun w' h => sortedm_any us hok hlen hcn vars hlv a w' F A V c cv vs (hr.bel RUn_keeps h) (hv.bel RFi_keeps h) (ha.bel h) (fun k hk => Nat.lt_of_lt_of_le (hF k hk) h.size)
  unfold fitsP
  obtain ⟨k0, p0, n0, la, lr⟩ := a
  obtain ⟨k1, p1, n1, lc, ld⟩ := b
  obtain ⟨A0, c0, B0, d0, rfl, _, _⟩ := ha.openL
  obtain ⟨A1, c1, B1, d1, rfl, _, _⟩ := hb.openL
  simp only [tyC] at hs hso ⊢
  obtain ⟨d, hd⟩ : ∃ d, (ifP us k1 p1 n1).getD dlZ = d := ⟨_, rfl⟩
  have hifd : (ifT us (Ty.mk k1 p1 n1 lc ld)).getD dlZ = d := hd
  rw [hifd] at hi ⊢
  obtain ⟨dk, dn, dof, dv, dt, fs⟩ := d
  refine fits_core w k0 k1 p0 n0 p1 n1 A0 B0 A1 B1 A V la.length c0 lr.length d0 lc.length c1 ld.length d1 c cv vars.length us.length F dk dv dn dof dt fs (mset us vars (Ty.mk k0 p0 n0 la lr)) _ _ _ _ hs ?_ ?_ hso ?_
  · intro w' h
    have h1 := ifaceof_any us hok hlen k1 p1 n1 A1 B1 lc.length c1 ld.length d1 w' F A c (hr.bel RUn_keeps h) (fun k hk => Nat.lt_of_lt_of_le (hF k hk) h.size)
    unfold IfP at h1
    rw [hd] at h1
    exact h1
  · intro w' h
    exact may_any us hok hlen k0 p0 n0 A0 B0 la.length c0 lr.length d0 w' F A c (hr.bel RUn_keeps h) (fun k hk => Nat.lt_of_lt_of_le (hF k hk) h.size)
  · intro w' h F2 M cm hcm hM Af cf hfs
    exact haveall_any (mset us vars (Ty.mk k0 p0 n0 la lr)) (Srt.isort_rise weakF _) hf.1 (few_ct hf) F2 M cm hcm fs (Nat.le_trans hi.1 (by omega)) w' F Af cf hfs hM (fun k hk => Nat.lt_of_lt_of_le (hF k hk) h.size)
end Go.Proofs.Ytcfgjfahjaimiaa

namespace Go.Proofs.Ytcfgjfahjaimiaa
open Go.RowKit
set_option linter.unusedVariables false
set_option linter.unusedSimpArgs false

theorem ifP_some (us : List Un) (k : Int) (p n : ByteArray) : (ifP us k p n).isSome = ((k == 8) && (fndP us p n).isSome && (((fndP us p n).getD dlZ).kind == 4)) := by
  unfold ifP
  by_cases h : k = 8
  · rw [if_pos h]
    subst h
    cases fndP us p n with
    | none => rfl
    | some d => by_cases h4 : d.kind = 4 <;> simp [h4]
  · rw [if_neg h]; simp [h]
set_option maxRecDepth 100000 in
set_option maxHeartbeats 4000000 in
theorem rfound_any (us : List Un) (hok : ∀ u ∈ us, u.ok 140737488355328) (hlen : us.length ≤ 140737488355328) (k0 : Int) (p0 n0 : ByteArray) (A0 B0 : Option Addr) (m0 c0 l0 d0 : Nat) (w : World) (F : Nat → Prop) (A : Option Addr) (c : Nat) (hr : SlG 4 RUn w F A us) (hF : ∀ k, F k → k < w.heap.size) :
    Calls Try.prog 35 #[.slice A us.length c, .agg #[.int .i64 k0, .string p0, .string n0, .slice A0 m0 c0, .slice B0 l0 d0]] w (TruthP w (ifP us k0 p0 n0).isSome) := by
  have hb1 := ((Below.refl _ w).alloc (Nat.le_refl _) (.cells #[.int .i64 k0, .string p0, .string n0, .slice A0 m0 c0, .slice B0 l0 d0] 26))
  have HB1 := Lib.hid hb1
  have HC := Lib.hid (rfind_any us hok p0 n0 hlen (w.alloc (.cells #[.int .i64 k0, .string p0, .string n0, .slice A0 m0 c0, .slice B0 l0 d0] 26)) F A c (hr.bel RUn_keeps hb1) (fun k h => Nat.lt_of_lt_of_le (hF k h) hb1.size))
  have HK := Lib.hid (Blk.new w 26 #[.int .i64 k0, .string p0, .string n0, .slice A0 m0 c0, .slice B0 l0 d0])
  rw [ifP_some]
  obtain ⟨d, hd⟩ : ∃ d, (fndP us p0 n0).getD dlZ = d := ⟨_, rfl⟩
  obtain ⟨s, hs⟩ : ∃ s, (fndP us p0 n0).isSome = s := ⟨_, rfl⟩
  rw [hd, hs] at HC ⊢
  obtain ⟨dk, dn, dof, dv, dt, fs⟩ := d
  obtain ⟨R, hR⟩ : ∃ R, ((k0 == 8) && s && (dk == 4)) = R := ⟨_, rfl⟩
  have HE := Lib.hid hR.symm
  show Calls _ _ _ _ (TruthP w ((k0 == 8) && s && (dk == 4)))
  rw [hR]
  clear hb1 hr hF hok hd hs hR
  cases e8 : (k0 == 8) with
  | false =>
    rw [e8] at HE
    go_enter Try.func35, Try.ntmps35
    go_wp2_with (go_at_call 30; refine HC.out.mono ?_; rintro e w5 ⟨⟨vs, rfl, hv⟩, hb5⟩; obtain ⟨tv, Af, cf, rfl, hrt, hfs⟩ := hv; obtain ⟨tk, tp, tn, A3, a3', a3, B3, b3', b3, rfl⟩ := hrt.shape; simp only [tyC, List.cons_append, List.nil_append]; have HW5 := Lib.hid (HB1.out.trans (hb5.mono HB1.out.size)); have hk5 := HK.out.bel2 hb5; have m0 := hk5.cell 0; have m1 := hk5.cell 1; have m2 := hk5.cell 2; have m3 := hk5.cell 3; have m4 := hk5.cell 4; have ml := hk5.lt; clear hb5 hk5 hrt hfs)
    all_goals (go_ret; exact ⟨by rw [HE.out]; first | rfl | simp_all, (HW5.out.alloc HW5.out.size _).trans (Below.refl _ _)⟩)
  | true =>
    rw [e8] at HE
    cases s with
    | false =>
      go_enter Try.func35, Try.ntmps35
      go_wp2_with (go_at_call 30; refine HC.out.mono ?_; rintro e w5 ⟨⟨vs, rfl, hv⟩, hb5⟩; obtain ⟨tv, Af, cf, rfl, hrt, hfs⟩ := hv; obtain ⟨tk, tp, tn, A3, a3', a3, B3, b3', b3, rfl⟩ := hrt.shape; simp only [tyC, List.cons_append, List.nil_append]; have HW5 := Lib.hid (HB1.out.trans (hb5.mono HB1.out.size)); have hk5 := HK.out.bel2 hb5; have m0 := hk5.cell 0; have m1 := hk5.cell 1; have m2 := hk5.cell 2; have m3 := hk5.cell 3; have m4 := hk5.cell 4; have ml := hk5.lt; clear hb5 hk5 hrt hfs)
      all_goals (go_ret; exact ⟨by rw [HE.out]; first | rfl | simp_all, (HW5.out.alloc HW5.out.size _).trans (Below.refl _ _)⟩)
    | true =>
      go_enter Try.func35, Try.ntmps35
      go_wp2_with (go_at_call 30; refine HC.out.mono ?_; rintro e w5 ⟨⟨vs, rfl, hv⟩, hb5⟩; obtain ⟨tv, Af, cf, rfl, hrt, hfs⟩ := hv; obtain ⟨tk, tp, tn, A3, a3', a3, B3, b3', b3, rfl⟩ := hrt.shape; simp only [tyC, List.cons_append, List.nil_append]; have HW5 := Lib.hid (HB1.out.trans (hb5.mono HB1.out.size)); have hk5 := HK.out.bel2 hb5; have m0 := hk5.cell 0; have m1 := hk5.cell 1; have m2 := hk5.cell 2; have m3 := hk5.cell 3; have m4 := hk5.cell 4; have ml := hk5.lt; clear hb5 hk5 hrt hfs)
      all_goals (go_ret; exact ⟨by rw [HE.out]; first | rfl | simp_all, (HW5.out.alloc HW5.out.size _).trans (Below.refl _ _)⟩)
end Go.Proofs.Ytcfgjfahjaimiaa

namespace Go.Proofs.Ytcfgjfahjaimiaa
open Go.RowKit
set_option linter.unusedVariables false
set_option linter.unusedSimpArgs false

set_option maxRecDepth 100000 in
set_option maxHeartbeats 4000000 in
theorem rfits_core (w : World) (k0 k1 : Int) (p0 n0 p1 n1 : ByteArray) (A0 B0 A1 B1 A V : Option Addr) (m0 c0 l0 d0 m1 c1 l1 d1 c cv nv nu : Nat) (s ok g h : Bool) (hz : k0 ≠ 0 → k1 = 0 → s = false ∧ ok = false)
   (HS : (∀ w' : World, Below w.heap.size w w' → Calls Try.prog 27 #[.agg #[.int .i64 k0, .string p0, .string n0, .slice A0 m0 c0, .slice B0 l0 d0], .agg #[.int .i64 k1, .string p1, .string n1, .slice A1 m1 c1, .slice B1 l1 d1]] w' (TruthP w' s)))
   (HI : (∀ w' : World, Below w.heap.size w w' → Calls Try.prog 35 #[.slice A nu c, .agg #[.int .i64 k1, .string p1, .string n1, .slice A1 m1 c1, .slice B1 l1 d1]] w' (TruthP w' ok)))
   (HF : (∀ w' : World, Below w.heap.size w w' → Calls Try.prog 35 #[.slice A nu c, .agg #[.int .i64 k0, .string p0, .string n0, .slice A0 m0 c0, .slice B0 l0 d0]] w' (TruthP w' g)))
   (HH : (∀ w' : World, Below w.heap.size w w' → Calls Try.prog 36 #[.slice A nu c, .slice V nv cv, .agg #[.int .i64 k0, .string p0, .string n0, .slice A0 m0 c0, .slice B0 l0 d0], .agg #[.int .i64 k1, .string p1, .string n1, .slice A1 m1 c1, .slice B1 l1 d1]] w' (TruthP w' h))) :
    Calls Try.prog 15 #[.slice A nu c, .slice V nv cv, .agg #[.int .i64 k0, .string p0, .string n0, .slice A0 m0 c0, .slice B0 l0 d0], .agg #[.int .i64 k1, .string p1, .string n1, .slice A1 m1 c1, .slice B1 l1 d1]] w (TruthP w (fitB k0 k1 s ok (g || decide (k0 = 5) || decide (k0 = 9)) h)) := by
  replace HS := Lib.hid HS
  replace HI := Lib.hid HI
  replace HF := Lib.hid HF
  replace HH := Lib.hid HH
  have hb1 := ((Below.refl _ w).alloc (Nat.le_refl _) (.cells #[.int .i64 k0, .string p0, .string n0, .slice A0 m0 c0, .slice B0 l0 d0] 26))
  have hb2 := hb1.alloc hb1.size (.cells #[.int .i64 k1, .string p1, .string n1, .slice A1 m1 c1, .slice B1 l1 d1] 26)
  have HW2 := Lib.hid hb2
  have hka := (Blk.new w 26 #[.int .i64 k0, .string p0, .string n0, .slice A0 m0 c0, .slice B0 l0 d0]).alloc (.cells #[.int .i64 k1, .string p1, .string n1, .slice A1 m1 c1, .slice B1 l1 d1] 26)
  have hkb := Blk.new (w.alloc (.cells #[.int .i64 k0, .string p0, .string n0, .slice A0 m0 c0, .slice B0 l0 d0] 26)) 26 #[.int .i64 k1, .string p1, .string n1, .slice A1 m1 c1, .slice B1 l1 d1]
  rw [show (w.alloc (.cells #[.int .i64 k0, .string p0, .string n0, .slice A0 m0 c0, .slice B0 l0 d0] 26)).heap.size = w.heap.size + 1 from by simp] at hkb
  have HKA2 := Lib.hid hka
  have HKB2 := Lib.hid hkb
  clear hb1 hb2 hka hkb
  by_cases h0 : k0 = 0
  · have e0 : (k0 == 0) = true := by rw [h0]; decide
    rw [show fitB k0 k1 s ok (g || decide (k0 = 5) || decide (k0 = 9)) h = false from if_pos h0]
    clear h0 hz
    go_enter Try.func15, Try.ntmps15
    go_wp2_with (first | (go_at_call 27; refine (HS.out _ HW2.out).mono ?_; rintro e w4 ⟨rfl, hb⟩; have hw := HW2.out.trans (hb.mono HW2.out.size); have HW4 := Lib.hid hw; have hka := HKA2.out.bel2 hb; have hkb := HKB2.out.bel2 hb; have ma0 := hka.cell 0; have mb0 := hkb.cell 0; have ma1 := hka.cell 1; have mb1 := hkb.cell 1; have ma2 := hka.cell 2; have mb2 := hkb.cell 2; have ma3 := hka.cell 3; have mb3 := hkb.cell 3; have ma4 := hka.cell 4; have mb4 := hkb.cell 4; have mal := hka.lt; have mbl := hkb.lt; have HKA4 := Lib.hid hka; have HKB4 := Lib.hid hkb; clear hb hw hka hkb) | (go_at_call 36; have _g := HW5; refine (HH.out _ HW5.out).mono ?_; rintro e w7 ⟨rfl, hb⟩; have hw := HW5.out.trans (hb.mono HW5.out.size); have HW7 := Lib.hid hw; have hka := HKA5.out.bel2 hb; have hkb := HKB5.out.bel2 hb; have ma0 := hka.cell 0; have mb0 := hkb.cell 0; have ma1 := hka.cell 1; have mb1 := hkb.cell 1; have ma2 := hka.cell 2; have mb2 := hkb.cell 2; have ma3 := hka.cell 3; have mb3 := hkb.cell 3; have ma4 := hka.cell 4; have mb4 := hkb.cell 4; have mal := hka.lt; have mbl := hkb.lt; have HKA7 := Lib.hid hka; have HKB7 := Lib.hid hkb; clear hb hw hka hkb) | (go_at_call 35; have _g := HW4; refine (HI.out _ HW4.out).mono ?_; rintro e w5 ⟨rfl, hb⟩; have hw := HW4.out.trans (hb.mono HW4.out.size); have HW5 := Lib.hid hw; have hka := HKA4.out.bel2 hb; have hkb := HKB4.out.bel2 hb; have ma0 := hka.cell 0; have mb0 := hkb.cell 0; have ma1 := hka.cell 1; have mb1 := hkb.cell 1; have ma2 := hka.cell 2; have mb2 := hkb.cell 2; have ma3 := hka.cell 3; have mb3 := hkb.cell 3; have ma4 := hka.cell 4; have mb4 := hkb.cell 4; have mal := hka.lt; have mbl := hkb.lt; have HKA5 := Lib.hid hka; have HKB5 := Lib.hid hkb; clear hb hw hka hkb))
    all_goals (go_ret; exact ⟨by first | rfl | simp, by first | exact HW7.out | exact HW6.out | exact HW5.out | exact HW4.out | exact HW2.out⟩)
  have e0 : (k0 == 0) = false := by simpa using h0
  by_cases h1 : k1 = 0
  · have e1 : (k1 == 0) = true := by rw [h1]; decide
    obtain ⟨rfl, rfl⟩ := hz h0 h1
    rw [show fitB k0 k1 false false (g || decide (k0 = 5) || decide (k0 = 9)) h = false from by unfold fitB; rw [if_neg h0, if_neg (by decide)]; subst h1; simp]
    clear h0 h1 hz
    go_enter Try.func15, Try.ntmps15
    go_wp2_with (first | (go_at_call 27; refine (HS.out _ HW2.out).mono ?_; rintro e w4 ⟨rfl, hb⟩; have hw := HW2.out.trans (hb.mono HW2.out.size); have HW4 := Lib.hid hw; have hka := HKA2.out.bel2 hb; have hkb := HKB2.out.bel2 hb; have ma0 := hka.cell 0; have mb0 := hkb.cell 0; have ma1 := hka.cell 1; have mb1 := hkb.cell 1; have ma2 := hka.cell 2; have mb2 := hkb.cell 2; have ma3 := hka.cell 3; have mb3 := hkb.cell 3; have ma4 := hka.cell 4; have mb4 := hkb.cell 4; have mal := hka.lt; have mbl := hkb.lt; have HKA4 := Lib.hid hka; have HKB4 := Lib.hid hkb; clear hb hw hka hkb) | (go_at_call 36; have _g := HW5; refine (HH.out _ HW5.out).mono ?_; rintro e w7 ⟨rfl, hb⟩; have hw := HW5.out.trans (hb.mono HW5.out.size); have HW7 := Lib.hid hw; have hka := HKA5.out.bel2 hb; have hkb := HKB5.out.bel2 hb; have ma0 := hka.cell 0; have mb0 := hkb.cell 0; have ma1 := hka.cell 1; have mb1 := hkb.cell 1; have ma2 := hka.cell 2; have mb2 := hkb.cell 2; have ma3 := hka.cell 3; have mb3 := hkb.cell 3; have ma4 := hka.cell 4; have mb4 := hkb.cell 4; have mal := hka.lt; have mbl := hkb.lt; have HKA7 := Lib.hid hka; have HKB7 := Lib.hid hkb; clear hb hw hka hkb) | (go_at_call 35; have _g := HW4; refine (HI.out _ HW4.out).mono ?_; rintro e w5 ⟨rfl, hb⟩; have hw := HW4.out.trans (hb.mono HW4.out.size); have HW5 := Lib.hid hw; have hka := HKA4.out.bel2 hb; have hkb := HKB4.out.bel2 hb; have ma0 := hka.cell 0; have mb0 := hkb.cell 0; have ma1 := hka.cell 1; have mb1 := hkb.cell 1; have ma2 := hka.cell 2; have mb2 := hkb.cell 2; have ma3 := hka.cell 3; have mb3 := hkb.cell 3; have ma4 := hka.cell 4; have mb4 := hkb.cell 4; have mal := hka.lt; have mbl := hkb.lt; have HKA5 := Lib.hid hka; have HKB5 := Lib.hid hkb; clear hb hw hka hkb))
    all_goals (go_ret; exact ⟨by first | rfl | simp, by first | exact HW7.out | exact HW6.out | exact HW5.out | exact HW4.out | exact HW2.out⟩)
  have e1 : (k1 == 0) = false := by simpa using h1
  clear h1 hz
  cases s with
  | true =>
    rw [show fitB k0 k1 true ok (g || decide (k0 = 5) || decide (k0 = 9)) h = true from by unfold fitB; rw [if_neg h0, if_pos rfl]]
    clear h0
    go_enter Try.func15, Try.ntmps15
    go_wp2_with (first | (go_at_call 27; refine (HS.out _ HW2.out).mono ?_; rintro e w4 ⟨rfl, hb⟩; have hw := HW2.out.trans (hb.mono HW2.out.size); have HW4 := Lib.hid hw; have hka := HKA2.out.bel2 hb; have hkb := HKB2.out.bel2 hb; have ma0 := hka.cell 0; have mb0 := hkb.cell 0; have ma1 := hka.cell 1; have mb1 := hkb.cell 1; have ma2 := hka.cell 2; have mb2 := hkb.cell 2; have ma3 := hka.cell 3; have mb3 := hkb.cell 3; have ma4 := hka.cell 4; have mb4 := hkb.cell 4; have mal := hka.lt; have mbl := hkb.lt; have HKA4 := Lib.hid hka; have HKB4 := Lib.hid hkb; clear hb hw hka hkb) | (go_at_call 36; have _g := HW5; refine (HH.out _ HW5.out).mono ?_; rintro e w7 ⟨rfl, hb⟩; have hw := HW5.out.trans (hb.mono HW5.out.size); have HW7 := Lib.hid hw; have hka := HKA5.out.bel2 hb; have hkb := HKB5.out.bel2 hb; have ma0 := hka.cell 0; have mb0 := hkb.cell 0; have ma1 := hka.cell 1; have mb1 := hkb.cell 1; have ma2 := hka.cell 2; have mb2 := hkb.cell 2; have ma3 := hka.cell 3; have mb3 := hkb.cell 3; have ma4 := hka.cell 4; have mb4 := hkb.cell 4; have mal := hka.lt; have mbl := hkb.lt; have HKA7 := Lib.hid hka; have HKB7 := Lib.hid hkb; clear hb hw hka hkb) | (go_at_call 35; have _g := HW4; refine (HI.out _ HW4.out).mono ?_; rintro e w5 ⟨rfl, hb⟩; have hw := HW4.out.trans (hb.mono HW4.out.size); have HW5 := Lib.hid hw; have hka := HKA4.out.bel2 hb; have hkb := HKB4.out.bel2 hb; have ma0 := hka.cell 0; have mb0 := hkb.cell 0; have ma1 := hka.cell 1; have mb1 := hkb.cell 1; have ma2 := hka.cell 2; have mb2 := hkb.cell 2; have ma3 := hka.cell 3; have mb3 := hkb.cell 3; have ma4 := hka.cell 4; have mb4 := hkb.cell 4; have mal := hka.lt; have mbl := hkb.lt; have HKA5 := Lib.hid hka; have HKB5 := Lib.hid hkb; clear hb hw hka hkb))
    all_goals (go_ret; exact ⟨by first | rfl | simp, by first | exact HW7.out | exact HW6.out | exact HW5.out | exact HW4.out | exact HW2.out⟩)
  | false =>
  by_cases h4 : k0 = 4
  · have e4 : (k0 == 4) = true := by rw [h4]; decide
    obtain ⟨R, hR⟩ : ∃ R, fitB k0 k1 false ok (g || decide (k0 = 5) || decide (k0 = 9)) h = R := ⟨_, rfl⟩
    have HR := Lib.hid (show (k1 == 5 || (k1 == 6 || (k1 == 7 || k1 == 8))) = R by rw [← hR]; unfold fitB; rw [if_neg h0, if_neg (by decide), if_pos h4])
    rw [hR]
    clear h0 h4 hR
    go_enter Try.func15, Try.ntmps15
    go_wp2_with (first | (go_at_call 27; refine (HS.out _ HW2.out).mono ?_; rintro e w4 ⟨rfl, hb⟩; have hw := HW2.out.trans (hb.mono HW2.out.size); have HW4 := Lib.hid hw; have hka := HKA2.out.bel2 hb; have hkb := HKB2.out.bel2 hb; have ma0 := hka.cell 0; have mb0 := hkb.cell 0; have ma1 := hka.cell 1; have mb1 := hkb.cell 1; have ma2 := hka.cell 2; have mb2 := hkb.cell 2; have ma3 := hka.cell 3; have mb3 := hkb.cell 3; have ma4 := hka.cell 4; have mb4 := hkb.cell 4; have mal := hka.lt; have mbl := hkb.lt; have HKA4 := Lib.hid hka; have HKB4 := Lib.hid hkb; clear hb hw hka hkb) | (go_at_call 36; have _g := HW5; refine (HH.out _ HW5.out).mono ?_; rintro e w7 ⟨rfl, hb⟩; have hw := HW5.out.trans (hb.mono HW5.out.size); have HW7 := Lib.hid hw; have hka := HKA5.out.bel2 hb; have hkb := HKB5.out.bel2 hb; have ma0 := hka.cell 0; have mb0 := hkb.cell 0; have ma1 := hka.cell 1; have mb1 := hkb.cell 1; have ma2 := hka.cell 2; have mb2 := hkb.cell 2; have ma3 := hka.cell 3; have mb3 := hkb.cell 3; have ma4 := hka.cell 4; have mb4 := hkb.cell 4; have mal := hka.lt; have mbl := hkb.lt; have HKA7 := Lib.hid hka; have HKB7 := Lib.hid hkb; clear hb hw hka hkb) | (go_at_call 35; have _g := HW4; refine (HI.out _ HW4.out).mono ?_; rintro e w5 ⟨rfl, hb⟩; have hw := HW4.out.trans (hb.mono HW4.out.size); have HW5 := Lib.hid hw; have hka := HKA4.out.bel2 hb; have hkb := HKB4.out.bel2 hb; have ma0 := hka.cell 0; have mb0 := hkb.cell 0; have ma1 := hka.cell 1; have mb1 := hkb.cell 1; have ma2 := hka.cell 2; have mb2 := hkb.cell 2; have ma3 := hka.cell 3; have mb3 := hkb.cell 3; have ma4 := hka.cell 4; have mb4 := hkb.cell 4; have mal := hka.lt; have mbl := hkb.lt; have HKA5 := Lib.hid hka; have HKB5 := Lib.hid hkb; clear hb hw hka hkb))
    all_goals (go_ret; exact ⟨by rw [← HR.out]; simp_all [Bool.or_assoc], HW4.out⟩)
  have e4 : (k0 == 4) = false := by simpa using h4
  rw [show fitB k0 k1 false ok (g || decide (k0 = 5) || decide (k0 = 9)) h = (ok && (g || decide (k0 = 5) || decide (k0 = 9)) && h) from by unfold fitB; rw [if_neg h0, if_neg (by decide), if_neg h4]]
  clear h0 h4
  cases ok with
  | false =>
    rw [show (false && (g || decide (k0 = 5) || decide (k0 = 9)) && h) = false from rfl]
    go_enter Try.func15, Try.ntmps15
    go_wp2_with (first | (go_at_call 27; refine (HS.out _ HW2.out).mono ?_; rintro e w4 ⟨rfl, hb⟩; have hw := HW2.out.trans (hb.mono HW2.out.size); have HW4 := Lib.hid hw; have hka := HKA2.out.bel2 hb; have hkb := HKB2.out.bel2 hb; have ma0 := hka.cell 0; have mb0 := hkb.cell 0; have ma1 := hka.cell 1; have mb1 := hkb.cell 1; have ma2 := hka.cell 2; have mb2 := hkb.cell 2; have ma3 := hka.cell 3; have mb3 := hkb.cell 3; have ma4 := hka.cell 4; have mb4 := hkb.cell 4; have mal := hka.lt; have mbl := hkb.lt; have HKA4 := Lib.hid hka; have HKB4 := Lib.hid hkb; clear hb hw hka hkb) | (go_at_call 36; have _g := HW5; refine (HH.out _ HW5.out).mono ?_; rintro e w7 ⟨rfl, hb⟩; have hw := HW5.out.trans (hb.mono HW5.out.size); have HW7 := Lib.hid hw; have hka := HKA5.out.bel2 hb; have hkb := HKB5.out.bel2 hb; have ma0 := hka.cell 0; have mb0 := hkb.cell 0; have ma1 := hka.cell 1; have mb1 := hkb.cell 1; have ma2 := hka.cell 2; have mb2 := hkb.cell 2; have ma3 := hka.cell 3; have mb3 := hkb.cell 3; have ma4 := hka.cell 4; have mb4 := hkb.cell 4; have mal := hka.lt; have mbl := hkb.lt; have HKA7 := Lib.hid hka; have HKB7 := Lib.hid hkb; clear hb hw hka hkb) | (go_at_call 35; have _g := HW4; refine (HI.out _ HW4.out).mono ?_; rintro e w5 ⟨rfl, hb⟩; have hw := HW4.out.trans (hb.mono HW4.out.size); have HW5 := Lib.hid hw; have hka := HKA4.out.bel2 hb; have hkb := HKB4.out.bel2 hb; have ma0 := hka.cell 0; have mb0 := hkb.cell 0; have ma1 := hka.cell 1; have mb1 := hkb.cell 1; have ma2 := hka.cell 2; have mb2 := hkb.cell 2; have ma3 := hka.cell 3; have mb3 := hkb.cell 3; have ma4 := hka.cell 4; have mb4 := hkb.cell 4; have mal := hka.lt; have mbl := hkb.lt; have HKA5 := Lib.hid hka; have HKB5 := Lib.hid hkb; clear hb hw hka hkb))
    all_goals (go_ret; exact ⟨by first | rfl | simp, by first | exact HW7.out | exact HW6.out | exact HW5.out | exact HW4.out | exact HW2.out⟩)
  | true =>
  by_cases h5 : k0 = 5
  · have e5 : (k0 != 5) = false := by rw [h5]; decide
    rw [show (true && (g || decide (k0 = 5) || decide (k0 = 9)) && h) = h from by rw [h5]; simp]
    clear h5
    go_enter Try.func15, Try.ntmps15
    go_wp2_with (first | (go_at_call 27; refine (HS.out _ HW2.out).mono ?_; rintro e w4 ⟨rfl, hb⟩; have hw := HW2.out.trans (hb.mono HW2.out.size); have HW4 := Lib.hid hw; have hka := HKA2.out.bel2 hb; have hkb := HKB2.out.bel2 hb; have ma0 := hka.cell 0; have mb0 := hkb.cell 0; have ma1 := hka.cell 1; have mb1 := hkb.cell 1; have ma2 := hka.cell 2; have mb2 := hkb.cell 2; have ma3 := hka.cell 3; have mb3 := hkb.cell 3; have ma4 := hka.cell 4; have mb4 := hkb.cell 4; have mal := hka.lt; have mbl := hkb.lt; have HKA4 := Lib.hid hka; have HKB4 := Lib.hid hkb; clear hb hw hka hkb) | (go_at_call 36; have _g := HW5; refine (HH.out _ HW5.out).mono ?_; rintro e w7 ⟨rfl, hb⟩; have hw := HW5.out.trans (hb.mono HW5.out.size); have HW7 := Lib.hid hw; have hka := HKA5.out.bel2 hb; have hkb := HKB5.out.bel2 hb; have ma0 := hka.cell 0; have mb0 := hkb.cell 0; have ma1 := hka.cell 1; have mb1 := hkb.cell 1; have ma2 := hka.cell 2; have mb2 := hkb.cell 2; have ma3 := hka.cell 3; have mb3 := hkb.cell 3; have ma4 := hka.cell 4; have mb4 := hkb.cell 4; have mal := hka.lt; have mbl := hkb.lt; have HKA7 := Lib.hid hka; have HKB7 := Lib.hid hkb; clear hb hw hka hkb) | (go_at_call 35; have _g := HW4; refine (HI.out _ HW4.out).mono ?_; rintro e w5 ⟨rfl, hb⟩; have hw := HW4.out.trans (hb.mono HW4.out.size); have HW5 := Lib.hid hw; have hka := HKA4.out.bel2 hb; have hkb := HKB4.out.bel2 hb; have ma0 := hka.cell 0; have mb0 := hkb.cell 0; have ma1 := hka.cell 1; have mb1 := hkb.cell 1; have ma2 := hka.cell 2; have mb2 := hkb.cell 2; have ma3 := hka.cell 3; have mb3 := hkb.cell 3; have ma4 := hka.cell 4; have mb4 := hkb.cell 4; have mal := hka.lt; have mbl := hkb.lt; have HKA5 := Lib.hid hka; have HKB5 := Lib.hid hkb; clear hb hw hka hkb))
    all_goals (go_ret; exact ⟨by first | rfl | simp, by first | exact HW7.out | exact HW6.out | exact HW5.out | exact HW4.out | exact HW2.out⟩)
  have e5 : (k0 != 5) = true := by simpa using h5
  by_cases h9 : k0 = 9
  · have e9 : (k0 != 9) = false := by rw [h9]; decide
    rw [show (true && (g || decide (k0 = 5) || decide (k0 = 9)) && h) = h from by rw [h9]; simp]
    clear h5 h9
    go_enter Try.func15, Try.ntmps15
    go_wp2_with (first | (go_at_call 27; refine (HS.out _ HW2.out).mono ?_; rintro e w4 ⟨rfl, hb⟩; have hw := HW2.out.trans (hb.mono HW2.out.size); have HW4 := Lib.hid hw; have hka := HKA2.out.bel2 hb; have hkb := HKB2.out.bel2 hb; have ma0 := hka.cell 0; have mb0 := hkb.cell 0; have ma1 := hka.cell 1; have mb1 := hkb.cell 1; have ma2 := hka.cell 2; have mb2 := hkb.cell 2; have ma3 := hka.cell 3; have mb3 := hkb.cell 3; have ma4 := hka.cell 4; have mb4 := hkb.cell 4; have mal := hka.lt; have mbl := hkb.lt; have HKA4 := Lib.hid hka; have HKB4 := Lib.hid hkb; clear hb hw hka hkb) | (go_at_call 36; have _g := HW5; refine (HH.out _ HW5.out).mono ?_; rintro e w7 ⟨rfl, hb⟩; have hw := HW5.out.trans (hb.mono HW5.out.size); have HW7 := Lib.hid hw; have hka := HKA5.out.bel2 hb; have hkb := HKB5.out.bel2 hb; have ma0 := hka.cell 0; have mb0 := hkb.cell 0; have ma1 := hka.cell 1; have mb1 := hkb.cell 1; have ma2 := hka.cell 2; have mb2 := hkb.cell 2; have ma3 := hka.cell 3; have mb3 := hkb.cell 3; have ma4 := hka.cell 4; have mb4 := hkb.cell 4; have mal := hka.lt; have mbl := hkb.lt; have HKA7 := Lib.hid hka; have HKB7 := Lib.hid hkb; clear hb hw hka hkb) | (go_at_call 35; have _g := HW4; refine (HI.out _ HW4.out).mono ?_; rintro e w5 ⟨rfl, hb⟩; have hw := HW4.out.trans (hb.mono HW4.out.size); have HW5 := Lib.hid hw; have hka := HKA4.out.bel2 hb; have hkb := HKB4.out.bel2 hb; have ma0 := hka.cell 0; have mb0 := hkb.cell 0; have ma1 := hka.cell 1; have mb1 := hkb.cell 1; have ma2 := hka.cell 2; have mb2 := hkb.cell 2; have ma3 := hka.cell 3; have mb3 := hkb.cell 3; have ma4 := hka.cell 4; have mb4 := hkb.cell 4; have mal := hka.lt; have mbl := hkb.lt; have HKA5 := Lib.hid hka; have HKB5 := Lib.hid hkb; clear hb hw hka hkb))
    all_goals (go_ret; exact ⟨by first | rfl | simp, by first | exact HW7.out | exact HW6.out | exact HW5.out | exact HW4.out | exact HW2.out⟩)
  have e9 : (k0 != 9) = true := by simpa using h9
  rw [show (true && (g || decide (k0 = 5) || decide (k0 = 9)) && h) = (g && h) from by simp [h5, h9]]
  clear h5 h9
  cases g with
  | false =>
    rw [show (false && h) = false from rfl]
    go_enter Try.func15, Try.ntmps15
    go_wp2_with (first | (go_at_call 27; refine (HS.out _ HW2.out).mono ?_; rintro e w4 ⟨rfl, hb⟩; have hw := HW2.out.trans (hb.mono HW2.out.size); have HW4 := Lib.hid hw; have hka := HKA2.out.bel2 hb; have hkb := HKB2.out.bel2 hb; have ma0 := hka.cell 0; have mb0 := hkb.cell 0; have ma1 := hka.cell 1; have mb1 := hkb.cell 1; have ma2 := hka.cell 2; have mb2 := hkb.cell 2; have ma3 := hka.cell 3; have mb3 := hkb.cell 3; have ma4 := hka.cell 4; have mb4 := hkb.cell 4; have mal := hka.lt; have mbl := hkb.lt; have HKA4 := Lib.hid hka; have HKB4 := Lib.hid hkb; clear hb hw hka hkb) | (go_at_call 36; have _g := HW6; refine (HH.out _ HW6.out).mono ?_; rintro e w7 ⟨rfl, hb⟩; have hw := HW6.out.trans (hb.mono HW6.out.size); have HW7 := Lib.hid hw; have hka := HKA6.out.bel2 hb; have hkb := HKB6.out.bel2 hb; have ma0 := hka.cell 0; have mb0 := hkb.cell 0; have ma1 := hka.cell 1; have mb1 := hkb.cell 1; have ma2 := hka.cell 2; have mb2 := hkb.cell 2; have ma3 := hka.cell 3; have mb3 := hkb.cell 3; have ma4 := hka.cell 4; have mb4 := hkb.cell 4; have mal := hka.lt; have mbl := hkb.lt; have HKA7 := Lib.hid hka; have HKB7 := Lib.hid hkb; clear hb hw hka hkb) | (go_at_call 35; have _g := HW5; refine (HF.out _ HW5.out).mono ?_; rintro e w6 ⟨rfl, hb⟩; have hw := HW5.out.trans (hb.mono HW5.out.size); have HW6 := Lib.hid hw; have hka := HKA5.out.bel2 hb; have hkb := HKB5.out.bel2 hb; have ma0 := hka.cell 0; have mb0 := hkb.cell 0; have ma1 := hka.cell 1; have mb1 := hkb.cell 1; have ma2 := hka.cell 2; have mb2 := hkb.cell 2; have ma3 := hka.cell 3; have mb3 := hkb.cell 3; have ma4 := hka.cell 4; have mb4 := hkb.cell 4; have mal := hka.lt; have mbl := hkb.lt; have HKA6 := Lib.hid hka; have HKB6 := Lib.hid hkb; clear hb hw hka hkb) | (go_at_call 36; have _g := HW5; refine (HH.out _ HW5.out).mono ?_; rintro e w7 ⟨rfl, hb⟩; have hw := HW5.out.trans (hb.mono HW5.out.size); have HW7 := Lib.hid hw; have hka := HKA5.out.bel2 hb; have hkb := HKB5.out.bel2 hb; have ma0 := hka.cell 0; have mb0 := hkb.cell 0; have ma1 := hka.cell 1; have mb1 := hkb.cell 1; have ma2 := hka.cell 2; have mb2 := hkb.cell 2; have ma3 := hka.cell 3; have mb3 := hkb.cell 3; have ma4 := hka.cell 4; have mb4 := hkb.cell 4; have mal := hka.lt; have mbl := hkb.lt; have HKA7 := Lib.hid hka; have HKB7 := Lib.hid hkb; clear hb hw hka hkb) | (go_at_call 35; have _g := HW4; refine (HI.out _ HW4.out).mono ?_; rintro e w5 ⟨rfl, hb⟩; have hw := HW4.out.trans (hb.mono HW4.out.size); have HW5 := Lib.hid hw; have hka := HKA4.out.bel2 hb; have hkb := HKB4.out.bel2 hb; have ma0 := hka.cell 0; have mb0 := hkb.cell 0; have ma1 := hka.cell 1; have mb1 := hkb.cell 1; have ma2 := hka.cell 2; have mb2 := hkb.cell 2; have ma3 := hka.cell 3; have mb3 := hkb.cell 3; have ma4 := hka.cell 4; have mb4 := hkb.cell 4; have mal := hka.lt; have mbl := hkb.lt; have HKA5 := Lib.hid hka; have HKB5 := Lib.hid hkb; clear hb hw hka hkb))
    all_goals (go_ret; exact ⟨by first | rfl | simp, by first | exact HW7.out | exact HW6.out | exact HW5.out | exact HW4.out | exact HW2.out⟩)
  | true =>
    rw [show (true && h) = h from rfl]
    go_enter Try.func15, Try.ntmps15
    go_wp2_with (first | (go_at_call 27; refine (HS.out _ HW2.out).mono ?_; rintro e w4 ⟨rfl, hb⟩; have hw := HW2.out.trans (hb.mono HW2.out.size); have HW4 := Lib.hid hw; have hka := HKA2.out.bel2 hb; have hkb := HKB2.out.bel2 hb; have ma0 := hka.cell 0; have mb0 := hkb.cell 0; have ma1 := hka.cell 1; have mb1 := hkb.cell 1; have ma2 := hka.cell 2; have mb2 := hkb.cell 2; have ma3 := hka.cell 3; have mb3 := hkb.cell 3; have ma4 := hka.cell 4; have mb4 := hkb.cell 4; have mal := hka.lt; have mbl := hkb.lt; have HKA4 := Lib.hid hka; have HKB4 := Lib.hid hkb; clear hb hw hka hkb) | (go_at_call 36; have _g := HW6; refine (HH.out _ HW6.out).mono ?_; rintro e w7 ⟨rfl, hb⟩; have hw := HW6.out.trans (hb.mono HW6.out.size); have HW7 := Lib.hid hw; have hka := HKA6.out.bel2 hb; have hkb := HKB6.out.bel2 hb; have ma0 := hka.cell 0; have mb0 := hkb.cell 0; have ma1 := hka.cell 1; have mb1 := hkb.cell 1; have ma2 := hka.cell 2; have mb2 := hkb.cell 2; have ma3 := hka.cell 3; have mb3 := hkb.cell 3; have ma4 := hka.cell 4; have mb4 := hkb.cell 4; have mal := hka.lt; have mbl := hkb.lt; have HKA7 := Lib.hid hka; have HKB7 := Lib.hid hkb; clear hb hw hka hkb) | (go_at_call 35; have _g := HW5; refine (HF.out _ HW5.out).mono ?_; rintro e w6 ⟨rfl, hb⟩; have hw := HW5.out.trans (hb.mono HW5.out.size); have HW6 := Lib.hid hw; have hka := HKA5.out.bel2 hb; have hkb := HKB5.out.bel2 hb; have ma0 := hka.cell 0; have mb0 := hkb.cell 0; have ma1 := hka.cell 1; have mb1 := hkb.cell 1; have ma2 := hka.cell 2; have mb2 := hkb.cell 2; have ma3 := hka.cell 3; have mb3 := hkb.cell 3; have ma4 := hka.cell 4; have mb4 := hkb.cell 4; have mal := hka.lt; have mbl := hkb.lt; have HKA6 := Lib.hid hka; have HKB6 := Lib.hid hkb; clear hb hw hka hkb) | (go_at_call 36; have _g := HW5; refine (HH.out _ HW5.out).mono ?_; rintro e w7 ⟨rfl, hb⟩; have hw := HW5.out.trans (hb.mono HW5.out.size); have HW7 := Lib.hid hw; have hka := HKA5.out.bel2 hb; have hkb := HKB5.out.bel2 hb; have ma0 := hka.cell 0; have mb0 := hkb.cell 0; have ma1 := hka.cell 1; have mb1 := hkb.cell 1; have ma2 := hka.cell 2; have mb2 := hkb.cell 2; have ma3 := hka.cell 3; have mb3 := hkb.cell 3; have ma4 := hka.cell 4; have mb4 := hkb.cell 4; have mal := hka.lt; have mbl := hkb.lt; have HKA7 := Lib.hid hka; have HKB7 := Lib.hid hkb; clear hb hw hka hkb) | (go_at_call 35; have _g := HW4; refine (HI.out _ HW4.out).mono ?_; rintro e w5 ⟨rfl, hb⟩; have hw := HW4.out.trans (hb.mono HW4.out.size); have HW5 := Lib.hid hw; have hka := HKA4.out.bel2 hb; have hkb := HKB4.out.bel2 hb; have ma0 := hka.cell 0; have mb0 := hkb.cell 0; have ma1 := hka.cell 1; have mb1 := hkb.cell 1; have ma2 := hka.cell 2; have mb2 := hkb.cell 2; have ma3 := hka.cell 3; have mb3 := hkb.cell 3; have ma4 := hka.cell 4; have mb4 := hkb.cell 4; have mal := hka.lt; have mbl := hkb.lt; have HKA5 := Lib.hid hka; have HKB5 := Lib.hid hkb; clear hb hw hka hkb))
    all_goals (go_ret; exact ⟨by first | rfl | simp, by first | exact HW7.out | exact HW6.out | exact HW5.out | exact HW4.out | exact HW2.out⟩)
end Go.Proofs.Ytcfgjfahjaimiaa
