/-
  Which units are one, by the document: declarations, functions, heads, units: walks.
-/
import Derived.Test.YtnkojjkijkhlbaaSf
namespace Go.Proofs.Ytnkojjkijkhlbaa
open Go.RowKit
set_option linter.unusedVariables false
set_option linter.unusedSimpArgs false

set_option maxRecDepth 100000 in
set_option maxHeartbeats 8000000 in
theorem samD_any (u v : Dl) (hu : u.ty.count ≤ 2000000 ∧ u.fields.length ≤ 140737488355328 ∧ ∀ f ∈ u.fields, f.ty.count ≤ 2000000) (hv : v.fields.length ≤ 140737488355328) (w : World) (F F' : Nat → Prop) (vs us : List Value) (ha : RDl w F u vs) (hb : RDl w F' v us) (b : Bool) (hbb : b = true ↔ u = v) :
    Calls Try.prog 64 #[.agg vs.toArray, .agg us.toArray] w (TruthP w b) := by
  obtain ⟨dk, dn, dof, dv, dt, fs⟩ := u
  obtain ⟨dk2, dn2, dof2, dv2, dt2, fs2⟩ := v
  obtain ⟨tv, Af, cf, rfl, hrt, hfs⟩ := ha
  obtain ⟨tv', Ag, cg, rfl, hrt', hfs'⟩ := hb
  dsimp only at hrt hrt' hfs hfs' hu hv
  have HI := Lib.hid (fun (b' : Bool) (hb' : b' = true ↔ dt = dt2) w' (h : Below w.heap.size w w') => (show Calls Try.prog 91 #[.agg tv.toArray, .agg tv'.toArray] w' (TruthP w' b') from by
    have e : b' = same dt dt2 := Bool.eq_iff_iff.2 (hb'.trans (same_iff dt dt2).symm)
    rw [e]
    exact rsame_all 2000000 (Nat.le_refl _) dt dt2 hu.1 w' _ _ _ _ (hrt.bel h) (hrt'.bel h)))
  have HJ := Lib.hid (fun (b' : Bool) (hb' : b' = true ↔ fs = fs2) w' (h : Below w.heap.size w w') => samF_any fs fs2 ⟨hu.2.1, hu.2.2⟩ hv w' F F' Af Ag cf cg (hfs.bel RFi_keeps h) (hfs'.bel RFi_keeps h) b' hb')
  obtain ⟨k1, p1, n1, A1, m1, c1, B1, l1, d1, rfl⟩ := hrt.shape
  obtain ⟨k2, p2, n2, A2, m2, c2, B2, l2, d2, rfl⟩ := hrt'.shape
  simp only [tyC] at HI
  simp only [tyC, List.cons_append, List.nil_append]
  have ha := True.intro
  have hb := True.intro
  clear hu hv hrt hrt' hfs hfs'
  by_cases h0 : dk = dk2
  case neg =>
    have hbf : b = false := iff_f hbb (fun e => by injection e with e0 e1 e2 e3 e4 e5; exact h0 e0)
    subst hbf
    clear hbb
    have e1 : (dk == dk2) = false := by simpa using h0
    have e2 : (dk != dk2) = true := by simpa using h0
    clear h0
    clear ha hb
    have hb1 := ((Below.refl _ w).alloc (Nat.le_refl _) (.cells #[.int .i64 dk, .string dn, .string dof, .int .i64 dv, .int .i64 k1, .string p1, .string n1, .slice A1 m1 c1, .slice B1 l1 d1, .slice Af fs.length cf] 47))
    have hb2 := hb1.alloc hb1.size (.cells #[.int .i64 dk2, .string dn2, .string dof2, .int .i64 dv2, .int .i64 k2, .string p2, .string n2, .slice A2 m2 c2, .slice B2 l2 d2, .slice Ag fs2.length cg] 47)
    have hx := (Blk.new w 47 #[.int .i64 dk, .string dn, .string dof, .int .i64 dv, .int .i64 k1, .string p1, .string n1, .slice A1 m1 c1, .slice B1 l1 d1, .slice Af fs.length cf]).alloc (.cells #[.int .i64 dk2, .string dn2, .string dof2, .int .i64 dv2, .int .i64 k2, .string p2, .string n2, .slice A2 m2 c2, .slice B2 l2 d2, .slice Ag fs2.length cg] 47)
    have hy := Blk.new (w.alloc (.cells #[.int .i64 dk, .string dn, .string dof, .int .i64 dv, .int .i64 k1, .string p1, .string n1, .slice A1 m1 c1, .slice B1 l1 d1, .slice Af fs.length cf] 47)) 47 #[.int .i64 dk2, .string dn2, .string dof2, .int .i64 dv2, .int .i64 k2, .string p2, .string n2, .slice A2 m2 c2, .slice B2 l2 d2, .slice Ag fs2.length cg]
    rw [show (w.alloc (.cells #[.int .i64 dk, .string dn, .string dof, .int .i64 dv, .int .i64 k1, .string p1, .string n1, .slice A1 m1 c1, .slice B1 l1 d1, .slice Af fs.length cf] 47)).heap.size = w.heap.size + 1 from by simp] at hy
    have HB2 := Lib.hid hb2
    have HXX := Lib.hid hx
    have HYY := Lib.hid hy
    clear hb1 hb2 hx hy
    go_enter Try.func64, Try.ntmps64
    go_wp2
    go_ret
    exact ⟨by first | rfl | simp, HB2.out⟩
  subst h0
  by_cases h1 : dn = dn2
  case neg =>
    have hbf : b = false := iff_f hbb (fun e => by injection e with e0 e1 e2 e3 e4 e5; exact h1 e1)
    subst hbf
    clear hbb
    have e1 : (dn.toList == dn2.toList) = false := by simpa [toList_inj] using h1
    have e2 : (dn.toList != dn2.toList) = true := by simpa [toList_inj] using h1
    clear h1
    clear ha hb
    have hb1 := ((Below.refl _ w).alloc (Nat.le_refl _) (.cells #[.int .i64 dk, .string dn, .string dof, .int .i64 dv, .int .i64 k1, .string p1, .string n1, .slice A1 m1 c1, .slice B1 l1 d1, .slice Af fs.length cf] 47))
    have hb2 := hb1.alloc hb1.size (.cells #[.int .i64 dk, .string dn2, .string dof2, .int .i64 dv2, .int .i64 k2, .string p2, .string n2, .slice A2 m2 c2, .slice B2 l2 d2, .slice Ag fs2.length cg] 47)
    have hx := (Blk.new w 47 #[.int .i64 dk, .string dn, .string dof, .int .i64 dv, .int .i64 k1, .string p1, .string n1, .slice A1 m1 c1, .slice B1 l1 d1, .slice Af fs.length cf]).alloc (.cells #[.int .i64 dk, .string dn2, .string dof2, .int .i64 dv2, .int .i64 k2, .string p2, .string n2, .slice A2 m2 c2, .slice B2 l2 d2, .slice Ag fs2.length cg] 47)
    have hy := Blk.new (w.alloc (.cells #[.int .i64 dk, .string dn, .string dof, .int .i64 dv, .int .i64 k1, .string p1, .string n1, .slice A1 m1 c1, .slice B1 l1 d1, .slice Af fs.length cf] 47)) 47 #[.int .i64 dk, .string dn2, .string dof2, .int .i64 dv2, .int .i64 k2, .string p2, .string n2, .slice A2 m2 c2, .slice B2 l2 d2, .slice Ag fs2.length cg]
    rw [show (w.alloc (.cells #[.int .i64 dk, .string dn, .string dof, .int .i64 dv, .int .i64 k1, .string p1, .string n1, .slice A1 m1 c1, .slice B1 l1 d1, .slice Af fs.length cf] 47)).heap.size = w.heap.size + 1 from by simp] at hy
    have HB2 := Lib.hid hb2
    have HXX := Lib.hid hx
    have HYY := Lib.hid hy
    clear hb1 hb2 hx hy
    go_enter Try.func64, Try.ntmps64
    go_wp2
    go_ret
    exact ⟨by first | rfl | simp, HB2.out⟩
  subst h1
  by_cases h2 : dof = dof2
  case neg =>
    have hbf : b = false := iff_f hbb (fun e => by injection e with e0 e1 e2 e3 e4 e5; exact h2 e2)
    subst hbf
    clear hbb
    have e1 : (dof.toList == dof2.toList) = false := by simpa [toList_inj] using h2
    have e2 : (dof.toList != dof2.toList) = true := by simpa [toList_inj] using h2
    clear h2
    clear ha hb
    have hb1 := ((Below.refl _ w).alloc (Nat.le_refl _) (.cells #[.int .i64 dk, .string dn, .string dof, .int .i64 dv, .int .i64 k1, .string p1, .string n1, .slice A1 m1 c1, .slice B1 l1 d1, .slice Af fs.length cf] 47))
    have hb2 := hb1.alloc hb1.size (.cells #[.int .i64 dk, .string dn, .string dof2, .int .i64 dv2, .int .i64 k2, .string p2, .string n2, .slice A2 m2 c2, .slice B2 l2 d2, .slice Ag fs2.length cg] 47)
    have hx := (Blk.new w 47 #[.int .i64 dk, .string dn, .string dof, .int .i64 dv, .int .i64 k1, .string p1, .string n1, .slice A1 m1 c1, .slice B1 l1 d1, .slice Af fs.length cf]).alloc (.cells #[.int .i64 dk, .string dn, .string dof2, .int .i64 dv2, .int .i64 k2, .string p2, .string n2, .slice A2 m2 c2, .slice B2 l2 d2, .slice Ag fs2.length cg] 47)
    have hy := Blk.new (w.alloc (.cells #[.int .i64 dk, .string dn, .string dof, .int .i64 dv, .int .i64 k1, .string p1, .string n1, .slice A1 m1 c1, .slice B1 l1 d1, .slice Af fs.length cf] 47)) 47 #[.int .i64 dk, .string dn, .string dof2, .int .i64 dv2, .int .i64 k2, .string p2, .string n2, .slice A2 m2 c2, .slice B2 l2 d2, .slice Ag fs2.length cg]
    rw [show (w.alloc (.cells #[.int .i64 dk, .string dn, .string dof, .int .i64 dv, .int .i64 k1, .string p1, .string n1, .slice A1 m1 c1, .slice B1 l1 d1, .slice Af fs.length cf] 47)).heap.size = w.heap.size + 1 from by simp] at hy
    have HB2 := Lib.hid hb2
    have HXX := Lib.hid hx
    have HYY := Lib.hid hy
    clear hb1 hb2 hx hy
    go_enter Try.func64, Try.ntmps64
    go_wp2
    go_ret
    exact ⟨by first | rfl | simp, HB2.out⟩
  subst h2
  by_cases h3 : dv = dv2
  case neg =>
    have hbf : b = false := iff_f hbb (fun e => by injection e with e0 e1 e2 e3 e4 e5; exact h3 e3)
    subst hbf
    clear hbb
    have e1 : (dv == dv2) = false := by simpa using h3
    have e2 : (dv != dv2) = true := by simpa using h3
    clear h3
    clear ha hb
    have hb1 := ((Below.refl _ w).alloc (Nat.le_refl _) (.cells #[.int .i64 dk, .string dn, .string dof, .int .i64 dv, .int .i64 k1, .string p1, .string n1, .slice A1 m1 c1, .slice B1 l1 d1, .slice Af fs.length cf] 47))
    have hb2 := hb1.alloc hb1.size (.cells #[.int .i64 dk, .string dn, .string dof, .int .i64 dv2, .int .i64 k2, .string p2, .string n2, .slice A2 m2 c2, .slice B2 l2 d2, .slice Ag fs2.length cg] 47)
    have hx := (Blk.new w 47 #[.int .i64 dk, .string dn, .string dof, .int .i64 dv, .int .i64 k1, .string p1, .string n1, .slice A1 m1 c1, .slice B1 l1 d1, .slice Af fs.length cf]).alloc (.cells #[.int .i64 dk, .string dn, .string dof, .int .i64 dv2, .int .i64 k2, .string p2, .string n2, .slice A2 m2 c2, .slice B2 l2 d2, .slice Ag fs2.length cg] 47)
    have hy := Blk.new (w.alloc (.cells #[.int .i64 dk, .string dn, .string dof, .int .i64 dv, .int .i64 k1, .string p1, .string n1, .slice A1 m1 c1, .slice B1 l1 d1, .slice Af fs.length cf] 47)) 47 #[.int .i64 dk, .string dn, .string dof, .int .i64 dv2, .int .i64 k2, .string p2, .string n2, .slice A2 m2 c2, .slice B2 l2 d2, .slice Ag fs2.length cg]
    rw [show (w.alloc (.cells #[.int .i64 dk, .string dn, .string dof, .int .i64 dv, .int .i64 k1, .string p1, .string n1, .slice A1 m1 c1, .slice B1 l1 d1, .slice Af fs.length cf] 47)).heap.size = w.heap.size + 1 from by simp] at hy
    have HB2 := Lib.hid hb2
    have HXX := Lib.hid hx
    have HYY := Lib.hid hy
    clear hb1 hb2 hx hy
    go_enter Try.func64, Try.ntmps64
    go_wp2
    go_ret
    exact ⟨by first | rfl | simp, HB2.out⟩
  subst h3
  by_cases h4 : dt = dt2
  case neg =>
    have hbf : b = false := iff_f hbb (fun e => by injection e with e0 e1 e2 e3 e4 e5; exact h4 e4)
    subst hbf
    clear hbb
    replace HI := Lib.hid (HI.out false (by simp [h4]))
    clear h4
    clear ha hb
    have hb1 := ((Below.refl _ w).alloc (Nat.le_refl _) (.cells #[.int .i64 dk, .string dn, .string dof, .int .i64 dv, .int .i64 k1, .string p1, .string n1, .slice A1 m1 c1, .slice B1 l1 d1, .slice Af fs.length cf] 47))
    have hb2 := hb1.alloc hb1.size (.cells #[.int .i64 dk, .string dn, .string dof, .int .i64 dv, .int .i64 k2, .string p2, .string n2, .slice A2 m2 c2, .slice B2 l2 d2, .slice Ag fs2.length cg] 47)
    have hx := (Blk.new w 47 #[.int .i64 dk, .string dn, .string dof, .int .i64 dv, .int .i64 k1, .string p1, .string n1, .slice A1 m1 c1, .slice B1 l1 d1, .slice Af fs.length cf]).alloc (.cells #[.int .i64 dk, .string dn, .string dof, .int .i64 dv, .int .i64 k2, .string p2, .string n2, .slice A2 m2 c2, .slice B2 l2 d2, .slice Ag fs2.length cg] 47)
    have hy := Blk.new (w.alloc (.cells #[.int .i64 dk, .string dn, .string dof, .int .i64 dv, .int .i64 k1, .string p1, .string n1, .slice A1 m1 c1, .slice B1 l1 d1, .slice Af fs.length cf] 47)) 47 #[.int .i64 dk, .string dn, .string dof, .int .i64 dv, .int .i64 k2, .string p2, .string n2, .slice A2 m2 c2, .slice B2 l2 d2, .slice Ag fs2.length cg]
    rw [show (w.alloc (.cells #[.int .i64 dk, .string dn, .string dof, .int .i64 dv, .int .i64 k1, .string p1, .string n1, .slice A1 m1 c1, .slice B1 l1 d1, .slice Af fs.length cf] 47)).heap.size = w.heap.size + 1 from by simp] at hy
    have HB2 := Lib.hid hb2
    have HXX := Lib.hid hx
    have HYY := Lib.hid hy
    clear hb1 hb2 hx hy
    go_enter Try.func64, Try.ntmps64
    go_wp2_with (first | (go_at_call 91; ((with_reducible refine (HI.out _ HB2.out).mono ?_); rintro e w20 ⟨rfl, hb20⟩); have HB20 := Lib.hid (HB2.out.trans (hb20.mono HB2.out.size)); have hx0 := HXX.out.bel2 hb20; have hy0 := HYY.out.bel2 hb20; have HX0 := Lib.hid hx0; have HY0 := Lib.hid hy0; have xa00 := hx0.cell 0; have ya00 := hy0.cell 0; have xa01 := hx0.cell 1; have ya01 := hy0.cell 1; have xa02 := hx0.cell 2; have ya02 := hy0.cell 2; have xa03 := hx0.cell 3; have ya03 := hy0.cell 3; have xa04 := hx0.cell 4; have ya04 := hy0.cell 4; have xa05 := hx0.cell 5; have ya05 := hy0.cell 5; have xa06 := hx0.cell 6; have ya06 := hy0.cell 6; have xa07 := hx0.cell 7; have ya07 := hy0.cell 7; have xa08 := hx0.cell 8; have ya08 := hy0.cell 8; have xa09 := hx0.cell 9; have ya09 := hy0.cell 9; have xl0 := hx0.lt; have yl0 := hy0.lt; clear hb20 hx0 hy0))
    go_ret
    exact ⟨by first | rfl | simp, HB20.out⟩
  replace HI := Lib.hid (HI.out true (by simp [h4]))
  subst h4
  by_cases h5 : fs = fs2
  case neg =>
    have hbf : b = false := iff_f hbb (fun e => by injection e with e0 e1 e2 e3 e4 e5; exact h5 e5)
    subst hbf
    clear hbb
    replace HJ := Lib.hid (HJ.out false (by simp [h5]))
    clear h5
    clear ha hb
    have hb1 := ((Below.refl _ w).alloc (Nat.le_refl _) (.cells #[.int .i64 dk, .string dn, .string dof, .int .i64 dv, .int .i64 k1, .string p1, .string n1, .slice A1 m1 c1, .slice B1 l1 d1, .slice Af fs.length cf] 47))
    have hb2 := hb1.alloc hb1.size (.cells #[.int .i64 dk, .string dn, .string dof, .int .i64 dv, .int .i64 k2, .string p2, .string n2, .slice A2 m2 c2, .slice B2 l2 d2, .slice Ag fs2.length cg] 47)
    have hx := (Blk.new w 47 #[.int .i64 dk, .string dn, .string dof, .int .i64 dv, .int .i64 k1, .string p1, .string n1, .slice A1 m1 c1, .slice B1 l1 d1, .slice Af fs.length cf]).alloc (.cells #[.int .i64 dk, .string dn, .string dof, .int .i64 dv, .int .i64 k2, .string p2, .string n2, .slice A2 m2 c2, .slice B2 l2 d2, .slice Ag fs2.length cg] 47)
    have hy := Blk.new (w.alloc (.cells #[.int .i64 dk, .string dn, .string dof, .int .i64 dv, .int .i64 k1, .string p1, .string n1, .slice A1 m1 c1, .slice B1 l1 d1, .slice Af fs.length cf] 47)) 47 #[.int .i64 dk, .string dn, .string dof, .int .i64 dv, .int .i64 k2, .string p2, .string n2, .slice A2 m2 c2, .slice B2 l2 d2, .slice Ag fs2.length cg]
    rw [show (w.alloc (.cells #[.int .i64 dk, .string dn, .string dof, .int .i64 dv, .int .i64 k1, .string p1, .string n1, .slice A1 m1 c1, .slice B1 l1 d1, .slice Af fs.length cf] 47)).heap.size = w.heap.size + 1 from by simp] at hy
    have HB2 := Lib.hid hb2
    have HXX := Lib.hid hx
    have HYY := Lib.hid hy
    clear hb1 hb2 hx hy
    go_enter Try.func64, Try.ntmps64
    go_wp2_with (first | (go_at_call 92; ((with_reducible refine (HJ.out _ HB20.out).mono ?_); rintro e w21 ⟨rfl, hb21⟩); have HB21 := Lib.hid (HB20.out.trans (hb21.mono HB20.out.size)); have hx1 := HX0.out.bel2 hb21; have hy1 := HY0.out.bel2 hb21; have HX1 := Lib.hid hx1; have HY1 := Lib.hid hy1; have xa10 := hx1.cell 0; have ya10 := hy1.cell 0; have xa11 := hx1.cell 1; have ya11 := hy1.cell 1; have xa12 := hx1.cell 2; have ya12 := hy1.cell 2; have xa13 := hx1.cell 3; have ya13 := hy1.cell 3; have xa14 := hx1.cell 4; have ya14 := hy1.cell 4; have xa15 := hx1.cell 5; have ya15 := hy1.cell 5; have xa16 := hx1.cell 6; have ya16 := hy1.cell 6; have xa17 := hx1.cell 7; have ya17 := hy1.cell 7; have xa18 := hx1.cell 8; have ya18 := hy1.cell 8; have xa19 := hx1.cell 9; have ya19 := hy1.cell 9; have xl1 := hx1.lt; have yl1 := hy1.lt; clear hb21 hx1 hy1) | (go_at_call 91; ((with_reducible refine (HI.out _ HB2.out).mono ?_); rintro e w20 ⟨rfl, hb20⟩); have HB20 := Lib.hid (HB2.out.trans (hb20.mono HB2.out.size)); have hx0 := HXX.out.bel2 hb20; have hy0 := HYY.out.bel2 hb20; have HX0 := Lib.hid hx0; have HY0 := Lib.hid hy0; have xa00 := hx0.cell 0; have ya00 := hy0.cell 0; have xa01 := hx0.cell 1; have ya01 := hy0.cell 1; have xa02 := hx0.cell 2; have ya02 := hy0.cell 2; have xa03 := hx0.cell 3; have ya03 := hy0.cell 3; have xa04 := hx0.cell 4; have ya04 := hy0.cell 4; have xa05 := hx0.cell 5; have ya05 := hy0.cell 5; have xa06 := hx0.cell 6; have ya06 := hy0.cell 6; have xa07 := hx0.cell 7; have ya07 := hy0.cell 7; have xa08 := hx0.cell 8; have ya08 := hy0.cell 8; have xa09 := hx0.cell 9; have ya09 := hy0.cell 9; have xl0 := hx0.lt; have yl0 := hy0.lt; clear hb20 hx0 hy0))
    go_ret
    exact ⟨by first | rfl | simp, HB21.out⟩
  replace HJ := Lib.hid (HJ.out true (by simp [h5]))
  subst h5
  have hbt : b = true := hbb.2 rfl
  subst hbt
  clear hbb ha hb
  have hb1 := ((Below.refl _ w).alloc (Nat.le_refl _) (.cells #[.int .i64 dk, .string dn, .string dof, .int .i64 dv, .int .i64 k1, .string p1, .string n1, .slice A1 m1 c1, .slice B1 l1 d1, .slice Af fs.length cf] 47))
  have hb2 := hb1.alloc hb1.size (.cells #[.int .i64 dk, .string dn, .string dof, .int .i64 dv, .int .i64 k2, .string p2, .string n2, .slice A2 m2 c2, .slice B2 l2 d2, .slice Ag fs.length cg] 47)
  have hx := (Blk.new w 47 #[.int .i64 dk, .string dn, .string dof, .int .i64 dv, .int .i64 k1, .string p1, .string n1, .slice A1 m1 c1, .slice B1 l1 d1, .slice Af fs.length cf]).alloc (.cells #[.int .i64 dk, .string dn, .string dof, .int .i64 dv, .int .i64 k2, .string p2, .string n2, .slice A2 m2 c2, .slice B2 l2 d2, .slice Ag fs.length cg] 47)
  have hy := Blk.new (w.alloc (.cells #[.int .i64 dk, .string dn, .string dof, .int .i64 dv, .int .i64 k1, .string p1, .string n1, .slice A1 m1 c1, .slice B1 l1 d1, .slice Af fs.length cf] 47)) 47 #[.int .i64 dk, .string dn, .string dof, .int .i64 dv, .int .i64 k2, .string p2, .string n2, .slice A2 m2 c2, .slice B2 l2 d2, .slice Ag fs.length cg]
  rw [show (w.alloc (.cells #[.int .i64 dk, .string dn, .string dof, .int .i64 dv, .int .i64 k1, .string p1, .string n1, .slice A1 m1 c1, .slice B1 l1 d1, .slice Af fs.length cf] 47)).heap.size = w.heap.size + 1 from by simp] at hy
  have HB2 := Lib.hid hb2
  have HXX := Lib.hid hx
  have HYY := Lib.hid hy
  clear hb1 hb2 hx hy
  go_enter Try.func64, Try.ntmps64
  go_wp2_with (first | (go_at_call 92; ((with_reducible refine (HJ.out _ HB20.out).mono ?_); rintro e w21 ⟨rfl, hb21⟩); have HB21 := Lib.hid (HB20.out.trans (hb21.mono HB20.out.size)); have hx1 := HX0.out.bel2 hb21; have hy1 := HY0.out.bel2 hb21; have HX1 := Lib.hid hx1; have HY1 := Lib.hid hy1; have xa10 := hx1.cell 0; have ya10 := hy1.cell 0; have xa11 := hx1.cell 1; have ya11 := hy1.cell 1; have xa12 := hx1.cell 2; have ya12 := hy1.cell 2; have xa13 := hx1.cell 3; have ya13 := hy1.cell 3; have xa14 := hx1.cell 4; have ya14 := hy1.cell 4; have xa15 := hx1.cell 5; have ya15 := hy1.cell 5; have xa16 := hx1.cell 6; have ya16 := hy1.cell 6; have xa17 := hx1.cell 7; have ya17 := hy1.cell 7; have xa18 := hx1.cell 8; have ya18 := hy1.cell 8; have xa19 := hx1.cell 9; have ya19 := hy1.cell 9; have xl1 := hx1.lt; have yl1 := hy1.lt; clear hb21 hx1 hy1) | (go_at_call 91; ((with_reducible refine (HI.out _ HB2.out).mono ?_); rintro e w20 ⟨rfl, hb20⟩); have HB20 := Lib.hid (HB2.out.trans (hb20.mono HB2.out.size)); have hx0 := HXX.out.bel2 hb20; have hy0 := HYY.out.bel2 hb20; have HX0 := Lib.hid hx0; have HY0 := Lib.hid hy0; have xa00 := hx0.cell 0; have ya00 := hy0.cell 0; have xa01 := hx0.cell 1; have ya01 := hy0.cell 1; have xa02 := hx0.cell 2; have ya02 := hy0.cell 2; have xa03 := hx0.cell 3; have ya03 := hy0.cell 3; have xa04 := hx0.cell 4; have ya04 := hy0.cell 4; have xa05 := hx0.cell 5; have ya05 := hy0.cell 5; have xa06 := hx0.cell 6; have ya06 := hy0.cell 6; have xa07 := hx0.cell 7; have ya07 := hy0.cell 7; have xa08 := hx0.cell 8; have ya08 := hy0.cell 8; have xa09 := hx0.cell 9; have ya09 := hy0.cell 9; have xl0 := hx0.lt; have yl0 := hy0.lt; clear hb20 hx0 hy0))
  go_ret
  exact ⟨by first | rfl | simp, HB21.out⟩
set_option maxRecDepth 100000 in
set_option maxHeartbeats 8000000 in
theorem samNs_any  : SamC 5 RFn 37 (fun l => l.length ≤ 140737488355328 ∧ ∀ f ∈ l, f.body.length ≤ 140737488355328 ∧ okSs 140737488355328 f.body) (fun l => l.length ≤ 140737488355328 ∧ ∀ f ∈ l, f.body.length ≤ 140737488355328 ∧ okSs 140737488355328 f.body) := by
  intro la lb hP hP2 w F F' A B c d ha hb b hbb
  obtain ⟨hla, hok⟩ := hP
  have HOK := Lib.hid hok
  clear hok
  obtain ⟨hlb, hob⟩ := hP2
  have HOB := Lib.hid hob
  clear hob
  by_cases hl : la.length = lb.length
  case neg =>
    have hbf : b = false := iff_f hbb (fun e => hl (by rw [e]))
    subst hbf
    have hlbn : ((la.length : Int) != (lb.length : Int)) = true := by simp; omega
    clear hl hbb ha hb
    go_enter Try.func37, Try.ntmps37
    go_wp2
    go_ret
    exact ⟨rfl, Below.refl _ _⟩
  rw [← hl]
  have HA := Lib.hid ha
  have HB := Lib.hid hb
  have HL := Lib.hid hl
  have HBB := Lib.hid hbb
  have n0 : (0 : Int) ≤ (la.length : Int) := by omega
  have n1 : (la.length : Int) ≤ 140737488355328 := by omega
  clear ha hb hl hbb
  go_enter Try.func37, Try.ntmps37
  go_wp2
  go_loopg [5] la.length (fun gk v5 wr => ∃ j : Nat, j + gk = la.length ∧ v5 = .int .i64 j ∧ Below w.heap.size w wr ∧ la.take j = lb.take j)
  case atStart => exact ⟨0, by simp, rfl, Below.refl _ _, by simp⟩
  case round =>
    obtain ⟨j, hj, rfl, hbw, htk⟩ := hrel
    have HTK := Lib.hid htk
    have HBW := Lib.hid hbw
    clear htk
    cases gk with
    | zero =>
      obtain rfl : j = la.length := by omega
      have hbt : b = true := HBB.out.2 (by
        have h := HTK.out
        rw [List.take_length, List.take_of_length_le (by rw [← HL.out]; exact Nat.le_refl _)] at h
        exact h)
      subst hbt
      clear hj hbw
      go_wp2
      go_ret
      exact ⟨rfl, HBW.out⟩
    | succ f =>
      have hjl : j < la.length := by omega
      obtain ⟨u, hu⟩ : ∃ u, la[j]? = some u := ⟨_, List.getElem?_eq_getElem hjl⟩
      obtain ⟨v, hv⟩ : ∃ v, lb[j]? = some v := ⟨_, List.getElem?_eq_getElem (by rw [← HL.out]; exact hjl)⟩
      have j1 : (j : Int) < (la.length : Int) := by omega
      have j0 : (0 : Int) ≤ (j : Int) := by omega
      have j2 : (j : Int) ≤ 140737488355328 := by omega
      obtain ⟨g, o, vs, rfl, _, hgl, hrep, hat⟩ := (HA.out.bel RFn_keeps hbw).at_ RFn_sized hu
      obtain ⟨g', o', us, rfl, _, hgl', hrep', hat'⟩ := (HB.out.bel RFn_keeps hbw).at_ RFn_sized hv
      have HNE := Lib.hid (fun h : u ≠ v => iff_f HBB.out (ne_at hu hv h))
      have HTE := Lib.hid (fun e : u = v => take_eq hu hv e HTK.out)
      have hou := HOK.out _ (List.mem_of_getElem? hu)
      have hlv := HOB.out _ (List.mem_of_getElem? hv)
      have HI := Lib.hid (fun (b' : Bool) (hb' : b' = true ↔ u = v) w' (h : Below wr.heap.size wr w') => samN_any u v hou hlv w' _ _ vs us (RFn_keeps.bel hrep h) (RFn_keeps.bel hrep' h) b' hb')
      have HQA := Lib.hid hrep
      have HQB := Lib.hid hrep'
      obtain ⟨s, wk, ps, ls, bo, A7, c7, rfl⟩ : ∃ s wk ps ls bo A7 c7, vs = [.string s, .bool wk, .int .i64 ps, .int .i64 ls, .slice A7 bo c7] := by
        obtain ⟨A7, c7, e, _⟩ := hrep; exact ⟨_, _, _, _, _, A7, c7, e⟩
      obtain ⟨s2, wk2, ps2, ls2, bo2, B7, d7, rfl⟩ : ∃ s wk ps ls bo A7 c7, us = [.string s, .bool wk, .int .i64 ps, .int .i64 ls, .slice A7 bo c7] := by
        obtain ⟨A7, c7, e, _⟩ := hrep'; exact ⟨_, _, _, _, _, A7, c7, e⟩
      clear HQA HQB
      have q0 := hat 0 _ rfl
      have r0 := hat' 0 _ rfl
      have q1 := hat 1 _ rfl
      have r1 := hat' 1 _ rfl
      have q2 := hat 2 _ rfl
      have r2 := hat' 2 _ rfl
      have q3 := hat 3 _ rfl
      have r3 := hat' 3 _ rfl
      have q4 := hat 4 _ rfl
      have r4 := hat' 4 _ rfl
      simp only [Nat.add_zero] at q0 r0
      clear hat hat' hu hv hbw hrep hrep' hou hlv
      by_cases h0 : u = v
      case neg =>
        have hbf : b = false := HNE.out (fun e => by skip; exact h0 e)
        subst hbf
        replace HI := Lib.hid (HI.out false (by simp [h0]))
        clear h0 HNE HTE
        go_wp2
        refine wp_region_held_drew (S := fun V => Below wr.heap.size wr V) (by kernel_rfl) (Below.refl _ wr).drew (fun hS0 => ?_)
        refine wpAnyH_take (i := 0) (v := (.slice (some ⟨g, o, none⟩) la.length c)) rfl (by kernel_rfl) (by kernel_rfl) (by kernel_rfl) (fun _ _ _ h => h) (Or.inl ⟨rfl, fun w' hS => by (unfold execOp; go_simp)⟩) hS0 ?_
        simp only [Act.put, List.getElem_toArray, List.getElem_cons_zero, List.getElem_cons_succ, List.setIfInBounds_toArray, List.set_cons_zero, List.set_cons_succ]
        refine wpAnyH_take (i := 1) (v := .int .i64 j) rfl (by kernel_rfl) (by kernel_rfl) (by kernel_rfl) (fun _ _ _ h => h) (Or.inl ⟨rfl, fun w' hS => by (unfold execOp; go_simp)⟩) hS0 ?_
        simp only [Act.put, List.getElem_toArray, List.getElem_cons_zero, List.getElem_cons_succ, List.setIfInBounds_toArray, List.set_cons_zero, List.set_cons_succ]
        refine wpAnyH_take (i := 2) (v := (.pointer (some ⟨g, o + j * 5, none⟩))) rfl (by kernel_rfl) (by kernel_rfl) (by kernel_rfl) (fun _ _ _ h => h) (Or.inl ⟨rfl, fun w' hS => by (unfold execOp; go_simp)⟩) hS0 ?_
        simp only [Act.put, List.getElem_toArray, List.getElem_cons_zero, List.getElem_cons_succ, List.setIfInBounds_toArray, List.set_cons_zero, List.set_cons_succ]
        refine wpAnyH_take (i := 3) (v := (.agg #[.string s, .bool wk, .int .i64 ps, .int .i64 ls, .slice A7 bo c7])) rfl (by kernel_rfl) (by kernel_rfl) (by kernel_rfl) (fun _ _ _ h => h) (Or.inl ⟨rfl, fun w' hS => by (have z0 := (hS.cell (p := ⟨g, _, none⟩) hgl).trans q0; have z1 := (hS.cell (p := ⟨g, _, none⟩) hgl).trans q1; have z2 := (hS.cell (p := ⟨g, _, none⟩) hgl).trans q2; have z3 := (hS.cell (p := ⟨g, _, none⟩) hgl).trans q3; have z4 := (hS.cell (p := ⟨g, _, none⟩) hgl).trans q4; unfold execOp; go_simp)⟩) hS0 ?_
        simp only [Act.put, List.getElem_toArray, List.getElem_cons_zero, List.getElem_cons_succ, List.setIfInBounds_toArray, List.set_cons_zero, List.set_cons_succ]
        refine wpAnyH_take (i := 4) (v := ((.slice (some ⟨g', o', none⟩) la.length d))) rfl (by kernel_rfl) (by kernel_rfl) (by kernel_rfl) (fun _ _ _ h => h) (Or.inl ⟨rfl, fun w' hS => by (unfold execOp; go_simp)⟩) hS0 ?_
        simp only [Act.put, List.getElem_toArray, List.getElem_cons_zero, List.getElem_cons_succ, List.setIfInBounds_toArray, List.set_cons_zero, List.set_cons_succ]
        refine wpAnyH_take (i := 5) (v := .int .i64 j) rfl (by kernel_rfl) (by kernel_rfl) (by kernel_rfl) (fun _ _ _ h => h) (Or.inl ⟨rfl, fun w' hS => by (unfold execOp; go_simp)⟩) hS0 ?_
        simp only [Act.put, List.getElem_toArray, List.getElem_cons_zero, List.getElem_cons_succ, List.setIfInBounds_toArray, List.set_cons_zero, List.set_cons_succ]
        refine wpAnyH_take (i := 6) (v := (.pointer (some ⟨g', o' + j * 5, none⟩))) rfl (by kernel_rfl) (by kernel_rfl) (by kernel_rfl) (fun _ _ _ h => h) (Or.inl ⟨rfl, fun w' hS => by (unfold execOp; go_simp)⟩) hS0 ?_
        simp only [Act.put, List.getElem_toArray, List.getElem_cons_zero, List.getElem_cons_succ, List.setIfInBounds_toArray, List.set_cons_zero, List.set_cons_succ]
        refine wpAnyH_take (i := 7) (v := (.agg #[.string s2, .bool wk2, .int .i64 ps2, .int .i64 ls2, .slice B7 bo2 d7])) rfl (by kernel_rfl) (by kernel_rfl) (by kernel_rfl) (fun _ _ _ h => h) (Or.inl ⟨rfl, fun w' hS => by (have z0 := (hS.cell (p := ⟨g', _, none⟩) hgl').trans r0; have z1 := (hS.cell (p := ⟨g', _, none⟩) hgl').trans r1; have z2 := (hS.cell (p := ⟨g', _, none⟩) hgl').trans r2; have z3 := (hS.cell (p := ⟨g', _, none⟩) hgl').trans r3; have z4 := (hS.cell (p := ⟨g', _, none⟩) hgl').trans r4; unfold execOp; go_simp)⟩) hS0 ?_
        simp only [Act.put, List.getElem_toArray, List.getElem_cons_zero, List.getElem_cons_succ, List.setIfInBounds_toArray, List.set_cons_zero, List.set_cons_succ]
        refine wpAnyH_one (i := 8) (by kernel_rfl) rfl rfl (op_call (args := #[.agg #[.string s, .bool wk, .int .i64 ps, .int .i64 ls, .slice A7 bo c7], .agg #[.string s2, .bool wk2, .int .i64 ps2, .int .i64 ls2, .slice B7 bo2 d7]]) (f := 65) (by unfold execOp; go_simp) ((HI.out _ hS0).mono ?_))
        rintro e w20 ⟨rfl, hb20⟩
        have hS1 := hS0.trans (hb20.mono hS0.size)
        refine And.intro hS1 ?_
        simp only [Act.put, List.getElem_toArray, List.getElem_cons_zero, List.getElem_cons_succ, List.setIfInBounds_toArray, List.set_cons_zero, List.set_cons_succ]
        refine wpAnyH_take (i := 9) (v := .bool true) rfl (by kernel_rfl) (by kernel_rfl) (by kernel_rfl) (fun _ _ _ h => h) (Or.inl ⟨rfl, fun w' hS => by (unfold execOp; go_simp)⟩) hS1 ?_
        simp only [Act.put, List.getElem_toArray, List.getElem_cons_zero, List.getElem_cons_succ, List.setIfInBounds_toArray, List.set_cons_zero, List.set_cons_succ]
        refine wpAnyH_done (by kernel_rfl) ?_ _
        have HX := Lib.hid (HBW.out.trans (hS1.mono HBW.out.size))
        clear hS0 hS1 hb20
        go_wp2
        go_ret
        exact ⟨rfl, HX.out⟩
      replace HI := Lib.hid (HI.out true (by simp [h0]))
      have HTE := Lib.hid (HTE.out h0)
      clear h0
      go_wp2
      refine wp_region_held_drew (S := fun V => Below wr.heap.size wr V) (by kernel_rfl) (Below.refl _ wr).drew (fun hS0 => ?_)
      refine wpAnyH_take (i := 0) (v := (.slice (some ⟨g, o, none⟩) la.length c)) rfl (by kernel_rfl) (by kernel_rfl) (by kernel_rfl) (fun _ _ _ h => h) (Or.inl ⟨rfl, fun w' hS => by (unfold execOp; go_simp)⟩) hS0 ?_
      simp only [Act.put, List.getElem_toArray, List.getElem_cons_zero, List.getElem_cons_succ, List.setIfInBounds_toArray, List.set_cons_zero, List.set_cons_succ]
      refine wpAnyH_take (i := 1) (v := .int .i64 j) rfl (by kernel_rfl) (by kernel_rfl) (by kernel_rfl) (fun _ _ _ h => h) (Or.inl ⟨rfl, fun w' hS => by (unfold execOp; go_simp)⟩) hS0 ?_
      simp only [Act.put, List.getElem_toArray, List.getElem_cons_zero, List.getElem_cons_succ, List.setIfInBounds_toArray, List.set_cons_zero, List.set_cons_succ]
      refine wpAnyH_take (i := 2) (v := (.pointer (some ⟨g, o + j * 5, none⟩))) rfl (by kernel_rfl) (by kernel_rfl) (by kernel_rfl) (fun _ _ _ h => h) (Or.inl ⟨rfl, fun w' hS => by (unfold execOp; go_simp)⟩) hS0 ?_
      simp only [Act.put, List.getElem_toArray, List.getElem_cons_zero, List.getElem_cons_succ, List.setIfInBounds_toArray, List.set_cons_zero, List.set_cons_succ]
      refine wpAnyH_take (i := 3) (v := (.agg #[.string s, .bool wk, .int .i64 ps, .int .i64 ls, .slice A7 bo c7])) rfl (by kernel_rfl) (by kernel_rfl) (by kernel_rfl) (fun _ _ _ h => h) (Or.inl ⟨rfl, fun w' hS => by (have z0 := (hS.cell (p := ⟨g, _, none⟩) hgl).trans q0; have z1 := (hS.cell (p := ⟨g, _, none⟩) hgl).trans q1; have z2 := (hS.cell (p := ⟨g, _, none⟩) hgl).trans q2; have z3 := (hS.cell (p := ⟨g, _, none⟩) hgl).trans q3; have z4 := (hS.cell (p := ⟨g, _, none⟩) hgl).trans q4; unfold execOp; go_simp)⟩) hS0 ?_
      simp only [Act.put, List.getElem_toArray, List.getElem_cons_zero, List.getElem_cons_succ, List.setIfInBounds_toArray, List.set_cons_zero, List.set_cons_succ]
      refine wpAnyH_take (i := 4) (v := ((.slice (some ⟨g', o', none⟩) la.length d))) rfl (by kernel_rfl) (by kernel_rfl) (by kernel_rfl) (fun _ _ _ h => h) (Or.inl ⟨rfl, fun w' hS => by (unfold execOp; go_simp)⟩) hS0 ?_
      simp only [Act.put, List.getElem_toArray, List.getElem_cons_zero, List.getElem_cons_succ, List.setIfInBounds_toArray, List.set_cons_zero, List.set_cons_succ]
      refine wpAnyH_take (i := 5) (v := .int .i64 j) rfl (by kernel_rfl) (by kernel_rfl) (by kernel_rfl) (fun _ _ _ h => h) (Or.inl ⟨rfl, fun w' hS => by (unfold execOp; go_simp)⟩) hS0 ?_
      simp only [Act.put, List.getElem_toArray, List.getElem_cons_zero, List.getElem_cons_succ, List.setIfInBounds_toArray, List.set_cons_zero, List.set_cons_succ]
      refine wpAnyH_take (i := 6) (v := (.pointer (some ⟨g', o' + j * 5, none⟩))) rfl (by kernel_rfl) (by kernel_rfl) (by kernel_rfl) (fun _ _ _ h => h) (Or.inl ⟨rfl, fun w' hS => by (unfold execOp; go_simp)⟩) hS0 ?_
      simp only [Act.put, List.getElem_toArray, List.getElem_cons_zero, List.getElem_cons_succ, List.setIfInBounds_toArray, List.set_cons_zero, List.set_cons_succ]
      refine wpAnyH_take (i := 7) (v := (.agg #[.string s2, .bool wk2, .int .i64 ps2, .int .i64 ls2, .slice B7 bo2 d7])) rfl (by kernel_rfl) (by kernel_rfl) (by kernel_rfl) (fun _ _ _ h => h) (Or.inl ⟨rfl, fun w' hS => by (have z0 := (hS.cell (p := ⟨g', _, none⟩) hgl').trans r0; have z1 := (hS.cell (p := ⟨g', _, none⟩) hgl').trans r1; have z2 := (hS.cell (p := ⟨g', _, none⟩) hgl').trans r2; have z3 := (hS.cell (p := ⟨g', _, none⟩) hgl').trans r3; have z4 := (hS.cell (p := ⟨g', _, none⟩) hgl').trans r4; unfold execOp; go_simp)⟩) hS0 ?_
      simp only [Act.put, List.getElem_toArray, List.getElem_cons_zero, List.getElem_cons_succ, List.setIfInBounds_toArray, List.set_cons_zero, List.set_cons_succ]
      refine wpAnyH_one (i := 8) (by kernel_rfl) rfl rfl (op_call (args := #[.agg #[.string s, .bool wk, .int .i64 ps, .int .i64 ls, .slice A7 bo c7], .agg #[.string s2, .bool wk2, .int .i64 ps2, .int .i64 ls2, .slice B7 bo2 d7]]) (f := 65) (by unfold execOp; go_simp) ((HI.out _ hS0).mono ?_))
      rintro e w20 ⟨rfl, hb20⟩
      have hS1 := hS0.trans (hb20.mono hS0.size)
      refine And.intro hS1 ?_
      simp only [Act.put, List.getElem_toArray, List.getElem_cons_zero, List.getElem_cons_succ, List.setIfInBounds_toArray, List.set_cons_zero, List.set_cons_succ]
      refine wpAnyH_take (i := 9) (v := .bool false) rfl (by kernel_rfl) (by kernel_rfl) (by kernel_rfl) (fun _ _ _ h => h) (Or.inl ⟨rfl, fun w' hS => by (unfold execOp; go_simp)⟩) hS1 ?_
      simp only [Act.put, List.getElem_toArray, List.getElem_cons_zero, List.getElem_cons_succ, List.setIfInBounds_toArray, List.set_cons_zero, List.set_cons_succ]
      refine wpAnyH_done (by kernel_rfl) ?_ _
      have HX := Lib.hid (HBW.out.trans (hS1.mono HBW.out.size))
      clear hS0 hS1 hb20
      go_wp2
      go_roundg f
      case measure => omega
      case rel => exact ⟨j + 1, by omega, by go_num, HX.out, HTE.out⟩
end Go.Proofs.Ytnkojjkijkhlbaa
