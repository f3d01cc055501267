/-
  Which units are one, by the document: units; ExportUnlike: walks.
-/
import Derived.Test.YtnkojjkijkhlbaaSk
namespace Go.Proofs.Ytnkojjkijkhlbaa
open Go.RowKit
set_option linter.unusedVariables false
set_option linter.unusedSimpArgs false

set_option maxRecDepth 100000 in
set_option maxHeartbeats 8000000 in
theorem sam8_any (u v : Un) (hcu : u.cnt ≤ 2000000) (hou : u.ok 140737488355328) (hov : v.ok 140737488355328) (w : World) (F F' : Nat → Prop) (vs us : List Value) (ha : RUn w F u vs) (hb : RUn w F' v us) (b : Bool) (hbb : b = true ↔ u = v) :
    Calls Try.prog 19 #[.agg vs.toArray, .agg us.toArray] w (TruthP w b) := by
  obtain ⟨s, im, dc, fn⟩ := u
  obtain ⟨s2, im2, dc2, fn2⟩ := v
  have hdk := unOk hcu
  obtain ⟨hs1, ⟨hi1, hi2⟩, ⟨hd1, hd2⟩, hf1, hf2⟩ := hou
  obtain ⟨ks1, ⟨ki1, ki2⟩, ⟨kd1, kd2⟩, kf1, kf2⟩ := hov
  obtain ⟨A7, c7, A8, c8, A9, c9, rfl, p1, p2, p3⟩ := ha
  obtain ⟨B7, d7, B8, d8, B9, d9, rfl, q1, q2, q3⟩ := hb
  dsimp only at hs1 hi1 hi2 hd1 hd2 hf1 hf2 ks1 ki1 ki2 kd1 kd2 kf1 kf2 p1 p2 p3 q1 q2 q3
  dsimp only
  have HI := Lib.hid (fun (b' : Bool) (hb' : b' = true ↔ (s = s2 ∧ im = im2 ∧ dc = dc2)) w' (h : Below w.heap.size w w') => samH_any s s2 im im2 dc dc2 fn fn2 ⟨hi1, hd1, fun d hd => ⟨(hdk d hd).1, (hd2 d hd).2.2.2.1, (hdk d hd).2⟩⟩ ⟨ki1, kd1, fun d hd => (kd2 d hd).2.2.2.1⟩ w' F F' A7 B7 A8 B8 A9 B9 c7 d7 c8 d8 c9 d9 (p1.bel RIm_keeps h) (p2.bel RDl_keeps h) (q1.bel RIm_keeps h) (q2.bel RDl_keeps h) b' hb')
  have HJ := Lib.hid (fun (b' : Bool) (hb' : b' = true ↔ fn = fn2) w' (h : Below w.heap.size w w') => samNs_any fn fn2 ⟨hf1, fun f hf => ⟨(hf2 f hf).2.1, (okSs_iff _).2 (hf2 f hf).2.2⟩⟩ ⟨kf1, fun f hf => ⟨(kf2 f hf).2.1, (okSs_iff _).2 (kf2 f hf).2.2⟩⟩ w' F F' A9 B9 c9 d9 (p3.bel RFn_keeps h) (q3.bel RFn_keeps h) b' hb')
  have hb1 := ((Below.refl _ w).alloc (Nat.le_refl _) (.cells #[.string s, .slice A7 im.length c7, .slice A8 dc.length c8, .slice A9 fn.length c9] 26))
  have hb2 := hb1.alloc hb1.size (.cells #[.string s2, .slice B7 im2.length d7, .slice B8 dc2.length d8, .slice B9 fn2.length d9] 26)
  have hx := (Blk.new w 26 #[.string s, .slice A7 im.length c7, .slice A8 dc.length c8, .slice A9 fn.length c9]).alloc (.cells #[.string s2, .slice B7 im2.length d7, .slice B8 dc2.length d8, .slice B9 fn2.length d9] 26)
  have hy := Blk.new (w.alloc (.cells #[.string s, .slice A7 im.length c7, .slice A8 dc.length c8, .slice A9 fn.length c9] 26)) 26 #[.string s2, .slice B7 im2.length d7, .slice B8 dc2.length d8, .slice B9 fn2.length d9]
  rw [show (w.alloc (.cells #[.string s, .slice A7 im.length c7, .slice A8 dc.length c8, .slice A9 fn.length c9] 26)).heap.size = w.heap.size + 1 from by simp] at hy
  have HB2 := Lib.hid hb2
  have HXX := Lib.hid hx
  have HYY := Lib.hid hy
  clear hb1 hb2 hx hy hs1 hi1 hi2 hd1 hd2 hf1 hf2 ks1 ki1 ki2 kd1 kd2 kf1 kf2 p1 p2 p3 q1 q2 q3 hdk hcu
  by_cases hh : s = s2 ∧ im = im2 ∧ dc = dc2
  case neg =>
    have hbf : b = false := iff_f hbb (fun e => by injection e with e0 e1 e2 e3; exact hh ⟨e0, e1, e2⟩)
    subst hbf
    replace HI := Lib.hid (HI.out false (by simp only [hh]; simp))
    clear hh hbb HJ
    go_enter Try.func19, Try.ntmps19
    go_wp2_with (first | (go_at_call 36; ((with_reducible refine (HI.out _ HB2.out).mono ?_); rintro e w1 ⟨rfl, hb1⟩); have HB3 := Lib.hid (HB2.out.trans (hb1.mono HB2.out.size)); have hx1 := HXX.out.bel2 hb1; have hy1 := HYY.out.bel2 hb1; have xa0 := hx1.cell 0; have ya0 := hy1.cell 0; have xa1 := hx1.cell 1; have ya1 := hy1.cell 1; have xa2 := hx1.cell 2; have ya2 := hy1.cell 2; have xa3 := hx1.cell 3; have ya3 := hy1.cell 3; have xl := hx1.lt; have yl := hy1.lt; clear hb1 hx1 hy1))
    go_ret
    exact ⟨rfl, HB3.out⟩
  replace HI := Lib.hid (HI.out true (by simp only [hh]; simp))
  by_cases hf : fn = fn2
  case neg =>
    have hbf : b = false := iff_f hbb (fun e => by injection e with e0 e1 e2 e3; exact hf e3)
    subst hbf
    replace HJ := Lib.hid (HJ.out false (by simp [hf]))
    clear hh hbb hf
    go_enter Try.func19, Try.ntmps19
    go_wp2_with (first | (go_at_call 37; ((with_reducible refine (HJ.out _ HB3.out).mono ?_); rintro e w2 ⟨rfl, hb2⟩); have HB4 := Lib.hid (HB3.out.trans (hb2.mono HB3.out.size)); clear hb2) | (go_at_call 36; ((with_reducible refine (HI.out _ HB2.out).mono ?_); rintro e w1 ⟨rfl, hb1⟩); have HB3 := Lib.hid (HB2.out.trans (hb1.mono HB2.out.size)); have hx1 := HXX.out.bel2 hb1; have hy1 := HYY.out.bel2 hb1; have xa0 := hx1.cell 0; have ya0 := hy1.cell 0; have xa1 := hx1.cell 1; have ya1 := hy1.cell 1; have xa2 := hx1.cell 2; have ya2 := hy1.cell 2; have xa3 := hx1.cell 3; have ya3 := hy1.cell 3; have xl := hx1.lt; have yl := hy1.lt; clear hb1 hx1 hy1))
    go_ret
    exact ⟨rfl, HB4.out⟩
  have hbt : b = true := hbb.2 (by obtain ⟨rfl, rfl, rfl⟩ := hh; subst hf; rfl)
  subst hbt
  replace HJ := Lib.hid (HJ.out true (by simp [hf]))
  clear hh hbb hf
  go_enter Try.func19, Try.ntmps19
  go_wp2_with (first | (go_at_call 37; ((with_reducible refine (HJ.out _ HB3.out).mono ?_); rintro e w2 ⟨rfl, hb2⟩); have HB4 := Lib.hid (HB3.out.trans (hb2.mono HB3.out.size)); clear hb2) | (go_at_call 36; ((with_reducible refine (HI.out _ HB2.out).mono ?_); rintro e w1 ⟨rfl, hb1⟩); have HB3 := Lib.hid (HB2.out.trans (hb1.mono HB2.out.size)); have hx1 := HXX.out.bel2 hb1; have hy1 := HYY.out.bel2 hb1; have xa0 := hx1.cell 0; have ya0 := hy1.cell 0; have xa1 := hx1.cell 1; have ya1 := hy1.cell 1; have xa2 := hx1.cell 2; have ya2 := hy1.cell 2; have xa3 := hx1.cell 3; have ya3 := hy1.cell 3; have xl := hx1.lt; have yl := hy1.lt; clear hb1 hx1 hy1))
  go_ret
  exact ⟨rfl, HB4.out⟩
theorem encR_ok {u : Un} {l : List Int} (h : encR u = (l, 0)) : l = encM u ++ le8 (sumP (encM u)) ∧ deepU u = false ∧ (encM u).length + 8 ≤ 262144 := by
  unfold encR at h
  split at h
  · simp at h
  · rename_i hd
    split at h
    · rename_i hf
      simp only [Prod.mk.injEq, and_true] at h
      exact ⟨h.symm, by simpa using hd, hf⟩
    · simp at h
theorem encR_inj {u v : Un} (hu : u.ok 140737488355328 ∧ u.rng ∧ u.cnt ≤ 140737488355328) (hv : v.ok 140737488355328 ∧ v.rng ∧ v.cnt ≤ 140737488355328) {l : List Int} (h1 : encR u = (l, 0)) (h2 : encR v = (l, 0)) : u = v := by
  obtain ⟨e1, _⟩ := encR_ok h1
  obtain ⟨e2, _⟩ := encR_ok h2
  have h := e1.symm.trans e2
  have h3 := (List.append_inj' h (by rw [le8_len, le8_len])).1
  unfold encM at h3
  exact encU_inj hu hv ((List.append_right_inj _).1 h3)
theorem strOf_inj {a b : List Int} (ha : Byt a) (hb : Byt b) (h : strOf a = strOf b) : a = b := by
  rw [← sB_strOf ha, ← sB_strOf hb, h]
theorem encR_bytes (u : Un) : True := trivial
set_option maxRecDepth 100000 in
set_option maxHeartbeats 8000000 in
theorem eunlike_any (u v : Un) (hou : u.ok 140737488355328) (hov : v.ok 140737488355328) (hru : u.rng) (hrv : v.rng) (w : World) (F : Nat → Prop) (hF : ∀ k, F k → k < w.heap.size) (vs us : List Value) (ha : RUn w F u vs) (hb : RUn w F v us) :
    Calls Try.prog 8 #[.agg vs.toArray, .agg us.toArray] w (TruthP w true) := by
  obtain ⟨s, im, dc, fn⟩ := u
  obtain ⟨s2, im2, dc2, fn2⟩ := v
  have ha' := ha
  have hb' := hb
  obtain ⟨A7, c7, A8, c8, A9, c9, rfl, _, _, _⟩ := ha
  obtain ⟨B7, d7, B8, d8, B9, d9, rfl, _, _, _⟩ := hb
  dsimp only at ha' hb'
  have hb1 := ((Below.refl _ w).alloc (Nat.le_refl _) (.cells #[.string s, .slice A7 im.length c7, .slice A8 dc.length c8, .slice A9 fn.length c9] 26))
  have hb2 := hb1.alloc hb1.size (.cells #[.string s2, .slice B7 im2.length d7, .slice B8 dc2.length d8, .slice B9 fn2.length d9] 26)
  have hx := (Blk.new w 26 #[.string s, .slice A7 im.length c7, .slice A8 dc.length c8, .slice A9 fn.length c9]).alloc (.cells #[.string s2, .slice B7 im2.length d7, .slice B8 dc2.length d8, .slice B9 fn2.length d9] 26)
  have hy := Blk.new (w.alloc (.cells #[.string s, .slice A7 im.length c7, .slice A8 dc.length c8, .slice A9 fn.length c9] 26)) 26 #[.string s2, .slice B7 im2.length d7, .slice B8 dc2.length d8, .slice B9 fn2.length d9]
  rw [show (w.alloc (.cells #[.string s, .slice A7 im.length c7, .slice A8 dc.length c8, .slice A9 fn.length c9] 26)).heap.size = w.heap.size + 1 from by simp] at hy
  have HB2 := Lib.hid hb2
  have HXX := Lib.hid hx
  have HYY := Lib.hid hy
  have HG1 := Lib.hid (fun w1 (h1 : Below w.heap.size w w1) => great8_any _ hou w1 F (fun k hk => Nat.lt_of_lt_of_le (hF k hk) h1.size) _ (RUn_keeps.bel ha' h1))
  have HG2 := Lib.hid (fun w1 (h1 : Below w.heap.size w w1) => great8_any _ hov w1 F (fun k hk => Nat.lt_of_lt_of_le (hF k hk) h1.size) _ (RUn_keeps.bel hb' h1))
  obtain ⟨u, hu⟩ : ∃ u : Un, (⟨s, im, dc, fn⟩ : Un) = u := ⟨_, rfl⟩
  obtain ⟨v, hv⟩ : ∃ v : Un, (⟨s2, im2, dc2, fn2⟩ : Un) = v := ⟨_, rfl⟩
  rw [hu] at HG1 ha' hou hru
  rw [hv] at HG2 hb' hov hrv
  have HE1 := Lib.hid (fun (hc : u.cnt ≤ 3000) w1 (h1 : Below w.heap.size w w1) => encode_any u (by omega) hou w1 F (fun k hk => Nat.lt_of_lt_of_le (hF k hk) h1.size) _ (RUn_keeps.bel ha' h1))
  have HE2 := Lib.hid (fun (hc : v.cnt ≤ 3000) w1 (h1 : Below w.heap.size w w1) => encode_any v (by omega) hov w1 F (fun k hk => Nat.lt_of_lt_of_le (hF k hk) h1.size) _ (RUn_keeps.bel hb' h1))
  have HSM := Lib.hid (fun (hc : u.cnt ≤ 3000) w1 (h1 : Below w.heap.size w w1) b hbb => sam8_any u v (by omega) hou hov w1 F F _ _ (RUn_keeps.bel ha' h1) (RUn_keeps.bel hb' h1) b hbb)
  have HIN := Lib.hid (fun (h1 : u.cnt ≤ 3000) (h2 : v.cnt ≤ 3000) (l : List Int) e1 e2 => encR_inj (l := l) ⟨hou, hru, by omega⟩ ⟨hov, hrv, by omega⟩ e1 e2)
  obtain ⟨⟨l1, r1⟩, hR1⟩ : ∃ R, encR u = R := ⟨_, rfl⟩
  obtain ⟨⟨l2, r2⟩, hR2⟩ : ∃ R, encR v = R := ⟨_, rfl⟩
  rw [hR1] at HE1
  rw [hR2] at HE2
  by_cases h1 : r1 = 0
  case neg =>
    have e1 : (r1 == 0) = false := by simpa using h1
    have e2 : (r1 != 0) = true := by simpa using h1
    clear hb1 hb2 hx hy ha' hb' hou hov hru hrv hu hv hR1 hR2 hF h1
    go_enter Try.func8, Try.ntmps8
    go_wp2_with (first | (go_at_call 11; ((with_reducible refine (HE2.out (HBC2.out (by first | assumption | exact Bool.eq_false_iff.2 (by assumption))) _ HB5.out).mono ?_); rintro e w4 ⟨⟨Q, qc, rfl, ho, hy⟩, hb1⟩); have HS3 := Lib.hid (HS1.out.bel hb1); have HS2 := Lib.hid (EncP.slB (r := (l2, r2)) ho hy); have HB6 := Lib.hid (HB5.out.trans (hb1.mono HB5.out.size)); have hx4 := HX3.out.bel2 hb1; have hy4 := HY3.out.bel2 hb1; have HX4 := Lib.hid hx4; have HY4 := Lib.hid hy4; have dx0 := hx4.cell 0; have dy0 := hy4.cell 0; have dx1 := hx4.cell 1; have dy1 := hy4.cell 1; have dx2 := hx4.cell 2; have dy2 := hy4.cell 2; have dx3 := hx4.cell 3; have dy3 := hy4.cell 3; have dxl := hx4.lt; have dyl := hy4.lt; clear hb1 hx4 hy4 ho hy) | (go_at_call 11; ((with_reducible refine (HE1.out (HBC1.out (by first | assumption | exact Bool.eq_false_iff.2 (by assumption))) _ HB4.out).mono ?_); rintro e w3 ⟨⟨P, pc, rfl, ho, hy⟩, hb1⟩); have HS1 := Lib.hid (EncP.slB (r := (l1, r1)) ho hy); have HB5 := Lib.hid (HB4.out.trans (hb1.mono HB4.out.size)); have hx3 := HX2.out.bel2 hb1; have hy3 := HY2.out.bel2 hb1; have HX3 := Lib.hid hx3; have HY3 := Lib.hid hy3; have cx0 := hx3.cell 0; have cy0 := hy3.cell 0; have cx1 := hx3.cell 1; have cy1 := hy3.cell 1; have cx2 := hx3.cell 2; have cy2 := hy3.cell 2; have cx3 := hx3.cell 3; have cy3 := hy3.cell 3; have cxl := hx3.lt; have cyl := hy3.lt; clear hb1 hx3 hy3 ho hy) | (go_at_call 9; ((with_reducible refine (HG2.out _ HB3.out).mono ?_); rintro e w2 ⟨bb2, rfl, hbc2, hb1⟩); have HBC2 := Lib.hid hbc2; have HB4 := Lib.hid (HB3.out.trans (hb1.mono HB3.out.size)); have hx2 := HX1.out.bel2 hb1; have hy2 := HY1.out.bel2 hb1; have HX2 := Lib.hid hx2; have HY2 := Lib.hid hy2; have bx0 := hx2.cell 0; have by0 := hy2.cell 0; have bx1 := hx2.cell 1; have by1 := hy2.cell 1; have bx2 := hx2.cell 2; have by2 := hy2.cell 2; have bx3 := hx2.cell 3; have by3 := hy2.cell 3; have bxl := hx2.lt; have byl := hy2.lt; clear hb1 hx2 hy2 hbc2) | (go_at_call 9; ((with_reducible refine (HG1.out _ HB2.out).mono ?_); rintro e w1 ⟨bb1, rfl, hbc1, hb1⟩); have HBC1 := Lib.hid hbc1; have HB3 := Lib.hid (HB2.out.trans (hb1.mono HB2.out.size)); have hx1 := HXX.out.bel2 hb1; have hy1 := HYY.out.bel2 hb1; have HX1 := Lib.hid hx1; have HY1 := Lib.hid hy1; have ax0 := hx1.cell 0; have ay0 := hy1.cell 0; have ax1 := hx1.cell 1; have ay1 := hy1.cell 1; have ax2 := hx1.cell 2; have ay2 := hy1.cell 2; have ax3 := hx1.cell 3; have ay3 := hy1.cell 3; have axl := hx1.lt; have ayl := hy1.lt; clear hb1 hx1 hy1 hbc1) | (go_at_call 13; ((with_reducible refine (num_any _ _).mono ?_); rintro e w8 ⟨rfl, rfl⟩)) | (go_at_call 10; ((with_reducible refine (awake_any _).mono ?_); rintro e w9 ⟨rfl, hb9⟩); have HBZ := Lib.hid (HB6.out.trans (hb9.mono HB6.out.size)); clear hb9) | (go_at_call 10; ((with_reducible refine (awake_any _).mono ?_); rintro e w9 ⟨rfl, hb9⟩); have HBZ := Lib.hid (HB4.out.trans (hb9.mono HB4.out.size)); clear hb9) | (go_at_call 10; ((with_reducible refine (awake_any _).mono ?_); rintro e w9 ⟨rfl, hb9⟩); have HBZ := Lib.hid (HB3.out.trans (hb9.mono HB3.out.size)); clear hb9))
    all_goals first
      | (go_ret; exact ⟨rfl, HBZ.out⟩)
  subst h1
  by_cases h2 : r2 = 0
  case neg =>
    have e1 : (r2 == 0) = false := by simpa using h2
    have e2 : (r2 != 0) = true := by simpa using h2
    clear hb1 hb2 hx hy ha' hb' hou hov hru hrv hu hv hR1 hR2 hF h2
    go_enter Try.func8, Try.ntmps8
    go_wp2_with (first | (go_at_call 11; ((with_reducible refine (HE2.out (HBC2.out (by first | assumption | exact Bool.eq_false_iff.2 (by assumption))) _ HB5.out).mono ?_); rintro e w4 ⟨⟨Q, qc, rfl, ho, hy⟩, hb1⟩); have HS3 := Lib.hid (HS1.out.bel hb1); have HS2 := Lib.hid (EncP.slB (r := (l2, r2)) ho hy); have HB6 := Lib.hid (HB5.out.trans (hb1.mono HB5.out.size)); have hx4 := HX3.out.bel2 hb1; have hy4 := HY3.out.bel2 hb1; have HX4 := Lib.hid hx4; have HY4 := Lib.hid hy4; have dx0 := hx4.cell 0; have dy0 := hy4.cell 0; have dx1 := hx4.cell 1; have dy1 := hy4.cell 1; have dx2 := hx4.cell 2; have dy2 := hy4.cell 2; have dx3 := hx4.cell 3; have dy3 := hy4.cell 3; have dxl := hx4.lt; have dyl := hy4.lt; clear hb1 hx4 hy4 ho hy) | (go_at_call 11; ((with_reducible refine (HE1.out (HBC1.out (by first | assumption | exact Bool.eq_false_iff.2 (by assumption))) _ HB4.out).mono ?_); rintro e w3 ⟨⟨P, pc, rfl, ho, hy⟩, hb1⟩); have HS1 := Lib.hid (EncP.slB (r := (l1, 0)) ho hy); have HB5 := Lib.hid (HB4.out.trans (hb1.mono HB4.out.size)); have hx3 := HX2.out.bel2 hb1; have hy3 := HY2.out.bel2 hb1; have HX3 := Lib.hid hx3; have HY3 := Lib.hid hy3; have cx0 := hx3.cell 0; have cy0 := hy3.cell 0; have cx1 := hx3.cell 1; have cy1 := hy3.cell 1; have cx2 := hx3.cell 2; have cy2 := hy3.cell 2; have cx3 := hx3.cell 3; have cy3 := hy3.cell 3; have cxl := hx3.lt; have cyl := hy3.lt; clear hb1 hx3 hy3 ho hy) | (go_at_call 9; ((with_reducible refine (HG2.out _ HB3.out).mono ?_); rintro e w2 ⟨bb2, rfl, hbc2, hb1⟩); have HBC2 := Lib.hid hbc2; have HB4 := Lib.hid (HB3.out.trans (hb1.mono HB3.out.size)); have hx2 := HX1.out.bel2 hb1; have hy2 := HY1.out.bel2 hb1; have HX2 := Lib.hid hx2; have HY2 := Lib.hid hy2; have bx0 := hx2.cell 0; have by0 := hy2.cell 0; have bx1 := hx2.cell 1; have by1 := hy2.cell 1; have bx2 := hx2.cell 2; have by2 := hy2.cell 2; have bx3 := hx2.cell 3; have by3 := hy2.cell 3; have bxl := hx2.lt; have byl := hy2.lt; clear hb1 hx2 hy2 hbc2) | (go_at_call 9; ((with_reducible refine (HG1.out _ HB2.out).mono ?_); rintro e w1 ⟨bb1, rfl, hbc1, hb1⟩); have HBC1 := Lib.hid hbc1; have HB3 := Lib.hid (HB2.out.trans (hb1.mono HB2.out.size)); have hx1 := HXX.out.bel2 hb1; have hy1 := HYY.out.bel2 hb1; have HX1 := Lib.hid hx1; have HY1 := Lib.hid hy1; have ax0 := hx1.cell 0; have ay0 := hy1.cell 0; have ax1 := hx1.cell 1; have ay1 := hy1.cell 1; have ax2 := hx1.cell 2; have ay2 := hy1.cell 2; have ax3 := hx1.cell 3; have ay3 := hy1.cell 3; have axl := hx1.lt; have ayl := hy1.lt; clear hb1 hx1 hy1 hbc1) | (go_at_call 13; ((with_reducible refine (num_any _ _).mono ?_); rintro e w8 ⟨rfl, rfl⟩)) | (go_at_call 10; ((with_reducible refine (awake_any _).mono ?_); rintro e w9 ⟨rfl, hb9⟩); have HBZ := Lib.hid (HB6.out.trans (hb9.mono HB6.out.size)); clear hb9) | (go_at_call 10; ((with_reducible refine (awake_any _).mono ?_); rintro e w9 ⟨rfl, hb9⟩); have HBZ := Lib.hid (HB4.out.trans (hb9.mono HB4.out.size)); clear hb9) | (go_at_call 10; ((with_reducible refine (awake_any _).mono ?_); rintro e w9 ⟨rfl, hb9⟩); have HBZ := Lib.hid (HB3.out.trans (hb9.mono HB3.out.size)); clear hb9))
    all_goals first
      | (go_ret; exact ⟨rfl, HBZ.out⟩)
  subst h2
  have HR1 := Lib.hid hR1
  have HR2 := Lib.hid hR2
  clear hb1 hb2 hx hy ha' hb' hou hov hru hrv hu hv hR1 hR2 hF
  go_enter Try.func8, Try.ntmps8
  go_wp2_with (first | (go_at_call 11; ((with_reducible refine (HE2.out (HBC2.out (by first | assumption | exact Bool.eq_false_iff.2 (by assumption))) _ HB5.out).mono ?_); rintro e w4 ⟨⟨Q, qc, rfl, ho, hy⟩, hb1⟩); have HS3 := Lib.hid (HS1.out.bel hb1); have HS2 := Lib.hid (EncP.slB (r := (l2, 0)) ho hy); have HB6 := Lib.hid (HB5.out.trans (hb1.mono HB5.out.size)); have hx4 := HX3.out.bel2 hb1; have hy4 := HY3.out.bel2 hb1; have HX4 := Lib.hid hx4; have HY4 := Lib.hid hy4; have dx0 := hx4.cell 0; have dy0 := hy4.cell 0; have dx1 := hx4.cell 1; have dy1 := hy4.cell 1; have dx2 := hx4.cell 2; have dy2 := hy4.cell 2; have dx3 := hx4.cell 3; have dy3 := hy4.cell 3; have dxl := hx4.lt; have dyl := hy4.lt; clear hb1 hx4 hy4 ho hy) | (go_at_call 11; ((with_reducible refine (HE1.out (HBC1.out (by first | assumption | exact Bool.eq_false_iff.2 (by assumption))) _ HB4.out).mono ?_); rintro e w3 ⟨⟨P, pc, rfl, ho, hy⟩, hb1⟩); have HS1 := Lib.hid (EncP.slB (r := (l1, 0)) ho hy); have HB5 := Lib.hid (HB4.out.trans (hb1.mono HB4.out.size)); have hx3 := HX2.out.bel2 hb1; have hy3 := HY2.out.bel2 hb1; have HX3 := Lib.hid hx3; have HY3 := Lib.hid hy3; have cx0 := hx3.cell 0; have cy0 := hy3.cell 0; have cx1 := hx3.cell 1; have cy1 := hy3.cell 1; have cx2 := hx3.cell 2; have cy2 := hy3.cell 2; have cx3 := hx3.cell 3; have cy3 := hy3.cell 3; have cxl := hx3.lt; have cyl := hy3.lt; clear hb1 hx3 hy3 ho hy) | (go_at_call 9; ((with_reducible refine (HG2.out _ HB3.out).mono ?_); rintro e w2 ⟨bb2, rfl, hbc2, hb1⟩); have HBC2 := Lib.hid hbc2; have HB4 := Lib.hid (HB3.out.trans (hb1.mono HB3.out.size)); have hx2 := HX1.out.bel2 hb1; have hy2 := HY1.out.bel2 hb1; have HX2 := Lib.hid hx2; have HY2 := Lib.hid hy2; have bx0 := hx2.cell 0; have by0 := hy2.cell 0; have bx1 := hx2.cell 1; have by1 := hy2.cell 1; have bx2 := hx2.cell 2; have by2 := hy2.cell 2; have bx3 := hx2.cell 3; have by3 := hy2.cell 3; have bxl := hx2.lt; have byl := hy2.lt; clear hb1 hx2 hy2 hbc2) | (go_at_call 9; ((with_reducible refine (HG1.out _ HB2.out).mono ?_); rintro e w1 ⟨bb1, rfl, hbc1, hb1⟩); have HBC1 := Lib.hid hbc1; have HB3 := Lib.hid (HB2.out.trans (hb1.mono HB2.out.size)); have hx1 := HXX.out.bel2 hb1; have hy1 := HYY.out.bel2 hb1; have HX1 := Lib.hid hx1; have HY1 := Lib.hid hy1; have ax0 := hx1.cell 0; have ay0 := hy1.cell 0; have ax1 := hx1.cell 1; have ay1 := hy1.cell 1; have ax2 := hx1.cell 2; have ay2 := hy1.cell 2; have ax3 := hx1.cell 3; have ay3 := hy1.cell 3; have axl := hx1.lt; have ayl := hy1.lt; clear hb1 hx1 hy1 hbc1) | (go_at_call 13; ((with_reducible refine (num_any _ _).mono ?_); rintro e w8 ⟨rfl, rfl⟩)) | (go_at_call 10; ((with_reducible refine (awake_any _).mono ?_); rintro e w9 ⟨rfl, hb9⟩); have HBZ := Lib.hid (HB6.out.trans (hb9.mono HB6.out.size)); clear hb9) | (go_at_call 10; ((with_reducible refine (awake_any _).mono ?_); rintro e w9 ⟨rfl, hb9⟩); have HBZ := Lib.hid (HB4.out.trans (hb9.mono HB4.out.size)); clear hb9) | (go_at_call 10; ((with_reducible refine (awake_any _).mono ?_); rintro e w9 ⟨rfl, hb9⟩); have HBZ := Lib.hid (HB3.out.trans (hb9.mono HB3.out.size)); clear hb9))
  · go_ret
    exact ⟨rfl, HBZ.out⟩
  · go_ret
    exact ⟨rfl, HBZ.out⟩
  · have hc1 : u.cnt ≤ 3000 := HBC1.out (by first | assumption | exact Bool.eq_false_iff.2 (by assumption))
    have hc2 : v.cnt ≤ 3000 := HBC2.out (by first | assumption | exact Bool.eq_false_iff.2 (by assumption))
    have HSX := Lib.hid (fun b hbb w9 (h9 : Below w4.heap.size w4 w9) => HSM.out hc1 w9 (HB6.out.trans (h9.mono HB6.out.size)) b hbb)
    by_cases huv : u = v
    · have hll : l1 = l2 := by
        have e1 := HR1.out
        rw [huv, HR2.out] at e1
        injection e1 with e1
        exact e1.symm
      subst hll
      replace HSX := Lib.hid (HSX.out true (by simp [huv]))
      clear hc1 hc2 huv
      go_wp2
      refine wp_region_held_drew (S := fun V => Below w4.heap.size w4 V) (by kernel_rfl) (Below.refl _ w4).drew (fun hS0 => ?_)
      refine wpAnyH_take (i := 0) (v := .slice P l1.length pc) rfl (by kernel_rfl) (by kernel_rfl) (by kernel_rfl) (fun _ _ _ h => h) (Or.inl ⟨rfl, fun w' hS => by (unfold execOp; go_simp)⟩) hS0 ?_
      simp only [Act.put, List.getElem_toArray, List.getElem_cons_zero, List.getElem_cons_succ, List.setIfInBounds_toArray, List.set_cons_zero, List.set_cons_succ]
      refine wpAnyH_take (i := 1) (v := (.string (strOf l1))) rfl (by kernel_rfl) (by kernel_rfl) (by kernel_rfl) (fun _ _ _ h => h) (Or.inl ⟨rfl, fun w' hS => by (have e1 := conv_any (HS3.out.bel hS) pc; unfold execOp; go_simp)⟩) hS0 ?_
      simp only [Act.put, List.getElem_toArray, List.getElem_cons_zero, List.getElem_cons_succ, List.setIfInBounds_toArray, List.set_cons_zero, List.set_cons_succ]
      refine wpAnyH_take (i := 2) (v := .slice Q l1.length qc) rfl (by kernel_rfl) (by kernel_rfl) (by kernel_rfl) (fun _ _ _ h => h) (Or.inl ⟨rfl, fun w' hS => by (unfold execOp; go_simp)⟩) hS0 ?_
      simp only [Act.put, List.getElem_toArray, List.getElem_cons_zero, List.getElem_cons_succ, List.setIfInBounds_toArray, List.set_cons_zero, List.set_cons_succ]
      refine wpAnyH_take (i := 3) (v := (.string (strOf l1))) rfl (by kernel_rfl) (by kernel_rfl) (by kernel_rfl) (fun _ _ _ h => h) (Or.inl ⟨rfl, fun w' hS => by (have e1 := conv_any (HS2.out.bel hS) qc; unfold execOp; go_simp)⟩) hS0 ?_
      simp only [Act.put, List.getElem_toArray, List.getElem_cons_zero, List.getElem_cons_succ, List.setIfInBounds_toArray, List.set_cons_zero, List.set_cons_succ]
      refine wpAnyH_take (i := 4) (v := .bool true) rfl (by kernel_rfl) (by kernel_rfl) (by kernel_rfl) (fun _ _ _ h => h) (Or.inl ⟨rfl, fun w' hS => by (unfold execOp; go_simp)⟩) hS0 ?_
      simp only [Act.put, List.getElem_toArray, List.getElem_cons_zero, List.getElem_cons_succ, List.setIfInBounds_toArray, List.set_cons_zero, List.set_cons_succ]
      refine wpAnyH_take (i := 5) (v := (.agg #[.string s, .slice A7 im.length c7, .slice A8 dc.length c8, .slice A9 fn.length c9])) rfl (by kernel_rfl) (by kernel_rfl) (by kernel_rfl) (fun _ _ _ h => h) (Or.inl ⟨rfl, fun w' hS => by (have yb := HX4.out.bel2 hS; have yc0 := yb.cell 0; have yc1 := yb.cell 1; have yc2 := yb.cell 2; have yc3 := yb.cell 3; have ycl := yb.lt; unfold execOp; go_simp)⟩) hS0 ?_
      simp only [Act.put, List.getElem_toArray, List.getElem_cons_zero, List.getElem_cons_succ, List.setIfInBounds_toArray, List.set_cons_zero, List.set_cons_succ]
      refine wpAnyH_take (i := 6) (v := (.agg #[.string s2, .slice B7 im2.length d7, .slice B8 dc2.length d8, .slice B9 fn2.length d9])) rfl (by kernel_rfl) (by kernel_rfl) (by kernel_rfl) (fun _ _ _ h => h) (Or.inl ⟨rfl, fun w' hS => by (have yb := HY4.out.bel2 hS; have yc0 := yb.cell 0; have yc1 := yb.cell 1; have yc2 := yb.cell 2; have yc3 := yb.cell 3; have ycl := yb.lt; unfold execOp; go_simp)⟩) hS0 ?_
      simp only [Act.put, List.getElem_toArray, List.getElem_cons_zero, List.getElem_cons_succ, List.setIfInBounds_toArray, List.set_cons_zero, List.set_cons_succ]
      refine wpAnyH_one (i := 7) (by kernel_rfl) rfl rfl (op_call (args := #[.agg #[.string s, .slice A7 im.length c7, .slice A8 dc.length c8, .slice A9 fn.length c9], .agg #[.string s2, .slice B7 im2.length d7, .slice B8 dc2.length d8, .slice B9 fn2.length d9]]) (f := 19) (by unfold execOp; go_simp) ((HSX.out _ hS0).mono ?_))
      rintro e w20 ⟨rfl, hb20⟩
      have hS1 := hS0.trans (hb20.mono hS0.size)
      refine And.intro hS1 ?_
      simp only [Act.put, List.getElem_toArray, List.getElem_cons_zero, List.getElem_cons_succ, List.setIfInBounds_toArray, List.set_cons_zero, List.set_cons_succ]
      refine wpAnyH_take (i := 8) (v := .bool true) rfl (by kernel_rfl) (by kernel_rfl) (by kernel_rfl) (fun _ _ _ h => h) (Or.inl ⟨rfl, fun w' hS => by (unfold execOp; go_simp)⟩) hS1 ?_
      simp only [Act.put, List.getElem_toArray, List.getElem_cons_zero, List.getElem_cons_succ, List.setIfInBounds_toArray, List.set_cons_zero, List.set_cons_succ]
      refine wpAnyH_take (i := 9) (v := .bool true) rfl (by kernel_rfl) (by kernel_rfl) (by kernel_rfl) (fun _ _ _ h => h) (Or.inl ⟨rfl, fun w' hS => by (unfold execOp; go_simp)⟩) hS1 ?_
      simp only [Act.put, List.getElem_toArray, List.getElem_cons_zero, List.getElem_cons_succ, List.setIfInBounds_toArray, List.set_cons_zero, List.set_cons_succ]
      refine wpAnyH_oneG (i := 10) (by kernel_rfl) rfl (by kernel_rfl) (op_call (args := #[]) (f := 10) (by unfold execOp; go_simp) ((awake_any _).mono ?_))
      rintro e w21 ⟨rfl, hb21⟩
      have hS2 := hS1.trans (hb21.mono hS1.size)
      refine And.intro hS2 ?_
      simp only [Act.put, List.getElem_toArray, List.getElem_cons_zero, List.getElem_cons_succ, List.setIfInBounds_toArray, List.set_cons_zero, List.set_cons_succ]
      refine wpAnyH_take (i := 11) (v := .bool true) rfl (by kernel_rfl) (by kernel_rfl) (by kernel_rfl) (fun _ _ _ h => h) (Or.inl ⟨rfl, fun w' hS => by (unfold execOp; go_simp)⟩) hS2 ?_
      simp only [Act.put, List.getElem_toArray, List.getElem_cons_zero, List.getElem_cons_succ, List.setIfInBounds_toArray, List.set_cons_zero, List.set_cons_succ]
      refine wpAnyH_take (i := 12) (v := .bool true) rfl (by kernel_rfl) (by kernel_rfl) (by kernel_rfl) (fun _ _ _ h => h) (Or.inl ⟨rfl, fun w' hS => by (unfold execOp; go_simp)⟩) hS2 ?_
      simp only [Act.put, List.getElem_toArray, List.getElem_cons_zero, List.getElem_cons_succ, List.setIfInBounds_toArray, List.set_cons_zero, List.set_cons_succ]
      refine wpAnyH_done (by kernel_rfl) ?_ _
      go_wp2
      go_ret
      exact ⟨rfl, HB6.out.trans (hS2.mono HB6.out.size)⟩
    · have hll : l1 ≠ l2 := fun e => huv (HIN.out hc1 hc2 l1 HR1.out (by rw [e]; exact HR2.out))
      have hst : strOf l1 ≠ strOf l2 := fun e => hll (strOf_inj HS1.out.1 HS2.out.1 e)
      have HN := Lib.hid (show (((strOf l1).toList == (strOf l2).toList) = false) ∧ (((strOf l1).toList != (strOf l2).toList) = true) from ⟨by simpa [toList_inj] using hst, by simpa [toList_inj] using hst⟩)
      replace HSX := Lib.hid (HSX.out false (by simp [huv]))
      clear hc1 hc2 huv hll hst
      go_wp2
      refine wp_region_held_drew (S := fun V => Below w4.heap.size w4 V) (by kernel_rfl) (Below.refl _ w4).drew (fun hS0 => ?_)
      refine wpAnyH_take (i := 0) (v := .slice P l1.length pc) rfl (by kernel_rfl) (by kernel_rfl) (by kernel_rfl) (fun _ _ _ h => h) (Or.inl ⟨rfl, fun w' hS => by (unfold execOp; go_simp)⟩) hS0 ?_
      simp only [Act.put, List.getElem_toArray, List.getElem_cons_zero, List.getElem_cons_succ, List.setIfInBounds_toArray, List.set_cons_zero, List.set_cons_succ]
      refine wpAnyH_take (i := 1) (v := (.string (strOf l1))) rfl (by kernel_rfl) (by kernel_rfl) (by kernel_rfl) (fun _ _ _ h => h) (Or.inl ⟨rfl, fun w' hS => by (have e1 := conv_any (HS3.out.bel hS) pc; unfold execOp; go_simp)⟩) hS0 ?_
      simp only [Act.put, List.getElem_toArray, List.getElem_cons_zero, List.getElem_cons_succ, List.setIfInBounds_toArray, List.set_cons_zero, List.set_cons_succ]
      refine wpAnyH_take (i := 2) (v := .slice Q l2.length qc) rfl (by kernel_rfl) (by kernel_rfl) (by kernel_rfl) (fun _ _ _ h => h) (Or.inl ⟨rfl, fun w' hS => by (unfold execOp; go_simp)⟩) hS0 ?_
      simp only [Act.put, List.getElem_toArray, List.getElem_cons_zero, List.getElem_cons_succ, List.setIfInBounds_toArray, List.set_cons_zero, List.set_cons_succ]
      refine wpAnyH_take (i := 3) (v := (.string (strOf l2))) rfl (by kernel_rfl) (by kernel_rfl) (by kernel_rfl) (fun _ _ _ h => h) (Or.inl ⟨rfl, fun w' hS => by (have e1 := conv_any (HS2.out.bel hS) qc; unfold execOp; go_simp)⟩) hS0 ?_
      simp only [Act.put, List.getElem_toArray, List.getElem_cons_zero, List.getElem_cons_succ, List.setIfInBounds_toArray, List.set_cons_zero, List.set_cons_succ]
      refine wpAnyH_take (i := 4) (v := .bool false) rfl (by kernel_rfl) (by kernel_rfl) (by kernel_rfl) (fun _ _ _ h => h) (Or.inl ⟨rfl, fun w' hS => by (have e1 := HN.out.1; have e2 := HN.out.2; unfold execOp; go_simp)⟩) hS0 ?_
      simp only [Act.put, List.getElem_toArray, List.getElem_cons_zero, List.getElem_cons_succ, List.setIfInBounds_toArray, List.set_cons_zero, List.set_cons_succ]
      refine wpAnyH_take (i := 5) (v := (.agg #[.string s, .slice A7 im.length c7, .slice A8 dc.length c8, .slice A9 fn.length c9])) rfl (by kernel_rfl) (by kernel_rfl) (by kernel_rfl) (fun _ _ _ h => h) (Or.inl ⟨rfl, fun w' hS => by (have yb := HX4.out.bel2 hS; have yc0 := yb.cell 0; have yc1 := yb.cell 1; have yc2 := yb.cell 2; have yc3 := yb.cell 3; have ycl := yb.lt; unfold execOp; go_simp)⟩) hS0 ?_
      simp only [Act.put, List.getElem_toArray, List.getElem_cons_zero, List.getElem_cons_succ, List.setIfInBounds_toArray, List.set_cons_zero, List.set_cons_succ]
      refine wpAnyH_take (i := 6) (v := (.agg #[.string s2, .slice B7 im2.length d7, .slice B8 dc2.length d8, .slice B9 fn2.length d9])) rfl (by kernel_rfl) (by kernel_rfl) (by kernel_rfl) (fun _ _ _ h => h) (Or.inl ⟨rfl, fun w' hS => by (have yb := HY4.out.bel2 hS; have yc0 := yb.cell 0; have yc1 := yb.cell 1; have yc2 := yb.cell 2; have yc3 := yb.cell 3; have ycl := yb.lt; unfold execOp; go_simp)⟩) hS0 ?_
      simp only [Act.put, List.getElem_toArray, List.getElem_cons_zero, List.getElem_cons_succ, List.setIfInBounds_toArray, List.set_cons_zero, List.set_cons_succ]
      refine wpAnyH_one (i := 7) (by kernel_rfl) rfl rfl (op_call (args := #[.agg #[.string s, .slice A7 im.length c7, .slice A8 dc.length c8, .slice A9 fn.length c9], .agg #[.string s2, .slice B7 im2.length d7, .slice B8 dc2.length d8, .slice B9 fn2.length d9]]) (f := 19) (by unfold execOp; go_simp) ((HSX.out _ hS0).mono ?_))
      rintro e w20 ⟨rfl, hb20⟩
      have hS1 := hS0.trans (hb20.mono hS0.size)
      refine And.intro hS1 ?_
      simp only [Act.put, List.getElem_toArray, List.getElem_cons_zero, List.getElem_cons_succ, List.setIfInBounds_toArray, List.set_cons_zero, List.set_cons_succ]
      refine wpAnyH_take (i := 8) (v := .bool true) rfl (by kernel_rfl) (by kernel_rfl) (by kernel_rfl) (fun _ _ _ h => h) (Or.inl ⟨rfl, fun w' hS => by (unfold execOp; go_simp)⟩) hS1 ?_
      simp only [Act.put, List.getElem_toArray, List.getElem_cons_zero, List.getElem_cons_succ, List.setIfInBounds_toArray, List.set_cons_zero, List.set_cons_succ]
      refine wpAnyH_take (i := 9) (v := .bool true) rfl (by kernel_rfl) (by kernel_rfl) (by kernel_rfl) (fun _ _ _ h => h) (Or.inl ⟨rfl, fun w' hS => by (unfold execOp; go_simp)⟩) hS1 ?_
      simp only [Act.put, List.getElem_toArray, List.getElem_cons_zero, List.getElem_cons_succ, List.setIfInBounds_toArray, List.set_cons_zero, List.set_cons_succ]
      refine wpAnyH_oneG (i := 10) (by kernel_rfl) rfl (by kernel_rfl) (op_call (args := #[]) (f := 10) (by unfold execOp; go_simp) ((awake_any _).mono ?_))
      rintro e w21 ⟨rfl, hb21⟩
      have hS2 := hS1.trans (hb21.mono hS1.size)
      refine And.intro hS2 ?_
      simp only [Act.put, List.getElem_toArray, List.getElem_cons_zero, List.getElem_cons_succ, List.setIfInBounds_toArray, List.set_cons_zero, List.set_cons_succ]
      refine wpAnyH_take (i := 11) (v := .bool true) rfl (by kernel_rfl) (by kernel_rfl) (by kernel_rfl) (fun _ _ _ h => h) (Or.inl ⟨rfl, fun w' hS => by (unfold execOp; go_simp)⟩) hS2 ?_
      simp only [Act.put, List.getElem_toArray, List.getElem_cons_zero, List.getElem_cons_succ, List.setIfInBounds_toArray, List.set_cons_zero, List.set_cons_succ]
      refine wpAnyH_take (i := 12) (v := .bool true) rfl (by kernel_rfl) (by kernel_rfl) (by kernel_rfl) (fun _ _ _ h => h) (Or.inl ⟨rfl, fun w' hS => by (unfold execOp; go_simp)⟩) hS2 ?_
      simp only [Act.put, List.getElem_toArray, List.getElem_cons_zero, List.getElem_cons_succ, List.setIfInBounds_toArray, List.set_cons_zero, List.set_cons_succ]
      refine wpAnyH_done (by kernel_rfl) ?_ _
      go_wp2
      go_ret
      exact ⟨rfl, HB6.out.trans (hS2.mono HB6.out.size)⟩
end Go.Proofs.Ytnkojjkijkhlbaa
