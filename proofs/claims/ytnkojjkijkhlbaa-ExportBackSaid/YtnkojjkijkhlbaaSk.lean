/-
  Which units are one, by the document: heads and units: walks.
-/
import Derived.Test.YtnkojjkijkhlbaaSh
namespace Go.Proofs.Ytnkojjkijkhlbaa
open Go.RowKit
set_option linter.unusedVariables false
set_option linter.unusedSimpArgs false

theorem ten_of {α : Type _} {l : List α} (h : l.length = 10) : ∃ a0 a1 a2 a3 a4 a5 a6 a7 a8 a9, l = [a0, a1, a2, a3, a4, a5, a6, a7, a8, a9] := by
  match l, h with
  | [a0, a1, a2, a3, a4, a5, a6, a7, a8, a9], _ => exact ⟨a0, a1, a2, a3, a4, a5, a6, a7, a8, a9, rfl⟩
set_option maxRecDepth 100000 in
set_option maxHeartbeats 8000000 in
theorem samH_any (s s2 : ByteArray) (im im2 : List Im) (dc dc2 : List Dl) (fn fn2 : List Fn8) (hu : im.length ≤ 140737488355328 ∧ dc.length ≤ 140737488355328 ∧ ∀ d ∈ dc, (d.ty.count ≤ 2000000 ∧ d.fields.length ≤ 140737488355328 ∧ ∀ f ∈ d.fields, f.ty.count ≤ 2000000)) (hv : im2.length ≤ 140737488355328 ∧ dc2.length ≤ 140737488355328 ∧ ∀ d ∈ dc2, d.fields.length ≤ 140737488355328)
    (w : World) (F F' : Nat → Prop) (A7 B7 A8 B8 A9 B9 : Option Addr) (c7 d7 c8 d8 c9 d9 : Nat) (h7 : SlG 2 RIm w F A7 im) (h8 : SlG 10 RDl w F A8 dc) (k7 : SlG 2 RIm w F' B7 im2) (k8 : SlG 10 RDl w F' B8 dc2) (b : Bool) (hbb : b = true ↔ (s = s2 ∧ im = im2 ∧ dc = dc2)) :
    Calls Try.prog 36 #[.agg #[.string s, .slice A7 im.length c7, .slice A8 dc.length c8, .slice A9 fn.length c9], .agg #[.string s2, .slice B7 im2.length d7, .slice B8 dc2.length d8, .slice B9 fn2.length d9]] w (TruthP w b) := by
  by_cases hs : s = s2
  case neg =>
    have e1 : (s.toList == s2.toList) = false := by simpa [toList_inj] using hs
    have e2 : (s.toList != s2.toList) = true := by simpa [toList_inj] using hs
    have hbf : b = false := iff_f hbb (fun e => hs e.1)
    subst hbf
    clear hs
    clear hbb h7 h8 k7 k8 hu hv
    have hb1 := ((Below.refl _ w).alloc (Nat.le_refl _) (.cells #[.string s, .slice A7 im.length c7, .slice A8 dc.length c8, .slice A9 fn.length c9] 26))
    have hb2 := hb1.alloc hb1.size (.cells #[.string s2, .slice B7 im2.length d7, .slice B8 dc2.length d8, .slice B9 fn2.length d9] 26)
    have hx := (Blk.new w 26 #[.string s, .slice A7 im.length c7, .slice A8 dc.length c8, .slice A9 fn.length c9]).alloc (.cells #[.string s2, .slice B7 im2.length d7, .slice B8 dc2.length d8, .slice B9 fn2.length d9] 26)
    have hy := Blk.new (w.alloc (.cells #[.string s, .slice A7 im.length c7, .slice A8 dc.length c8, .slice A9 fn.length c9] 26)) 26 #[.string s2, .slice B7 im2.length d7, .slice B8 dc2.length d8, .slice B9 fn2.length d9]
    rw [show (w.alloc (.cells #[.string s, .slice A7 im.length c7, .slice A8 dc.length c8, .slice A9 fn.length c9] 26)).heap.size = w.heap.size + 1 from by simp] at hy
    have HB2 := Lib.hid hb2
    have HXX := Lib.hid hx
    have HYY := Lib.hid hy
    clear hb1 hb2 hx hy
    go_enter Try.func36, Try.ntmps36
    go_wp2
    go_ret
    exact ⟨rfl, HB2.out⟩
  subst hs
  by_cases hl1 : im.length = im2.length
  case neg =>
    have e1 : ((im.length : Int) == (im2.length : Int)) = false := by simp; omega
    have e2 : ((im.length : Int) != (im2.length : Int)) = true := by simp; omega
    have hbf : b = false := iff_f hbb (fun e => hl1 (by rw [e.2.1]))
    subst hbf
    clear hl1
    clear hbb h7 h8 k7 k8 hu hv
    have hb1 := ((Below.refl _ w).alloc (Nat.le_refl _) (.cells #[.string s, .slice A7 im.length c7, .slice A8 dc.length c8, .slice A9 fn.length c9] 26))
    have hb2 := hb1.alloc hb1.size (.cells #[.string s, .slice B7 im2.length d7, .slice B8 dc2.length d8, .slice B9 fn2.length d9] 26)
    have hx := (Blk.new w 26 #[.string s, .slice A7 im.length c7, .slice A8 dc.length c8, .slice A9 fn.length c9]).alloc (.cells #[.string s, .slice B7 im2.length d7, .slice B8 dc2.length d8, .slice B9 fn2.length d9] 26)
    have hy := Blk.new (w.alloc (.cells #[.string s, .slice A7 im.length c7, .slice A8 dc.length c8, .slice A9 fn.length c9] 26)) 26 #[.string s, .slice B7 im2.length d7, .slice B8 dc2.length d8, .slice B9 fn2.length d9]
    rw [show (w.alloc (.cells #[.string s, .slice A7 im.length c7, .slice A8 dc.length c8, .slice A9 fn.length c9] 26)).heap.size = w.heap.size + 1 from by simp] at hy
    have HB2 := Lib.hid hb2
    have HXX := Lib.hid hx
    have HYY := Lib.hid hy
    clear hb1 hb2 hx hy
    go_enter Try.func36, Try.ntmps36
    go_wp2
    go_ret
    exact ⟨rfl, HB2.out⟩
  by_cases hl2 : dc.length = dc2.length
  case neg =>
    have e1 : ((dc.length : Int) == (dc2.length : Int)) = false := by simp; omega
    have e2 : ((dc.length : Int) != (dc2.length : Int)) = true := by simp; omega
    rw [← hl1]
    have e3 : True := trivial
    have hbf : b = false := iff_f hbb (fun e => hl2 (by rw [e.2.2]))
    subst hbf
    clear hl2 hl1
    clear hbb h7 h8 k7 k8 hu hv
    have hb1 := ((Below.refl _ w).alloc (Nat.le_refl _) (.cells #[.string s, .slice A7 im.length c7, .slice A8 dc.length c8, .slice A9 fn.length c9] 26))
    have hb2 := hb1.alloc hb1.size (.cells #[.string s, .slice B7 im.length d7, .slice B8 dc2.length d8, .slice B9 fn2.length d9] 26)
    have hx := (Blk.new w 26 #[.string s, .slice A7 im.length c7, .slice A8 dc.length c8, .slice A9 fn.length c9]).alloc (.cells #[.string s, .slice B7 im.length d7, .slice B8 dc2.length d8, .slice B9 fn2.length d9] 26)
    have hy := Blk.new (w.alloc (.cells #[.string s, .slice A7 im.length c7, .slice A8 dc.length c8, .slice A9 fn.length c9] 26)) 26 #[.string s, .slice B7 im.length d7, .slice B8 dc2.length d8, .slice B9 fn2.length d9]
    rw [show (w.alloc (.cells #[.string s, .slice A7 im.length c7, .slice A8 dc.length c8, .slice A9 fn.length c9] 26)).heap.size = w.heap.size + 1 from by simp] at hy
    have HB2 := Lib.hid hb2
    have HXX := Lib.hid hx
    have HYY := Lib.hid hy
    clear hb1 hb2 hx hy
    go_enter Try.func36, Try.ntmps36
    go_wp2
    go_ret
    exact ⟨rfl, HB2.out⟩
  rw [← hl1, ← hl2]
  have HL1 := Lib.hid hl1
  have HL2 := Lib.hid hl2
  have H7 := Lib.hid h7
  have H8 := Lib.hid h8
  have K7 := Lib.hid k7
  have K8 := Lib.hid k8
  have HU := Lib.hid hu.2.2
  have HV := Lib.hid hv.2.2
  have HBB := Lib.hid hbb
  have n0 : (0 : Int) ≤ (im.length : Int) := by omega
  have n1 : (im.length : Int) ≤ 140737488355328 := by have := hu.1; omega
  have m0 : (0 : Int) ≤ (dc.length : Int) := by omega
  have m1 : (dc.length : Int) ≤ 140737488355328 := by have := hu.2.1; omega
  clear hl1 hl2 h7 h8 k7 k8 hu hv hbb
  have hb1 := ((Below.refl _ w).alloc (Nat.le_refl _) (.cells #[.string s, .slice A7 im.length c7, .slice A8 dc.length c8, .slice A9 fn.length c9] 26))
  have hb2 := hb1.alloc hb1.size (.cells #[.string s, .slice B7 im.length d7, .slice B8 dc.length d8, .slice B9 fn2.length d9] 26)
  have hx := (Blk.new w 26 #[.string s, .slice A7 im.length c7, .slice A8 dc.length c8, .slice A9 fn.length c9]).alloc (.cells #[.string s, .slice B7 im.length d7, .slice B8 dc.length d8, .slice B9 fn2.length d9] 26)
  have hy := Blk.new (w.alloc (.cells #[.string s, .slice A7 im.length c7, .slice A8 dc.length c8, .slice A9 fn.length c9] 26)) 26 #[.string s, .slice B7 im.length d7, .slice B8 dc.length d8, .slice B9 fn2.length d9]
  rw [show (w.alloc (.cells #[.string s, .slice A7 im.length c7, .slice A8 dc.length c8, .slice A9 fn.length c9] 26)).heap.size = w.heap.size + 1 from by simp] at hy
  have HB2 := Lib.hid hb2
  have HXX := Lib.hid hx
  have HYY := Lib.hid hy
  clear hb1 hb2 hx hy
  go_enter Try.func36, Try.ntmps36
  go_wp2
  go_loopg [5] im.length (fun gk v5 wr => ∃ j : Nat, j + gk = im.length ∧ v5 = .int .i64 j ∧ Below ((w.alloc (.cells #[.string s, .slice A7 im.length c7, .slice A8 dc.length c8, .slice A9 fn.length c9] 26)).alloc (.cells #[.string s, .slice B7 im.length d7, .slice B8 dc.length d8, .slice B9 fn2.length d9] 26)).heap.size ((w.alloc (.cells #[.string s, .slice A7 im.length c7, .slice A8 dc.length c8, .slice A9 fn.length c9] 26)).alloc (.cells #[.string s, .slice B7 im.length d7, .slice B8 dc.length d8, .slice B9 fn2.length d9] 26)) wr ∧ im.take j = im2.take j)
  case atStart => exact ⟨0, by simp, rfl, Below.refl _ _, by simp⟩
  case round =>
    obtain ⟨j, hj, rfl, hbw, htk⟩ := hrel
    have HTK := Lib.hid htk
    have HBW := Lib.hid hbw
    have hx := HXX.out.bel2 hbw
    have hy := HYY.out.bel2 hbw
    have xa1 := hx.cell 1
    have ya1 := hy.cell 1
    have xa2 := hx.cell 2
    have ya2 := hy.cell 2
    have xl := hx.lt
    have yl := hy.lt
    clear htk
    cases gk with
    | succ f =>
      have hjl : j < im.length := by omega
      obtain ⟨u, hu⟩ : ∃ u, im[j]? = some u := ⟨_, List.getElem?_eq_getElem hjl⟩
      obtain ⟨v, hv⟩ : ∃ v, im2[j]? = some v := ⟨_, List.getElem?_eq_getElem (by rw [← HL1.out]; exact hjl)⟩
      have j1 : (j : Int) < (im.length : Int) := by omega
      have j0 : (0 : Int) ≤ (j : Int) := by omega
      have j2 : (j : Int) ≤ 140737488355328 := by omega
      have hbw2 := HB2.out.trans (hbw.mono HB2.out.size)
      obtain ⟨g, o, vs, rfl, _, hgl, hrep, hat⟩ := (H7.out.bel RIm_keeps hbw2).at_ RIm_sized hu
      obtain ⟨g', o', us, rfl, _, hgl', hrep', hat'⟩ := (K7.out.bel RIm_keeps hbw2).at_ RIm_sized hv
      have HNE := Lib.hid (fun h : u ≠ v => iff_f HBB.out (fun e => ne_at hu hv h e.2.1))
      have HTE := Lib.hid (fun e : u = v => take_eq hu hv e HTK.out)
      obtain ⟨nm, hh⟩ := u
      obtain ⟨nm2, hh2⟩ := v
      obtain rfl : vs = [.string nm, .int .i64 hh] := hrep
      obtain rfl : us = [.string nm2, .int .i64 hh2] := hrep'
      have q0 := hat 0 _ rfl
      have r0 := hat' 0 _ rfl
      have q1 := hat 1 _ rfl
      have r1 := hat' 1 _ rfl
      simp only [Nat.add_zero] at q0 r0
      clear hat hat' hu hv hbw hbw2 hx hy
      by_cases h0 : nm = nm2
      case neg =>
        have hbf : b = false := HNE.out (fun e => by injection e with e0 e1; exact h0 e0)
        subst hbf
        have HN := Lib.hid (show ((nm.toList == nm2.toList) = false) ∧ ((nm.toList != nm2.toList) = true) from ⟨by simpa [toList_inj] using h0, by simpa [toList_inj] using h0⟩)
        clear h0 HNE HTE
        go_wp2
        refine wp_region_held_drew (S := fun V => Below wr.heap.size wr V) (by kernel_rfl) (Below.refl _ wr).drew (fun hS0 => ?_)
        refine wpAnyH_take (i := 0) (v := (.pointer (some ⟨w.heap.size, 1, none⟩))) rfl (by kernel_rfl) (by kernel_rfl) (by kernel_rfl) (fun _ _ _ h => h) (Or.inl ⟨rfl, fun w' hS => by (unfold execOp; go_simp)⟩) hS0 ?_
        simp only [Act.put, List.getElem_toArray, List.getElem_cons_zero, List.getElem_cons_succ, List.setIfInBounds_toArray, List.set_cons_zero, List.set_cons_succ]
        refine wpAnyH_take (i := 1) (v := (.slice (some ⟨g, o, none⟩) im.length c7)) rfl (by kernel_rfl) (by kernel_rfl) (by kernel_rfl) (fun _ _ _ h => h) (Or.inl ⟨rfl, fun w' hS => by (have z1 := (hS.cell (p := ⟨w.heap.size, 1, none⟩) xl).trans xa1; have zl := Nat.lt_of_lt_of_le xl hS.size; unfold execOp; go_simp)⟩) hS0 ?_
        simp only [Act.put, List.getElem_toArray, List.getElem_cons_zero, List.getElem_cons_succ, List.setIfInBounds_toArray, List.set_cons_zero, List.set_cons_succ]
        refine wpAnyH_take (i := 2) (v := .int .i64 j) rfl (by kernel_rfl) (by kernel_rfl) (by kernel_rfl) (fun _ _ _ h => h) (Or.inl ⟨rfl, fun w' hS => by (unfold execOp; go_simp)⟩) hS0 ?_
        simp only [Act.put, List.getElem_toArray, List.getElem_cons_zero, List.getElem_cons_succ, List.setIfInBounds_toArray, List.set_cons_zero, List.set_cons_succ]
        refine wpAnyH_take (i := 3) (v := (.pointer (some ⟨g, o + j * 2, none⟩))) rfl (by kernel_rfl) (by kernel_rfl) (by kernel_rfl) (fun _ _ _ h => h) (Or.inl ⟨rfl, fun w' hS => by (unfold execOp; go_simp)⟩) hS0 ?_
        simp only [Act.put, List.getElem_toArray, List.getElem_cons_zero, List.getElem_cons_succ, List.setIfInBounds_toArray, List.set_cons_zero, List.set_cons_succ]
        refine wpAnyH_take (i := 4) (v := (.agg #[.string nm, .int .i64 hh])) rfl (by kernel_rfl) (by kernel_rfl) (by kernel_rfl) (fun _ _ _ h => h) (Or.inl ⟨rfl, fun w' hS => by (have z0 := (hS.cell (p := ⟨g, _, none⟩) hgl).trans q0; have z1 := (hS.cell (p := ⟨g, _, none⟩) hgl).trans q1; unfold execOp; go_simp)⟩) hS0 ?_
        simp only [Act.put, List.getElem_toArray, List.getElem_cons_zero, List.getElem_cons_succ, List.setIfInBounds_toArray, List.set_cons_zero, List.set_cons_succ]
        refine wpAnyH_take (i := 5) (v := (.pointer (some ⟨w.heap.size + 1, 1, none⟩))) rfl (by kernel_rfl) (by kernel_rfl) (by kernel_rfl) (fun _ _ _ h => h) (Or.inl ⟨rfl, fun w' hS => by (unfold execOp; go_simp)⟩) hS0 ?_
        simp only [Act.put, List.getElem_toArray, List.getElem_cons_zero, List.getElem_cons_succ, List.setIfInBounds_toArray, List.set_cons_zero, List.set_cons_succ]
        refine wpAnyH_take (i := 6) (v := ((.slice (some ⟨g', o', none⟩) im.length d7))) rfl (by kernel_rfl) (by kernel_rfl) (by kernel_rfl) (fun _ _ _ h => h) (Or.inl ⟨rfl, fun w' hS => by (have z1 := (hS.cell (p := ⟨w.heap.size + 1, 1, none⟩) yl).trans ya1; have zl := Nat.lt_of_lt_of_le yl hS.size; unfold execOp; go_simp)⟩) hS0 ?_
        simp only [Act.put, List.getElem_toArray, List.getElem_cons_zero, List.getElem_cons_succ, List.setIfInBounds_toArray, List.set_cons_zero, List.set_cons_succ]
        refine wpAnyH_take (i := 7) (v := .int .i64 j) rfl (by kernel_rfl) (by kernel_rfl) (by kernel_rfl) (fun _ _ _ h => h) (Or.inl ⟨rfl, fun w' hS => by (unfold execOp; go_simp)⟩) hS0 ?_
        simp only [Act.put, List.getElem_toArray, List.getElem_cons_zero, List.getElem_cons_succ, List.setIfInBounds_toArray, List.set_cons_zero, List.set_cons_succ]
        refine wpAnyH_take (i := 8) (v := (.pointer (some ⟨g', o' + j * 2, none⟩))) rfl (by kernel_rfl) (by kernel_rfl) (by kernel_rfl) (fun _ _ _ h => h) (Or.inl ⟨rfl, fun w' hS => by (unfold execOp; go_simp)⟩) hS0 ?_
        simp only [Act.put, List.getElem_toArray, List.getElem_cons_zero, List.getElem_cons_succ, List.setIfInBounds_toArray, List.set_cons_zero, List.set_cons_succ]
        refine wpAnyH_take (i := 9) (v := (.agg #[.string nm2, .int .i64 hh2])) rfl (by kernel_rfl) (by kernel_rfl) (by kernel_rfl) (fun _ _ _ h => h) (Or.inl ⟨rfl, fun w' hS => by (have z0 := (hS.cell (p := ⟨g', _, none⟩) hgl').trans r0; have z1 := (hS.cell (p := ⟨g', _, none⟩) hgl').trans r1; unfold execOp; go_simp)⟩) hS0 ?_
        simp only [Act.put, List.getElem_toArray, List.getElem_cons_zero, List.getElem_cons_succ, List.setIfInBounds_toArray, List.set_cons_zero, List.set_cons_succ]
        refine wpAnyH_take (i := 10) (v := .bool true) rfl (by kernel_rfl) (by kernel_rfl) (by kernel_rfl) (fun _ _ _ h => h) (Or.inl ⟨rfl, fun w' hS => by (have e1 := HN.out.1; have e2 := HN.out.2; unfold execOp; go_simp)⟩) hS0 ?_
        simp only [Act.put, List.getElem_toArray, List.getElem_cons_zero, List.getElem_cons_succ, List.setIfInBounds_toArray, List.set_cons_zero, List.set_cons_succ]
        refine wpAnyH_done (by kernel_rfl) ?_ _
        have HX := Lib.hid (HBW.out.trans (hS0.mono HBW.out.size))
        clear hS0
        go_wp2
        go_ret
        exact ⟨rfl, HB2.out.trans (HX.out.mono HB2.out.size)⟩
      subst h0
      by_cases h1 : hh = hh2
      case neg =>
        have hbf : b = false := HNE.out (fun e => by injection e with e0 e1; exact h1 e1)
        subst hbf
        have HN := Lib.hid (show ((hh == hh2) = false) ∧ ((hh != hh2) = true) from ⟨by simpa using h1, by simpa using h1⟩)
        clear h1 HNE HTE
        go_wp2
        refine wp_region_held_drew (S := fun V => Below wr.heap.size wr V) (by kernel_rfl) (Below.refl _ wr).drew (fun hS0 => ?_)
        refine wpAnyH_take (i := 0) (v := (.pointer (some ⟨w.heap.size, 1, none⟩))) rfl (by kernel_rfl) (by kernel_rfl) (by kernel_rfl) (fun _ _ _ h => h) (Or.inl ⟨rfl, fun w' hS => by (unfold execOp; go_simp)⟩) hS0 ?_
        simp only [Act.put, List.getElem_toArray, List.getElem_cons_zero, List.getElem_cons_succ, List.setIfInBounds_toArray, List.set_cons_zero, List.set_cons_succ]
        refine wpAnyH_take (i := 1) (v := (.slice (some ⟨g, o, none⟩) im.length c7)) rfl (by kernel_rfl) (by kernel_rfl) (by kernel_rfl) (fun _ _ _ h => h) (Or.inl ⟨rfl, fun w' hS => by (have z1 := (hS.cell (p := ⟨w.heap.size, 1, none⟩) xl).trans xa1; have zl := Nat.lt_of_lt_of_le xl hS.size; unfold execOp; go_simp)⟩) hS0 ?_
        simp only [Act.put, List.getElem_toArray, List.getElem_cons_zero, List.getElem_cons_succ, List.setIfInBounds_toArray, List.set_cons_zero, List.set_cons_succ]
        refine wpAnyH_take (i := 2) (v := .int .i64 j) rfl (by kernel_rfl) (by kernel_rfl) (by kernel_rfl) (fun _ _ _ h => h) (Or.inl ⟨rfl, fun w' hS => by (unfold execOp; go_simp)⟩) hS0 ?_
        simp only [Act.put, List.getElem_toArray, List.getElem_cons_zero, List.getElem_cons_succ, List.setIfInBounds_toArray, List.set_cons_zero, List.set_cons_succ]
        refine wpAnyH_take (i := 3) (v := (.pointer (some ⟨g, o + j * 2, none⟩))) rfl (by kernel_rfl) (by kernel_rfl) (by kernel_rfl) (fun _ _ _ h => h) (Or.inl ⟨rfl, fun w' hS => by (unfold execOp; go_simp)⟩) hS0 ?_
        simp only [Act.put, List.getElem_toArray, List.getElem_cons_zero, List.getElem_cons_succ, List.setIfInBounds_toArray, List.set_cons_zero, List.set_cons_succ]
        refine wpAnyH_take (i := 4) (v := (.agg #[.string nm, .int .i64 hh])) rfl (by kernel_rfl) (by kernel_rfl) (by kernel_rfl) (fun _ _ _ h => h) (Or.inl ⟨rfl, fun w' hS => by (have z0 := (hS.cell (p := ⟨g, _, none⟩) hgl).trans q0; have z1 := (hS.cell (p := ⟨g, _, none⟩) hgl).trans q1; unfold execOp; go_simp)⟩) hS0 ?_
        simp only [Act.put, List.getElem_toArray, List.getElem_cons_zero, List.getElem_cons_succ, List.setIfInBounds_toArray, List.set_cons_zero, List.set_cons_succ]
        refine wpAnyH_take (i := 5) (v := (.pointer (some ⟨w.heap.size + 1, 1, none⟩))) rfl (by kernel_rfl) (by kernel_rfl) (by kernel_rfl) (fun _ _ _ h => h) (Or.inl ⟨rfl, fun w' hS => by (unfold execOp; go_simp)⟩) hS0 ?_
        simp only [Act.put, List.getElem_toArray, List.getElem_cons_zero, List.getElem_cons_succ, List.setIfInBounds_toArray, List.set_cons_zero, List.set_cons_succ]
        refine wpAnyH_take (i := 6) (v := ((.slice (some ⟨g', o', none⟩) im.length d7))) rfl (by kernel_rfl) (by kernel_rfl) (by kernel_rfl) (fun _ _ _ h => h) (Or.inl ⟨rfl, fun w' hS => by (have z1 := (hS.cell (p := ⟨w.heap.size + 1, 1, none⟩) yl).trans ya1; have zl := Nat.lt_of_lt_of_le yl hS.size; unfold execOp; go_simp)⟩) hS0 ?_
        simp only [Act.put, List.getElem_toArray, List.getElem_cons_zero, List.getElem_cons_succ, List.setIfInBounds_toArray, List.set_cons_zero, List.set_cons_succ]
        refine wpAnyH_take (i := 7) (v := .int .i64 j) rfl (by kernel_rfl) (by kernel_rfl) (by kernel_rfl) (fun _ _ _ h => h) (Or.inl ⟨rfl, fun w' hS => by (unfold execOp; go_simp)⟩) hS0 ?_
        simp only [Act.put, List.getElem_toArray, List.getElem_cons_zero, List.getElem_cons_succ, List.setIfInBounds_toArray, List.set_cons_zero, List.set_cons_succ]
        refine wpAnyH_take (i := 8) (v := (.pointer (some ⟨g', o' + j * 2, none⟩))) rfl (by kernel_rfl) (by kernel_rfl) (by kernel_rfl) (fun _ _ _ h => h) (Or.inl ⟨rfl, fun w' hS => by (unfold execOp; go_simp)⟩) hS0 ?_
        simp only [Act.put, List.getElem_toArray, List.getElem_cons_zero, List.getElem_cons_succ, List.setIfInBounds_toArray, List.set_cons_zero, List.set_cons_succ]
        refine wpAnyH_take (i := 9) (v := (.agg #[.string nm, .int .i64 hh2])) rfl (by kernel_rfl) (by kernel_rfl) (by kernel_rfl) (fun _ _ _ h => h) (Or.inl ⟨rfl, fun w' hS => by (have z0 := (hS.cell (p := ⟨g', _, none⟩) hgl').trans r0; have z1 := (hS.cell (p := ⟨g', _, none⟩) hgl').trans r1; unfold execOp; go_simp)⟩) hS0 ?_
        simp only [Act.put, List.getElem_toArray, List.getElem_cons_zero, List.getElem_cons_succ, List.setIfInBounds_toArray, List.set_cons_zero, List.set_cons_succ]
        refine wpAnyH_take (i := 10) (v := .bool true) rfl (by kernel_rfl) (by kernel_rfl) (by kernel_rfl) (fun _ _ _ h => h) (Or.inl ⟨rfl, fun w' hS => by (have e1 := HN.out.1; have e2 := HN.out.2; unfold execOp; go_simp)⟩) hS0 ?_
        simp only [Act.put, List.getElem_toArray, List.getElem_cons_zero, List.getElem_cons_succ, List.setIfInBounds_toArray, List.set_cons_zero, List.set_cons_succ]
        refine wpAnyH_done (by kernel_rfl) ?_ _
        have HX := Lib.hid (HBW.out.trans (hS0.mono HBW.out.size))
        clear hS0
        go_wp2
        go_ret
        exact ⟨rfl, HB2.out.trans (HX.out.mono HB2.out.size)⟩
      subst h1
      go_wp2
      refine wp_region_held_drew (S := fun V => Below wr.heap.size wr V) (by kernel_rfl) (Below.refl _ wr).drew (fun hS0 => ?_)
      refine wpAnyH_take (i := 0) (v := (.pointer (some ⟨w.heap.size, 1, none⟩))) rfl (by kernel_rfl) (by kernel_rfl) (by kernel_rfl) (fun _ _ _ h => h) (Or.inl ⟨rfl, fun w' hS => by (unfold execOp; go_simp)⟩) hS0 ?_
      simp only [Act.put, List.getElem_toArray, List.getElem_cons_zero, List.getElem_cons_succ, List.setIfInBounds_toArray, List.set_cons_zero, List.set_cons_succ]
      refine wpAnyH_take (i := 1) (v := (.slice (some ⟨g, o, none⟩) im.length c7)) rfl (by kernel_rfl) (by kernel_rfl) (by kernel_rfl) (fun _ _ _ h => h) (Or.inl ⟨rfl, fun w' hS => by (have z1 := (hS.cell (p := ⟨w.heap.size, 1, none⟩) xl).trans xa1; have zl := Nat.lt_of_lt_of_le xl hS.size; unfold execOp; go_simp)⟩) hS0 ?_
      simp only [Act.put, List.getElem_toArray, List.getElem_cons_zero, List.getElem_cons_succ, List.setIfInBounds_toArray, List.set_cons_zero, List.set_cons_succ]
      refine wpAnyH_take (i := 2) (v := .int .i64 j) rfl (by kernel_rfl) (by kernel_rfl) (by kernel_rfl) (fun _ _ _ h => h) (Or.inl ⟨rfl, fun w' hS => by (unfold execOp; go_simp)⟩) hS0 ?_
      simp only [Act.put, List.getElem_toArray, List.getElem_cons_zero, List.getElem_cons_succ, List.setIfInBounds_toArray, List.set_cons_zero, List.set_cons_succ]
      refine wpAnyH_take (i := 3) (v := (.pointer (some ⟨g, o + j * 2, none⟩))) rfl (by kernel_rfl) (by kernel_rfl) (by kernel_rfl) (fun _ _ _ h => h) (Or.inl ⟨rfl, fun w' hS => by (unfold execOp; go_simp)⟩) hS0 ?_
      simp only [Act.put, List.getElem_toArray, List.getElem_cons_zero, List.getElem_cons_succ, List.setIfInBounds_toArray, List.set_cons_zero, List.set_cons_succ]
      refine wpAnyH_take (i := 4) (v := (.agg #[.string nm, .int .i64 hh])) rfl (by kernel_rfl) (by kernel_rfl) (by kernel_rfl) (fun _ _ _ h => h) (Or.inl ⟨rfl, fun w' hS => by (have z0 := (hS.cell (p := ⟨g, _, none⟩) hgl).trans q0; have z1 := (hS.cell (p := ⟨g, _, none⟩) hgl).trans q1; unfold execOp; go_simp)⟩) hS0 ?_
      simp only [Act.put, List.getElem_toArray, List.getElem_cons_zero, List.getElem_cons_succ, List.setIfInBounds_toArray, List.set_cons_zero, List.set_cons_succ]
      refine wpAnyH_take (i := 5) (v := (.pointer (some ⟨w.heap.size + 1, 1, none⟩))) rfl (by kernel_rfl) (by kernel_rfl) (by kernel_rfl) (fun _ _ _ h => h) (Or.inl ⟨rfl, fun w' hS => by (unfold execOp; go_simp)⟩) hS0 ?_
      simp only [Act.put, List.getElem_toArray, List.getElem_cons_zero, List.getElem_cons_succ, List.setIfInBounds_toArray, List.set_cons_zero, List.set_cons_succ]
      refine wpAnyH_take (i := 6) (v := ((.slice (some ⟨g', o', none⟩) im.length d7))) rfl (by kernel_rfl) (by kernel_rfl) (by kernel_rfl) (fun _ _ _ h => h) (Or.inl ⟨rfl, fun w' hS => by (have z1 := (hS.cell (p := ⟨w.heap.size + 1, 1, none⟩) yl).trans ya1; have zl := Nat.lt_of_lt_of_le yl hS.size; unfold execOp; go_simp)⟩) hS0 ?_
      simp only [Act.put, List.getElem_toArray, List.getElem_cons_zero, List.getElem_cons_succ, List.setIfInBounds_toArray, List.set_cons_zero, List.set_cons_succ]
      refine wpAnyH_take (i := 7) (v := .int .i64 j) rfl (by kernel_rfl) (by kernel_rfl) (by kernel_rfl) (fun _ _ _ h => h) (Or.inl ⟨rfl, fun w' hS => by (unfold execOp; go_simp)⟩) hS0 ?_
      simp only [Act.put, List.getElem_toArray, List.getElem_cons_zero, List.getElem_cons_succ, List.setIfInBounds_toArray, List.set_cons_zero, List.set_cons_succ]
      refine wpAnyH_take (i := 8) (v := (.pointer (some ⟨g', o' + j * 2, none⟩))) rfl (by kernel_rfl) (by kernel_rfl) (by kernel_rfl) (fun _ _ _ h => h) (Or.inl ⟨rfl, fun w' hS => by (unfold execOp; go_simp)⟩) hS0 ?_
      simp only [Act.put, List.getElem_toArray, List.getElem_cons_zero, List.getElem_cons_succ, List.setIfInBounds_toArray, List.set_cons_zero, List.set_cons_succ]
      refine wpAnyH_take (i := 9) (v := (.agg #[.string nm, .int .i64 hh])) rfl (by kernel_rfl) (by kernel_rfl) (by kernel_rfl) (fun _ _ _ h => h) (Or.inl ⟨rfl, fun w' hS => by (have z0 := (hS.cell (p := ⟨g', _, none⟩) hgl').trans r0; have z1 := (hS.cell (p := ⟨g', _, none⟩) hgl').trans r1; unfold execOp; go_simp)⟩) hS0 ?_
      simp only [Act.put, List.getElem_toArray, List.getElem_cons_zero, List.getElem_cons_succ, List.setIfInBounds_toArray, List.set_cons_zero, List.set_cons_succ]
      refine wpAnyH_take (i := 10) (v := .bool false) rfl (by kernel_rfl) (by kernel_rfl) (by kernel_rfl) (fun _ _ _ h => h) (Or.inl ⟨rfl, fun w' hS => by (unfold execOp; go_simp)⟩) hS0 ?_
      simp only [Act.put, List.getElem_toArray, List.getElem_cons_zero, List.getElem_cons_succ, List.setIfInBounds_toArray, List.set_cons_zero, List.set_cons_succ]
      refine wpAnyH_done (by kernel_rfl) ?_ _
      have HX := Lib.hid (HBW.out.trans (hS0.mono HBW.out.size))
      clear hS0
      go_wp2
      go_roundg f
      case measure => omega
      case rel => exact ⟨j + 1, by omega, by go_num, HX.out, (by first | exact HTE.out rfl | exact HTE.out trivial)⟩
    | zero =>
      obtain rfl : j = im.length := by omega
      have HIM := Lib.hid (show im = im2 by
        have h := HTK.out
        rw [List.take_length, List.take_of_length_le (by rw [← HL1.out]; exact Nat.le_refl _)] at h
        exact h)
      clear hj hbw HTK hx hy
      go_wp2
      go_loopg [6] dc.length (fun gk v6 wr => ∃ j : Nat, j + gk = dc.length ∧ v6 = .int .i64 j ∧ Below ((w.alloc (.cells #[.string s, .slice A7 im.length c7, .slice A8 dc.length c8, .slice A9 fn.length c9] 26)).alloc (.cells #[.string s, .slice B7 im.length d7, .slice B8 dc.length d8, .slice B9 fn2.length d9] 26)).heap.size ((w.alloc (.cells #[.string s, .slice A7 im.length c7, .slice A8 dc.length c8, .slice A9 fn.length c9] 26)).alloc (.cells #[.string s, .slice B7 im.length d7, .slice B8 dc.length d8, .slice B9 fn2.length d9] 26)) wr ∧ dc.take j = dc2.take j)
      case atStart => exact ⟨0, by simp, rfl, HBW.out, by simp⟩
      case round =>
        obtain ⟨j, hj, rfl, hbw, htk⟩ := hrel
        have HTK := Lib.hid htk
        have HBW2 := Lib.hid hbw
        have hx := HXX.out.bel2 hbw
        have hy := HYY.out.bel2 hbw
        have xa2 := hx.cell 2
        have ya2 := hy.cell 2
        have xl := hx.lt
        have yl := hy.lt
        clear htk
        cases gk with
        | zero =>
          obtain rfl : j = dc.length := by omega
          have hbt : b = true := HBB.out.2 ⟨by first | exact rfl | exact trivial, HIM.out, by
            have h := HTK.out
            rw [List.take_length, List.take_of_length_le (by rw [← HL2.out]; exact Nat.le_refl _)] at h
            exact h⟩
          subst hbt
          clear hj hbw hx hy
          go_wp2
          go_ret
          exact ⟨rfl, HB2.out.trans (HBW2.out.mono HB2.out.size)⟩
        | succ f =>
          have hjl : j < dc.length := by omega
          obtain ⟨u, hu⟩ : ∃ u, dc[j]? = some u := ⟨_, List.getElem?_eq_getElem hjl⟩
          obtain ⟨v, hv⟩ : ∃ v, dc2[j]? = some v := ⟨_, List.getElem?_eq_getElem (by rw [← HL2.out]; exact hjl)⟩
          have j1 : (j : Int) < (dc.length : Int) := by omega
          have j0 : (0 : Int) ≤ (j : Int) := by omega
          have j2 : (j : Int) ≤ 140737488355328 := by omega
          have hbw2 := HB2.out.trans (hbw.mono HB2.out.size)
          obtain ⟨g, o, vs, rfl, _, hgl, hrep, hat⟩ := (H8.out.bel RDl_keeps hbw2).at_ RDl_sized hu
          obtain ⟨g', o', us, rfl, _, hgl', hrep', hat'⟩ := (K8.out.bel RDl_keeps hbw2).at_ RDl_sized hv
          have HNE := Lib.hid (fun h : u ≠ v => iff_f HBB.out (fun e => ne_at hu hv h e.2.2))
          have HTE := Lib.hid (fun e : u = v => take_eq hu hv e HTK.out)
          have HI := Lib.hid (fun (b' : Bool) (hb' : b' = true ↔ u = v) w' (h : Below wr.heap.size wr w') => samD_any u v (HU.out u (List.mem_of_getElem? hu)) (HV.out v (List.mem_of_getElem? hv)) w' _ _ vs us (RDl_keeps.bel hrep h) (RDl_keeps.bel hrep' h) b' hb')
          obtain ⟨a0, a1, a2, a3, a4, a5, a6, a7, a8, a9, rfl⟩ := ten_of (RDl_sized _ _ _ _ hrep)
          obtain ⟨e0, e1, e2, e3, e4, e5, e6, e7, e8, e9, rfl⟩ := ten_of (RDl_sized _ _ _ _ hrep')
          have q0 := hat 0 _ rfl
          have r0 := hat' 0 _ rfl
          have q1 := hat 1 _ rfl
          have r1 := hat' 1 _ rfl
          have q2 := hat 2 _ rfl
          have r2 := hat' 2 _ rfl
          have q3 := hat 3 _ rfl
          have r3 := hat' 3 _ rfl
          have q4 := hat 4 _ rfl
          have r4 := hat' 4 _ rfl
          have q5 := hat 5 _ rfl
          have r5 := hat' 5 _ rfl
          have q6 := hat 6 _ rfl
          have r6 := hat' 6 _ rfl
          have q7 := hat 7 _ rfl
          have r7 := hat' 7 _ rfl
          have q8 := hat 8 _ rfl
          have r8 := hat' 8 _ rfl
          have q9 := hat 9 _ rfl
          have r9 := hat' 9 _ rfl
          simp only [Nat.add_zero] at q0 r0
          clear hat hat' hu hv hbw hbw2 hrep hrep' hx hy
          by_cases h0 : u = v
          case neg =>
            have hbf : b = false := HNE.out h0
            subst hbf
            replace HI := Lib.hid (HI.out false (by simp [h0]))
            clear h0 HNE HTE
            go_wp2
            refine wp_region_held_drew (S := fun V => Below wr.heap.size wr V) (by kernel_rfl) (Below.refl _ wr).drew (fun hS0 => ?_)
            refine wpAnyH_take (i := 0) (v := (.pointer (some ⟨w.heap.size, 2, none⟩))) rfl (by kernel_rfl) (by kernel_rfl) (by kernel_rfl) (fun _ _ _ h => h) (Or.inl ⟨rfl, fun w' hS => by (unfold execOp; go_simp)⟩) hS0 ?_
            simp only [Act.put, List.getElem_toArray, List.getElem_cons_zero, List.getElem_cons_succ, List.setIfInBounds_toArray, List.set_cons_zero, List.set_cons_succ]
            refine wpAnyH_take (i := 1) (v := (.slice (some ⟨g, o, none⟩) dc.length c8)) rfl (by kernel_rfl) (by kernel_rfl) (by kernel_rfl) (fun _ _ _ h => h) (Or.inl ⟨rfl, fun w' hS => by (have z2 := (hS.cell (p := ⟨w.heap.size, 2, none⟩) xl).trans xa2; have zl := Nat.lt_of_lt_of_le xl hS.size; unfold execOp; go_simp)⟩) hS0 ?_
            simp only [Act.put, List.getElem_toArray, List.getElem_cons_zero, List.getElem_cons_succ, List.setIfInBounds_toArray, List.set_cons_zero, List.set_cons_succ]
            refine wpAnyH_take (i := 2) (v := .int .i64 j) rfl (by kernel_rfl) (by kernel_rfl) (by kernel_rfl) (fun _ _ _ h => h) (Or.inl ⟨rfl, fun w' hS => by (unfold execOp; go_simp)⟩) hS0 ?_
            simp only [Act.put, List.getElem_toArray, List.getElem_cons_zero, List.getElem_cons_succ, List.setIfInBounds_toArray, List.set_cons_zero, List.set_cons_succ]
            refine wpAnyH_take (i := 3) (v := (.pointer (some ⟨g, o + j * 10, none⟩))) rfl (by kernel_rfl) (by kernel_rfl) (by kernel_rfl) (fun _ _ _ h => h) (Or.inl ⟨rfl, fun w' hS => by (unfold execOp; go_simp)⟩) hS0 ?_
            simp only [Act.put, List.getElem_toArray, List.getElem_cons_zero, List.getElem_cons_succ, List.setIfInBounds_toArray, List.set_cons_zero, List.set_cons_succ]
            refine wpAnyH_take (i := 4) (v := (.agg #[a0, a1, a2, a3, a4, a5, a6, a7, a8, a9])) rfl (by kernel_rfl) (by kernel_rfl) (by kernel_rfl) (fun _ _ _ h => h) (Or.inl ⟨rfl, fun w' hS => by (have z0 := (hS.cell (p := ⟨g, _, none⟩) hgl).trans q0; have z1 := (hS.cell (p := ⟨g, _, none⟩) hgl).trans q1; have z2 := (hS.cell (p := ⟨g, _, none⟩) hgl).trans q2; have z3 := (hS.cell (p := ⟨g, _, none⟩) hgl).trans q3; have z4 := (hS.cell (p := ⟨g, _, none⟩) hgl).trans q4; have z5 := (hS.cell (p := ⟨g, _, none⟩) hgl).trans q5; have z6 := (hS.cell (p := ⟨g, _, none⟩) hgl).trans q6; have z7 := (hS.cell (p := ⟨g, _, none⟩) hgl).trans q7; have z8 := (hS.cell (p := ⟨g, _, none⟩) hgl).trans q8; have z9 := (hS.cell (p := ⟨g, _, none⟩) hgl).trans q9; unfold execOp; go_simp)⟩) hS0 ?_
            simp only [Act.put, List.getElem_toArray, List.getElem_cons_zero, List.getElem_cons_succ, List.setIfInBounds_toArray, List.set_cons_zero, List.set_cons_succ]
            refine wpAnyH_take (i := 5) (v := (.pointer (some ⟨w.heap.size + 1, 2, none⟩))) rfl (by kernel_rfl) (by kernel_rfl) (by kernel_rfl) (fun _ _ _ h => h) (Or.inl ⟨rfl, fun w' hS => by (unfold execOp; go_simp)⟩) hS0 ?_
            simp only [Act.put, List.getElem_toArray, List.getElem_cons_zero, List.getElem_cons_succ, List.setIfInBounds_toArray, List.set_cons_zero, List.set_cons_succ]
            refine wpAnyH_take (i := 6) (v := ((.slice (some ⟨g', o', none⟩) dc.length d8))) rfl (by kernel_rfl) (by kernel_rfl) (by kernel_rfl) (fun _ _ _ h => h) (Or.inl ⟨rfl, fun w' hS => by (have z2 := (hS.cell (p := ⟨w.heap.size + 1, 2, none⟩) yl).trans ya2; have zl := Nat.lt_of_lt_of_le yl hS.size; unfold execOp; go_simp)⟩) hS0 ?_
            simp only [Act.put, List.getElem_toArray, List.getElem_cons_zero, List.getElem_cons_succ, List.setIfInBounds_toArray, List.set_cons_zero, List.set_cons_succ]
            refine wpAnyH_take (i := 7) (v := .int .i64 j) rfl (by kernel_rfl) (by kernel_rfl) (by kernel_rfl) (fun _ _ _ h => h) (Or.inl ⟨rfl, fun w' hS => by (unfold execOp; go_simp)⟩) hS0 ?_
            simp only [Act.put, List.getElem_toArray, List.getElem_cons_zero, List.getElem_cons_succ, List.setIfInBounds_toArray, List.set_cons_zero, List.set_cons_succ]
            refine wpAnyH_take (i := 8) (v := (.pointer (some ⟨g', o' + j * 10, none⟩))) rfl (by kernel_rfl) (by kernel_rfl) (by kernel_rfl) (fun _ _ _ h => h) (Or.inl ⟨rfl, fun w' hS => by (unfold execOp; go_simp)⟩) hS0 ?_
            simp only [Act.put, List.getElem_toArray, List.getElem_cons_zero, List.getElem_cons_succ, List.setIfInBounds_toArray, List.set_cons_zero, List.set_cons_succ]
            refine wpAnyH_take (i := 9) (v := (.agg #[e0, e1, e2, e3, e4, e5, e6, e7, e8, e9])) rfl (by kernel_rfl) (by kernel_rfl) (by kernel_rfl) (fun _ _ _ h => h) (Or.inl ⟨rfl, fun w' hS => by (have z0 := (hS.cell (p := ⟨g', _, none⟩) hgl').trans r0; have z1 := (hS.cell (p := ⟨g', _, none⟩) hgl').trans r1; have z2 := (hS.cell (p := ⟨g', _, none⟩) hgl').trans r2; have z3 := (hS.cell (p := ⟨g', _, none⟩) hgl').trans r3; have z4 := (hS.cell (p := ⟨g', _, none⟩) hgl').trans r4; have z5 := (hS.cell (p := ⟨g', _, none⟩) hgl').trans r5; have z6 := (hS.cell (p := ⟨g', _, none⟩) hgl').trans r6; have z7 := (hS.cell (p := ⟨g', _, none⟩) hgl').trans r7; have z8 := (hS.cell (p := ⟨g', _, none⟩) hgl').trans r8; have z9 := (hS.cell (p := ⟨g', _, none⟩) hgl').trans r9; unfold execOp; go_simp)⟩) hS0 ?_
            simp only [Act.put, List.getElem_toArray, List.getElem_cons_zero, List.getElem_cons_succ, List.setIfInBounds_toArray, List.set_cons_zero, List.set_cons_succ]
            refine wpAnyH_one (i := 10) (by kernel_rfl) rfl rfl (op_call (args := #[.agg #[a0, a1, a2, a3, a4, a5, a6, a7, a8, a9], .agg #[e0, e1, e2, e3, e4, e5, e6, e7, e8, e9]]) (f := 64) (by unfold execOp; go_simp) ((HI.out _ hS0).mono ?_))
            rintro e w20 ⟨rfl, hb20⟩
            have hS1 := hS0.trans (hb20.mono hS0.size)
            refine And.intro hS1 ?_
            simp only [Act.put, List.getElem_toArray, List.getElem_cons_zero, List.getElem_cons_succ, List.setIfInBounds_toArray, List.set_cons_zero, List.set_cons_succ]
            refine wpAnyH_take (i := 11) (v := .bool true) rfl (by kernel_rfl) (by kernel_rfl) (by kernel_rfl) (fun _ _ _ h => h) (Or.inl ⟨rfl, fun w' hS => by (unfold execOp; go_simp)⟩) hS1 ?_
            simp only [Act.put, List.getElem_toArray, List.getElem_cons_zero, List.getElem_cons_succ, List.setIfInBounds_toArray, List.set_cons_zero, List.set_cons_succ]
            refine wpAnyH_done (by kernel_rfl) ?_ _
            have HX := Lib.hid (HBW2.out.trans (hS1.mono HBW2.out.size))
            clear hS0 hS1 hb20
            go_wp2
            go_ret
            exact ⟨rfl, HB2.out.trans (HX.out.mono HB2.out.size)⟩
          replace HI := Lib.hid (HI.out true (by simp [h0]))
          have HTE := Lib.hid (HTE.out h0)
          clear h0
          go_wp2
          refine wp_region_held_drew (S := fun V => Below wr.heap.size wr V) (by kernel_rfl) (Below.refl _ wr).drew (fun hS0 => ?_)
          refine wpAnyH_take (i := 0) (v := (.pointer (some ⟨w.heap.size, 2, none⟩))) rfl (by kernel_rfl) (by kernel_rfl) (by kernel_rfl) (fun _ _ _ h => h) (Or.inl ⟨rfl, fun w' hS => by (unfold execOp; go_simp)⟩) hS0 ?_
          simp only [Act.put, List.getElem_toArray, List.getElem_cons_zero, List.getElem_cons_succ, List.setIfInBounds_toArray, List.set_cons_zero, List.set_cons_succ]
          refine wpAnyH_take (i := 1) (v := (.slice (some ⟨g, o, none⟩) dc.length c8)) rfl (by kernel_rfl) (by kernel_rfl) (by kernel_rfl) (fun _ _ _ h => h) (Or.inl ⟨rfl, fun w' hS => by (have z2 := (hS.cell (p := ⟨w.heap.size, 2, none⟩) xl).trans xa2; have zl := Nat.lt_of_lt_of_le xl hS.size; unfold execOp; go_simp)⟩) hS0 ?_
          simp only [Act.put, List.getElem_toArray, List.getElem_cons_zero, List.getElem_cons_succ, List.setIfInBounds_toArray, List.set_cons_zero, List.set_cons_succ]
          refine wpAnyH_take (i := 2) (v := .int .i64 j) rfl (by kernel_rfl) (by kernel_rfl) (by kernel_rfl) (fun _ _ _ h => h) (Or.inl ⟨rfl, fun w' hS => by (unfold execOp; go_simp)⟩) hS0 ?_
          simp only [Act.put, List.getElem_toArray, List.getElem_cons_zero, List.getElem_cons_succ, List.setIfInBounds_toArray, List.set_cons_zero, List.set_cons_succ]
          refine wpAnyH_take (i := 3) (v := (.pointer (some ⟨g, o + j * 10, none⟩))) rfl (by kernel_rfl) (by kernel_rfl) (by kernel_rfl) (fun _ _ _ h => h) (Or.inl ⟨rfl, fun w' hS => by (unfold execOp; go_simp)⟩) hS0 ?_
          simp only [Act.put, List.getElem_toArray, List.getElem_cons_zero, List.getElem_cons_succ, List.setIfInBounds_toArray, List.set_cons_zero, List.set_cons_succ]
          refine wpAnyH_take (i := 4) (v := (.agg #[a0, a1, a2, a3, a4, a5, a6, a7, a8, a9])) rfl (by kernel_rfl) (by kernel_rfl) (by kernel_rfl) (fun _ _ _ h => h) (Or.inl ⟨rfl, fun w' hS => by (have z0 := (hS.cell (p := ⟨g, _, none⟩) hgl).trans q0; have z1 := (hS.cell (p := ⟨g, _, none⟩) hgl).trans q1; have z2 := (hS.cell (p := ⟨g, _, none⟩) hgl).trans q2; have z3 := (hS.cell (p := ⟨g, _, none⟩) hgl).trans q3; have z4 := (hS.cell (p := ⟨g, _, none⟩) hgl).trans q4; have z5 := (hS.cell (p := ⟨g, _, none⟩) hgl).trans q5; have z6 := (hS.cell (p := ⟨g, _, none⟩) hgl).trans q6; have z7 := (hS.cell (p := ⟨g, _, none⟩) hgl).trans q7; have z8 := (hS.cell (p := ⟨g, _, none⟩) hgl).trans q8; have z9 := (hS.cell (p := ⟨g, _, none⟩) hgl).trans q9; unfold execOp; go_simp)⟩) hS0 ?_
          simp only [Act.put, List.getElem_toArray, List.getElem_cons_zero, List.getElem_cons_succ, List.setIfInBounds_toArray, List.set_cons_zero, List.set_cons_succ]
          refine wpAnyH_take (i := 5) (v := (.pointer (some ⟨w.heap.size + 1, 2, none⟩))) rfl (by kernel_rfl) (by kernel_rfl) (by kernel_rfl) (fun _ _ _ h => h) (Or.inl ⟨rfl, fun w' hS => by (unfold execOp; go_simp)⟩) hS0 ?_
          simp only [Act.put, List.getElem_toArray, List.getElem_cons_zero, List.getElem_cons_succ, List.setIfInBounds_toArray, List.set_cons_zero, List.set_cons_succ]
          refine wpAnyH_take (i := 6) (v := ((.slice (some ⟨g', o', none⟩) dc.length d8))) rfl (by kernel_rfl) (by kernel_rfl) (by kernel_rfl) (fun _ _ _ h => h) (Or.inl ⟨rfl, fun w' hS => by (have z2 := (hS.cell (p := ⟨w.heap.size + 1, 2, none⟩) yl).trans ya2; have zl := Nat.lt_of_lt_of_le yl hS.size; unfold execOp; go_simp)⟩) hS0 ?_
          simp only [Act.put, List.getElem_toArray, List.getElem_cons_zero, List.getElem_cons_succ, List.setIfInBounds_toArray, List.set_cons_zero, List.set_cons_succ]
          refine wpAnyH_take (i := 7) (v := .int .i64 j) rfl (by kernel_rfl) (by kernel_rfl) (by kernel_rfl) (fun _ _ _ h => h) (Or.inl ⟨rfl, fun w' hS => by (unfold execOp; go_simp)⟩) hS0 ?_
          simp only [Act.put, List.getElem_toArray, List.getElem_cons_zero, List.getElem_cons_succ, List.setIfInBounds_toArray, List.set_cons_zero, List.set_cons_succ]
          refine wpAnyH_take (i := 8) (v := (.pointer (some ⟨g', o' + j * 10, none⟩))) rfl (by kernel_rfl) (by kernel_rfl) (by kernel_rfl) (fun _ _ _ h => h) (Or.inl ⟨rfl, fun w' hS => by (unfold execOp; go_simp)⟩) hS0 ?_
          simp only [Act.put, List.getElem_toArray, List.getElem_cons_zero, List.getElem_cons_succ, List.setIfInBounds_toArray, List.set_cons_zero, List.set_cons_succ]
          refine wpAnyH_take (i := 9) (v := (.agg #[e0, e1, e2, e3, e4, e5, e6, e7, e8, e9])) rfl (by kernel_rfl) (by kernel_rfl) (by kernel_rfl) (fun _ _ _ h => h) (Or.inl ⟨rfl, fun w' hS => by (have z0 := (hS.cell (p := ⟨g', _, none⟩) hgl').trans r0; have z1 := (hS.cell (p := ⟨g', _, none⟩) hgl').trans r1; have z2 := (hS.cell (p := ⟨g', _, none⟩) hgl').trans r2; have z3 := (hS.cell (p := ⟨g', _, none⟩) hgl').trans r3; have z4 := (hS.cell (p := ⟨g', _, none⟩) hgl').trans r4; have z5 := (hS.cell (p := ⟨g', _, none⟩) hgl').trans r5; have z6 := (hS.cell (p := ⟨g', _, none⟩) hgl').trans r6; have z7 := (hS.cell (p := ⟨g', _, none⟩) hgl').trans r7; have z8 := (hS.cell (p := ⟨g', _, none⟩) hgl').trans r8; have z9 := (hS.cell (p := ⟨g', _, none⟩) hgl').trans r9; unfold execOp; go_simp)⟩) hS0 ?_
          simp only [Act.put, List.getElem_toArray, List.getElem_cons_zero, List.getElem_cons_succ, List.setIfInBounds_toArray, List.set_cons_zero, List.set_cons_succ]
          refine wpAnyH_one (i := 10) (by kernel_rfl) rfl rfl (op_call (args := #[.agg #[a0, a1, a2, a3, a4, a5, a6, a7, a8, a9], .agg #[e0, e1, e2, e3, e4, e5, e6, e7, e8, e9]]) (f := 64) (by unfold execOp; go_simp) ((HI.out _ hS0).mono ?_))
          rintro e w20 ⟨rfl, hb20⟩
          have hS1 := hS0.trans (hb20.mono hS0.size)
          refine And.intro hS1 ?_
          simp only [Act.put, List.getElem_toArray, List.getElem_cons_zero, List.getElem_cons_succ, List.setIfInBounds_toArray, List.set_cons_zero, List.set_cons_succ]
          refine wpAnyH_take (i := 11) (v := .bool false) rfl (by kernel_rfl) (by kernel_rfl) (by kernel_rfl) (fun _ _ _ h => h) (Or.inl ⟨rfl, fun w' hS => by (unfold execOp; go_simp)⟩) hS1 ?_
          simp only [Act.put, List.getElem_toArray, List.getElem_cons_zero, List.getElem_cons_succ, List.setIfInBounds_toArray, List.set_cons_zero, List.set_cons_succ]
          refine wpAnyH_done (by kernel_rfl) ?_ _
          have HX := Lib.hid (HBW2.out.trans (hS1.mono HBW2.out.size))
          clear hS0 hS1 hb20
          go_wp2
          go_roundg f
          case measure => omega
          case rel => exact ⟨j + 1, by omega, by go_num, HX.out, HTE.out⟩
end Go.Proofs.Ytnkojjkijkhlbaa
