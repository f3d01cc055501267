/-
  KindsPuts: the walk.
-/
import Derived.Test.YtkgilhdoahkakaaTyZc
import Derived.Test.YtkgilhdoahkakaaTyX
namespace Go.Proofs.Ytkgilhdoahkakaa
open Go.RowKit
set_option linter.unusedVariables false
set_option linter.unusedSimpArgs false

theorem wpAnyH_oneG {P : Program} {ops : Array Oper} {Q : Exit → Act → World → Prop} {S : World → Prop} {n i : Nat} {L : Array Bool} {a : Act} {w : World} {o : Oper} (hr : Region.ready .any ops L = [i]) (ho : ops[i]? = some o) (hg : Region.wanted o (yielded ops a.tmps) = true)
    (h : o.wp P a w (fun a' w' => S w' ∧ wpAnyH P .any ops Q S n (L.setIfInBounds i true) a' w') Q) : wpAnyH P .any ops Q S (n + 1) L a w := by
  refine wpAnyH_all hr (by simp) fun j hj => ?_
  obtain rfl : j = i := by simpa using hj
  unfold wpOp
  simp only [ho, hg, if_true]
  exact .inl h
theorem true_of {w w' : World} {e : Ending} {b : Bool} (h : TruthP w b e w') (hb : b = true) : TruthP w true e w' := by rw [← hb]; exact h
set_option maxRecDepth 100000 in
set_option maxHeartbeats 4000000 in
theorem kputs_any (t : Ty) (nl : List ByteArray) (ts : List Ty) (hz : t.mx ≤ 140737488355328) (hzs : mxL ts ≤ 140737488355328) (htl : ts.length ≤ 140737488355328) (hnn : nl.length ≤ 140737488355328) (w : World) (F F' F'' : Nat → Prop) (vs : List Value) (C D : Option Addr) (cc f : Nat) (hr : RT w F t vs) (hs : SlS w F' C nl) (ht : SlT w F'' D ts) :
    Calls Try.prog 7 #[.agg vs.toArray, .slice C nl.length cc, .slice D ts.length f] w (TruthP w true) := by
  have HG2 := Lib.hid (fun w' (h : Below w.heap.size w w') => great_any ts (by omega) w' F'' D f (ht.bel h))
  have hgood : ¬ 400 < countL ts → ¬ 400 < countL [t] → nl.length ≤ 50 → (putT nl ts t).count ≤ 2000000 ∧ nl.length ≤ 100000 ∧ Small ts ∧ (∀ u ∈ ts, u.count ≤ 2000000) ∧ t.count ≤ 2000000 := by
    intro h1 h2 h3
    rw [countL_cons, countL_nil] at h2
    have := putT_count nl ts t
    have h4 : t.count * (countL ts + 1) ≤ 400 * 401 := Nat.mul_le_mul (by omega) (by omega)
    exact ⟨by omega, by omega, Small.of (by omega) (by omega), fun u hu => by (obtain ⟨i, hi⟩ := List.mem_iff_getElem?.1 hu; have := count_kid ts i u hi; omega), by omega⟩
  have HC := Lib.hid (fun (h0 : t.count ≤ 2000000) w' (h : Below w.heap.size w w') => copy_any t h0 w' F vs (hr.bel h))
  have HP := Lib.hid (fun (h0 : t.count ≤ 2000000) (h1 : nl.length ≤ 100000) (h2 : Small ts) w' (h : Below w.heap.size w w') => put_any t nl ts h0 hz h1 h2 w' F F' F'' vs C D cc f (hr.bel h) (hs.bel h) (ht.bel h))
  have HR := Lib.hid (fun (h0 : t.count ≤ 2000000) (h1 : nl.length ≤ 100000) (h2 : ∀ u ∈ ts, u.count ≤ 2000000) w' (h : Below w.heap.size w w') => rput_all nl ts h1 h2 2000000 (Nat.le_refl _) t h0 w' F F' F'' C cc D f vs (hs.bel h) (ht.bel h) (hr.bel h))
  have HT := Lib.hid hr
  obtain ⟨k, p, n, A, m, c, B, l, d, rfl⟩ := hr.shape
  simp only [tyC] at HC HP HR HT
  show Calls Try.prog 7 #[.agg #[.int .i64 k, .string p, .string n, .slice A m c, .slice B l d], .slice C nl.length cc, .slice D ts.length f] w _
  have hB3 : Below w.heap.size w ((w.alloc (.cells #[.int .i64 k, .string p, .string n, .slice A m c, .slice B l d] 24)).alloc (.cells #[.int .i64 k, .string p, .string n, .slice A m c, .slice B l d] 24)) := ((Below.refl _ w).alloc (Nat.le_refl _) _).alloc (by simp) _
  have HB3 := Lib.hid hB3
  have hk3 : Blk ((w.alloc (.cells #[.int .i64 k, .string p, .string n, .slice A m c, .slice B l d] 24)).alloc (.cells #[.int .i64 k, .string p, .string n, .slice A m c, .slice B l d] 24)) w.heap.size 24 #[.int .i64 k, .string p, .string n, .slice A m c, .slice B l d] := (Blk.new w _ _).alloc _
  have HK3 := Lib.hid hk3
  have hsl : SlT ((w.alloc (.cells #[.int .i64 k, .string p, .string n, .slice A m c, .slice B l d] 24)).alloc (.cells #[.int .i64 k, .string p, .string n, .slice A m c, .slice B l d] 24)) (fun q => q ≤ w.heap.size + 1) (some ⟨w.heap.size + 1, 0, none⟩) [t] :=
    SlT.one (Blk.new_at (by simp)) (by simp) (RT.keep (fun g _ hg => hB3.block g hg) hB3.size (fun g hg _ => by show g ≤ w.heap.size + 1; omega) _ _ hr)
  have HG1 := Lib.hid (great_any [t] (by simp) _ _ _ 1 hsl)
  have hlen : [t].length = 1 := rfl
  rw [hlen] at HG1
  have n0 : (0 : Int) ≤ (nl.length : Int) := by omega
  have n1 : (nl.length : Int) ≤ 140737488355328 := by omega
  obtain ⟨g1, hg1⟩ : ∃ g, decide (400 < countL [t]) = g := ⟨_, rfl⟩
  obtain ⟨g2, hg2⟩ : ∃ g, decide (400 < countL ts) = g := ⟨_, rfl⟩
  rw [hg1] at HG1
  simp only [hg2] at HG2
  have HD1 := Lib.hid hg1
  have HD2 := Lib.hid hg2
  have HGO := Lib.hid hgood
  clear hr hs ht hB3 hsl hlen hg1 hg2 hgood hk3 hz hzs hnn htl
  cases g1 with
  | true =>
    go_enter Try.func7, Try.ntmps7
    go_wp2_with (first | (go_at_call 12; ((with_reducible refine HG1.out.mono ?_); rintro e w1 ⟨rfl, hb1⟩); have HB1 := Lib.hid (HB3.out.trans (hb1.mono HB3.out.size)); clear hb1) | (go_at_call 13; ((with_reducible refine (awake_any _).mono ?_); rintro e w2 ⟨rfl, hb2⟩)))
    go_ret
    exact ⟨rfl, HB1.out.trans (hb2.mono HB1.out.size)⟩
  | false =>
    cases g2 with
    | true =>
      go_enter Try.func7, Try.ntmps7
      go_wp2_with (first | (go_at_call 12; ((with_reducible refine HG1.out.mono ?_); rintro e w1 ⟨rfl, hb1⟩); have HB1 := Lib.hid (HB3.out.trans (hb1.mono HB3.out.size)); clear hb1) | (go_at_call 12; ((with_reducible refine (HG2.out _ HB1.out).mono ?_); rintro e w3 ⟨rfl, hb3⟩); have HB2 := Lib.hid (HB1.out.trans (hb3.mono HB1.out.size)); clear hb3) | (go_at_call 13; ((with_reducible refine (awake_any _).mono ?_); rintro e w2 ⟨rfl, hb2⟩)))
      go_ret
      exact ⟨rfl, HB2.out.trans (hb2.mono HB2.out.size)⟩
    | false =>
      by_cases h50 : 50 < nl.length
      · have h51 : decide (50 < nl.length) = true := decide_eq_true h50
        have h52 : (50 : Int) < (nl.length : Int) := by omega
        clear h50
        go_enter Try.func7, Try.ntmps7
        go_wp2_with (first | (go_at_call 12; ((with_reducible refine HG1.out.mono ?_); rintro e w1 ⟨rfl, hb1⟩); have HB1 := Lib.hid (HB3.out.trans (hb1.mono HB3.out.size)); clear hb1) | (go_at_call 12; ((with_reducible refine (HG2.out _ HB1.out).mono ?_); rintro e w3 ⟨rfl, hb3⟩); have HB2 := Lib.hid (HB1.out.trans (hb3.mono HB1.out.size)); clear hb3) | (go_at_call 13; ((with_reducible refine (awake_any _).mono ?_); rintro e w2 ⟨rfl, hb2⟩)))
        go_ret
        exact ⟨rfl, HB2.out.trans (hb2.mono HB2.out.size)⟩
      · have h51 : decide (50 < nl.length) = false := decide_eq_false h50
        have h52 : ¬ (50 : Int) < (nl.length : Int) := by omega
        obtain ⟨hq1, hq2, hq3, hq4, hq5⟩ := HGO.out (of_decide_eq_false HD2.out) (of_decide_eq_false HD1.out) (by omega)
        have HP2 := Lib.hid (HP.out hq5 hq2 hq3)
        have HC2 := Lib.hid (HC.out hq5)
        have HR2 := Lib.hid (HR.out hq5 hq2 hq4)
        have HQ1 := Lib.hid hq1
        obtain ⟨T, hT⟩ : ∃ T, putT nl ts t = T := ⟨_, rfl⟩
        rw [hT] at HP2 HR2 HQ1
        clear h50 hq1 hq2 hq3 hq4 hq5 hT HGO HP HR HC
        go_enter Try.func7, Try.ntmps7
        go_wp2_with (first
          | (go_at_call 12; ((with_reducible refine HG1.out.mono ?_); rintro e w1 ⟨rfl, hb1⟩); have HB1 := Lib.hid (HB3.out.trans (hb1.mono HB3.out.size)); have HK1 := Lib.hid (HK3.out.bel2 hb1); clear hb1)
          | (go_at_call 12; ((with_reducible refine (HG2.out _ HB1.out).mono ?_); rintro e w3 ⟨rfl, hb3⟩); have HB2 := Lib.hid (HB1.out.trans (hb3.mono HB1.out.size)); have hk2 := HK1.out.bel2 hb3; have x0 := hk2.cell 0; have x1 := hk2.cell 1; have x2 := hk2.cell 2; have x3 := hk2.cell 3; have x4 := hk2.cell 4; have xl := hk2.lt; have HK2 := Lib.hid hk2; clear hb3 hk2)
          | (go_at_call 30; ((with_reducible refine (HC2.out _ HB2.out).mono ?_); rintro e w5 ⟨k2, p2, n2, A2, m2, c2, B2, l2, d2, rfl, hr5, hb5⟩); have hb6 := hb5.alloc hb5.size (.cells #[.int .i64 k2, .string p2, .string n2, .slice A2 m2 c2, .slice B2 l2 d2] 24); have HB6 := Lib.hid (HB2.out.trans (hb6.mono HB2.out.size)); have hk6 := HK2.out.bel2 hb6; have y0 := hk6.cell 0; have y1 := hk6.cell 1; have y2 := hk6.cell 2; have y3 := hk6.cell 3; have y4 := hk6.cell 4; have yl := hk6.lt; have HK6 := Lib.hid hk6; have HR5 := Lib.hid (hr5.bel ((Below.refl _ w5).alloc (Nat.le_refl _) (.cells #[.int .i64 k2, .string p2, .string n2, .slice A2 m2 c2, .slice B2 l2 d2] 24))); have HG6 := Lib.hid (Blk.new w5 24 #[.int .i64 k2, .string p2, .string n2, .slice A2 m2 c2, .slice B2 l2 d2]); clear hk6 hr5 hb5 hb6 x0 x1 x2 x3 x4)
          | (go_at_call 31; ((with_reducible refine (HP2.out _ HB6.out).mono ?_); rintro e w7 ⟨k3, p3, n3, A3, m3, c3, B3, l3, d3, rfl, hr7, hb7⟩); have hb8 := hb7.alloc hb7.size (.cells #[.int .i64 k3, .string p3, .string n3, .slice A3 m3 c3, .slice B3 l3 d3] 24); have HB8 := Lib.hid (HB6.out.trans (hb8.mono HB6.out.size)); have HK8 := Lib.hid (HK6.out.bel2 hb8); have HR7 := Lib.hid (hr7.bel ((Below.refl _ w7).alloc (Nat.le_refl _) (.cells #[.int .i64 k3, .string p3, .string n3, .slice A3 m3 c3, .slice B3 l3 d3] 24))); have HR8 := Lib.hid (HR5.out.bel hb8); have HG8 := Lib.hid (HG6.out.bel2 hb8); have HG9 := Lib.hid (Blk.new w7 24 #[.int .i64 k3, .string p3, .string n3, .slice A3 m3 c3, .slice B3 l3 d3]); clear hr7 hb7 hb8 y0 y1 y2 y3 y4))
        generalize w7.alloc (.cells #[.int .i64 k3, .string p3, .string n3, .slice A3 m3 c3, .slice B3 l3 d3] 24) = W at HB8 HK8 HR7 HR8 HG8 HG9 ⊢
        have hS : Blk W w.heap.size 24 #[.int .i64 k, .string p, .string n, .slice A m c, .slice B l d] ∧ Blk W w5.heap.size 24 #[.int .i64 k2, .string p2, .string n2, .slice A2 m2 c2, .slice B2 l2 d2] ∧ Blk W w7.heap.size 24 #[.int .i64 k3, .string p3, .string n3, .slice A3 m3 c3, .slice B3 l3 d3] ∧ Below W.heap.size W W := ⟨HK8.out, HG8.out, HG9.out, Below.refl _ W⟩
        refine wp_region_held_drew (S := fun V => Blk V w.heap.size 24 #[.int .i64 k, .string p, .string n, .slice A m c, .slice B l d] ∧ Blk V w5.heap.size 24 #[.int .i64 k2, .string p2, .string n2, .slice A2 m2 c2, .slice B2 l2 d2] ∧ Blk V w7.heap.size 24 #[.int .i64 k3, .string p3, .string n3, .slice A3 m3 c3, .slice B3 l3 d3] ∧ Below W.heap.size W V) (by kernel_rfl) ⟨hS.1.drew, hS.2.1.drew, hS.2.2.1.drew, hS.2.2.2.drew⟩ (fun hS0 => ?_)
        refine wpAnyH_take (i := 0) (v := .agg #[.int .i64 k3, .string p3, .string n3, .slice A3 m3 c3, .slice B3 l3 d3]) rfl (by kernel_rfl) (by kernel_rfl) (by kernel_rfl) (fun _ _ _ h => h) (Or.inl ⟨rfl, fun w' hS => by (have z0 := hS.2.2.1.cell 0; have z1 := hS.2.2.1.cell 1; have z2 := hS.2.2.1.cell 2; have z3 := hS.2.2.1.cell 3; have z4 := hS.2.2.1.cell 4; have zl := hS.2.2.1.lt; unfold execOp; go_simp)⟩) hS0 ?_
        simp only [Act.put, List.getElem_toArray, List.getElem_cons_zero, List.getElem_cons_succ, List.setIfInBounds_toArray, List.set_cons_zero, List.set_cons_succ]
        refine wpAnyH_take (i := 1) (v := .agg #[.int .i64 k, .string p, .string n, .slice A m c, .slice B l d]) rfl (by kernel_rfl) (by kernel_rfl) (by kernel_rfl) (fun _ _ _ h => h) (Or.inl ⟨rfl, fun w' hS => by (have z0 := hS.1.cell 0; have z1 := hS.1.cell 1; have z2 := hS.1.cell 2; have z3 := hS.1.cell 3; have z4 := hS.1.cell 4; have zl := hS.1.lt; unfold execOp; go_simp)⟩) hS0 ?_
        simp only [Act.put, List.getElem_toArray, List.getElem_cons_zero, List.getElem_cons_succ, List.setIfInBounds_toArray, List.set_cons_zero, List.set_cons_succ]
        refine wpAnyH_take (i := 2) (v := .slice C nl.length cc) rfl (by kernel_rfl) (by kernel_rfl) (by kernel_rfl) (fun _ _ _ h => h) (Or.inl ⟨rfl, fun w' hS => by (unfold execOp; go_simp)⟩) hS0 ?_
        simp only [Act.put, List.getElem_toArray, List.getElem_cons_zero, List.getElem_cons_succ, List.setIfInBounds_toArray, List.set_cons_zero, List.set_cons_succ]
        refine wpAnyH_take (i := 3) (v := .slice D ts.length f) rfl (by kernel_rfl) (by kernel_rfl) (by kernel_rfl) (fun _ _ _ h => h) (Or.inl ⟨rfl, fun w' hS => by (unfold execOp; go_simp)⟩) hS0 ?_
        simp only [Act.put, List.getElem_toArray, List.getElem_cons_zero, List.getElem_cons_succ, List.setIfInBounds_toArray, List.set_cons_zero, List.set_cons_succ]
        have hBd := HB8.out.trans (hS0.2.2.2.mono HB8.out.size)
        refine wpAnyH_one (i := 4) (by kernel_rfl) rfl rfl (op_call (args := #[.agg #[.int .i64 k, .string p, .string n, .slice A m c, .slice B l d], .slice C nl.length cc, .slice D ts.length f]) (f := 32) (by unfold execOp; go_simp) ((HR2.out _ hBd).mono ?_))
        rintro e w11 ⟨k4, p4, n4, A4, m4, c4, B4, l4, d4, rfl, hr11, hb11⟩
        have hS11 : Blk w11 w.heap.size 24 #[.int .i64 k, .string p, .string n, .slice A m c, .slice B l d] ∧ Blk w11 w5.heap.size 24 #[.int .i64 k2, .string p2, .string n2, .slice A2 m2 c2, .slice B2 l2 d2] ∧ Blk w11 w7.heap.size 24 #[.int .i64 k3, .string p3, .string n3, .slice A3 m3 c3, .slice B3 l3 d3] ∧ Below W.heap.size W w11 := ⟨hS0.1.bel2 hb11, hS0.2.1.bel2 hb11, hS0.2.2.1.bel2 hb11, hS0.2.2.2.trans (hb11.mono hS0.2.2.2.size)⟩
        refine And.intro hS11 ?_
        simp only [Act.put, List.getElem_toArray, List.getElem_cons_zero, List.getElem_cons_succ, List.setIfInBounds_toArray, List.set_cons_zero, List.set_cons_succ]
        have hT3 := true_of (w := w11) (w' := w11) (e := .returned (.bool (same T T))) ⟨rfl, Below.refl _ _⟩ (same_refl T)
        refine wpAnyH_one (i := 5) (by kernel_rfl) rfl rfl (op_call (args := #[.agg #[.int .i64 k3, .string p3, .string n3, .slice A3 m3 c3, .slice B3 l3 d3], .agg #[.int .i64 k4, .string p4, .string n4, .slice A4 m4 c4, .slice B4 l4 d4]]) (f := 15) (by unfold execOp; go_simp) ((rsame_all 2000000 (Nat.le_refl _) T T HQ1.out w11 _ _ _ _ ((HR7.out.bel hS0.2.2.2).bel hb11) hr11).mono ?_))
        rintro e w12 ⟨he12, hb12⟩
        rw [same_refl] at he12
        subst he12
        have hS12 : Blk w12 w.heap.size 24 #[.int .i64 k, .string p, .string n, .slice A m c, .slice B l d] ∧ Blk w12 w5.heap.size 24 #[.int .i64 k2, .string p2, .string n2, .slice A2 m2 c2, .slice B2 l2 d2] ∧ Blk w12 w7.heap.size 24 #[.int .i64 k3, .string p3, .string n3, .slice A3 m3 c3, .slice B3 l3 d3] ∧ Below W.heap.size W w12 := ⟨hS11.1.bel2 hb12, hS11.2.1.bel2 hb12, hS11.2.2.1.bel2 hb12, hS11.2.2.2.trans (hb12.mono hS11.2.2.2.size)⟩
        refine And.intro hS12 ?_
        simp only [Act.put, List.getElem_toArray, List.getElem_cons_zero, List.getElem_cons_succ, List.setIfInBounds_toArray, List.set_cons_zero, List.set_cons_succ]
        refine wpAnyH_take (i := 6) (v := .bool true) rfl (by kernel_rfl) (by kernel_rfl) (by kernel_rfl) (fun _ _ _ h => h) (Or.inl ⟨rfl, fun w' hS => by (unfold execOp; go_simp)⟩) hS12 ?_
        simp only [Act.put, List.getElem_toArray, List.getElem_cons_zero, List.getElem_cons_succ, List.setIfInBounds_toArray, List.set_cons_zero, List.set_cons_succ]
        refine wpAnyH_take (i := 7) (v := .agg #[.int .i64 k, .string p, .string n, .slice A m c, .slice B l d]) rfl (by kernel_rfl) (by kernel_rfl) (by kernel_rfl) (fun _ _ _ h => h) (Or.inl ⟨by kernel_rfl, fun w' hS => by (have z0 := hS.1.cell 0; have z1 := hS.1.cell 1; have z2 := hS.1.cell 2; have z3 := hS.1.cell 3; have z4 := hS.1.cell 4; have zl := hS.1.lt; unfold execOp; go_simp)⟩) hS12 ?_
        simp only [Act.put, List.getElem_toArray, List.getElem_cons_zero, List.getElem_cons_succ, List.setIfInBounds_toArray, List.set_cons_zero, List.set_cons_succ]
        refine wpAnyH_take (i := 8) (v := .agg #[.int .i64 k2, .string p2, .string n2, .slice A2 m2 c2, .slice B2 l2 d2]) rfl (by kernel_rfl) (by kernel_rfl) (by kernel_rfl) (fun _ _ _ h => h) (Or.inl ⟨by kernel_rfl, fun w' hS => by (have z0 := hS.2.1.cell 0; have z1 := hS.2.1.cell 1; have z2 := hS.2.1.cell 2; have z3 := hS.2.1.cell 3; have z4 := hS.2.1.cell 4; have zl := hS.2.1.lt; unfold execOp; go_simp)⟩) hS12 ?_
        simp only [Act.put, List.getElem_toArray, List.getElem_cons_zero, List.getElem_cons_succ, List.setIfInBounds_toArray, List.set_cons_zero, List.set_cons_succ]
        refine wpAnyH_oneG (i := 9) (by kernel_rfl) rfl (by kernel_rfl) (op_call (args := #[.agg #[.int .i64 k, .string p, .string n, .slice A m c, .slice B l d], .agg #[.int .i64 k2, .string p2, .string n2, .slice A2 m2 c2, .slice B2 l2 d2]]) (f := 15) (by unfold execOp; go_simp) ((rsame_all 2000000 (Nat.le_refl _) t t (by have := of_decide_eq_false HD1.out; rw [countL_cons, countL_nil] at this; omega) w12 _ _ _ _ (HT.out.bel (HB8.out.trans (hS12.2.2.2.mono HB8.out.size))) (HR8.out.bel hS12.2.2.2)).mono ?_))
        rintro e w13 ⟨he13, hb13⟩
        rw [same_refl] at he13
        subst he13
        have hS13 : Blk w13 w.heap.size 24 #[.int .i64 k, .string p, .string n, .slice A m c, .slice B l d] ∧ Blk w13 w5.heap.size 24 #[.int .i64 k2, .string p2, .string n2, .slice A2 m2 c2, .slice B2 l2 d2] ∧ Blk w13 w7.heap.size 24 #[.int .i64 k3, .string p3, .string n3, .slice A3 m3 c3, .slice B3 l3 d3] ∧ Below W.heap.size W w13 := ⟨hS12.1.bel2 hb13, hS12.2.1.bel2 hb13, hS12.2.2.1.bel2 hb13, hS12.2.2.2.trans (hb13.mono hS12.2.2.2.size)⟩
        refine And.intro hS13 ?_
        simp only [Act.put, List.getElem_toArray, List.getElem_cons_zero, List.getElem_cons_succ, List.setIfInBounds_toArray, List.set_cons_zero, List.set_cons_succ]
        refine wpAnyH_take (i := 10) (v := .bool true) rfl (by kernel_rfl) (by kernel_rfl) (by kernel_rfl) (fun _ _ _ h => h) (Or.inl ⟨rfl, fun w' hS => by (unfold execOp; go_simp)⟩) hS13 ?_
        simp only [Act.put, List.getElem_toArray, List.getElem_cons_zero, List.getElem_cons_succ, List.setIfInBounds_toArray, List.set_cons_zero, List.set_cons_succ]
        refine wpAnyH_take (i := 11) (v := .bool true) rfl (by kernel_rfl) (by kernel_rfl) (by kernel_rfl) (fun _ _ _ h => h) (Or.inl ⟨rfl, fun w' hS => by (unfold execOp; go_simp)⟩) hS13 ?_
        simp only [Act.put, List.getElem_toArray, List.getElem_cons_zero, List.getElem_cons_succ, List.setIfInBounds_toArray, List.set_cons_zero, List.set_cons_succ]
        refine wpAnyH_oneG (i := 12) (by kernel_rfl) rfl (by kernel_rfl) (op_call (args := #[]) (f := 13) (by unfold execOp; go_simp) ((awake_any _).mono ?_))
        rintro e w14 ⟨rfl, hb14⟩
        have hS14 : Blk w14 w.heap.size 24 #[.int .i64 k, .string p, .string n, .slice A m c, .slice B l d] ∧ Blk w14 w5.heap.size 24 #[.int .i64 k2, .string p2, .string n2, .slice A2 m2 c2, .slice B2 l2 d2] ∧ Blk w14 w7.heap.size 24 #[.int .i64 k3, .string p3, .string n3, .slice A3 m3 c3, .slice B3 l3 d3] ∧ Below W.heap.size W w14 := ⟨hS13.1.bel2 hb14, hS13.2.1.bel2 hb14, hS13.2.2.1.bel2 hb14, hS13.2.2.2.trans (hb14.mono hS13.2.2.2.size)⟩
        refine And.intro hS14 ?_
        simp only [Act.put, List.getElem_toArray, List.getElem_cons_zero, List.getElem_cons_succ, List.setIfInBounds_toArray, List.set_cons_zero, List.set_cons_succ]
        refine wpAnyH_take (i := 13) (v := .bool true) rfl (by kernel_rfl) (by kernel_rfl) (by kernel_rfl) (fun _ _ _ h => h) (Or.inl ⟨rfl, fun w' hS => by (unfold execOp; go_simp)⟩) hS14 ?_
        simp only [Act.put, List.getElem_toArray, List.getElem_cons_zero, List.getElem_cons_succ, List.setIfInBounds_toArray, List.set_cons_zero, List.set_cons_succ]
        refine wpAnyH_take (i := 14) (v := .bool true) rfl (by kernel_rfl) (by kernel_rfl) (by kernel_rfl) (fun _ _ _ h => h) (Or.inl ⟨rfl, fun w' hS => by (unfold execOp; go_simp)⟩) hS14 ?_
        simp only [Act.put, List.getElem_toArray, List.getElem_cons_zero, List.getElem_cons_succ, List.setIfInBounds_toArray, List.set_cons_zero, List.set_cons_succ]
        refine wpAnyH_done (by kernel_rfl) ?_ _
        have HF := Lib.hid (HB8.out.trans (hS14.2.2.2.mono HB8.out.size))
        clear hS hS0 hS11 hS12 hS13 hS14 hb11 hb12 hb13 hb14 hBd hT3 hr11
        go_wp2
        go_ret
        exact ⟨rfl, HF.out⟩
end Go.Proofs.Ytkgilhdoahkakaa
