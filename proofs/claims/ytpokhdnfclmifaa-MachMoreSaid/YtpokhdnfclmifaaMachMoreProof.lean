/-
  For every image, memory, input, steps and more steps (up to what is played) a run with more steps stays as it is if it was over, and else begins as it did.
-/
import Derived.Test.YtpokhdnfclmifaaRows
import Derived.Test.YtpokhdnfclmifaaLawG
import Derived.Test.YtpokhdnfclmifaaLawD
import Derived.WalkKit
namespace Go.Proofs.Ytpokhdnfclmifaa.machMore
open Go.ChangeShapes Go.WideShapes Go.ChangeAt Go.RowKit
set_option linter.unusedVariables false

/-! ### The walk. -/
set_option maxHeartbeats 1000000 in
theorem walk_idle (w : World) (CA0 DA0 : Option Addr) (cd0 dd0 : List Int) (c00 c10 : Nat) (E0 : Int) (hc0 : Reads w w.heap.size 1 CA0 cd0.length (cd0.map (Value.int .i64))) (hd0 : Reads w w.heap.size 1 DA0 dd0.length (dd0.map (Value.int .i64))) (hw0 : ∀ n ∈ cd0, -9223372036854775808 ≤ n ∧ n ≤ 9223372036854775807) (hE0 : I64 E0) (a1 : Int) (ha1 : I64 a1) (IA : Option Addr) (bs : List Int) (c2 : Nat) (hi : Reads w w.heap.size 1 IA bs.length (bs.map (Value.int .u8))) (hby : ∀ n ∈ bs, 0 ≤ n ∧ n ≤ 255) (a3 : Int) (ha3 : I64 a3) (a4 : Int) (ha4 : I64 a4) (h : hvy cd0.length dd0.length bs.length a1 a3 = true ∨ a3 < 0 ∨ a4 < 0 ∨ 3000 < a4) :
    Calls Try.prog 7 #[.agg #[.slice CA0 cd0.length c00, .slice DA0 dd0.length c10, .int .i64 E0], .int .i64 a1, .slice IA bs.length c2, .int .i64 a3, .int .i64 a4] w fun e w' => e = .returned (.bool true) ∧ Below w.heap.size w w' := by
  cases hh : hvy cd0.length dd0.length bs.length a1 a3 with
  | true =>
    have HH := Lib.hid hh
    clear h hh
    go_enter Try.func7, Try.ntmps7
    go_wp2_with fail
    refine (heavy_any _ CA0 DA0 IA cd0.length dd0.length bs.length c00 c10 c2 E0 a1 a3).mono ?_
    rw [HH.out]
    rintro e w1 ⟨rfl, hb1⟩
    have hB1 := below_next' ((Below.refl _ w).alloc (Nat.le_refl _) _) hb1
    clear hb1
    go_wp2_with fail
    refine (awake_any _).mono ?_
    rintro e w2 ⟨rfl, hb2⟩
    go_wp2
    go_ret
    exact ⟨rfl, below_next' hB1 hb2⟩
  | false =>
    have HH := Lib.hid hh
    rw [hh] at h
    simp only [Bool.false_eq_true, false_or] at h
    clear hh
    by_cases g0 : a3 < 0
    · have d0 : decide (a3 < 0) = true := by simpa using g0
      clear h
      go_enter Try.func7, Try.ntmps7
      go_wp2_with fail
      refine (heavy_any _ CA0 DA0 IA cd0.length dd0.length bs.length c00 c10 c2 E0 a1 a3).mono ?_
      rw [HH.out]
      rintro e w1 ⟨rfl, hb1⟩
      have hB1 := below_next' ((Below.refl _ w).alloc (Nat.le_refl _) _) hb1
      clear hb1
      go_wp2_with fail
      refine (awake_any _).mono ?_
      rintro e w2 ⟨rfl, hb2⟩
      go_wp2
      go_ret
      exact ⟨rfl, below_next' hB1 hb2⟩
    have d0 : decide (a3 < 0) = false := by simpa using g0
    by_cases g1 : a4 < 0
    · have d1 : decide (a4 < 0) = true := by simpa using g1
      clear h
      go_enter Try.func7, Try.ntmps7
      go_wp2_with fail
      refine (heavy_any _ CA0 DA0 IA cd0.length dd0.length bs.length c00 c10 c2 E0 a1 a3).mono ?_
      rw [HH.out]
      rintro e w1 ⟨rfl, hb1⟩
      have hB1 := below_next' ((Below.refl _ w).alloc (Nat.le_refl _) _) hb1
      clear hb1
      go_wp2_with fail
      refine (awake_any _).mono ?_
      rintro e w2 ⟨rfl, hb2⟩
      go_wp2
      go_ret
      exact ⟨rfl, below_next' hB1 hb2⟩
    have d1 : decide (a4 < 0) = false := by simpa using g1
    have g2 : 3000 < a4 := by rcases h with h | h | h <;> first | exact absurd h g0 | exact absurd h g1 | exact h
    have d2 : decide (3000 < a4) = true := by simpa using g2
    clear h
    go_enter Try.func7, Try.ntmps7
    go_wp2_with fail
    refine (heavy_any _ CA0 DA0 IA cd0.length dd0.length bs.length c00 c10 c2 E0 a1 a3).mono ?_
    rw [HH.out]
    rintro e w1 ⟨rfl, hb1⟩
    have hB1 := below_next' ((Below.refl _ w).alloc (Nat.le_refl _) _) hb1
    clear hb1
    go_wp2_with fail
    refine (awake_any _).mono ?_
    rintro e w2 ⟨rfl, hb2⟩
    go_wp2
    go_ret
    exact ⟨rfl, below_next' hB1 hb2⟩
set_option maxHeartbeats 2000000 in
theorem walk_run (w : World) (CA0 DA0 : Option Addr) (cd0 dd0 : List Int) (c00 c10 : Nat) (E0 : Int) (hc0 : Reads w w.heap.size 1 CA0 cd0.length (cd0.map (Value.int .i64))) (hd0 : Reads w w.heap.size 1 DA0 dd0.length (dd0.map (Value.int .i64))) (hw0 : ∀ n ∈ cd0, -9223372036854775808 ≤ n ∧ n ≤ 9223372036854775807) (hE0 : I64 E0) (a1 : Int) (ha1 : I64 a1) (IA : Option Addr) (bs : List Int) (c2 : Nat) (hi : Reads w w.heap.size 1 IA bs.length (bs.map (Value.int .u8))) (hby : ∀ n ∈ bs, 0 ≤ n ∧ n ≤ 255) (a3 : Int) (ha3 : I64 a3) (a4 : Int) (ha4 : I64 a4) (hh : hvy cd0.length dd0.length bs.length a1 a3 = false) (g0 : 0 ≤ a3) (g1 : 0 ≤ a4) (g2 : a4 ≤ 3000) :
    Calls Try.prog 7 #[.agg #[.slice CA0 cd0.length c00, .slice DA0 dd0.length c10, .int .i64 E0], .int .i64 a1, .slice IA bs.length c2, .int .i64 a3, .int .i64 a4] w fun e w' => e = .returned (.bool true) ∧ Below w.heap.size w w' := by
  have g3 : a3 ≤ 3000 := by
    unfold hvy at hh
    have := of_decide_eq_false hh
    omega
  have d0 : decide (a3 < 0) = false := by simpa using g0
  have d1 : decide (a4 < 0) = false := by simpa using g1
  have d2 : decide (3000 < a4) = false := by simpa using g2
  have HI : Hid (In3 w w.heap.size CA0 DA0 IA cd0 dd0 bs) := Lib.hid ⟨hc0, hd0, hi, Nat.le_refl _, hw0, hby⟩
  have HH := Lib.hid hh
  obtain ⟨mf1, mf2⟩ := more_facts cd0 dd0 bs E0 a1 a3 a4 g0 g3 g1 g2
  have MF1 := Lib.hid mf1
  have MF2 := Lib.hid mf2
  clear hc0 hd0 hi hw0 hby hh mf1 mf2 ha1 ha3 ha4 hE0
  go_enter Try.func7, Try.ntmps7
  go_wp2_with fail
  refine (heavy_any _ CA0 DA0 IA cd0.length dd0.length bs.length c00 c10 c2 E0 a1 a3).mono ?_
  rw [HH.out]
  rintro e w1 ⟨rfl, hb1⟩
  have hx0 : Blk (w.alloc (.cells #[.slice CA0 cd0.length c00, .slice DA0 dd0.length c10, .int .i64 E0] 24)) w.heap.size 24 #[.slice CA0 cd0.length c00, .slice DA0 dd0.length c10, .int .i64 E0] := Blk.new w _ _
  have hx1 := hx0.below hb1 hx0.lt
  have hB1 := below_next' ((Below.refl _ w).alloc (Nat.le_refl _) _) hb1
  have x0 := hx1.get (i := 0) rfl
  have x1 := hx1.get (i := 1) rfl
  have x2 := hx1.get (i := 2) rfl
  have HX1 := Lib.hid hx1
  have HB1 := Lib.hid hB1
  clear hx0 hx1 hb1 hB1
  go_wp2_with fail
  clear x0 x1 x2
  refine (mrun_any (HI.out.below HB1.out) c00 c10 c2 E0 a1 a3).mono ?_
  generalize runP cd0 dd0 bs E0 a1 a3 = oa at *
  rintro e w2 ⟨v, rfl, ⟨A1, cA, rfl, hown1⟩, hb2⟩
  have hx2 := HX1.out.below hb2 HX1.out.lt
  have hB2 := below_next' HB1.out hb2
  have hlt2 := hx2.lt
  have x0 := hx2.get (i := 0) rfl
  have x1 := hx2.get (i := 1) rfl
  have x2 := hx2.get (i := 2) rfl
  have HX2 := Lib.hid hx2
  have HB2 := Lib.hid hB2
  have HO1 := Lib.hid hown1
  clear hx2 hb2 hB2 hown1
  go_wp2_with fail
  clear x0 x1 x2
  have hsum : wrap64 (a3 + a4) = a3 + a4 := wrap_in (by omega) (by omega)
  refine (mrun_any (HI.out.below (HB2.out.alloc HB2.out.size _)) c00 c10 c2 E0 a1 (a3 + a4)).mono ?_
  generalize runP cd0 dd0 bs E0 a1 (a3 + a4) = ob at *
  rintro e w3 ⟨v, rfl, ⟨A2, cB, rfl, hown2⟩, hb3⟩
  have hxa := (Blk.new w2 29 #[.int .i64 oa.kind, .int .i64 oa.code, .slice A1 oa.out.length cA, .int .i64 oa.steps]).below hb3 (Blk.new w2 _ _).lt
  have hltA := hxa.lt
  have y0 := hxa.get (i := 0) rfl
  have y1 := hxa.get (i := 1) rfl
  have y2 := hxa.get (i := 2) rfl
  have y3 := hxa.get (i := 3) rfl
  have HOA := Lib.hid (own_below (HO1.out.alloc (.cells #[.int .i64 oa.kind, .int .i64 oa.code, .slice A1 oa.out.length cA, .int .i64 oa.steps] 29)) hb3)
  have HOB := Lib.hid hown2
  have HB3 := Lib.hid (below_next' (HB2.out.alloc HB2.out.size (.cells #[.int .i64 oa.kind, .int .i64 oa.code, .slice A1 oa.out.length cA, .int .i64 oa.steps] 29)) hb3)
  clear hb3 hown2 hxa hsum HO1 HX2 HX1
  by_cases hk : oa.kind = 0
  · have hk1 : (oa.kind != 0) = false := by simpa using hk
    obtain ⟨⟨t, ht⟩, hst⟩ := MF2.out hk
    have HT := Lib.hid ht
    have hst2 : decide (oa.steps ≤ ob.steps) = true := by simpa using hst
    clear hk ht
    go_wp2_with fail
    clear y0 y1 y2 hk1
    refine (begins_yes _ _ _ oa.kind ob.kind oa.code ob.code oa.steps ob.steps oa.out.length ob.out.length oa.out t A1 A2 cA cB rfl (by rw [HT.out]) (HOA.out.alloc _) (by rw [← HT.out]; exact HOB.out.alloc _)).mono ?_
    rintro e w4 ⟨rfl, hb4⟩
    have hB4 := below_next' (HB3.out.alloc HB3.out.size (.cells #[.int .i64 ob.kind, .int .i64 ob.code, .slice A2 ob.out.length cB, .int .i64 ob.steps] 29)) hb4
    have z3 := (hb4.cell (p := ⟨w2.heap.size, 3, none⟩) (by simp; omega)).trans ((World.cell?_of_block (w := w3) (a := ⟨w2.heap.size, 3, none⟩) (Below.heap_alloc w3 (.cells #[.int .i64 ob.kind, .int .i64 ob.code, .slice A2 ob.out.length cB, .int .i64 ob.steps] 29) _ hltA)).trans y3)
    have z4 := (Blk.new w3 29 #[.int .i64 ob.kind, .int .i64 ob.code, .slice A2 ob.out.length cB, .int .i64 ob.steps]).below hb4 (Blk.new w3 _ _).lt
    have z5 := z4.get (i := 3) rfl
    clear hb4 y3 z4
    go_wp2_with fail
    refine (awake_any _).mono ?_
    rintro e w5 ⟨rfl, hb5⟩
    go_wp2
    go_ret
    exact ⟨rfl, below_next' hB4 hb5⟩
  · have hk1 : (oa.kind != 0) = true := by simpa using hk
    obtain rfl := MF1.out hk
    clear hk
    go_wp2_with fail
    clear y0 y1 y2 y3 hk1
    refine (same_yes _ _ _ ob A1 A2 cA cB (HOA.out.alloc _) (HOB.out.alloc _)).mono ?_
    rintro e w4 ⟨rfl, hb4⟩
    have hB4 := below_next' (HB3.out.alloc HB3.out.size (.cells #[.int .i64 ob.kind, .int .i64 ob.code, .slice A2 ob.out.length cB, .int .i64 ob.steps] 29)) hb4
    clear hb4
    go_wp2_with fail
    refine (awake_any _).mono ?_
    rintro e w5 ⟨rfl, hb5⟩
    go_wp2
    go_ret
    exact ⟨rfl, below_next' hB4 hb5⟩
theorem walk (w : World) (CA0 DA0 : Option Addr) (cd0 dd0 : List Int) (c00 c10 : Nat) (E0 : Int) (hc0 : Reads w w.heap.size 1 CA0 cd0.length (cd0.map (Value.int .i64))) (hd0 : Reads w w.heap.size 1 DA0 dd0.length (dd0.map (Value.int .i64))) (hw0 : ∀ n ∈ cd0, -9223372036854775808 ≤ n ∧ n ≤ 9223372036854775807) (hE0 : I64 E0) (a1 : Int) (ha1 : I64 a1) (IA : Option Addr) (bs : List Int) (c2 : Nat) (hi : Reads w w.heap.size 1 IA bs.length (bs.map (Value.int .u8))) (hby : ∀ n ∈ bs, 0 ≤ n ∧ n ≤ 255) (a3 : Int) (ha3 : I64 a3) (a4 : Int) (ha4 : I64 a4) :
    Calls Try.prog 7 #[.agg #[.slice CA0 cd0.length c00, .slice DA0 dd0.length c10, .int .i64 E0], .int .i64 a1, .slice IA bs.length c2, .int .i64 a3, .int .i64 a4] w fun e w' => e = .returned (.bool true) ∧ Below w.heap.size w w' := by
  by_cases h : hvy cd0.length dd0.length bs.length a1 a3 = true ∨ a3 < 0 ∨ a4 < 0 ∨ 3000 < a4
  · exact walk_idle w CA0 DA0 cd0 dd0 c00 c10 E0 hc0 hd0 hw0 hE0 a1 ha1 IA bs c2 hi hby a3 ha3 a4 ha4 h
  · have h1 : hvy cd0.length dd0.length bs.length a1 a3 = false := by
      cases hh : hvy cd0.length dd0.length bs.length a1 a3 with
      | true => exact absurd (Or.inl hh) h
      | false => rfl
    exact walk_run w CA0 DA0 cd0 dd0 c00 c10 E0 hc0 hd0 hw0 hE0 a1 ha1 IA bs c2 hi hby a3 ha3 a4 ha4 h1 (by omega) (by omega) (by omega)

/-! ### The row's step. -/
set_option maxRecDepth 100000 in
theorem lifted (os : Os) (started : os.Started) (H : Type) (enc : TypeId × Value → H) :
    ReturnsInHanded {} Try.checked os 7 .any (Rows.machMoreSpec.pre6 enc Try.prog Try.f7 Rows.machMoreRow.domain false) (Rows.machMoreSpec.post enc Try.prog Try.f7 false true false false) := by
  refine returnsInHanded_of_change (C := Try.checked) own started (by kernel_rfl) Try.func7
    (ChangeSpec.witness6 (enc := enc) (C := Try.checked) false ⟨#[], #[.agg #[.slice none 0 0, .slice none 0 0, .int .i64 0], .int .i64 0, .slice none 0 0, .int .i64 0, .int .i64 0], []⟩ 8 (by kernel_rfl) (by kernel_rfl) (by kernel_rfl) (by kernel_rfl)) ?_
  intro W base args ds gs before hval0 hW hcnd _
  have hval : ∀ (j : Nat) t v, Try.f7.params[j]? = some t → args[j]? = some v → Value.okWide Try.prog W .any base t v := hval0
  have hW' := hW
  obtain ⟨p, q, hA0, hV, rfl, hfz, hnd⟩ := hW
  have hA : DataW.TrodAll enc Try.prog W 0 (fun _ => true) true Try.f7.params.toList args.toList ds p := hA0
  rw [Try.params7] at hA hval
  obtain ⟨v0, vs0, d0, ds0, p0, q0, hargs, rfl, rfl, h0, r0⟩ := trodAll_cons hA
  obtain ⟨v1, vs1, d1, ds1, p1, q1, rfl, rfl, rfl, h1, r1⟩ := trodAll_cons r0
  obtain ⟨v2, vs2, d2, ds2, p2, q2, rfl, rfl, rfl, h2, r2⟩ := trodAll_cons r1
  obtain ⟨v3, vs3, d3, ds3, p3, q3, rfl, rfl, rfl, h3, r3⟩ := trodAll_cons r2
  obtain ⟨v4, vs4, d4, ds4, p4, q4, rfl, rfl, rfl, h4, r4⟩ := trodAll_cons r3
  obtain ⟨rfl, rfl, rfl⟩ := trodAll_nil r4
  obtain rfl : args = #[v0, v1, v2, v3, v4] := by cases args; simp_all
  obtain ⟨rfl, rfl⟩ := trodVars_none hV
  obtain ⟨CA0, DA0, cd0, dd0, c00, c10, E0, rfl, hc0, hd0, hw0, _, hE0⟩ := open_image (hval 0 24 v0 rfl rfl) h0
  obtain ⟨a1, rfl, rfl, rfl, w1⟩ := open_int Try.underlying3 (hval 1 3 v1 rfl rfl) h1
  have ha1 := i64_of w1
  obtain ⟨IA, bs, c2, rfl, hi, hby⟩ := open_input (hval 2 25 v2 rfl rfl) h2
  obtain ⟨a3, rfl, rfl, rfl, w3⟩ := open_int Try.underlying3 (hval 3 3 v3 rfl rfl) h3
  have ha3 := i64_of w3
  obtain ⟨a4, rfl, rfl, rfl, w4⟩ := open_int Try.underlying3 (hval 4 3 v4 rfl rfl) h4
  have ha4 := i64_of w4
  refine (walk W CA0 DA0 cd0 dd0 c00 c10 E0 hc0 hd0 hw0 hE0 a1 ha1 IA bs c2 hi hby a3 ha3 a4 ha4).mono fun e W' ⟨he, hb⟩ => ?_
  subst he
  exact ⟨_, rfl, post_law laidOut (by rw [Try.params7]; intro t ht; simp at ht; (first | (rcases ht with rfl | rfl | rfl | rfl | rfl) | (rcases ht with rfl | rfl | rfl | rfl) | (rcases ht with rfl | rfl | rfl) | (rcases ht with rfl | rfl) | subst ht) <;> exact ⟨by kernel_rfl, of_decide_eq_true (by kernel_rfl)⟩) rfl rfl Try.underlying4 rfl hW' hb⟩

theorem over : Rows.machMoreRow.holds Try.pinned (OpenSpec.ofChange Rows.machMoreSpec) :=
  OpenClaim.holds_of_wide 7 Try.f7 rfl rfl rfl rfl rfl rfl rfl ⟨rfl, rfl, rfl, rfl, rfl⟩ rfl rfl rfl rfl rfl (by kernel_rfl) Try.func7 (by kernel_rfl)
    (of_decide_eq_true (by kernel_rfl)) (by unfold Func.isWrapper; first | (rw [if_pos (by decide +kernel)]; kernel_rfl) | (rw [if_neg (by decide +kernel)]; exact ⟨rfl, rfl⟩))
    (fun os started H enc _ => lifted os started H enc)

/-- The statement. -/
theorem proved : Rows.MachMoreSaid :=
  over
#print axioms proved
end Go.Proofs.Ytpokhdnfclmifaa.machMore
