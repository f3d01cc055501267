/-
  KindsThrough: what fits an interface, fits each one whose methods it has. No condition.
-/
import Derived.Test.YtcfgjfahjaimiaaRows
import Derived.Test.YtcfgjfahjaimiaaRow7
import Derived.Test.YtcfgjfahjaimiaaUn
import Derived.Test.YtcfgjfahjaimiaaFtL
namespace Go.Proofs.Ytcfgjfahjaimiaa.kindsThrough
open Go.ChangeShapes Go.WideShapes Go.ChangeAt Go.RowKit
set_option linter.unusedVariables false
set_option linter.unusedSimpArgs false

set_option maxRecDepth 100000 in
theorem lifted (os : Os) (started : os.Started) (H : Type) (enc : TypeId × Value → H) :
    ReturnsInHanded {} Try.checked os 5 .any (Rows.kindsThroughSpec.pre6 enc Try.prog Try.f5 Rows.kindsThroughRow.domain false) (Rows.kindsThroughSpec.post enc Try.prog Try.f5 false true false false) := by
  refine returnsInHanded_of_change_sized (C := Try.checked) own started (by kernel_rfl) Try.func5
    (ChangeSpec.witness6 (enc := enc) (C := Try.checked) false ⟨#[], #[.slice none 0 0, .slice none 0 0, .agg #[.int .i64 0, .string ⟨#[]⟩, .string ⟨#[]⟩, .slice none 0 0, .slice none 0 0], .agg #[.int .i64 0, .string ⟨#[]⟩, .string ⟨#[]⟩, .slice none 0 0, .slice none 0 0], .agg #[.int .i64 0, .string ⟨#[]⟩, .string ⟨#[]⟩, .slice none 0 0, .slice none 0 0]], []⟩ 8 (by kernel_rfl) (by kernel_rfl) (by kernel_rfl) (by kernel_rfl)) ?_
  intro W base args ds gs before hval0 hW hcnd hz _
  have hval : ∀ (j : Nat) t v, Try.f5.params[j]? = some t → args[j]? = some v → Value.okWide Try.prog W .any base t v := hval0
  have hW' := hW
  obtain ⟨p, q, hA0, hV, rfl, hfz, hnd⟩ := hW
  have hA : DataW.TrodAll enc Try.prog W 0 (fun _ => true) true Try.f5.params.toList args.toList ds p := hA0
  rw [Try.params5] at hA hval
  obtain ⟨v0, vs0, d0, ds0, p0, q0, hargs, rfl, rfl, h0, r0⟩ := trodAll_cons hA
  obtain ⟨v1, vs1, d1, ds1, p1, q1, rfl, rfl, rfl, h1, r1⟩ := trodAll_cons r0
  obtain ⟨v2, vs2, d2, ds2, p2, q2, rfl, rfl, rfl, h2, r2⟩ := trodAll_cons r1
  obtain ⟨v3, vs3, d3, ds3, p3, q3, rfl, rfl, rfl, h3, r3⟩ := trodAll_cons r2
  obtain ⟨v4, vs4, d4, ds4, p4, q4, rfl, rfl, rfl, h4, r4⟩ := trodAll_cons r3
  obtain ⟨rfl, rfl, rfl⟩ := trodAll_nil r4
  obtain rfl : args = #[v0, v1, v2, v3, v4] := by cases args; simp_all
  obtain ⟨rfl, rfl⟩ := trodVars_none hV
  obtain ⟨A0, l0, c0, rfl, hr0, hm0⟩ := open_unsv (hval 0 22 v0 rfl rfl) h0
  have hx0 := hm0 _ (sized_all hz (j := 0) (t := 22) (d := d0) (by rw [Try.params5]; rfl) rfl)
  obtain ⟨A1, l1, c1, rfl, hr1, hm1⟩ := open_fisv (hval 1 23 v1 rfl rfl) h1
  have hx1 := hm1 _ (sized_all hz (j := 1) (t := 23) (d := d1) (by rw [Try.params5]; rfl) rfl)
  obtain ⟨t2, us2, rfl, hr2, _, _, hm2⟩ := open_tyv (hval 2 26 v2 rfl rfl) h2
  have hx2 := hm2 _ (sized_all hz (j := 2) (t := 26) (d := d2) (by rw [Try.params5]; rfl) rfl)
  obtain ⟨t3, us3, rfl, hr3, _, _, hm3⟩ := open_tyv (hval 3 26 v3 rfl rfl) h3
  have hx3 := hm3 _ (sized_all hz (j := 3) (t := 26) (d := d3) (by rw [Try.params5]; rfl) rfl)
  obtain ⟨t4, us4, rfl, hr4, _, _, hm4⟩ := open_tyv (hval 4 26 v4 rfl rfl) h4
  have hx4 := hm4 _ (sized_all hz (j := 4) (t := 26) (d := d4) (by rw [Try.params5]; rfl) rfl)
  refine (kthru_any l0 hx0.2 hx0.1 l1 hx1.1 t2 t3 t4 W _ _ _ _ _ A0 A1 c0 c1 us2 us3 us4 hr0 hr1 hr2 hr3 hr4).mono fun e W' ⟨he, hb⟩ => ?_
  subst he
  exact ⟨_, rfl, post_law laidOut (by rw [Try.params5]; intro t ht; simp at ht; (first | (rcases ht with rfl | rfl | rfl | rfl | rfl) | (rcases ht with rfl | rfl | rfl | rfl) | (rcases ht with rfl | rfl | rfl) | (rcases ht with rfl | rfl) | subst ht) <;> exact ⟨by kernel_rfl, of_decide_eq_true (by kernel_rfl)⟩) rfl rfl Try.underlying4 rfl hW' hb⟩

theorem over : Rows.kindsThroughRow.holds Try.pinned (OpenSpec.ofChange Rows.kindsThroughSpec) :=
  OpenClaim.holds_of_wide 5 Try.f5 rfl rfl rfl rfl rfl rfl rfl ⟨rfl, rfl, rfl, rfl, rfl⟩ rfl rfl rfl rfl rfl (by kernel_rfl) Try.func5 (by kernel_rfl)
    (of_decide_eq_true (by kernel_rfl)) (by unfold Func.isWrapper; first | (rw [if_pos (by decide +kernel)]; kernel_rfl) | (rw [if_neg (by decide +kernel)]; exact ⟨rfl, rfl⟩))
    (fun os started H enc _ => lifted os started H enc)

/-- The statement. -/
theorem proved : Rows.KindsThroughSaid :=
  over
end Go.Proofs.Ytcfgjfahjaimiaa.kindsThrough
