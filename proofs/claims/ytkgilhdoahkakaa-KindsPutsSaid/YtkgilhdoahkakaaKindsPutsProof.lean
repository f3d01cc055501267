/-
  KindsPuts: types in the place of variables are the document's; what was handed in stays (7.4).
-/
import Derived.Test.YtkgilhdoahkakaaRows
import Derived.Test.YtkgilhdoahkakaaRow7
import Derived.Test.YtkgilhdoahkakaaKPut
namespace Go.Proofs.Ytkgilhdoahkakaa.kindsPuts
open Go.ChangeShapes Go.WideShapes Go.ChangeAt Go.RowKit
set_option linter.unusedVariables false
set_option linter.unusedSimpArgs false

set_option maxRecDepth 100000 in
theorem lifted (os : Os) (started : os.Started) (H : Type) (enc : TypeId × Value → H) :
    ReturnsInHanded {} Try.checked os 7 .any (Rows.kindsPutsSpec.pre6 enc Try.prog Try.f7 Rows.kindsPutsRow.domain false) (Rows.kindsPutsSpec.post enc Try.prog Try.f7 false true false false) := by
  refine returnsInHanded_of_change_sized (C := Try.checked) own started (by kernel_rfl) Try.func7
    (ChangeSpec.witness6 (enc := enc) (C := Try.checked) false ⟨#[], #[.agg #[.int .i64 0, .string ⟨#[]⟩, .string ⟨#[]⟩, .slice none 0 0, .slice none 0 0], .slice none 0 0, .slice none 0 0], []⟩ 8 (by kernel_rfl) (by kernel_rfl) (by kernel_rfl) (by kernel_rfl)) ?_
  intro W base args ds gs before hval0 hW hcnd hz _
  have hval : ∀ (j : Nat) t v, Try.f7.params[j]? = some t → args[j]? = some v → Value.okWide Try.prog W .any base t v := hval0
  have hW' := hW
  obtain ⟨p, q, hA0, hV, rfl, hfz, hnd⟩ := hW
  have hA : DataW.TrodAll enc Try.prog W 0 (fun _ => true) true Try.f7.params.toList args.toList ds p := hA0
  rw [Try.params7] at hA hval
  obtain ⟨v0, vs0, d0, ds0, p0, q0, hargs, rfl, rfl, h0, r0⟩ := trodAll_cons hA
  obtain ⟨v1, vs1, d1, ds1, p1, q1, rfl, rfl, rfl, h1, r1⟩ := trodAll_cons r0
  obtain ⟨v2, vs2, d2, ds2, p2, q2, rfl, rfl, rfl, h2, r2⟩ := trodAll_cons r1
  obtain ⟨rfl, rfl, rfl⟩ := trodAll_nil r2
  obtain rfl : args = #[v0, v1, v2] := by cases args; simp_all
  obtain ⟨rfl, rfl⟩ := trodVars_none hV
  obtain ⟨t0, us0, rfl, hr0, _, _, hm0⟩ := open_tyv (hval 0 24 v0 rfl rfl) h0
  have hx0 := hm0 _ (sized_all hz (j := 0) (t := 24) (d := d0) (by rw [Try.params7]; rfl) rfl)
  obtain ⟨A1, l1, c1, rfl, hr1, hm1⟩ := open_strsv (hval 1 44 v1 rfl rfl) h1
  have hx1 := hm1 _ (sized_all hz (j := 1) (t := 44) (d := d1) (by rw [Try.params7]; rfl) rfl)
  obtain ⟨A2, l2, c2, rfl, hr2, _, _, _, hm2⟩ := open_tysv (hval 2 22 v2 rfl rfl) h2
  have hx2 := hm2 _ (sized_all hz (j := 2) (t := 22) (d := d2) (by rw [Try.params7]; rfl) rfl)
  refine (kputs_any t0 l1 l2 hx0 hx2.1 hx2.2 hx1 W _ _ _ us0 A1 A2 c1 c2 hr0 hr1 hr2).mono fun e W' ⟨he, hb⟩ => ?_
  subst he
  exact ⟨_, rfl, post_law laidOut (by rw [Try.params7]; intro t ht; simp at ht; (first | (rcases ht with rfl | rfl | rfl | rfl | rfl) | (rcases ht with rfl | rfl | rfl | rfl) | (rcases ht with rfl | rfl | rfl) | (rcases ht with rfl | rfl) | subst ht) <;> exact ⟨by kernel_rfl, of_decide_eq_true (by kernel_rfl)⟩) rfl rfl Try.underlying4 rfl hW' hb⟩

theorem over : Rows.kindsPutsRow.holds Try.pinned (OpenSpec.ofChange Rows.kindsPutsSpec) :=
  OpenClaim.holds_of_wide 7 Try.f7 rfl rfl rfl rfl rfl rfl rfl ⟨rfl, rfl, rfl, rfl, rfl⟩ rfl rfl rfl rfl rfl (by kernel_rfl) Try.func7 (by kernel_rfl)
    (of_decide_eq_true (by kernel_rfl)) (by unfold Func.isWrapper; first | (rw [if_pos (by decide +kernel)]; kernel_rfl) | (rw [if_neg (by decide +kernel)]; exact ⟨rfl, rfl⟩))
    (fun os started H enc _ => lifted os started H enc)

/-- The statement. -/
theorem proved : Rows.KindsPutsSaid :=
  over
end Go.Proofs.Ytkgilhdoahkakaa.kindsPuts
