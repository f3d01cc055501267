/-
  For every number the methods of a machine that there is not answer nothing.
-/
import Derived.Test.YtpokhdnfclmifaaRows
import Derived.Test.YtpokhdnfclmifaaLawG
import Derived.Test.YtpokhdnfclmifaaMachG
import Derived.WalkKit
namespace Go.Proofs.Ytpokhdnfclmifaa.machNil
open Go.ChangeShapes Go.WideShapes Go.ChangeAt Go.RowKit
set_option linter.unusedVariables false

/-! ### The walk. -/
theorem run_nil (i : Int) (hi : I64 i) (w : World) : Calls Try.prog 27 #[.pointer none, .int .i64 i] w fun e w' => e = .returned (.agg #[.int .i64 0, .int .i64 0, .slice none 0 0, .int .i64 0]) ∧ Below w.heap.size w w' := by
  have hi2 := hi.2
  clear hi
  go_enter Try.func27, Try.ntmps27
  go_wp2
  go_loopw [5] (fun j wr => j = .int .i64 0 ∧ Below w.heap.size w wr ∧ Blk wr w.heap.size 29 #[.int .i64 0, .int .i64 0, .slice none 0 0, .int .i64 0]) (fun _ _ => 0)
  case atStart => exact ⟨rfl, (Below.refl _ w).alloc (Nat.le_refl _) _, Blk.new _ _ _⟩
  case round =>
    obtain ⟨rfl, hB, hX⟩ := hrel
    obtain ⟨wo, rfl⟩ : ∃ wo : World, wo = wr := ⟨_, rfl⟩
    have HX := Lib.hid hX
    clear hX
    by_cases h0 : 0 < i
    · go_wp2_with fail
      refine (step_nil wo).mono ?_
      rintro e w1 ⟨rfl, hb1⟩
      have HX1 := Lib.hid (HX.out.below hb1 HX.out.lt)
      have hB1 : Below w.heap.size w w1 := hB.trans (hb1.mono hB.size)
      go_wp2_with fail
      refine (outcome_nil w1).mono ?_
      rintro e w2 ⟨rfl, hb2⟩
      have hX2 := HX1.out.below hb2 HX1.out.lt
      have hB2 : Below w.heap.size w w2 := hB1.trans (hb2.mono hB1.size)
      have f0 := hX2.get (i := 0) rfl
      have f1 := hX2.get (i := 1) rfl
      have f2 := hX2.get (i := 2) rfl
      have f3 := hX2.get (i := 3) rfl
      have ff := hX2.frozen
      clear hB hB1 hb1 hb2 hX2
      go_wp2
      exact bodyPost_ret (v := .agg #[.int .i64 0, .int .i64 0, .slice none 0 0, .int .i64 0]) (by simp [results, Try.results27, go_sem, f0, f1, f2, f3]) rfl ⟨rfl, below_four hB2 (Nat.le_refl _) _ _ _ _⟩
    · have d0 : decide (0 < i) = false := by simpa using h0
      go_wp2_with fail
      refine (outcome_nil wo).mono ?_
      rintro e w2 ⟨rfl, hb2⟩
      have hX2 := HX.out.below hb2 HX.out.lt
      have hB2 : Below w.heap.size w w2 := hB.trans (hb2.mono hB.size)
      have f0 := hX2.get (i := 0) rfl
      have f1 := hX2.get (i := 1) rfl
      have f2 := hX2.get (i := 2) rfl
      have f3 := hX2.get (i := 3) rfl
      have ff := hX2.frozen
      clear hB hb2 hX2
      go_wp2
      exact bodyPost_ret (v := .agg #[.int .i64 0, .int .i64 0, .slice none 0 0, .int .i64 0]) (by simp [results, Try.results27, go_sem, f0, f1, f2, f3]) rfl ⟨rfl, below_four hB2 (Nat.le_refl _) _ _ _ _⟩
theorem same_nil (w : World) : Calls Try.prog 15 #[.agg #[.int .i64 0, .int .i64 0, .slice none 0 0, .int .i64 0], .agg #[.int .i64 0, .int .i64 0, .slice none 0 0, .int .i64 0]] w fun e w' => e = .returned (.bool true) ∧ Below w.heap.size w w' :=
  same_yes w 0 0 ⟨0, 0, [], 0⟩ none none 0 0 (World.ownsRow_nil _ _ _ _) (World.ownsRow_nil _ _ _ _)
set_option maxHeartbeats 1000000 in
theorem walk (w : World) (a0 : Int) (ha0 : I64 a0) :
    Calls Try.prog 11 #[.int .i64 a0] w fun e w' => e = .returned (.bool true) ∧ Below w.heap.size w w' := by
  have HI := Lib.hid ha0
  clear ha0
  go_enter Try.func11, Try.ntmps11
  go_wp2_with fail
  refine (step_nil _).mono ?_
  rintro e w1 ⟨rfl, hb1⟩
  go_wp2_with fail
  refine (run_nil a0 HI.out _).mono ?_
  rintro e w2 ⟨rfl, hb2⟩
  have hB2 := below_next' hb1 hb2
  clear hb1 hb2
  go_wp2_with fail
  refine (same_nil _).mono ?_
  rintro e w3 ⟨rfl, hb3⟩
  have hB3 := below_next' hB2 hb3
  clear hB2 hb3
  go_wp2_with fail
  refine (outcome_nil _).mono ?_
  rintro e w4 ⟨rfl, hb4⟩
  have hB4 := below_next' hB3 hb4
  clear hB3 hb4
  go_wp2_with fail
  refine (same_nil _).mono ?_
  rintro e w5 ⟨rfl, hb5⟩
  have hB5 := below_next' hB4 hb5
  clear hB4 hb5
  go_wp2_with (first
    | (go_at_call 20; refine (pc_nil _).mono ?_; rintro e w' ⟨rfl, rfl⟩)
    | (go_at_call 21; refine (reg_nil _ _).mono ?_; rintro e w' ⟨rfl, rfl⟩)
    | (go_at_call 25; refine (mem_nil _ _).mono ?_; rintro e w' ⟨rfl, rfl⟩)
    | (go_at_call 13; refine (awake_any _).mono ?_; rintro e w6 ⟨rfl, hb6⟩))
  go_ret
  exact ⟨rfl, below_next' hB5 hb6⟩

/-! ### The row's step. -/
set_option maxRecDepth 100000 in
theorem lifted (os : Os) (started : os.Started) (H : Type) (enc : TypeId × Value → H) :
    ReturnsInHanded {} Try.checked os 11 .any (Rows.machNilSpec.pre6 enc Try.prog Try.f11 Rows.machNilRow.domain false) (Rows.machNilSpec.post enc Try.prog Try.f11 false true false false) := by
  refine returnsInHanded_of_change (C := Try.checked) own started (by kernel_rfl) Try.func11
    (ChangeSpec.witness6 (enc := enc) (C := Try.checked) false ⟨#[], #[.int .i64 0], []⟩ 8 (by kernel_rfl) (by kernel_rfl) (by kernel_rfl) (by kernel_rfl)) ?_
  intro W base args ds gs before hval0 hW hcnd _
  have hval : ∀ (j : Nat) t v, Try.f11.params[j]? = some t → args[j]? = some v → Value.okWide Try.prog W .any base t v := hval0
  have hW' := hW
  obtain ⟨p, q, hA0, hV, rfl, hfz, hnd⟩ := hW
  have hA : DataW.TrodAll enc Try.prog W 0 (fun _ => true) true Try.f11.params.toList args.toList ds p := hA0
  rw [Try.params11] at hA hval
  obtain ⟨v0, vs0, d0, ds0, p0, q0, hargs, rfl, rfl, h0, r0⟩ := trodAll_cons hA
  obtain ⟨rfl, rfl, rfl⟩ := trodAll_nil r0
  obtain rfl : args = #[v0] := by cases args; simp_all
  obtain ⟨rfl, rfl⟩ := trodVars_none hV
  obtain ⟨a0, rfl, rfl, rfl, w0⟩ := open_int Try.underlying3 (hval 0 3 v0 rfl rfl) h0
  have ha0 := i64_of w0
  refine (walk W a0 ha0).mono fun e W' ⟨he, hb⟩ => ?_
  subst he
  exact ⟨_, rfl, post_law laidOut (by rw [Try.params11]; intro t ht; simp at ht; (first | (rcases ht with rfl | rfl | rfl | rfl | rfl) | (rcases ht with rfl | rfl | rfl | rfl) | (rcases ht with rfl | rfl | rfl) | (rcases ht with rfl | rfl) | subst ht) <;> exact ⟨by kernel_rfl, of_decide_eq_true (by kernel_rfl)⟩) rfl rfl Try.underlying4 rfl hW' hb⟩

theorem over : Rows.machNilRow.holds Try.pinned (OpenSpec.ofChange Rows.machNilSpec) :=
  OpenClaim.holds_of_wide 11 Try.f11 rfl rfl rfl rfl rfl rfl rfl ⟨rfl, rfl, rfl, rfl, rfl⟩ rfl rfl rfl rfl rfl (by kernel_rfl) Try.func11 (by kernel_rfl)
    (of_decide_eq_true (by kernel_rfl)) (by unfold Func.isWrapper; first | (rw [if_pos (by decide +kernel)]; kernel_rfl) | (rw [if_neg (by decide +kernel)]; exact ⟨rfl, rfl⟩))
    (fun os started H enc _ => lifted os started H enc)

/-- The statement. -/
theorem proved : Rows.MachNilSaid :=
  over
#print axioms proved
end Go.Proofs.Ytpokhdnfclmifaa.machNil
