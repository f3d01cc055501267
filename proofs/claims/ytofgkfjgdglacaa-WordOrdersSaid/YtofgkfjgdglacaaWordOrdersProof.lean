/-
  For any two words just one of Lt, Eq, Gt of the program holds, Ge, Ne, Le are those turned round, and Lt with the words exchanged is Gt; no condition.
-/
import Derived.Test.YtofgkfjgdglacaaRows
import Derived.WalkKit
import Derived.ProofKit
import Derived.OpenShut
import Derived.Test.YtofgkfjgdglacaaWordA
import Derived.Test.YtofgkfjgdglacaaWordB
namespace Go.Proofs.Ytofgkfjgdglacaa.wordOrders
open Go.ChangeShapes Go.WideShapes Go.ChangeAt Go.RowKit
set_option linter.unusedVariables false      -- a walk need not use every 'w<i>' (that an integer argument fits its kind)

theorem own : ownKnob Try.prog.godebug = none := by kernel_rfl

/-! ### The walk. -/
set_option maxHeartbeats 1000000 in
theorem walk (a0 : Int) (a1 : Int) (w0 : (Lit.int .i64 a0).wf = true) (w1 : (Lit.int .i64 a1).wf = true) (w : World) :
    Calls Try.prog 6 #[.int .i64 a0, .int .i64 a1] w fun e w' => e = .returned (.bool true) ∧ Grown w w' := by
  clear w0 w1
  have hcase : a0 < a1 ∨ a0 = a1 ∨ a1 < a0 := by omega
  rcases hcase with h1 | h1 | h1
  · have hne : (a0 == a1) = false := by rw [beq_eq_false_iff_ne]; omega
    have b13 : ∀ w, Calls Try.prog 9 #[.int .i64 13, .int .i64 a0, .int .i64 a1] w fun e w' => e = .returned (.tuple #[.int .i64 1, .int .i64 0]) ∧ w = w' := fun w => by
      have h := bin_any 13 a0 a1 w; have hv : V 13 a0 a1 = 1 := by simp [V, oneOf]; try omega
      rw [hv] at h; exact h
    have b11 : ∀ w, Calls Try.prog 9 #[.int .i64 11, .int .i64 a0, .int .i64 a1] w fun e w' => e = .returned (.tuple #[.int .i64 0, .int .i64 0]) ∧ w = w' := fun w => by
      have h := bin_any 11 a0 a1 w; have hv : V 11 a0 a1 = 0 := by simp [V, oneOf]; try omega
      rw [hv] at h; exact h
    have b15 : ∀ w, Calls Try.prog 9 #[.int .i64 15, .int .i64 a0, .int .i64 a1] w fun e w' => e = .returned (.tuple #[.int .i64 0, .int .i64 0]) ∧ w = w' := fun w => by
      have h := bin_any 15 a0 a1 w; have hv : V 15 a0 a1 = 0 := by simp [V, oneOf]; try omega
      rw [hv] at h; exact h
    have b16 : ∀ w, Calls Try.prog 9 #[.int .i64 16, .int .i64 a0, .int .i64 a1] w fun e w' => e = .returned (.tuple #[.int .i64 0, .int .i64 0]) ∧ w = w' := fun w => by
      have h := bin_any 16 a0 a1 w; have hv : V 16 a0 a1 = 0 := by simp [V, oneOf]; try omega
      rw [hv] at h; exact h
    have b12 : ∀ w, Calls Try.prog 9 #[.int .i64 12, .int .i64 a0, .int .i64 a1] w fun e w' => e = .returned (.tuple #[.int .i64 1, .int .i64 0]) ∧ w = w' := fun w => by
      have h := bin_any 12 a0 a1 w; have hv : V 12 a0 a1 = 1 := by simp [V, oneOf]; try omega
      rw [hv] at h; exact h
    have b14 : ∀ w, Calls Try.prog 9 #[.int .i64 14, .int .i64 a0, .int .i64 a1] w fun e w' => e = .returned (.tuple #[.int .i64 1, .int .i64 0]) ∧ w = w' := fun w => by
      have h := bin_any 14 a0 a1 w; have hv : V 14 a0 a1 = 1 := by simp [V, oneOf]; try omega
      rw [hv] at h; exact h
    have c13 : ∀ w, Calls Try.prog 9 #[.int .i64 13, .int .i64 a1, .int .i64 a0] w fun e w' => e = .returned (.tuple #[.int .i64 0, .int .i64 0]) ∧ w = w' := fun w => by
      have h := bin_any 13 a1 a0 w; have hv : V 13 a1 a0 = 0 := by simp [V, oneOf]; try omega
      rw [hv] at h; exact h
    go_enter Try.func6, Try.ntmps6
    go_wp2_with (first | (go_at_call 9; ((with_reducible refine (b13 _).mono ?_); rintro e w' ⟨rfl, rfl⟩)) | (go_at_call 9; ((with_reducible refine (b11 _).mono ?_); rintro e w' ⟨rfl, rfl⟩)) | (go_at_call 9; ((with_reducible refine (b15 _).mono ?_); rintro e w' ⟨rfl, rfl⟩)) | (go_at_call 9; ((with_reducible refine (b16 _).mono ?_); rintro e w' ⟨rfl, rfl⟩)) | (go_at_call 9; ((with_reducible refine (b12 _).mono ?_); rintro e w' ⟨rfl, rfl⟩)) | (go_at_call 9; ((with_reducible refine (b14 _).mono ?_); rintro e w' ⟨rfl, rfl⟩)) | (go_at_call 9; ((with_reducible refine (c13 _).mono ?_); rintro e w' ⟨rfl, rfl⟩)))
    go_ret
    exact ⟨rfl, Grown.refl _⟩
  · subst h1
    have b13 : ∀ w, Calls Try.prog 9 #[.int .i64 13, .int .i64 a0, .int .i64 a0] w fun e w' => e = .returned (.tuple #[.int .i64 0, .int .i64 0]) ∧ w = w' := fun w => by
      have h := bin_any 13 a0 a0 w; have hv : V 13 a0 a0 = 0 := by simp [V, oneOf]; try omega
      rw [hv] at h; exact h
    have b11 : ∀ w, Calls Try.prog 9 #[.int .i64 11, .int .i64 a0, .int .i64 a0] w fun e w' => e = .returned (.tuple #[.int .i64 1, .int .i64 0]) ∧ w = w' := fun w => by
      have h := bin_any 11 a0 a0 w; have hv : V 11 a0 a0 = 1 := by simp [V, oneOf]; try omega
      rw [hv] at h; exact h
    have b15 : ∀ w, Calls Try.prog 9 #[.int .i64 15, .int .i64 a0, .int .i64 a0] w fun e w' => e = .returned (.tuple #[.int .i64 0, .int .i64 0]) ∧ w = w' := fun w => by
      have h := bin_any 15 a0 a0 w; have hv : V 15 a0 a0 = 0 := by simp [V, oneOf]; try omega
      rw [hv] at h; exact h
    have b16 : ∀ w, Calls Try.prog 9 #[.int .i64 16, .int .i64 a0, .int .i64 a0] w fun e w' => e = .returned (.tuple #[.int .i64 1, .int .i64 0]) ∧ w = w' := fun w => by
      have h := bin_any 16 a0 a0 w; have hv : V 16 a0 a0 = 1 := by simp [V, oneOf]; try omega
      rw [hv] at h; exact h
    have b12 : ∀ w, Calls Try.prog 9 #[.int .i64 12, .int .i64 a0, .int .i64 a0] w fun e w' => e = .returned (.tuple #[.int .i64 0, .int .i64 0]) ∧ w = w' := fun w => by
      have h := bin_any 12 a0 a0 w; have hv : V 12 a0 a0 = 0 := by simp [V, oneOf]; try omega
      rw [hv] at h; exact h
    have b14 : ∀ w, Calls Try.prog 9 #[.int .i64 14, .int .i64 a0, .int .i64 a0] w fun e w' => e = .returned (.tuple #[.int .i64 1, .int .i64 0]) ∧ w = w' := fun w => by
      have h := bin_any 14 a0 a0 w; have hv : V 14 a0 a0 = 1 := by simp [V, oneOf]; try omega
      rw [hv] at h; exact h
    have c13 : ∀ w, Calls Try.prog 9 #[.int .i64 13, .int .i64 a0, .int .i64 a0] w fun e w' => e = .returned (.tuple #[.int .i64 0, .int .i64 0]) ∧ w = w' := fun w => by
      have h := bin_any 13 a0 a0 w; have hv : V 13 a0 a0 = 0 := by simp [V, oneOf]; try omega
      rw [hv] at h; exact h
    go_enter Try.func6, Try.ntmps6
    go_wp2_with (first | (go_at_call 9; ((with_reducible refine (b13 _).mono ?_); rintro e w' ⟨rfl, rfl⟩)) | (go_at_call 9; ((with_reducible refine (b11 _).mono ?_); rintro e w' ⟨rfl, rfl⟩)) | (go_at_call 9; ((with_reducible refine (b15 _).mono ?_); rintro e w' ⟨rfl, rfl⟩)) | (go_at_call 9; ((with_reducible refine (b16 _).mono ?_); rintro e w' ⟨rfl, rfl⟩)) | (go_at_call 9; ((with_reducible refine (b12 _).mono ?_); rintro e w' ⟨rfl, rfl⟩)) | (go_at_call 9; ((with_reducible refine (b14 _).mono ?_); rintro e w' ⟨rfl, rfl⟩)) | (go_at_call 9; ((with_reducible refine (c13 _).mono ?_); rintro e w' ⟨rfl, rfl⟩)))
    go_ret
    exact ⟨rfl, Grown.refl _⟩
  · have hne : (a0 == a1) = false := by rw [beq_eq_false_iff_ne]; omega
    have b13 : ∀ w, Calls Try.prog 9 #[.int .i64 13, .int .i64 a0, .int .i64 a1] w fun e w' => e = .returned (.tuple #[.int .i64 0, .int .i64 0]) ∧ w = w' := fun w => by
      have h := bin_any 13 a0 a1 w; have hv : V 13 a0 a1 = 0 := by simp [V, oneOf]; try omega
      rw [hv] at h; exact h
    have b11 : ∀ w, Calls Try.prog 9 #[.int .i64 11, .int .i64 a0, .int .i64 a1] w fun e w' => e = .returned (.tuple #[.int .i64 0, .int .i64 0]) ∧ w = w' := fun w => by
      have h := bin_any 11 a0 a1 w; have hv : V 11 a0 a1 = 0 := by simp [V, oneOf]; try omega
      rw [hv] at h; exact h
    have b15 : ∀ w, Calls Try.prog 9 #[.int .i64 15, .int .i64 a0, .int .i64 a1] w fun e w' => e = .returned (.tuple #[.int .i64 1, .int .i64 0]) ∧ w = w' := fun w => by
      have h := bin_any 15 a0 a1 w; have hv : V 15 a0 a1 = 1 := by simp [V, oneOf]; try omega
      rw [hv] at h; exact h
    have b16 : ∀ w, Calls Try.prog 9 #[.int .i64 16, .int .i64 a0, .int .i64 a1] w fun e w' => e = .returned (.tuple #[.int .i64 1, .int .i64 0]) ∧ w = w' := fun w => by
      have h := bin_any 16 a0 a1 w; have hv : V 16 a0 a1 = 1 := by simp [V, oneOf]; try omega
      rw [hv] at h; exact h
    have b12 : ∀ w, Calls Try.prog 9 #[.int .i64 12, .int .i64 a0, .int .i64 a1] w fun e w' => e = .returned (.tuple #[.int .i64 1, .int .i64 0]) ∧ w = w' := fun w => by
      have h := bin_any 12 a0 a1 w; have hv : V 12 a0 a1 = 1 := by simp [V, oneOf]; try omega
      rw [hv] at h; exact h
    have b14 : ∀ w, Calls Try.prog 9 #[.int .i64 14, .int .i64 a0, .int .i64 a1] w fun e w' => e = .returned (.tuple #[.int .i64 0, .int .i64 0]) ∧ w = w' := fun w => by
      have h := bin_any 14 a0 a1 w; have hv : V 14 a0 a1 = 0 := by simp [V, oneOf]; try omega
      rw [hv] at h; exact h
    have c13 : ∀ w, Calls Try.prog 9 #[.int .i64 13, .int .i64 a1, .int .i64 a0] w fun e w' => e = .returned (.tuple #[.int .i64 1, .int .i64 0]) ∧ w = w' := fun w => by
      have h := bin_any 13 a1 a0 w; have hv : V 13 a1 a0 = 1 := by simp [V, oneOf]; try omega
      rw [hv] at h; exact h
    go_enter Try.func6, Try.ntmps6
    go_wp2_with (first | (go_at_call 9; ((with_reducible refine (b13 _).mono ?_); rintro e w' ⟨rfl, rfl⟩)) | (go_at_call 9; ((with_reducible refine (b11 _).mono ?_); rintro e w' ⟨rfl, rfl⟩)) | (go_at_call 9; ((with_reducible refine (b15 _).mono ?_); rintro e w' ⟨rfl, rfl⟩)) | (go_at_call 9; ((with_reducible refine (b16 _).mono ?_); rintro e w' ⟨rfl, rfl⟩)) | (go_at_call 9; ((with_reducible refine (b12 _).mono ?_); rintro e w' ⟨rfl, rfl⟩)) | (go_at_call 9; ((with_reducible refine (b14 _).mono ?_); rintro e w' ⟨rfl, rfl⟩)) | (go_at_call 9; ((with_reducible refine (c13 _).mono ?_); rintro e w' ⟨rfl, rfl⟩)))
    go_ret
    exact ⟨rfl, Grown.refl _⟩

/-! ### The row's step. -/
set_option maxRecDepth 100000 in
theorem lifted (os : Os) (started : os.Started) (H : Type) (enc : TypeId × Value → H) :
    ReturnsInHanded {} Try.checked os 6 .any (Rows.wordOrdersSpec.pre6 enc Try.prog Try.f6 Rows.wordOrdersRow.domain false) (Rows.wordOrdersSpec.post enc Try.prog Try.f6 false true false false) := by
  refine returnsInHanded_of_change (C := Try.checked) own started (by kernel_rfl) Try.func6
    (ChangeSpec.witness6 (enc := enc) (C := Try.checked) false ⟨#[], #[.int .i64 0, .int .i64 0], []⟩ 8 (by kernel_rfl) (by kernel_rfl) (by kernel_rfl) (by kernel_rfl)) ?_
  intro W base args ds gs before hval0 hW hcnd _
  have hval : ∀ (j : Nat) t v, Try.f6.params[j]? = some t → args[j]? = some v → Value.okWide Try.prog W .any base t v := hval0
  have hW' := hW
  obtain ⟨p, q, hA0, hV, rfl, hfz, hnd⟩ := hW
  have hA : DataW.TrodAll enc Try.prog W 0 (fun _ => true) true Try.f6.params.toList args.toList ds p := hA0
  rw [Try.params6] at hA hval
  obtain ⟨v0, vs0, d0, ds0, p0, q0, hargs, rfl, rfl, h0, r0⟩ := trodAll_cons hA
  obtain ⟨v1, vs1, d1, ds1, p1, q1, rfl, rfl, rfl, h1, r1⟩ := trodAll_cons r0
  obtain ⟨rfl, rfl, rfl⟩ := trodAll_nil r1
  obtain rfl : args = #[v0, v1] := by cases args; simp_all
  obtain ⟨rfl, rfl⟩ := trodVars_none hV
  obtain ⟨a0, rfl, rfl, rfl, w0⟩ := open_int Try.underlying2 (hval 0 2 v0 rfl rfl) h0
  obtain ⟨a1, rfl, rfl, rfl, w1⟩ := open_int Try.underlying2 (hval 1 2 v1 rfl rfl) h1
  clear hA0 hval0
  simp only [List.append_nil] at hW'
  refine (walk a0 a1 w0 w1 W).mono fun e W' ⟨he, hg⟩ => ?_
  subst he
  exact ⟨_, rfl, post_of_same (pa := []) (pv := []) hW' (fun _ _ _ => (trodAll_cons_mk (shut_bool Try.underlying4 _) trodAll_mk0)) (fun sp _ => (trodAll_cons_mk (shut_int Try.underlying2 w0) (trodAll_cons_mk (shut_int Try.underlying2 w1) trodAll_mk0))) (fun _ _ => rfl) rfl
    (hg.frame _) hg.2.1 (ok_one (by kernel_rfl) rfl (okWide_bool_mk Try.underlying4 _))⟩

theorem over : Rows.wordOrdersRow.holds Try.pinned (OpenSpec.ofChange Rows.wordOrdersSpec) :=
  OpenClaim.holds_of_wide 6 Try.f6 rfl rfl rfl rfl rfl rfl rfl ⟨rfl, rfl, rfl, rfl, rfl⟩ rfl rfl rfl rfl rfl (by kernel_rfl) Try.func6 (by kernel_rfl)
    (of_decide_eq_true (by kernel_rfl)) (by unfold Func.isWrapper; first | (rw [if_pos (by decide +kernel)]; kernel_rfl) | (rw [if_neg (by decide +kernel)]; exact ⟨rfl, rfl⟩))
    (fun os started H enc _ => lifted os started H enc)

/-- The statement. -/
theorem proved : Rows.WordOrdersSaid :=
  over
#print axioms proved
end Go.Proofs.Ytofgkfjgdglacaa.wordOrders
