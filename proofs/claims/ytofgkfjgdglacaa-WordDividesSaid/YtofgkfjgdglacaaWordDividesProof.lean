/-
  For any two words a and b, Div and Rem of the program fit together: b times the quotient plus the rest is a in 64 bits, the rest has a's sign and is nearer to 0 than b where b is not the least number, and by 0 both answer 0 and 3; no condition.
-/
import Derived.Test.YtofgkfjgdglacaaRows
import Derived.WalkKit
import Derived.ProofKit
import Derived.OpenShut
import Derived.Test.YtofgkfjgdglacaaWordA
import Derived.Test.YtofgkfjgdglacaaWordB
namespace Go.Proofs.Ytofgkfjgdglacaa.wordDivides
open Go.ChangeShapes Go.WideShapes Go.ChangeAt Go.RowKit
set_option linter.unusedVariables false      -- a walk need not use every 'w<i>' (that an integer argument fits its kind)

theorem own : ownKnob Try.prog.godebug = none := by kernel_rfl

/-! ### The walk. -/
set_option maxHeartbeats 1000000 in
theorem walk (a0 : Int) (a1 : Int) (w0 : (Lit.int .i64 a0).wf = true) (w1 : (Lit.int .i64 a1).wf = true) (w : World) :
    Calls Try.prog 5 #[.int .i64 a0, .int .i64 a1] w fun e w' => e = .returned (.bool true) ∧ Grown w w' := by
  obtain ⟨la, ua⟩ := wf64 w0
  obtain ⟨lb, ub⟩ := wf64 w1
  clear w0 w1
  by_cases hb : a1 = 0
  · subst hb
    have b4 : ∀ w, Calls Try.prog 9 #[.int .i64 4, .int .i64 a0, .int .i64 0] w fun e w' => e = .returned (.tuple #[.int .i64 0, .int .i64 3]) ∧ w = w' := fun w => by
      have h := bin_any 4 a0 0 w; simpa [V, C] using h
    have b5 : ∀ w, Calls Try.prog 9 #[.int .i64 5, .int .i64 a0, .int .i64 0] w fun e w' => e = .returned (.tuple #[.int .i64 0, .int .i64 3]) ∧ w = w' := fun w => by
      have h := bin_any 5 a0 0 w; simpa [V, C] using h
    go_enter Try.func5, Try.ntmps5
    go_wp2_with (first | (go_at_call 9; ((with_reducible refine (b4 _).mono ?_); rintro e w' ⟨rfl, rfl⟩)) | (go_at_call 9; ((with_reducible refine (b5 _).mono ?_); rintro e w' ⟨rfl, rfl⟩)))
    go_ret
    exact ⟨rfl, Grown.refl _⟩
  · obtain ⟨q, hq⟩ : ∃ q, q = wrap64 (a0.tdiv a1) := ⟨_, rfl⟩
    obtain ⟨r, hr⟩ : ∃ r, r = a0.tmod a1 := ⟨_, rfl⟩
    have b4 : ∀ w, Calls Try.prog 9 #[.int .i64 4, .int .i64 a0, .int .i64 a1] w fun e w' => e = .returned (.tuple #[.int .i64 q, .int .i64 0]) ∧ w = w' := fun w => by
      have h := bin_any 4 a0 a1 w; simpa [V, C, hb, ← hq] using h
    have b5 : ∀ w, Calls Try.prog 9 #[.int .i64 5, .int .i64 a0, .int .i64 a1] w fun e w' => e = .returned (.tuple #[.int .i64 r, .int .i64 0]) ∧ w = w' := fun w => by
      have h := bin_any 5 a0 a1 w; simpa [V, C, hb, ← hr] using h
    have hback : (wrap64 (wrap64 (q * a1) + r) != a0) = false := by
      rw [hq, hr, div_back a0 a1 la ua]; simp
    obtain ⟨s1, s2⟩ := tmod_sign a0 a1
    obtain ⟨l1, l2⟩ := tmod_lt a0 a1 hb
    rw [← hr] at s1 s2 l1 l2
    have hb' : (a1 == 0) = false := by simpa using hb
    clear hq hr
    have hcase : (r < 0 ∧ a0 < 0) ∨ r = 0 ∨ (0 < r ∧ 0 < a0) := by omega
    clear s1 s2
    by_cases hm : a1 = -9223372036854775808
    · subst hm
      clear l1 l2
      rcases hcase with ⟨c1, c2⟩ | c1 | ⟨c1, c2⟩
      · go_enter Try.func5, Try.ntmps5
        go_wp2_with (first | (go_at_call 9; ((with_reducible refine (b4 _).mono ?_); rintro e w' ⟨rfl, rfl⟩)) | (go_at_call 9; ((with_reducible refine (b5 _).mono ?_); rintro e w' ⟨rfl, rfl⟩)))
        go_ret
        exact ⟨rfl, Grown.refl _⟩
      · have n1 : 0 ≤ r := by omega
        have n2 : r ≤ 0 := by omega
        clear c1
        go_enter Try.func5, Try.ntmps5
        go_wp2_with (first | (go_at_call 9; ((with_reducible refine (b4 _).mono ?_); rintro e w' ⟨rfl, rfl⟩)) | (go_at_call 9; ((with_reducible refine (b5 _).mono ?_); rintro e w' ⟨rfl, rfl⟩)))
        go_ret
        exact ⟨rfl, Grown.refl _⟩
      · go_enter Try.func5, Try.ntmps5
        go_wp2_with (first | (go_at_call 9; ((with_reducible refine (b4 _).mono ?_); rintro e w' ⟨rfl, rfl⟩)) | (go_at_call 9; ((with_reducible refine (b5 _).mono ?_); rintro e w' ⟨rfl, rfl⟩)))
        go_ret
        exact ⟨rfl, Grown.refl _⟩
    · have hm' : (a1 == -9223372036854775808) = false := by simpa using hm
      have lb' : -9223372036854775807 ≤ a1 := by omega
      clear lb hm
      by_cases hs : a1 < 0
      · have k1 : r < -a1 := by omega
        have k2 : a1 < r := by omega
        clear l1 l2
        rcases hcase with ⟨c1, c2⟩ | c1 | ⟨c1, c2⟩
        · go_enter Try.func5, Try.ntmps5
          go_wp2_with (first | (go_at_call 9; ((with_reducible refine (b4 _).mono ?_); rintro e w' ⟨rfl, rfl⟩)) | (go_at_call 9; ((with_reducible refine (b5 _).mono ?_); rintro e w' ⟨rfl, rfl⟩)))
          go_ret
          exact ⟨rfl, Grown.refl _⟩
        · have n1 : 0 ≤ r := by omega
          have n2 : r ≤ 0 := by omega
          clear c1
          go_enter Try.func5, Try.ntmps5
          go_wp2_with (first | (go_at_call 9; ((with_reducible refine (b4 _).mono ?_); rintro e w' ⟨rfl, rfl⟩)) | (go_at_call 9; ((with_reducible refine (b5 _).mono ?_); rintro e w' ⟨rfl, rfl⟩)))
          go_ret
          exact ⟨rfl, Grown.refl _⟩
        · go_enter Try.func5, Try.ntmps5
          go_wp2_with (first | (go_at_call 9; ((with_reducible refine (b4 _).mono ?_); rintro e w' ⟨rfl, rfl⟩)) | (go_at_call 9; ((with_reducible refine (b5 _).mono ?_); rintro e w' ⟨rfl, rfl⟩)))
          go_ret
          exact ⟨rfl, Grown.refl _⟩
      · have k1 : -a1 < r := by omega
        have k2 : r < a1 := by omega
        clear l1 l2
        rcases hcase with ⟨c1, c2⟩ | c1 | ⟨c1, c2⟩
        · go_enter Try.func5, Try.ntmps5
          go_wp2_with (first | (go_at_call 9; ((with_reducible refine (b4 _).mono ?_); rintro e w' ⟨rfl, rfl⟩)) | (go_at_call 9; ((with_reducible refine (b5 _).mono ?_); rintro e w' ⟨rfl, rfl⟩)))
          go_ret
          exact ⟨rfl, Grown.refl _⟩
        · have n1 : 0 ≤ r := by omega
          have n2 : r ≤ 0 := by omega
          clear c1
          go_enter Try.func5, Try.ntmps5
          go_wp2_with (first | (go_at_call 9; ((with_reducible refine (b4 _).mono ?_); rintro e w' ⟨rfl, rfl⟩)) | (go_at_call 9; ((with_reducible refine (b5 _).mono ?_); rintro e w' ⟨rfl, rfl⟩)))
          go_ret
          exact ⟨rfl, Grown.refl _⟩
        · go_enter Try.func5, Try.ntmps5
          go_wp2_with (first | (go_at_call 9; ((with_reducible refine (b4 _).mono ?_); rintro e w' ⟨rfl, rfl⟩)) | (go_at_call 9; ((with_reducible refine (b5 _).mono ?_); rintro e w' ⟨rfl, rfl⟩)))
          go_ret
          exact ⟨rfl, Grown.refl _⟩

/-! ### The row's step. -/
set_option maxRecDepth 100000 in
theorem lifted (os : Os) (started : os.Started) (H : Type) (enc : TypeId × Value → H) :
    ReturnsInHanded {} Try.checked os 5 .any (Rows.wordDividesSpec.pre6 enc Try.prog Try.f5 Rows.wordDividesRow.domain false) (Rows.wordDividesSpec.post enc Try.prog Try.f5 false true false false) := by
  refine returnsInHanded_of_change (C := Try.checked) own started (by kernel_rfl) Try.func5
    (ChangeSpec.witness6 (enc := enc) (C := Try.checked) false ⟨#[], #[.int .i64 0, .int .i64 0], []⟩ 8 (by kernel_rfl) (by kernel_rfl) (by kernel_rfl) (by kernel_rfl)) ?_
  intro W base args ds gs before hval0 hW hcnd _
  have hval : ∀ (j : Nat) t v, Try.f5.params[j]? = some t → args[j]? = some v → Value.okWide Try.prog W .any base t v := hval0
  have hW' := hW
  obtain ⟨p, q, hA0, hV, rfl, hfz, hnd⟩ := hW
  have hA : DataW.TrodAll enc Try.prog W 0 (fun _ => true) true Try.f5.params.toList args.toList ds p := hA0
  rw [Try.params5] at hA hval
  obtain ⟨v0, vs0, d0, ds0, p0, q0, hargs, rfl, rfl, h0, r0⟩ := trodAll_cons hA
  obtain ⟨v1, vs1, d1, ds1, p1, q1, rfl, rfl, rfl, h1, r1⟩ := trodAll_cons r0
  obtain ⟨rfl, rfl, rfl⟩ := trodAll_nil r1
  obtain rfl : args = #[v0, v1] := by cases args; simp_all
  obtain ⟨rfl, rfl⟩ := trodVars_none hV
  obtain ⟨a0, rfl, rfl, rfl, w0⟩ := open_int Try.underlying2 (hval 0 2 v0 rfl rfl) h0
  obtain ⟨a1, rfl, rfl, rfl, w1⟩ := open_int Try.underlying2 (hval 1 2 v1 rfl rfl) h1
  clear hA0 hval0
  simp only [List.append_nil] at hW'
  refine (walk a0 a1 w0 w1 W).mono fun e W' ⟨he, hg⟩ => ?_
  subst he
  exact ⟨_, rfl, post_of_same (pa := []) (pv := []) hW' (fun _ _ _ => (trodAll_cons_mk (shut_bool Try.underlying4 _) trodAll_mk0)) (fun sp _ => (trodAll_cons_mk (shut_int Try.underlying2 w0) (trodAll_cons_mk (shut_int Try.underlying2 w1) trodAll_mk0))) (fun _ _ => rfl) rfl
    (hg.frame _) hg.2.1 (ok_one (by kernel_rfl) rfl (okWide_bool_mk Try.underlying4 _))⟩

theorem over : Rows.wordDividesRow.holds Try.pinned (OpenSpec.ofChange Rows.wordDividesSpec) :=
  OpenClaim.holds_of_wide 5 Try.f5 rfl rfl rfl rfl rfl rfl rfl ⟨rfl, rfl, rfl, rfl, rfl⟩ rfl rfl rfl rfl rfl (by kernel_rfl) Try.func5 (by kernel_rfl)
    (of_decide_eq_true (by kernel_rfl)) (by unfold Func.isWrapper; first | (rw [if_pos (by decide +kernel)]; kernel_rfl) | (rw [if_neg (by decide +kernel)]; exact ⟨rfl, rfl⟩))
    (fun os started H enc _ => lifted os started H enc)

/-- The statement. -/
theorem proved : Rows.WordDividesSaid :=
  over
#print axioms proved
end Go.Proofs.Ytofgkfjgdglacaa.wordDivides
