/-
  For any two words, Neg twice and Flip twice of the program give the word back, so does Xor twice by one word, And plus Xor is Or, and a word less itself is 0; no condition.
-/
import Derived.Test.YtofgkfjgdglacaaRows
import Derived.WalkKit
import Derived.ProofKit
import Derived.OpenShut
import Derived.Test.YtofgkfjgdglacaaWordA
import Derived.Test.YtofgkfjgdglacaaWordB
namespace Go.Proofs.Ytofgkfjgdglacaa.wordTwice
open Go.ChangeShapes Go.WideShapes Go.ChangeAt Go.RowKit
set_option linter.unusedVariables false      -- a walk need not use every 'w<i>' (that an integer argument fits its kind)

theorem own : ownKnob Try.prog.godebug = none := by kernel_rfl

/-! ### The walk. -/
set_option maxHeartbeats 1000000 in
theorem walk (a0 : Int) (a1 : Int) (w0 : (Lit.int .i64 a0).wf = true) (w1 : (Lit.int .i64 a1).wf = true) (w : World) :
    Calls Try.prog 8 #[.int .i64 a0, .int .i64 a1] w fun e w' => e = .returned (.bool true) ∧ Grown w w' := by
  obtain ⟨la, ua⟩ := wf64 w0
  have f1 := flip_back a0 la ua
  have f2 := xor_back a0 a1 la ua
  have f3 := and_xor_or a0 a1
  have f4 : wrap64 (-wrap64 (-a0)) = a0 := by rw [wrap_neg, Int.neg_neg, wrap_in a0 la ua]
  clear w0 w1 la ua
  obtain ⟨n, hn⟩ : ∃ n, n = wrap64 (-a0) := ⟨_, rfl⟩
  obtain ⟨f, hf⟩ : ∃ f, f = bits .xor .i64 (-1) a0 := ⟨_, rfl⟩
  obtain ⟨x, hx⟩ : ∃ x, x = bits .xor .i64 a0 a1 := ⟨_, rfl⟩
  obtain ⟨d, hd⟩ : ∃ d, d = bits .and .i64 a0 a1 := ⟨_, rfl⟩
  obtain ⟨o, ho⟩ : ∃ o, o = bits .or .i64 a0 a1 := ⟨_, rfl⟩
  rw [← hn] at f4
  rw [← hf] at f1
  rw [← hx] at f2 f3
  rw [← hd, ← ho] at f3
  have u1 : ∀ w, Calls Try.prog 12 #[.int .i64 1, .int .i64 a0] w fun e w' => e = .returned (.tuple #[.int .i64 n, .int .i64 0]) ∧ w = w' := fun w => by
    have h := un_any 1 a0 w; have hv : VU 1 a0 = n := by simp [VU, ← hn]
    rw [hv] at h; exact h
  have u2 : ∀ w, Calls Try.prog 12 #[.int .i64 1, .int .i64 n] w fun e w' => e = .returned (.tuple #[.int .i64 a0, .int .i64 0]) ∧ w = w' := fun w => by
    have h := un_any 1 n w; have hv : VU 1 n = a0 := by simp [VU, f4]
    rw [hv] at h; exact h
  have u3 : ∀ w, Calls Try.prog 12 #[.int .i64 2, .int .i64 a0] w fun e w' => e = .returned (.tuple #[.int .i64 f, .int .i64 0]) ∧ w = w' := fun w => by
    have h := un_any 2 a0 w; have hv : VU 2 a0 = f := by simp [VU, ← hf]
    rw [hv] at h; exact h
  have u4 : ∀ w, Calls Try.prog 12 #[.int .i64 2, .int .i64 f] w fun e w' => e = .returned (.tuple #[.int .i64 a0, .int .i64 0]) ∧ w = w' := fun w => by
    have h := un_any 2 f w; have hv : VU 2 f = a0 := by simp [VU, f1]
    rw [hv] at h; exact h
  have b1 : ∀ w, Calls Try.prog 9 #[.int .i64 8, .int .i64 a0, .int .i64 a1] w fun e w' => e = .returned (.tuple #[.int .i64 x, .int .i64 0]) ∧ w = w' := fun w => by
    have h := bin_any 8 a0 a1 w; have hv : V 8 a0 a1 = x := by simp [V, ← hx]
    rw [hv] at h; exact h
  have b2 : ∀ w, Calls Try.prog 9 #[.int .i64 8, .int .i64 x, .int .i64 a1] w fun e w' => e = .returned (.tuple #[.int .i64 a0, .int .i64 0]) ∧ w = w' := fun w => by
    have h := bin_any 8 x a1 w; have hv : V 8 x a1 = a0 := by simp [V, f2]
    rw [hv] at h; exact h
  have b3 : ∀ w, Calls Try.prog 9 #[.int .i64 6, .int .i64 a0, .int .i64 a1] w fun e w' => e = .returned (.tuple #[.int .i64 d, .int .i64 0]) ∧ w = w' := fun w => by
    have h := bin_any 6 a0 a1 w; have hv : V 6 a0 a1 = d := by simp [V, ← hd]
    rw [hv] at h; exact h
  have b4 : ∀ w, Calls Try.prog 9 #[.int .i64 7, .int .i64 a0, .int .i64 a1] w fun e w' => e = .returned (.tuple #[.int .i64 o, .int .i64 0]) ∧ w = w' := fun w => by
    have h := bin_any 7 a0 a1 w; have hv : V 7 a0 a1 = o := by simp [V, ← ho]
    rw [hv] at h; exact h
  have b5 : ∀ w, Calls Try.prog 9 #[.int .i64 1, .int .i64 d, .int .i64 x] w fun e w' => e = .returned (.tuple #[.int .i64 o, .int .i64 0]) ∧ w = w' := fun w => by
    have h := bin_any 1 d x w; have hv : V 1 d x = o := by simp [V, f3]
    rw [hv] at h; exact h
  have b6 : ∀ w, Calls Try.prog 9 #[.int .i64 2, .int .i64 a0, .int .i64 a0] w fun e w' => e = .returned (.tuple #[.int .i64 0, .int .i64 0]) ∧ w = w' := fun w => by
    have h := bin_any 2 a0 a0 w; have hv : V 2 a0 a0 = 0 := by simp [V, wrap64]
    rw [hv] at h; exact h
  clear f1 f2 f3 f4 hn hf hx hd ho
  go_enter Try.func8, Try.ntmps8
  go_wp2_with (first | (go_at_call 12; ((with_reducible refine (u1 _).mono ?_); rintro e w' ⟨rfl, rfl⟩)) | (go_at_call 12; ((with_reducible refine (u2 _).mono ?_); rintro e w' ⟨rfl, rfl⟩)) | (go_at_call 12; ((with_reducible refine (u3 _).mono ?_); rintro e w' ⟨rfl, rfl⟩)) | (go_at_call 12; ((with_reducible refine (u4 _).mono ?_); rintro e w' ⟨rfl, rfl⟩)) | (go_at_call 9; ((with_reducible refine (b1 _).mono ?_); rintro e w' ⟨rfl, rfl⟩)) | (go_at_call 9; ((with_reducible refine (b2 _).mono ?_); rintro e w' ⟨rfl, rfl⟩)) | (go_at_call 9; ((with_reducible refine (b3 _).mono ?_); rintro e w' ⟨rfl, rfl⟩)) | (go_at_call 9; ((with_reducible refine (b4 _).mono ?_); rintro e w' ⟨rfl, rfl⟩)) | (go_at_call 9; ((with_reducible refine (b5 _).mono ?_); rintro e w' ⟨rfl, rfl⟩)) | (go_at_call 9; ((with_reducible refine (b6 _).mono ?_); rintro e w' ⟨rfl, rfl⟩)) | (go_at_call 11; refine (awake_any _).mono ?_; rintro e w' ⟨rfl, rfl⟩))
  go_ret
  exact ⟨rfl, Grown.refl _⟩

/-! ### The row's step. -/
set_option maxRecDepth 100000 in
theorem lifted (os : Os) (started : os.Started) (H : Type) (enc : TypeId × Value → H) :
    ReturnsInHanded {} Try.checked os 8 .any (Rows.wordTwiceSpec.pre6 enc Try.prog Try.f8 Rows.wordTwiceRow.domain false) (Rows.wordTwiceSpec.post enc Try.prog Try.f8 false true false false) := by
  refine returnsInHanded_of_change (C := Try.checked) own started (by kernel_rfl) Try.func8
    (ChangeSpec.witness6 (enc := enc) (C := Try.checked) false ⟨#[], #[.int .i64 0, .int .i64 0], []⟩ 8 (by kernel_rfl) (by kernel_rfl) (by kernel_rfl) (by kernel_rfl)) ?_
  intro W base args ds gs before hval0 hW hcnd _
  have hval : ∀ (j : Nat) t v, Try.f8.params[j]? = some t → args[j]? = some v → Value.okWide Try.prog W .any base t v := hval0
  have hW' := hW
  obtain ⟨p, q, hA0, hV, rfl, hfz, hnd⟩ := hW
  have hA : DataW.TrodAll enc Try.prog W 0 (fun _ => true) true Try.f8.params.toList args.toList ds p := hA0
  rw [Try.params8] at hA hval
  obtain ⟨v0, vs0, d0, ds0, p0, q0, hargs, rfl, rfl, h0, r0⟩ := trodAll_cons hA
  obtain ⟨v1, vs1, d1, ds1, p1, q1, rfl, rfl, rfl, h1, r1⟩ := trodAll_cons r0
  obtain ⟨rfl, rfl, rfl⟩ := trodAll_nil r1
  obtain rfl : args = #[v0, v1] := by cases args; simp_all
  obtain ⟨rfl, rfl⟩ := trodVars_none hV
  obtain ⟨a0, rfl, rfl, rfl, w0⟩ := open_int Try.underlying2 (hval 0 2 v0 rfl rfl) h0
  obtain ⟨a1, rfl, rfl, rfl, w1⟩ := open_int Try.underlying2 (hval 1 2 v1 rfl rfl) h1
  clear hA0 hval0
  simp only [List.append_nil] at hW'
  refine (walk a0 a1 w0 w1 W).mono fun e W' ⟨he, hg⟩ => ?_
  subst he
  exact ⟨_, rfl, post_of_same (pa := []) (pv := []) hW' (fun _ _ _ => (trodAll_cons_mk (shut_bool Try.underlying4 _) trodAll_mk0)) (fun sp _ => (trodAll_cons_mk (shut_int Try.underlying2 w0) (trodAll_cons_mk (shut_int Try.underlying2 w1) trodAll_mk0))) (fun _ _ => rfl) rfl
    (hg.frame _) hg.2.1 (ok_one (by kernel_rfl) rfl (okWide_bool_mk Try.underlying4 _))⟩

theorem over : Rows.wordTwiceRow.holds Try.pinned (OpenSpec.ofChange Rows.wordTwiceSpec) :=
  OpenClaim.holds_of_wide 8 Try.f8 rfl rfl rfl rfl rfl rfl rfl ⟨rfl, rfl, rfl, rfl, rfl⟩ rfl rfl rfl rfl rfl (by kernel_rfl) Try.func8 (by kernel_rfl)
    (of_decide_eq_true (by kernel_rfl)) (by unfold Func.isWrapper; first | (rw [if_pos (by decide +kernel)]; kernel_rfl) | (rw [if_neg (by decide +kernel)]; exact ⟨rfl, rfl⟩))
    (fun os started H enc _ => lifted os started H enc)

/-- The statement. -/
theorem proved : Rows.WordTwiceSaid :=
  over
#print axioms proved
end Go.Proofs.Ytofgkfjgdglacaa.wordTwice
