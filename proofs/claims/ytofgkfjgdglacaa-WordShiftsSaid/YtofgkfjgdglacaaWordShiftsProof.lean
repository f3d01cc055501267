/-
  For any word and any count of 0 to 255, Shl and Shr of the program are as many steps by one as the count leaves over by 64, and counts that differ by 64 or 256 answer alike; no condition.
-/
import Derived.Test.YtofgkfjgdglacaaRows
import Derived.WalkKit
import Derived.ProofKit
import Derived.OpenShut
import Derived.Test.YtofgkfjgdglacaaWordA
import Derived.Test.YtofgkfjgdglacaaWordB
import Derived.Lib.Hide
namespace Go.Proofs.Ytofgkfjgdglacaa.wordShifts
open Go.ChangeShapes Go.WideShapes Go.ChangeAt Go.RowKit
set_option linter.unusedVariables false      -- a walk need not use every 'w<i>' (that an integer argument fits its kind)

theorem own : ownKnob Try.prog.godebug = none := by kernel_rfl

/-! ### The walk. -/
set_option maxHeartbeats 1000000 in
theorem walk (a0 : Int) (a1 : Int) (w0 : (Lit.int .i64 a0).wf = true) (w1 : (Lit.int .u8 a1).wf = true) (w : World) :
    Calls Try.prog 7 #[.int .i64 a0, .int .u8 a1] w fun e w' => e = .returned (.bool true) ∧ Grown w w' := by
  obtain ⟨la, ua⟩ := wf64 w0
  obtain ⟨ln, un⟩ := wf8 w1
  clear w0 w1
  obtain ⟨k, rfl⟩ := Int.eq_ofNat_of_zero_le ln
  have hk : k ≤ 255 := by omega
  have hs : sh k = k % 64 := by unfold sh; omega
  have hs1 : sh ((k : Int) + 64) = k % 64 := by unfold sh; omega
  have hs2 : sh ((k : Int) - 256) = k % 64 := by unfold sh; omega
  obtain ⟨m, hm⟩ : ∃ m, m = k % 64 := ⟨_, rfl⟩
  rw [← hm] at hs hs1 hs2
  have hmI : (k : Int) % 64 = m := by omega
  obtain ⟨x, hx⟩ : ∃ x, x = wrap64 (a0 * 2 ^ m) := ⟨_, rfl⟩
  obtain ⟨y, hy⟩ : ∃ y, y = a0 / 2 ^ m := ⟨_, rfl⟩
  have b1 : ∀ w, Calls Try.prog 9 #[.int .i64 9, .int .i64 a0, .int .i64 (k : Int)] w fun e w' => e = .returned (.tuple #[.int .i64 x, .int .i64 0]) ∧ w = w' := fun w => by
    have h := bin_any 9 a0 (k : Int) w; have hv : V 9 a0 (k : Int) = x := by simp [V, hs, ← hx]
    rw [hv] at h; exact h
  have b2 : ∀ w, Calls Try.prog 9 #[.int .i64 10, .int .i64 a0, .int .i64 (k : Int)] w fun e w' => e = .returned (.tuple #[.int .i64 y, .int .i64 0]) ∧ w = w' := fun w => by
    have h := bin_any 10 a0 (k : Int) w; have hv : V 10 a0 (k : Int) = y := by simp [V, hs, ← hy]
    rw [hv] at h; exact h
  have b3 : ∀ w, Calls Try.prog 9 #[.int .i64 9, .int .i64 a0, .int .i64 ((k : Int) + 64)] w fun e w' => e = .returned (.tuple #[.int .i64 x, .int .i64 0]) ∧ w = w' := fun w => by
    have h := bin_any 9 a0 ((k : Int) + 64) w; have hv : V 9 a0 ((k : Int) + 64) = x := by simp [V, hs1, ← hx]
    rw [hv] at h; exact h
  have b4 : ∀ w, Calls Try.prog 9 #[.int .i64 10, .int .i64 a0, .int .i64 ((k : Int) - 256)] w fun e w' => e = .returned (.tuple #[.int .i64 y, .int .i64 0]) ∧ w = w' := fun w => by
    have h := bin_any 10 a0 ((k : Int) - 256) w; have hv : V 10 a0 ((k : Int) - 256) = y := by simp [V, hs2, ← hy]
    rw [hv] at h; exact h
  have b5 : ∀ (j : Nat) w, Calls Try.prog 9 #[.int .i64 3, .int .i64 (wrap64 (a0 * 2 ^ j)), .int .i64 2] w fun e w' => e = .returned (.tuple #[.int .i64 (wrap64 (a0 * 2 ^ (j + 1))), .int .i64 0]) ∧ w = w' := fun j w => by
    have h := bin_any 3 (wrap64 (a0 * 2 ^ j)) 2 w; have hv : V 3 (wrap64 (a0 * 2 ^ j)) 2 = wrap64 (a0 * 2 ^ (j + 1)) := by simp [V, shl_step]
    rw [hv] at h; exact h
  have b6 : ∀ (j : Nat) w, Calls Try.prog 9 #[.int .i64 10, .int .i64 (a0 / 2 ^ j), .int .i64 1] w fun e w' => e = .returned (.tuple #[.int .i64 (a0 / 2 ^ (j + 1)), .int .i64 0]) ∧ w = w' := fun j w => by
    have h := bin_any 10 (a0 / 2 ^ j) 1 w; have hv : V 10 (a0 / 2 ^ j) 1 = a0 / 2 ^ (j + 1) := by simp [V, sh, shr_step]
    rw [hv] at h; exact h
  have w1 : wrap64 (a0 * 2 ^ 0) = a0 := by rw [Int.pow_zero, Int.mul_one, wrap_in a0 la ua]
  have HX : Hid (x = wrap64 (a0 * 2 ^ m)) := Lib.hid hx
  have HY : Hid (y = a0 / 2 ^ m) := Lib.hid hy
  have HW : Hid (wrap64 (a0 * 2 ^ 0) = a0) := Lib.hid w1
  have HM : Hid (m = k % 64) := Lib.hid hm
  have hm63 : m ≤ 63 := by omega
  clear hx hy w1 hm hs hs1 hs2 la ua ln un
  go_enter Try.func7, Try.ntmps7
  go_wp2_with (first | (go_at_call 9; ((with_reducible refine (b1 _).mono ?_); rintro e w' ⟨rfl, rfl⟩)) | (go_at_call 9; ((with_reducible refine (b2 _).mono ?_); rintro e w' ⟨rfl, rfl⟩)))
  go_loop [10, 11, 12] (fun u v i => ∃ j : Nat, j ≤ m ∧ u = .int .i64 (wrap64 (a0 * 2 ^ j)) ∧ v = .int .i64 (a0 / 2 ^ j) ∧ i = .int .i64 j) (fun _ _ i => m - (intOf i).toNat)
  case atStart => exact ⟨0, Nat.zero_le _, by rw [HW.out], by rw [Int.pow_zero, Int.ediv_one], rfl⟩
  case round =>
    obtain ⟨j, hj, rfl, rfl, rfl⟩ := hrel
    by_cases hlt : j < m
    · have h1 : (j : Int) < (k : Int) % 64 := by have := HM.out; omega
      have h2 : j < k % 64 := by have := HM.out; omega
      go_wp2_with (first | (go_at_call 9; ((with_reducible refine (b5 _ _).mono ?_); rintro e w' ⟨rfl, rfl⟩)) | (go_at_call 9; ((with_reducible refine (b6 _ _).mono ?_); rintro e w' ⟨rfl, rfl⟩)))
      go_round
      case rel => exact ⟨j + 1, by omega, rfl, rfl, by go_num⟩
      case measure => simp [intOf]; omega
    · have h1 : ¬ (j : Int) < (k : Int) % 64 := by have := HM.out; omega
      have h2 : ¬ j < k % 64 := by have := HM.out; omega
      have hj2 : j = m := by omega
      subst hj2
      have HX1 := HX.out
      have HY1 := HY.out
      rw [← HX1, ← HY1]
      clear HX1 HY1
      go_wp2_with (first | (go_at_call 9; ((with_reducible refine (b3 _).mono ?_); rintro e w' ⟨rfl, rfl⟩)) | (go_at_call 9; ((with_reducible refine (b4 _).mono ?_); rintro e w' ⟨rfl, rfl⟩)) | (go_at_call 11; refine (awake_any _).mono ?_; rintro e w' ⟨rfl, rfl⟩))
      go_ret
      exact ⟨rfl, Grown.refl _⟩

/-! ### The row's step. -/
set_option maxRecDepth 100000 in
theorem lifted (os : Os) (started : os.Started) (H : Type) (enc : TypeId × Value → H) :
    ReturnsInHanded {} Try.checked os 7 .any (Rows.wordShiftsSpec.pre6 enc Try.prog Try.f7 Rows.wordShiftsRow.domain false) (Rows.wordShiftsSpec.post enc Try.prog Try.f7 false true false false) := by
  refine returnsInHanded_of_change (C := Try.checked) own started (by kernel_rfl) Try.func7
    (ChangeSpec.witness6 (enc := enc) (C := Try.checked) false ⟨#[], #[.int .i64 0, .int .u8 0], []⟩ 8 (by kernel_rfl) (by kernel_rfl) (by kernel_rfl) (by kernel_rfl)) ?_
  intro W base args ds gs before hval0 hW hcnd _
  have hval : ∀ (j : Nat) t v, Try.f7.params[j]? = some t → args[j]? = some v → Value.okWide Try.prog W .any base t v := hval0
  have hW' := hW
  obtain ⟨p, q, hA0, hV, rfl, hfz, hnd⟩ := hW
  have hA : DataW.TrodAll enc Try.prog W 0 (fun _ => true) true Try.f7.params.toList args.toList ds p := hA0
  rw [Try.params7] at hA hval
  obtain ⟨v0, vs0, d0, ds0, p0, q0, hargs, rfl, rfl, h0, r0⟩ := trodAll_cons hA
  obtain ⟨v1, vs1, d1, ds1, p1, q1, rfl, rfl, rfl, h1, r1⟩ := trodAll_cons r0
  obtain ⟨rfl, rfl, rfl⟩ := trodAll_nil r1
  obtain rfl : args = #[v0, v1] := by cases args; simp_all
  obtain ⟨rfl, rfl⟩ := trodVars_none hV
  obtain ⟨a0, rfl, rfl, rfl, w0⟩ := open_int Try.underlying2 (hval 0 2 v0 rfl rfl) h0
  obtain ⟨a1, rfl, rfl, rfl, w1⟩ := open_int Try.underlying5 (hval 1 5 v1 rfl rfl) h1
  clear hA0 hval0
  simp only [List.append_nil] at hW'
  refine (walk a0 a1 w0 w1 W).mono fun e W' ⟨he, hg⟩ => ?_
  subst he
  exact ⟨_, rfl, post_of_same (pa := []) (pv := []) hW' (fun _ _ _ => (trodAll_cons_mk (shut_bool Try.underlying4 _) trodAll_mk0)) (fun sp _ => (trodAll_cons_mk (shut_int Try.underlying2 w0) (trodAll_cons_mk (shut_int Try.underlying5 w1) trodAll_mk0))) (fun _ _ => rfl) rfl
    (hg.frame _) hg.2.1 (ok_one (by kernel_rfl) rfl (okWide_bool_mk Try.underlying4 _))⟩

theorem over : Rows.wordShiftsRow.holds Try.pinned (OpenSpec.ofChange Rows.wordShiftsSpec) :=
  OpenClaim.holds_of_wide 7 Try.f7 rfl rfl rfl rfl rfl rfl rfl ⟨rfl, rfl, rfl, rfl, rfl⟩ rfl rfl rfl rfl rfl (by kernel_rfl) Try.func7 (by kernel_rfl)
    (of_decide_eq_true (by kernel_rfl)) (by unfold Func.isWrapper; first | (rw [if_pos (by decide +kernel)]; kernel_rfl) | (rw [if_neg (by decide +kernel)]; exact ⟨rfl, rfl⟩))
    (fun os started H enc _ => lifted os started H enc)

/-- The statement. -/
theorem proved : Rows.WordShiftsSaid :=
  over
#print axioms proved
end Go.Proofs.Ytofgkfjgdglacaa.wordShifts
