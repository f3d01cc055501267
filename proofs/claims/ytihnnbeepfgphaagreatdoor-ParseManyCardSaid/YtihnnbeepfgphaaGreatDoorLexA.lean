/-
  Classes of bytes, words, runs: walks.
-/
import Derived.Test.YtihnnbeepfgphaaGreatDoorMem
import Derived.WalkKit
import Derived.Lib.Hide
import Derived.Outline
import Derived.BigQuiet
import Derived.Deep.QuietTactic
import Derived.LoopTactic
namespace Go.Proofs.YtihnnbeepfgphaaGreatDoor
open Go.RowKit
set_option linter.unusedVariables false
set_option linter.unusedSimpArgs false

theorem ret_bool {a b : Bool} (h : a = b) : Ending.returned (.bool a) = .returned (.bool b) := by rw [h]
theorem ret_int {k : IntKind} {a b : Int} (h : a = b) : Ending.returned (.int k a) = .returned (.int k b) := by rw [h]
def isL (c : UInt8) : Bool := decide (97 ≤ (c.toNat : Int) ∧ (c.toNat : Int) ≤ 122) || decide (65 ≤ (c.toNat : Int) ∧ (c.toNat : Int) ≤ 90) || decide ((c.toNat : Int) = 95)
def isD (c : UInt8) : Bool := decide (48 ≤ (c.toNat : Int) ∧ (c.toNat : Int) ≤ 57)
def isN (c : UInt8) : Bool := isL c || isD c
def isB (c : UInt8) : Bool := decide ((c.toNat : Int) = 32 ∨ (c.toNat : Int) = 9 ∨ (c.toNat : Int) = 10 ∨ (c.toNat : Int) = 13)

theorem digit_any (c : UInt8) (w : World) : Calls Tryz.prog 34 #[.int .u8 c.toNat] w fun e w' => e = .returned (.bool (isD c)) ∧ w = w' := by
  go_enter Tryz.func34, Tryz.ntmps34
  go_wp2
  all_goals (go_ret; exact ⟨ret_bool (by unfold isD; rw [Bool.eq_iff_iff]; simp; try omega), rfl⟩)

theorem blank_any (c : UInt8) (w : World) : Calls Tryz.prog 31 #[.int .u8 c.toNat] w fun e w' => e = .returned (.bool (isB c)) ∧ w = w' := by
  go_enter Tryz.func31, Tryz.ntmps31
  go_wp2
  all_goals (go_ret; exact ⟨ret_bool (by unfold isB; rw [Bool.eq_iff_iff]; simp [*]; try omega), rfl⟩)

theorem letter_any (c : UInt8) (w : World) : Calls Tryz.prog 32 #[.int .u8 c.toNat] w fun e w' => e = .returned (.bool (isL c)) ∧ w = w' := by
  go_enter Tryz.func32, Tryz.ntmps32
  go_wp2
  all_goals (go_ret; exact ⟨ret_bool (by unfold isL; rw [Bool.eq_iff_iff]; simp [*]; try omega), rfl⟩)

theorem inName_any (c : UInt8) (w : World) : Calls Tryz.prog 49 #[.int .u8 c.toNat] w fun e w' => e = .returned (.bool (isN c)) ∧ w = w' := by
  unfold isN
  cases hl : isL c
  · have hl := Lib.hid hl
    go_enter Tryz.func49, Tryz.ntmps49
    go_wp2_with (first | (go_at_call 32; refine (letter_any _ _).mono ?_; rw [hl.out]; rintro e w' ⟨rfl, rfl⟩) | (go_at_call 34; refine (digit_any _ _).mono ?_; rintro e w' ⟨rfl, rfl⟩))
    go_ret
    exact ⟨rfl, rfl⟩
  · have hl := Lib.hid hl
    go_enter Tryz.func49, Tryz.ntmps49
    go_wp2_with (first | (go_at_call 32; refine (letter_any _ _).mono ?_; rw [hl.out]; rintro e w' ⟨rfl, rfl⟩) | (go_at_call 34; refine (digit_any _ _).mono ?_; rintro e w' ⟨rfl, rfl⟩))
    go_ret
    exact ⟨rfl, rfl⟩

end Go.Proofs.YtihnnbeepfgphaaGreatDoor
