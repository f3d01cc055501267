/-
  What the operations of two words and of one word answer, in the program and in the document's reading: walks.
-/
import Derived.Test.YtikgghioneiegaaRows
import Derived.WalkKit
namespace Go.Proofs.Ytikgghioneiegaa
open Go.RowKit
set_option linter.unusedVariables false

def oneOf (b : Bool) : Int := if b then 1 else 0
def sh (b : Int) : Nat := (b % 64).toNat

theorem i64_and63 (n : Int) : bits .and .i64 n 63 = n % 64 := by
  have h63 : (BitVec.ofInt 64 63).toNat = 2 ^ 6 - 1 := by decide
  have key : (BitVec.ofInt 64 n &&& BitVec.ofInt 64 63).toNat = (n % ((2 ^ 64 : Nat) : Int)).toNat % 2 ^ 6 := by
    rw [BitVec.toNat_and, BitVec.toNat_ofInt, h63, Nat.and_two_pow_sub_one_eq_mod]
  show IntKind.i64.wrap ((BitVec.ofInt 64 n &&& BitVec.ofInt 64 63).toNat : Nat) = n % 64
  rw [key, IntKind.wrap_i64]
  omega
theorem u64_and63 (n : Int) : bits .and .u64 n 63 = n % 64 := by
  have h63 : (BitVec.ofInt 64 63).toNat = 2 ^ 6 - 1 := by decide
  have key : (BitVec.ofInt 64 n &&& BitVec.ofInt 64 63).toNat = (n % ((2 ^ 64 : Nat) : Int)).toNat % 2 ^ 6 := by
    rw [BitVec.toNat_and, BitVec.toNat_ofInt, h63, Nat.and_two_pow_sub_one_eq_mod]
  show IntKind.u64.wrap ((BitVec.ofInt 64 n &&& BitVec.ofInt 64 63).toNat : Nat) = n % 64
  rw [key, IntKind.wrap_u64]
  omega
theorem sh_cast (b : Int) : ((sh b : Nat) : Int) = b % 64 := by unfold sh; omega
theorem sh_le (b : Int) : sh b ≤ 63 := by unfold sh; omega

/-- What an operation of two words makes. -/
def V (op a b : Int) : Int :=
  if op = 1 then wrap64 (a + b) else if op = 2 then wrap64 (a - b) else if op = 3 then wrap64 (a * b)
  else if op = 4 then (if b = 0 then 0 else wrap64 (a.tdiv b)) else if op = 5 then (if b = 0 then 0 else a.tmod b)
  else if op = 6 then bits .and .i64 a b else if op = 7 then bits .or .i64 a b else if op = 8 then bits .xor .i64 a b
  else if op = 9 then wrap64 (a * 2 ^ sh b) else if op = 10 then a / 2 ^ sh b
  else if op = 11 then oneOf (a == b) else if op = 12 then oneOf (a != b) else if op = 13 then oneOf (decide (a < b))
  else if op = 14 then oneOf (decide (a ≤ b)) else if op = 15 then oneOf (decide (b < a)) else if op = 16 then oneOf (decide (b ≤ a)) else 0
/-- Its second answer. -/
def C (op b : Int) : Int :=
  if op = 4 ∨ op = 5 then (if b = 0 then 3 else 0) else if 1 ≤ op ∧ op ≤ 16 then 0 else -1

theorem truth_any (b : Bool) (w : World) :
    Calls Try.prog 72 #[.bool b] w fun e w' => e = .returned (.int .i64 (oneOf b)) ∧ w = w' := by
  cases b
  · go_enter Try.func72, Try.ntmps72
    go_wp2
    go_ret
    exact ⟨rfl, rfl⟩
  · go_enter Try.func72, Try.ntmps72
    go_wp2
    go_ret
    exact ⟨rfl, rfl⟩
theorem one_any (b : Bool) (w : World) :
    Calls Try.prog 59 #[.bool b] w fun e w' => e = .returned (.int .i64 (oneOf b)) ∧ w = w' := by
  cases b
  · go_enter Try.func59, Try.ntmps59
    go_wp2
    go_ret
    exact ⟨rfl, rfl⟩
  · go_enter Try.func59, Try.ntmps59
    go_wp2
    go_ret
    exact ⟨rfl, rfl⟩
theorem distance_any (b : Int) (w : World) :
    Calls Try.prog 75 #[.int .i64 b] w fun e w' => e = .returned (.int .u64 (sh b : Nat)) ∧ w = w' := by
  go_enter Try.func75, Try.ntmps75
  go_wp2
  go_ret
  refine ⟨?_, rfl⟩
  rw [sh_cast]
  simp [u64_and63, IntKind.wrap_u64]
  try omega
theorem quotient_zero (a : Int) (w : World) :
    Calls Try.prog 73 #[.int .i64 a, .int .i64 0] w fun e w' => e = .returned (.tuple #[.int .i64 0, .int .i64 3]) ∧ w = w' := by
  go_enter Try.func73, Try.ntmps73
  go_wp2
  go_ret2
  exact ⟨rfl, rfl⟩
theorem remainder_zero (a : Int) (w : World) :
    Calls Try.prog 74 #[.int .i64 a, .int .i64 0] w fun e w' => e = .returned (.tuple #[.int .i64 0, .int .i64 3]) ∧ w = w' := by
  go_enter Try.func74, Try.ntmps74
  go_wp2
  go_ret2
  exact ⟨rfl, rfl⟩
theorem quotient_any (a b : Int) (hb : ¬ b = 0) (w : World) :
    Calls Try.prog 73 #[.int .i64 a, .int .i64 b] w fun e w' => e = .returned (.tuple #[.int .i64 (wrap64 (a.tdiv b)), .int .i64 0]) ∧ w = w' := by
  have hb' : (b == 0) = false := by simpa using hb
  go_enter Try.func73, Try.ntmps73
  go_wp2
  go_ret2
  exact ⟨rfl, rfl⟩
theorem remainder_any (a b : Int) (hb : ¬ b = 0) (w : World) :
    Calls Try.prog 74 #[.int .i64 a, .int .i64 b] w fun e w' => e = .returned (.tuple #[.int .i64 (a.tmod b), .int .i64 0]) ∧ w = w' := by
  have hb' : (b == 0) = false := by simpa using hb
  go_enter Try.func74, Try.ntmps74
  go_wp2
  go_ret2
  exact ⟨rfl, rfl⟩

theorem bin1 (a b : Int) (w : World) :
    Calls Try.prog 69 #[.int .i64 1, .int .i64 a, .int .i64 b] w fun e w' => e = .returned (.tuple #[.int .i64 (V 1 a b), .int .i64 (C 1 b)]) ∧ w = w' := by
  go_enter Try.func69, Try.ntmps69
  go_wp2
  go_ret2
  refine ⟨?_, rfl⟩
  show Ending.returned (.tuple #[_, _]) = _
  simp [V, C]
theorem bin2 (a b : Int) (w : World) :
    Calls Try.prog 69 #[.int .i64 2, .int .i64 a, .int .i64 b] w fun e w' => e = .returned (.tuple #[.int .i64 (V 2 a b), .int .i64 (C 2 b)]) ∧ w = w' := by
  go_enter Try.func69, Try.ntmps69
  go_wp2
  go_ret2
  refine ⟨?_, rfl⟩
  show Ending.returned (.tuple #[_, _]) = _
  simp [V, C]
theorem bin3 (a b : Int) (w : World) :
    Calls Try.prog 69 #[.int .i64 3, .int .i64 a, .int .i64 b] w fun e w' => e = .returned (.tuple #[.int .i64 (V 3 a b), .int .i64 (C 3 b)]) ∧ w = w' := by
  go_enter Try.func69, Try.ntmps69
  go_wp2
  go_ret2
  refine ⟨?_, rfl⟩
  show Ending.returned (.tuple #[_, _]) = _
  simp [V, C]
theorem bin6 (a b : Int) (w : World) :
    Calls Try.prog 69 #[.int .i64 6, .int .i64 a, .int .i64 b] w fun e w' => e = .returned (.tuple #[.int .i64 (V 6 a b), .int .i64 (C 6 b)]) ∧ w = w' := by
  go_enter Try.func69, Try.ntmps69
  go_wp2
  go_ret2
  refine ⟨?_, rfl⟩
  show Ending.returned (.tuple #[_, _]) = _
  simp [V, C]
theorem bin7 (a b : Int) (w : World) :
    Calls Try.prog 69 #[.int .i64 7, .int .i64 a, .int .i64 b] w fun e w' => e = .returned (.tuple #[.int .i64 (V 7 a b), .int .i64 (C 7 b)]) ∧ w = w' := by
  go_enter Try.func69, Try.ntmps69
  go_wp2
  go_ret2
  refine ⟨?_, rfl⟩
  show Ending.returned (.tuple #[_, _]) = _
  simp [V, C]
theorem bin8 (a b : Int) (w : World) :
    Calls Try.prog 69 #[.int .i64 8, .int .i64 a, .int .i64 b] w fun e w' => e = .returned (.tuple #[.int .i64 (V 8 a b), .int .i64 (C 8 b)]) ∧ w = w' := by
  go_enter Try.func69, Try.ntmps69
  go_wp2
  go_ret2
  refine ⟨?_, rfl⟩
  show Ending.returned (.tuple #[_, _]) = _
  simp [V, C]
theorem bin9 (a b : Int) (w : World) :
    Calls Try.prog 69 #[.int .i64 9, .int .i64 a, .int .i64 b] w fun e w' => e = .returned (.tuple #[.int .i64 (V 9 a b), .int .i64 (C 9 b)]) ∧ w = w' := by
  have hs := sh_le b
  go_enter Try.func69, Try.ntmps69
  go_wp2_with (go_at_call 75; refine (distance_any _ _).mono ?_; rintro e w' ⟨rfl, rfl⟩)
  go_ret2
  refine ⟨?_, rfl⟩
  show Ending.returned (.tuple #[_, _]) = _
  simp [V, C]
theorem bin10 (a b : Int) (w : World) :
    Calls Try.prog 69 #[.int .i64 10, .int .i64 a, .int .i64 b] w fun e w' => e = .returned (.tuple #[.int .i64 (V 10 a b), .int .i64 (C 10 b)]) ∧ w = w' := by
  have hs := sh_le b
  go_enter Try.func69, Try.ntmps69
  go_wp2_with (go_at_call 75; refine (distance_any _ _).mono ?_; rintro e w' ⟨rfl, rfl⟩)
  go_ret2
  refine ⟨?_, rfl⟩
  show Ending.returned (.tuple #[_, _]) = _
  simp [V, C]
theorem bin11 (a b : Int) (w : World) :
    Calls Try.prog 69 #[.int .i64 11, .int .i64 a, .int .i64 b] w fun e w' => e = .returned (.tuple #[.int .i64 (V 11 a b), .int .i64 (C 11 b)]) ∧ w = w' := by
  go_enter Try.func69, Try.ntmps69
  go_wp2_with (go_at_call 72; refine (truth_any _ _).mono ?_; rintro e w' ⟨rfl, rfl⟩)
  go_ret2
  refine ⟨?_, rfl⟩
  show Ending.returned (.tuple #[_, _]) = _
  simp [V, C]
theorem bin12 (a b : Int) (w : World) :
    Calls Try.prog 69 #[.int .i64 12, .int .i64 a, .int .i64 b] w fun e w' => e = .returned (.tuple #[.int .i64 (V 12 a b), .int .i64 (C 12 b)]) ∧ w = w' := by
  go_enter Try.func69, Try.ntmps69
  go_wp2_with (go_at_call 72; refine (truth_any _ _).mono ?_; rintro e w' ⟨rfl, rfl⟩)
  go_ret2
  refine ⟨?_, rfl⟩
  show Ending.returned (.tuple #[_, _]) = _
  simp [V, C]
theorem bin13 (a b : Int) (w : World) :
    Calls Try.prog 69 #[.int .i64 13, .int .i64 a, .int .i64 b] w fun e w' => e = .returned (.tuple #[.int .i64 (V 13 a b), .int .i64 (C 13 b)]) ∧ w = w' := by
  go_enter Try.func69, Try.ntmps69
  go_wp2_with (go_at_call 72; refine (truth_any _ _).mono ?_; rintro e w' ⟨rfl, rfl⟩)
  go_ret2
  refine ⟨?_, rfl⟩
  show Ending.returned (.tuple #[_, _]) = _
  simp [V, C]
theorem bin14 (a b : Int) (w : World) :
    Calls Try.prog 69 #[.int .i64 14, .int .i64 a, .int .i64 b] w fun e w' => e = .returned (.tuple #[.int .i64 (V 14 a b), .int .i64 (C 14 b)]) ∧ w = w' := by
  go_enter Try.func69, Try.ntmps69
  go_wp2_with (go_at_call 72; refine (truth_any _ _).mono ?_; rintro e w' ⟨rfl, rfl⟩)
  go_ret2
  refine ⟨?_, rfl⟩
  show Ending.returned (.tuple #[_, _]) = _
  simp [V, C]
theorem bin15 (a b : Int) (w : World) :
    Calls Try.prog 69 #[.int .i64 15, .int .i64 a, .int .i64 b] w fun e w' => e = .returned (.tuple #[.int .i64 (V 15 a b), .int .i64 (C 15 b)]) ∧ w = w' := by
  go_enter Try.func69, Try.ntmps69
  go_wp2_with (go_at_call 72; refine (truth_any _ _).mono ?_; rintro e w' ⟨rfl, rfl⟩)
  go_ret2
  refine ⟨?_, rfl⟩
  show Ending.returned (.tuple #[_, _]) = _
  simp [V, C]
theorem bin16 (a b : Int) (w : World) :
    Calls Try.prog 69 #[.int .i64 16, .int .i64 a, .int .i64 b] w fun e w' => e = .returned (.tuple #[.int .i64 (V 16 a b), .int .i64 (C 16 b)]) ∧ w = w' := by
  go_enter Try.func69, Try.ntmps69
  go_wp2_with (go_at_call 72; refine (truth_any _ _).mono ?_; rintro e w' ⟨rfl, rfl⟩)
  go_ret2
  refine ⟨?_, rfl⟩
  show Ending.returned (.tuple #[_, _]) = _
  simp [V, C]
theorem ref1 (a b : Int) (w : World) :
    Calls Try.prog 37 #[.int .i64 1, .int .i64 a, .int .i64 b] w fun e w' => e = .returned (.tuple #[.int .i64 (V 1 a b), .int .i64 (C 1 b)]) ∧ w = w' := by
  go_enter Try.func37, Try.ntmps37
  go_wp2
  go_ret2
  refine ⟨?_, rfl⟩
  show Ending.returned (.tuple #[_, _]) = _
  simp [V, C]
theorem ref2 (a b : Int) (w : World) :
    Calls Try.prog 37 #[.int .i64 2, .int .i64 a, .int .i64 b] w fun e w' => e = .returned (.tuple #[.int .i64 (V 2 a b), .int .i64 (C 2 b)]) ∧ w = w' := by
  go_enter Try.func37, Try.ntmps37
  go_wp2
  go_ret2
  refine ⟨?_, rfl⟩
  show Ending.returned (.tuple #[_, _]) = _
  simp [V, C]
theorem ref3 (a b : Int) (w : World) :
    Calls Try.prog 37 #[.int .i64 3, .int .i64 a, .int .i64 b] w fun e w' => e = .returned (.tuple #[.int .i64 (V 3 a b), .int .i64 (C 3 b)]) ∧ w = w' := by
  go_enter Try.func37, Try.ntmps37
  go_wp2
  go_ret2
  refine ⟨?_, rfl⟩
  show Ending.returned (.tuple #[_, _]) = _
  simp [V, C]
theorem ref6 (a b : Int) (w : World) :
    Calls Try.prog 37 #[.int .i64 6, .int .i64 a, .int .i64 b] w fun e w' => e = .returned (.tuple #[.int .i64 (V 6 a b), .int .i64 (C 6 b)]) ∧ w = w' := by
  go_enter Try.func37, Try.ntmps37
  go_wp2
  go_ret2
  refine ⟨?_, rfl⟩
  show Ending.returned (.tuple #[_, _]) = _
  simp [V, C]
theorem ref7 (a b : Int) (w : World) :
    Calls Try.prog 37 #[.int .i64 7, .int .i64 a, .int .i64 b] w fun e w' => e = .returned (.tuple #[.int .i64 (V 7 a b), .int .i64 (C 7 b)]) ∧ w = w' := by
  go_enter Try.func37, Try.ntmps37
  go_wp2
  go_ret2
  refine ⟨?_, rfl⟩
  show Ending.returned (.tuple #[_, _]) = _
  simp [V, C]
theorem ref8 (a b : Int) (w : World) :
    Calls Try.prog 37 #[.int .i64 8, .int .i64 a, .int .i64 b] w fun e w' => e = .returned (.tuple #[.int .i64 (V 8 a b), .int .i64 (C 8 b)]) ∧ w = w' := by
  go_enter Try.func37, Try.ntmps37
  go_wp2
  go_ret2
  refine ⟨?_, rfl⟩
  show Ending.returned (.tuple #[_, _]) = _
  simp [V, C]
theorem ref9 (a b : Int) (w : World) :
    Calls Try.prog 37 #[.int .i64 9, .int .i64 a, .int .i64 b] w fun e w' => e = .returned (.tuple #[.int .i64 (V 9 a b), .int .i64 (C 9 b)]) ∧ w = w' := by
  have hs := sh_le b
  have hc := sh_cast b
  have ha := i64_and63 b
  go_enter Try.func37, Try.ntmps37
  go_wp2
  go_ret2
  refine ⟨?_, rfl⟩
  show Ending.returned (.tuple #[_, _]) = _
  simp [V, C, sh]
theorem ref10 (a b : Int) (w : World) :
    Calls Try.prog 37 #[.int .i64 10, .int .i64 a, .int .i64 b] w fun e w' => e = .returned (.tuple #[.int .i64 (V 10 a b), .int .i64 (C 10 b)]) ∧ w = w' := by
  have hs := sh_le b
  have hc := sh_cast b
  have ha := i64_and63 b
  go_enter Try.func37, Try.ntmps37
  go_wp2
  go_ret2
  refine ⟨?_, rfl⟩
  show Ending.returned (.tuple #[_, _]) = _
  simp [V, C, sh]
theorem ref11 (a b : Int) (w : World) :
    Calls Try.prog 37 #[.int .i64 11, .int .i64 a, .int .i64 b] w fun e w' => e = .returned (.tuple #[.int .i64 (V 11 a b), .int .i64 (C 11 b)]) ∧ w = w' := by
  go_enter Try.func37, Try.ntmps37
  go_wp2_with (go_at_call 59; refine (one_any _ _).mono ?_; rintro e w' ⟨rfl, rfl⟩)
  go_ret2
  refine ⟨?_, rfl⟩
  show Ending.returned (.tuple #[_, _]) = _
  simp [V, C]
theorem ref12 (a b : Int) (w : World) :
    Calls Try.prog 37 #[.int .i64 12, .int .i64 a, .int .i64 b] w fun e w' => e = .returned (.tuple #[.int .i64 (V 12 a b), .int .i64 (C 12 b)]) ∧ w = w' := by
  go_enter Try.func37, Try.ntmps37
  go_wp2_with (go_at_call 59; refine (one_any _ _).mono ?_; rintro e w' ⟨rfl, rfl⟩)
  go_ret2
  refine ⟨?_, rfl⟩
  show Ending.returned (.tuple #[_, _]) = _
  simp [V, C]
theorem ref13 (a b : Int) (w : World) :
    Calls Try.prog 37 #[.int .i64 13, .int .i64 a, .int .i64 b] w fun e w' => e = .returned (.tuple #[.int .i64 (V 13 a b), .int .i64 (C 13 b)]) ∧ w = w' := by
  go_enter Try.func37, Try.ntmps37
  go_wp2_with (go_at_call 59; refine (one_any _ _).mono ?_; rintro e w' ⟨rfl, rfl⟩)
  go_ret2
  refine ⟨?_, rfl⟩
  show Ending.returned (.tuple #[_, _]) = _
  simp [V, C]
theorem ref14 (a b : Int) (w : World) :
    Calls Try.prog 37 #[.int .i64 14, .int .i64 a, .int .i64 b] w fun e w' => e = .returned (.tuple #[.int .i64 (V 14 a b), .int .i64 (C 14 b)]) ∧ w = w' := by
  go_enter Try.func37, Try.ntmps37
  go_wp2_with (go_at_call 59; refine (one_any _ _).mono ?_; rintro e w' ⟨rfl, rfl⟩)
  go_ret2
  refine ⟨?_, rfl⟩
  show Ending.returned (.tuple #[_, _]) = _
  simp [V, C]
theorem ref15 (a b : Int) (w : World) :
    Calls Try.prog 37 #[.int .i64 15, .int .i64 a, .int .i64 b] w fun e w' => e = .returned (.tuple #[.int .i64 (V 15 a b), .int .i64 (C 15 b)]) ∧ w = w' := by
  go_enter Try.func37, Try.ntmps37
  go_wp2_with (go_at_call 59; refine (one_any _ _).mono ?_; rintro e w' ⟨rfl, rfl⟩)
  go_ret2
  refine ⟨?_, rfl⟩
  show Ending.returned (.tuple #[_, _]) = _
  simp [V, C]
theorem ref16 (a b : Int) (w : World) :
    Calls Try.prog 37 #[.int .i64 16, .int .i64 a, .int .i64 b] w fun e w' => e = .returned (.tuple #[.int .i64 (V 16 a b), .int .i64 (C 16 b)]) ∧ w = w' := by
  go_enter Try.func37, Try.ntmps37
  go_wp2_with (go_at_call 59; refine (one_any _ _).mono ?_; rintro e w' ⟨rfl, rfl⟩)
  go_ret2
  refine ⟨?_, rfl⟩
  show Ending.returned (.tuple #[_, _]) = _
  simp [V, C]
theorem bin4_zero (a : Int) (w : World) :
    Calls Try.prog 69 #[.int .i64 4, .int .i64 a, .int .i64 0] w fun e w' => e = .returned (.tuple #[.int .i64 (V 4 a 0), .int .i64 (C 4 0)]) ∧ w = w' := by
  go_enter Try.func69, Try.ntmps69
  go_wp2_with (go_at_call 73; refine (quotient_zero _ _).mono ?_; rintro e w' ⟨rfl, rfl⟩)
  go_ret2
  refine ⟨?_, rfl⟩
  show Ending.returned (.tuple #[_, _]) = _
  simp [V, C]
theorem bin5_zero (a : Int) (w : World) :
    Calls Try.prog 69 #[.int .i64 5, .int .i64 a, .int .i64 0] w fun e w' => e = .returned (.tuple #[.int .i64 (V 5 a 0), .int .i64 (C 5 0)]) ∧ w = w' := by
  go_enter Try.func69, Try.ntmps69
  go_wp2_with (go_at_call 74; refine (remainder_zero _ _).mono ?_; rintro e w' ⟨rfl, rfl⟩)
  go_ret2
  refine ⟨?_, rfl⟩
  show Ending.returned (.tuple #[_, _]) = _
  simp [V, C]
theorem bin4 (a b : Int) (w : World) :
    Calls Try.prog 69 #[.int .i64 4, .int .i64 a, .int .i64 b] w fun e w' => e = .returned (.tuple #[.int .i64 (V 4 a b), .int .i64 (C 4 b)]) ∧ w = w' := by
  by_cases hb : b = 0
  · subst hb; exact bin4_zero a w
  · go_enter Try.func69, Try.ntmps69
    go_wp2_with (go_at_call 73; refine (quotient_any _ _ hb _).mono ?_; rintro e w' ⟨rfl, rfl⟩)
    go_ret2
    refine ⟨?_, rfl⟩
    show Ending.returned (.tuple #[_, _]) = _
    simp [V, C, hb]
theorem bin5 (a b : Int) (w : World) :
    Calls Try.prog 69 #[.int .i64 5, .int .i64 a, .int .i64 b] w fun e w' => e = .returned (.tuple #[.int .i64 (V 5 a b), .int .i64 (C 5 b)]) ∧ w = w' := by
  by_cases hb : b = 0
  · subst hb; exact bin5_zero a w
  · go_enter Try.func69, Try.ntmps69
    go_wp2_with (go_at_call 74; refine (remainder_any _ _ hb _).mono ?_; rintro e w' ⟨rfl, rfl⟩)
    go_ret2
    refine ⟨?_, rfl⟩
    show Ending.returned (.tuple #[_, _]) = _
    simp [V, C, hb]

theorem ref4 (a b : Int) (w : World) :
    Calls Try.prog 37 #[.int .i64 4, .int .i64 a, .int .i64 b] w fun e w' => e = .returned (.tuple #[.int .i64 (V 4 a b), .int .i64 (C 4 b)]) ∧ w = w' := by
  by_cases hb : b = 0
  · subst hb
    go_enter Try.func37, Try.ntmps37
    go_wp2
    go_ret2
    refine ⟨?_, rfl⟩
    show Ending.returned (.tuple #[_, _]) = _
    simp [V, C]
  · by_cases h1 : b = -1
    · subst h1
      go_enter Try.func37, Try.ntmps37
      go_wp2
      go_ret2
      refine ⟨?_, rfl⟩
      show Ending.returned (.tuple #[_, _]) = _
      simp [V, C]
    · have hb' : (b == 0) = false := by simpa using hb
      have h1' : (b == -1) = false := by simpa using h1
      go_enter Try.func37, Try.ntmps37
      go_wp2
      go_ret2
      refine ⟨?_, rfl⟩
      show Ending.returned (.tuple #[_, _]) = _
      simp [V, C, hb]

theorem ref5 (a b : Int) (w : World) :
    Calls Try.prog 37 #[.int .i64 5, .int .i64 a, .int .i64 b] w fun e w' => e = .returned (.tuple #[.int .i64 (V 5 a b), .int .i64 (C 5 b)]) ∧ w = w' := by
  by_cases hb : b = 0
  · subst hb
    go_enter Try.func37, Try.ntmps37
    go_wp2
    go_ret2
    refine ⟨?_, rfl⟩
    show Ending.returned (.tuple #[_, _]) = _
    simp [V, C]
  · by_cases h1 : b = -1
    · subst h1
      go_enter Try.func37, Try.ntmps37
      go_wp2
      go_ret2
      refine ⟨?_, rfl⟩
      show Ending.returned (.tuple #[_, _]) = _
      simp [V, C]
    · have hb' : (b == 0) = false := by simpa using hb
      have h1' : (b == -1) = false := by simpa using h1
      go_enter Try.func37, Try.ntmps37
      go_wp2
      go_ret2
      refine ⟨?_, rfl⟩
      show Ending.returned (.tuple #[_, _]) = _
      simp [V, C, hb]

theorem bin_no (op a b : Int) (h1 : (op == 1) = false) (h2 : (op == 2) = false) (h3 : (op == 3) = false) (h4 : (op == 4) = false) (h5 : (op == 5) = false) (h6 : (op == 6) = false) (h7 : (op == 7) = false) (h8 : (op == 8) = false) (h9 : (op == 9) = false) (h10 : (op == 10) = false) (h11 : (op == 11) = false) (h12 : (op == 12) = false) (h13 : (op == 13) = false) (h14 : (op == 14) = false) (h15 : (op == 15) = false) (h16 : (op == 16) = false) (w : World) :
    Calls Try.prog 69 #[.int .i64 op, .int .i64 a, .int .i64 b] w fun e w' => e = .returned (.tuple #[.int .i64 0, .int .i64 (-1)]) ∧ w = w' := by
  go_enter Try.func69, Try.ntmps69
  go_wp2
  go_ret2
  exact ⟨rfl, rfl⟩
theorem bin_any (op a b : Int) (w : World) :
    Calls Try.prog 69 #[.int .i64 op, .int .i64 a, .int .i64 b] w fun e w' => e = .returned (.tuple #[.int .i64 (V op a b), .int .i64 (C op b)]) ∧ w = w' := by
  by_cases hop : 1 ≤ op ∧ op ≤ 16
  · have hc : op = 1 ∨ op = 2 ∨ op = 3 ∨ op = 4 ∨ op = 5 ∨ op = 6 ∨ op = 7 ∨ op = 8 ∨ op = 9 ∨ op = 10 ∨ op = 11 ∨ op = 12 ∨ op = 13 ∨ op = 14 ∨ op = 15 ∨ op = 16 := by omega
    rcases hc with rfl | rfl | rfl | rfl | rfl | rfl | rfl | rfl | rfl | rfl | rfl | rfl | rfl | rfl | rfl | rfl
    · exact bin1 a b w
    · exact bin2 a b w
    · exact bin3 a b w
    · exact bin4 a b w
    · exact bin5 a b w
    · exact bin6 a b w
    · exact bin7 a b w
    · exact bin8 a b w
    · exact bin9 a b w
    · exact bin10 a b w
    · exact bin11 a b w
    · exact bin12 a b w
    · exact bin13 a b w
    · exact bin14 a b w
    · exact bin15 a b w
    · exact bin16 a b w
  · have n : ∀ k : Int, 1 ≤ k → k ≤ 16 → (op == k) = false := by
      intro k h1 h2
      rw [beq_eq_false_iff_ne]
      omega
    have hv : V op a b = 0 := by
      unfold V
      repeat rw [if_neg (by omega)]
    have hc : C op b = -1 := by
      unfold C
      rw [if_neg (by omega), if_neg hop]
    rw [hv, hc]
    exact bin_no op a b (n 1 (by decide) (by decide)) (n 2 (by decide) (by decide)) (n 3 (by decide) (by decide)) (n 4 (by decide) (by decide)) (n 5 (by decide) (by decide)) (n 6 (by decide) (by decide)) (n 7 (by decide) (by decide)) (n 8 (by decide) (by decide)) (n 9 (by decide) (by decide)) (n 10 (by decide) (by decide)) (n 11 (by decide) (by decide)) (n 12 (by decide) (by decide)) (n 13 (by decide) (by decide)) (n 14 (by decide) (by decide)) (n 15 (by decide) (by decide)) (n 16 (by decide) (by decide)) w
theorem ref_no (op a b : Int) (h1 : (op == 1) = false) (h2 : (op == 2) = false) (h3 : (op == 3) = false) (h4 : (op == 4) = false) (h5 : (op == 5) = false) (h6 : (op == 6) = false) (h7 : (op == 7) = false) (h8 : (op == 8) = false) (h9 : (op == 9) = false) (h10 : (op == 10) = false) (h11 : (op == 11) = false) (h12 : (op == 12) = false) (h13 : (op == 13) = false) (h14 : (op == 14) = false) (h15 : (op == 15) = false) (h16 : (op == 16) = false) (w : World) :
    Calls Try.prog 37 #[.int .i64 op, .int .i64 a, .int .i64 b] w fun e w' => e = .returned (.tuple #[.int .i64 0, .int .i64 (-1)]) ∧ w = w' := by
  go_enter Try.func37, Try.ntmps37
  go_wp2
  go_ret2
  exact ⟨rfl, rfl⟩
theorem ref_any (op a b : Int) (w : World) :
    Calls Try.prog 37 #[.int .i64 op, .int .i64 a, .int .i64 b] w fun e w' => e = .returned (.tuple #[.int .i64 (V op a b), .int .i64 (C op b)]) ∧ w = w' := by
  by_cases hop : 1 ≤ op ∧ op ≤ 16
  · have hc : op = 1 ∨ op = 2 ∨ op = 3 ∨ op = 4 ∨ op = 5 ∨ op = 6 ∨ op = 7 ∨ op = 8 ∨ op = 9 ∨ op = 10 ∨ op = 11 ∨ op = 12 ∨ op = 13 ∨ op = 14 ∨ op = 15 ∨ op = 16 := by omega
    rcases hc with rfl | rfl | rfl | rfl | rfl | rfl | rfl | rfl | rfl | rfl | rfl | rfl | rfl | rfl | rfl | rfl
    · exact ref1 a b w
    · exact ref2 a b w
    · exact ref3 a b w
    · exact ref4 a b w
    · exact ref5 a b w
    · exact ref6 a b w
    · exact ref7 a b w
    · exact ref8 a b w
    · exact ref9 a b w
    · exact ref10 a b w
    · exact ref11 a b w
    · exact ref12 a b w
    · exact ref13 a b w
    · exact ref14 a b w
    · exact ref15 a b w
    · exact ref16 a b w
  · have n : ∀ k : Int, 1 ≤ k → k ≤ 16 → (op == k) = false := by
      intro k h1 h2
      rw [beq_eq_false_iff_ne]
      omega
    have hv : V op a b = 0 := by
      unfold V
      repeat rw [if_neg (by omega)]
    have hc : C op b = -1 := by
      unfold C
      rw [if_neg (by omega), if_neg hop]
    rw [hv, hc]
    exact ref_no op a b (n 1 (by decide) (by decide)) (n 2 (by decide) (by decide)) (n 3 (by decide) (by decide)) (n 4 (by decide) (by decide)) (n 5 (by decide) (by decide)) (n 6 (by decide) (by decide)) (n 7 (by decide) (by decide)) (n 8 (by decide) (by decide)) (n 9 (by decide) (by decide)) (n 10 (by decide) (by decide)) (n 11 (by decide) (by decide)) (n 12 (by decide) (by decide)) (n 13 (by decide) (by decide)) (n 14 (by decide) (by decide)) (n 15 (by decide) (by decide)) (n 16 (by decide) (by decide)) w

/-- What an operation of one word makes. -/
def VU (op a : Int) : Int :=
  if op = 1 then wrap64 (-a) else if op = 2 then bits .xor .i64 (-1) a else if op = 3 then oneOf (a == 0) else 0
/-- Its second answer. -/
def CU (op : Int) : Int := if 1 ≤ op ∧ op ≤ 3 then 0 else -1

theorem un1 (a : Int) (w : World) :
    Calls Try.prog 68 #[.int .i64 1, .int .i64 a] w fun e w' => e = .returned (.tuple #[.int .i64 (VU 1 a), .int .i64 (CU 1)]) ∧ w = w' := by
  go_enter Try.func68, Try.ntmps68
  go_wp2_with (go_at_call 72; refine (truth_any _ _).mono ?_; rintro e w' ⟨rfl, rfl⟩)
  go_ret2
  refine ⟨?_, rfl⟩
  show Ending.returned (.tuple #[_, _]) = _
  simp [VU, CU]
theorem un2 (a : Int) (w : World) :
    Calls Try.prog 68 #[.int .i64 2, .int .i64 a] w fun e w' => e = .returned (.tuple #[.int .i64 (VU 2 a), .int .i64 (CU 2)]) ∧ w = w' := by
  go_enter Try.func68, Try.ntmps68
  go_wp2_with (go_at_call 72; refine (truth_any _ _).mono ?_; rintro e w' ⟨rfl, rfl⟩)
  go_ret2
  refine ⟨?_, rfl⟩
  show Ending.returned (.tuple #[_, _]) = _
  simp [VU, CU]
theorem un3 (a : Int) (w : World) :
    Calls Try.prog 68 #[.int .i64 3, .int .i64 a] w fun e w' => e = .returned (.tuple #[.int .i64 (VU 3 a), .int .i64 (CU 3)]) ∧ w = w' := by
  go_enter Try.func68, Try.ntmps68
  go_wp2_with (go_at_call 72; refine (truth_any _ _).mono ?_; rintro e w' ⟨rfl, rfl⟩)
  go_ret2
  refine ⟨?_, rfl⟩
  show Ending.returned (.tuple #[_, _]) = _
  simp [VU, CU]
theorem un_no (op a : Int) (h1 : (op == 1) = false) (h2 : (op == 2) = false) (h3 : (op == 3) = false) (w : World) :
    Calls Try.prog 68 #[.int .i64 op, .int .i64 a] w fun e w' => e = .returned (.tuple #[.int .i64 0, .int .i64 (-1)]) ∧ w = w' := by
  go_enter Try.func68, Try.ntmps68
  go_wp2
  go_ret2
  exact ⟨rfl, rfl⟩
theorem un_any (op a : Int) (w : World) :
    Calls Try.prog 68 #[.int .i64 op, .int .i64 a] w fun e w' => e = .returned (.tuple #[.int .i64 (VU op a), .int .i64 (CU op)]) ∧ w = w' := by
  by_cases hop : 1 ≤ op ∧ op ≤ 3
  · have hc : op = 1 ∨ op = 2 ∨ op = 3 := by omega
    rcases hc with rfl | rfl | rfl
    · exact un1 a w
    · exact un2 a w
    · exact un3 a w
  · have n : ∀ k : Int, 1 ≤ k → k ≤ 3 → (op == k) = false := by
      intro k h1 h2
      rw [beq_eq_false_iff_ne]
      omega
    have hv : VU op a = 0 := by
      unfold VU
      repeat rw [if_neg (by omega)]
    have hc : CU op = -1 := by
      unfold CU
      rw [if_neg hop]
    rw [hv, hc]
    exact un_no op a (n 1 (by decide) (by decide)) (n 2 (by decide) (by decide)) (n 3 (by decide) (by decide)) w
theorem run1 (a : Int) (w : World) :
    Calls Try.prog 36 #[.int .i64 1, .int .i64 a] w fun e w' => e = .returned (.tuple #[.int .i64 (VU 1 a), .int .i64 (CU 1)]) ∧ w = w' := by
  go_enter Try.func36, Try.ntmps36
  go_wp2_with (go_at_call 59; refine (one_any _ _).mono ?_; rintro e w' ⟨rfl, rfl⟩)
  go_ret2
  refine ⟨?_, rfl⟩
  show Ending.returned (.tuple #[_, _]) = _
  simp [VU, CU]
theorem run2 (a : Int) (w : World) :
    Calls Try.prog 36 #[.int .i64 2, .int .i64 a] w fun e w' => e = .returned (.tuple #[.int .i64 (VU 2 a), .int .i64 (CU 2)]) ∧ w = w' := by
  go_enter Try.func36, Try.ntmps36
  go_wp2_with (go_at_call 59; refine (one_any _ _).mono ?_; rintro e w' ⟨rfl, rfl⟩)
  go_ret2
  refine ⟨?_, rfl⟩
  show Ending.returned (.tuple #[_, _]) = _
  simp [VU, CU]
theorem run3 (a : Int) (w : World) :
    Calls Try.prog 36 #[.int .i64 3, .int .i64 a] w fun e w' => e = .returned (.tuple #[.int .i64 (VU 3 a), .int .i64 (CU 3)]) ∧ w = w' := by
  go_enter Try.func36, Try.ntmps36
  go_wp2_with (go_at_call 59; refine (one_any _ _).mono ?_; rintro e w' ⟨rfl, rfl⟩)
  go_ret2
  refine ⟨?_, rfl⟩
  show Ending.returned (.tuple #[_, _]) = _
  simp [VU, CU]
theorem run_no (op a : Int) (h1 : (op == 1) = false) (h2 : (op == 2) = false) (h3 : (op == 3) = false) (w : World) :
    Calls Try.prog 36 #[.int .i64 op, .int .i64 a] w fun e w' => e = .returned (.tuple #[.int .i64 0, .int .i64 (-1)]) ∧ w = w' := by
  go_enter Try.func36, Try.ntmps36
  go_wp2
  go_ret2
  exact ⟨rfl, rfl⟩
theorem run_any (op a : Int) (w : World) :
    Calls Try.prog 36 #[.int .i64 op, .int .i64 a] w fun e w' => e = .returned (.tuple #[.int .i64 (VU op a), .int .i64 (CU op)]) ∧ w = w' := by
  by_cases hop : 1 ≤ op ∧ op ≤ 3
  · have hc : op = 1 ∨ op = 2 ∨ op = 3 := by omega
    rcases hc with rfl | rfl | rfl
    · exact run1 a w
    · exact run2 a w
    · exact run3 a w
  · have n : ∀ k : Int, 1 ≤ k → k ≤ 3 → (op == k) = false := by
      intro k h1 h2
      rw [beq_eq_false_iff_ne]
      omega
    have hv : VU op a = 0 := by
      unfold VU
      repeat rw [if_neg (by omega)]
    have hc : CU op = -1 := by
      unfold CU
      rw [if_neg hop]
    rw [hv, hc]
    exact run_no op a (n 1 (by decide) (by decide)) (n 2 (by decide) (by decide)) (n 3 (by decide) (by decide)) w

end Go.Proofs.Ytikgghioneiegaa
