/-
  Plain lemmas on words of 64 bits that the statements without the document's answer lean on.
-/
import Derived.Test.YtofgkfjgdglacaaWordA
namespace Go.Proofs.Ytofgkfjgdglacaa
open Go.RowKit
set_option linter.unusedVariables false

theorem wrap_add_mul (x k : Int) : wrap64 (x + k * 18446744073709551616) = wrap64 x := by unfold wrap64; omega
theorem wrap_is (x : Int) : ∃ k : Int, wrap64 x = x + k * 18446744073709551616 :=
  ⟨-((x + 9223372036854775808) / 18446744073709551616), by unfold wrap64; omega⟩
theorem wrap_add (x y : Int) : wrap64 (wrap64 x + y) = wrap64 (x + y) := by
  obtain ⟨k, hk⟩ := wrap_is x
  rw [hk, show x + k * 18446744073709551616 + y = (x + y) + k * 18446744073709551616 by omega, wrap_add_mul]
theorem wrap_mul (x y : Int) : wrap64 (wrap64 x * y) = wrap64 (x * y) := by
  obtain ⟨k, hk⟩ := wrap_is x
  rw [hk, Int.add_mul, Int.mul_right_comm k, wrap_add_mul]
theorem wrap_neg (x : Int) : wrap64 (-wrap64 x) = wrap64 (-x) := by
  obtain ⟨k, hk⟩ := wrap_is x
  rw [hk, show -(x + k * 18446744073709551616) = -x + (-k) * 18446744073709551616 by omega, wrap_add_mul]
theorem wrap_in (x : Int) (h1 : -9223372036854775808 ≤ x) (h2 : x ≤ 9223372036854775807) : wrap64 x = x := by unfold wrap64; omega
theorem wrap_lo (x : Int) : -9223372036854775808 ≤ wrap64 x := by unfold wrap64; omega
theorem wrap_hi (x : Int) : wrap64 x ≤ 9223372036854775807 := by unfold wrap64; omega
theorem div_back (a b : Int) (h1 : -9223372036854775808 ≤ a) (h2 : a ≤ 9223372036854775807) :
    wrap64 (wrap64 (wrap64 (a.tdiv b) * b) + a.tmod b) = a := by
  rw [wrap_mul, wrap_add, Int.mul_comm, Int.mul_tdiv_add_tmod, wrap_in a h1 h2]
theorem wf64 {n : Int} (h : (Lit.int .i64 n).wf = true) : -9223372036854775808 ≤ n ∧ n ≤ 9223372036854775807 := by
  have hmin : IntKind.i64.min = -9223372036854775808 := rfl
  have hmax : IntKind.i64.max = 9223372036854775807 := rfl
  simp only [Lit.wf, Bool.and_eq_true, decide_eq_true_eq] at h
  omega
theorem wf8 {n : Int} (h : (Lit.int .u8 n).wf = true) : 0 ≤ n ∧ n ≤ 255 := by
  have hmin : IntKind.u8.min = 0 := rfl
  have hmax : IntKind.u8.max = 255 := rfl
  simp only [Lit.wf, Bool.and_eq_true, decide_eq_true_eq] at h
  omega
theorem tmod_lt (a b : Int) (hb : ¬ b = 0) : a.tmod b < (b.natAbs : Int) ∧ -(b.natAbs : Int) < a.tmod b := by
  have h := Int.natAbs_tmod a b
  have h2 : a.natAbs % b.natAbs < b.natAbs := Nat.mod_lt _ (by omega)
  omega
theorem tmod_sign (a b : Int) : (0 ≤ a → 0 ≤ a.tmod b) ∧ (a ≤ 0 → a.tmod b ≤ 0) := by
  constructor
  · intro h; exact Int.tmod_nonneg _ h
  · intro h
    have := Int.tmod_nonneg b (a := -a) (by omega)
    rw [Int.neg_tmod] at this
    omega
theorem bits_toInt (op : BinOp) (f : BitVec 64 → BitVec 64 → BitVec 64) (a b : Int) (h : bits op .i64 a b = IntKind.i64.wrap ((f (BitVec.ofInt 64 a) (BitVec.ofInt 64 b)).toNat : Nat)) :
    bits op .i64 a b = (f (BitVec.ofInt 64 a) (BitVec.ofInt 64 b)).toInt := by
  rw [h, IntKind.wrap_i64, BitVec.toInt_eq_toNat_cond]
  have := (f (BitVec.ofInt 64 a) (BitVec.ofInt 64 b)).isLt
  split <;> omega
theorem xor_bv (a b : Int) : bits .xor .i64 a b = (BitVec.ofInt 64 a ^^^ BitVec.ofInt 64 b).toInt := bits_toInt .xor (· ^^^ ·) a b rfl
theorem and_bv (a b : Int) : bits .and .i64 a b = (BitVec.ofInt 64 a &&& BitVec.ofInt 64 b).toInt := bits_toInt .and (· &&& ·) a b rfl
theorem or_bv (a b : Int) : bits .or .i64 a b = (BitVec.ofInt 64 a ||| BitVec.ofInt 64 b).toInt := bits_toInt .or (· ||| ·) a b rfl
theorem ofInt_in (a : Int) (h1 : -9223372036854775808 ≤ a) (h2 : a ≤ 9223372036854775807) : (BitVec.ofInt 64 a).toInt = a := by
  rw [BitVec.toInt_ofInt]
  simp [Int.bmod]
  omega
theorem xor_back (a b : Int) (h1 : -9223372036854775808 ≤ a) (h2 : a ≤ 9223372036854775807) : bits .xor .i64 (bits .xor .i64 a b) b = a := by
  rw [xor_bv, xor_bv, BitVec.ofInt_toInt, BitVec.xor_assoc, BitVec.xor_self, BitVec.xor_zero, ofInt_in a h1 h2]
theorem flip_back (a : Int) (h1 : -9223372036854775808 ≤ a) (h2 : a ≤ 9223372036854775807) : bits .xor .i64 (-1) (bits .xor .i64 (-1) a) = a := by
  rw [xor_bv, xor_bv, BitVec.ofInt_toInt, ← BitVec.xor_assoc, BitVec.xor_self, BitVec.zero_xor, ofInt_in a h1 h2]
theorem bv_and_xor (x y : BitVec 64) : (x &&& y) + (x ^^^ y) = x ||| y := by
  rw [BitVec.add_eq_or_of_and_eq_zero]
  · ext i hi; simp; cases x[i] <;> cases y[i] <;> rfl
  · ext i hi; simp; cases x[i] <;> cases y[i] <;> simp
theorem and_xor_or (a b : Int) : wrap64 (bits .and .i64 a b + bits .xor .i64 a b) = bits .or .i64 a b := by
  rw [and_bv, xor_bv, or_bv, ← bv_and_xor, BitVec.toInt_add]
  simp only [Int.bmod, wrap64]
  omega
theorem shl_step (a : Int) (j : Nat) : wrap64 (wrap64 (a * 2 ^ j) * 2) = wrap64 (a * 2 ^ (j + 1)) := by
  rw [wrap_mul, Int.mul_assoc, Int.pow_succ]
theorem shr_step (a : Int) (j : Nat) : a / 2 ^ j / 2 = a / 2 ^ (j + 1) := by
  rw [Int.pow_succ, Int.ediv_ediv_of_nonneg (Int.le_of_lt (Int.pow_pos (by decide)))]
end Go.Proofs.Ytofgkfjgdglacaa
