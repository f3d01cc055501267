/-
  What the instructions of an op have, and their names, in the program and in the document's reading: walks.
-/
import Derived.Test.YtikgghioneiegaaRows
import Derived.WalkKit
import Derived.Lib.Hide
import Derived.Deep.QuietTactic
import Derived.BigQuiet
namespace Go.Proofs.Ytikgghioneiegaa
open Go.RowKit
set_option linter.unusedVariables false

/-- Is there such an op? -/
def K (op : Int) : Bool := decide (0 ≤ op ∧ op ≤ 15 ∨ 17 ≤ op ∧ op ≤ 32 ∨ 41 ≤ op ∧ op ≤ 43)
/-- Its registers. -/
def U (op : Int) : Int :=
  if op = 0 then 0 else
  if op = 1 then 0 else
  if op = 2 then 3 else
  if op = 3 then 1 else
  if op = 4 then 1 else
  if op = 5 then 3 else
  if op = 6 then 3 else
  if op = 7 then 0 else
  if op = 8 then 1 else
  if op = 9 then 1 else
  if op = 10 then 0 else
  if op = 11 then 1 else
  if op = 12 then 0 else
  if op = 13 then 1 else
  if op = 14 then 1 else
  if op = 15 then 1 else
  if op = 17 then 7 else
  if op = 18 then 7 else
  if op = 19 then 7 else
  if op = 20 then 7 else
  if op = 21 then 7 else
  if op = 22 then 7 else
  if op = 23 then 7 else
  if op = 24 then 7 else
  if op = 25 then 7 else
  if op = 26 then 7 else
  if op = 27 then 7 else
  if op = 28 then 7 else
  if op = 29 then 7 else
  if op = 30 then 7 else
  if op = 31 then 7 else
  if op = 32 then 7 else
  if op = 41 then 3 else
  if op = 42 then 3 else
  if op = 43 then 3 else
  0
/-- Has it a number? -/
def I (op : Int) : Bool :=
  if op = 1 then true else
  if op = 3 then true else
  if op = 4 then true else
  if op = 5 then true else
  if op = 6 then true else
  if op = 7 then true else
  if op = 8 then true else
  if op = 9 then true else
  if op = 10 then true else
  false
/-- Its name. -/
def nm (op : Int) : List UInt8 :=
  if op = 0 then [104, 97, 108, 116] else
  if op = 1 then [116, 114, 97, 112] else
  if op = 2 then [109, 111, 118, 101] else
  if op = 3 then [99, 111, 110, 115, 116] else
  if op = 4 then [104, 105, 103, 104] else
  if op = 5 then [108, 111, 97, 100] else
  if op = 6 then [115, 116, 111, 114, 101] else
  if op = 7 then [106, 117, 109, 112] else
  if op = 8 then [122, 101, 114, 111] else
  if op = 9 then [115, 111, 109, 101] else
  if op = 10 then [99, 97, 108, 108] else
  if op = 11 then [97, 116] else
  if op = 12 then [114, 101, 116] else
  if op = 13 then [105, 110] else
  if op = 14 then [111, 117, 116] else
  if op = 15 then [114, 111, 111, 109] else
  if op = 17 then [97, 100, 100] else
  if op = 18 then [115, 117, 98] else
  if op = 19 then [109, 117, 108] else
  if op = 20 then [100, 105, 118] else
  if op = 21 then [114, 101, 109] else
  if op = 22 then [97, 110, 100] else
  if op = 23 then [111, 114] else
  if op = 24 then [120, 111, 114] else
  if op = 25 then [115, 104, 108] else
  if op = 26 then [115, 104, 114] else
  if op = 27 then [101, 113] else
  if op = 28 then [110, 101] else
  if op = 29 then [108, 116] else
  if op = 30 then [108, 101] else
  if op = 31 then [103, 116] else
  if op = 32 then [103, 101] else
  if op = 41 then [110, 101, 103] else
  if op = 42 then [102, 108, 105, 112] else
  if op = 43 then [98, 97, 110, 103] else
  []
def nmS (op : Int) : ByteArray := ⟨(nm op).toArray⟩
theorem K_cases {op : Int} (h : K op = true) : op = 0 ∨ op = 1 ∨ op = 2 ∨ op = 3 ∨ op = 4 ∨ op = 5 ∨ op = 6 ∨ op = 7 ∨ op = 8 ∨ op = 9 ∨ op = 10 ∨ op = 11 ∨ op = 12 ∨ op = 13 ∨ op = 14 ∨ op = 15 ∨ op = 17 ∨ op = 18 ∨ op = 19 ∨ op = 20 ∨ op = 21 ∨ op = 22 ∨ op = 23 ∨ op = 24 ∨ op = 25 ∨ op = 26 ∨ op = 27 ∨ op = 28 ∨ op = 29 ∨ op = 30 ∨ op = 31 ∨ op = 32 ∨ op = 41 ∨ op = 42 ∨ op = 43 := by
  simp only [K, decide_eq_true_eq] at h; omega
theorem K_not {op : Int} (h : K op = false) : ¬ op = 0 ∧ ¬ op = 1 ∧ ¬ op = 2 ∧ ¬ op = 3 ∧ ¬ op = 4 ∧ ¬ op = 5 ∧ ¬ op = 6 ∧ ¬ op = 7 ∧ ¬ op = 8 ∧ ¬ op = 9 ∧ ¬ op = 10 ∧ ¬ op = 11 ∧ ¬ op = 12 ∧ ¬ op = 13 ∧ ¬ op = 14 ∧ ¬ op = 15 ∧ ¬ op = 17 ∧ ¬ op = 18 ∧ ¬ op = 19 ∧ ¬ op = 20 ∧ ¬ op = 21 ∧ ¬ op = 22 ∧ ¬ op = 23 ∧ ¬ op = 24 ∧ ¬ op = 25 ∧ ¬ op = 26 ∧ ¬ op = 27 ∧ ¬ op = 28 ∧ ¬ op = 29 ∧ ¬ op = 30 ∧ ¬ op = 31 ∧ ¬ op = 32 ∧ ¬ op = 41 ∧ ¬ op = 42 ∧ ¬ op = 43 := by
  simp only [K, decide_eq_false_iff_not] at h; omega

theorem toList_loop (b : ByteArray) : ∀ (n i : Nat) (r : List UInt8), b.size - i = n → ByteArray.toList.loop b i r = r.reverse ++ b.data.toList.drop i := by
  intro n
  induction n with
  | zero =>
    intro i r h
    have hd : b.data.toList.drop i = [] := List.drop_eq_nil_of_le (by simp only [Array.length_toList]; show b.size ≤ i; omega)
    rw [ByteArray.toList.loop.eq_def, if_neg (by omega), hd, List.append_nil]
  | succ n ih =>
    intro i r h
    have hi : i < b.data.toList.length := by simp only [Array.length_toList]; show i < b.size; omega
    rw [ByteArray.toList.loop.eq_def, if_pos (by omega), ih (i + 1) _ (by omega), List.drop_eq_getElem_cons hi]
    have e : b.get! i = b.data.toList[i] := by
      show b.data[i]! = _
      rw [Array.getElem_toList, getElem!_pos]
    rw [e]
    simp
theorem toList_data (b : ByteArray) : b.toList = b.data.toList := by
  unfold ByteArray.toList
  rw [toList_loop b _ 0 [] rfl]
  simp

theorem uses0 (w : World) : Calls Try.prog 77 #[.int .i64 0] w fun e w' => e = .returned (.tuple #[.int .i64 0, .bool false, .bool true]) ∧ w = w' := by
  go_enter Try.func77, Try.ntmps77
  go_wp2
  go_ret3
  exact ⟨rfl, rfl⟩
theorem uses1 (w : World) : Calls Try.prog 77 #[.int .i64 1] w fun e w' => e = .returned (.tuple #[.int .i64 0, .bool true, .bool true]) ∧ w = w' := by
  go_enter Try.func77, Try.ntmps77
  go_wp2
  go_ret3
  exact ⟨rfl, rfl⟩
theorem uses2 (w : World) : Calls Try.prog 77 #[.int .i64 2] w fun e w' => e = .returned (.tuple #[.int .i64 3, .bool false, .bool true]) ∧ w = w' := by
  go_enter Try.func77, Try.ntmps77
  go_wp2
  go_ret3
  exact ⟨rfl, rfl⟩
theorem uses3 (w : World) : Calls Try.prog 77 #[.int .i64 3] w fun e w' => e = .returned (.tuple #[.int .i64 1, .bool true, .bool true]) ∧ w = w' := by
  go_enter Try.func77, Try.ntmps77
  go_wp2
  go_ret3
  exact ⟨rfl, rfl⟩
theorem uses4 (w : World) : Calls Try.prog 77 #[.int .i64 4] w fun e w' => e = .returned (.tuple #[.int .i64 1, .bool true, .bool true]) ∧ w = w' := by
  go_enter Try.func77, Try.ntmps77
  go_wp2
  go_ret3
  exact ⟨rfl, rfl⟩
theorem uses5 (w : World) : Calls Try.prog 77 #[.int .i64 5] w fun e w' => e = .returned (.tuple #[.int .i64 3, .bool true, .bool true]) ∧ w = w' := by
  go_enter Try.func77, Try.ntmps77
  go_wp2
  go_ret3
  exact ⟨rfl, rfl⟩
theorem uses6 (w : World) : Calls Try.prog 77 #[.int .i64 6] w fun e w' => e = .returned (.tuple #[.int .i64 3, .bool true, .bool true]) ∧ w = w' := by
  go_enter Try.func77, Try.ntmps77
  go_wp2
  go_ret3
  exact ⟨rfl, rfl⟩
theorem uses7 (w : World) : Calls Try.prog 77 #[.int .i64 7] w fun e w' => e = .returned (.tuple #[.int .i64 0, .bool true, .bool true]) ∧ w = w' := by
  go_enter Try.func77, Try.ntmps77
  go_wp2
  go_ret3
  exact ⟨rfl, rfl⟩
theorem uses8 (w : World) : Calls Try.prog 77 #[.int .i64 8] w fun e w' => e = .returned (.tuple #[.int .i64 1, .bool true, .bool true]) ∧ w = w' := by
  go_enter Try.func77, Try.ntmps77
  go_wp2
  go_ret3
  exact ⟨rfl, rfl⟩
theorem uses9 (w : World) : Calls Try.prog 77 #[.int .i64 9] w fun e w' => e = .returned (.tuple #[.int .i64 1, .bool true, .bool true]) ∧ w = w' := by
  go_enter Try.func77, Try.ntmps77
  go_wp2
  go_ret3
  exact ⟨rfl, rfl⟩
theorem uses10 (w : World) : Calls Try.prog 77 #[.int .i64 10] w fun e w' => e = .returned (.tuple #[.int .i64 0, .bool true, .bool true]) ∧ w = w' := by
  go_enter Try.func77, Try.ntmps77
  go_wp2
  go_ret3
  exact ⟨rfl, rfl⟩
theorem uses11 (w : World) : Calls Try.prog 77 #[.int .i64 11] w fun e w' => e = .returned (.tuple #[.int .i64 1, .bool false, .bool true]) ∧ w = w' := by
  go_enter Try.func77, Try.ntmps77
  go_wp2
  go_ret3
  exact ⟨rfl, rfl⟩
theorem uses12 (w : World) : Calls Try.prog 77 #[.int .i64 12] w fun e w' => e = .returned (.tuple #[.int .i64 0, .bool false, .bool true]) ∧ w = w' := by
  go_enter Try.func77, Try.ntmps77
  go_wp2
  go_ret3
  exact ⟨rfl, rfl⟩
theorem uses13 (w : World) : Calls Try.prog 77 #[.int .i64 13] w fun e w' => e = .returned (.tuple #[.int .i64 1, .bool false, .bool true]) ∧ w = w' := by
  go_enter Try.func77, Try.ntmps77
  go_wp2
  go_ret3
  exact ⟨rfl, rfl⟩
theorem uses14 (w : World) : Calls Try.prog 77 #[.int .i64 14] w fun e w' => e = .returned (.tuple #[.int .i64 1, .bool false, .bool true]) ∧ w = w' := by
  go_enter Try.func77, Try.ntmps77
  go_wp2
  go_ret3
  exact ⟨rfl, rfl⟩
theorem uses15 (w : World) : Calls Try.prog 77 #[.int .i64 15] w fun e w' => e = .returned (.tuple #[.int .i64 1, .bool false, .bool true]) ∧ w = w' := by
  go_enter Try.func77, Try.ntmps77
  go_wp2
  go_ret3
  exact ⟨rfl, rfl⟩
theorem uses17 (w : World) : Calls Try.prog 77 #[.int .i64 17] w fun e w' => e = .returned (.tuple #[.int .i64 7, .bool false, .bool true]) ∧ w = w' := by
  go_enter Try.func77, Try.ntmps77
  go_wp2
  go_ret3
  exact ⟨rfl, rfl⟩
theorem uses18 (w : World) : Calls Try.prog 77 #[.int .i64 18] w fun e w' => e = .returned (.tuple #[.int .i64 7, .bool false, .bool true]) ∧ w = w' := by
  go_enter Try.func77, Try.ntmps77
  go_wp2
  go_ret3
  exact ⟨rfl, rfl⟩
theorem uses19 (w : World) : Calls Try.prog 77 #[.int .i64 19] w fun e w' => e = .returned (.tuple #[.int .i64 7, .bool false, .bool true]) ∧ w = w' := by
  go_enter Try.func77, Try.ntmps77
  go_wp2
  go_ret3
  exact ⟨rfl, rfl⟩
theorem uses20 (w : World) : Calls Try.prog 77 #[.int .i64 20] w fun e w' => e = .returned (.tuple #[.int .i64 7, .bool false, .bool true]) ∧ w = w' := by
  go_enter Try.func77, Try.ntmps77
  go_wp2
  go_ret3
  exact ⟨rfl, rfl⟩
theorem uses21 (w : World) : Calls Try.prog 77 #[.int .i64 21] w fun e w' => e = .returned (.tuple #[.int .i64 7, .bool false, .bool true]) ∧ w = w' := by
  go_enter Try.func77, Try.ntmps77
  go_wp2
  go_ret3
  exact ⟨rfl, rfl⟩
theorem uses22 (w : World) : Calls Try.prog 77 #[.int .i64 22] w fun e w' => e = .returned (.tuple #[.int .i64 7, .bool false, .bool true]) ∧ w = w' := by
  go_enter Try.func77, Try.ntmps77
  go_wp2
  go_ret3
  exact ⟨rfl, rfl⟩
theorem uses23 (w : World) : Calls Try.prog 77 #[.int .i64 23] w fun e w' => e = .returned (.tuple #[.int .i64 7, .bool false, .bool true]) ∧ w = w' := by
  go_enter Try.func77, Try.ntmps77
  go_wp2
  go_ret3
  exact ⟨rfl, rfl⟩
theorem uses24 (w : World) : Calls Try.prog 77 #[.int .i64 24] w fun e w' => e = .returned (.tuple #[.int .i64 7, .bool false, .bool true]) ∧ w = w' := by
  go_enter Try.func77, Try.ntmps77
  go_wp2
  go_ret3
  exact ⟨rfl, rfl⟩
theorem uses25 (w : World) : Calls Try.prog 77 #[.int .i64 25] w fun e w' => e = .returned (.tuple #[.int .i64 7, .bool false, .bool true]) ∧ w = w' := by
  go_enter Try.func77, Try.ntmps77
  go_wp2
  go_ret3
  exact ⟨rfl, rfl⟩
theorem uses26 (w : World) : Calls Try.prog 77 #[.int .i64 26] w fun e w' => e = .returned (.tuple #[.int .i64 7, .bool false, .bool true]) ∧ w = w' := by
  go_enter Try.func77, Try.ntmps77
  go_wp2
  go_ret3
  exact ⟨rfl, rfl⟩
theorem uses27 (w : World) : Calls Try.prog 77 #[.int .i64 27] w fun e w' => e = .returned (.tuple #[.int .i64 7, .bool false, .bool true]) ∧ w = w' := by
  go_enter Try.func77, Try.ntmps77
  go_wp2
  go_ret3
  exact ⟨rfl, rfl⟩
theorem uses28 (w : World) : Calls Try.prog 77 #[.int .i64 28] w fun e w' => e = .returned (.tuple #[.int .i64 7, .bool false, .bool true]) ∧ w = w' := by
  go_enter Try.func77, Try.ntmps77
  go_wp2
  go_ret3
  exact ⟨rfl, rfl⟩
theorem uses29 (w : World) : Calls Try.prog 77 #[.int .i64 29] w fun e w' => e = .returned (.tuple #[.int .i64 7, .bool false, .bool true]) ∧ w = w' := by
  go_enter Try.func77, Try.ntmps77
  go_wp2
  go_ret3
  exact ⟨rfl, rfl⟩
theorem uses30 (w : World) : Calls Try.prog 77 #[.int .i64 30] w fun e w' => e = .returned (.tuple #[.int .i64 7, .bool false, .bool true]) ∧ w = w' := by
  go_enter Try.func77, Try.ntmps77
  go_wp2
  go_ret3
  exact ⟨rfl, rfl⟩
theorem uses31 (w : World) : Calls Try.prog 77 #[.int .i64 31] w fun e w' => e = .returned (.tuple #[.int .i64 7, .bool false, .bool true]) ∧ w = w' := by
  go_enter Try.func77, Try.ntmps77
  go_wp2
  go_ret3
  exact ⟨rfl, rfl⟩
theorem uses32 (w : World) : Calls Try.prog 77 #[.int .i64 32] w fun e w' => e = .returned (.tuple #[.int .i64 7, .bool false, .bool true]) ∧ w = w' := by
  go_enter Try.func77, Try.ntmps77
  go_wp2
  go_ret3
  exact ⟨rfl, rfl⟩
theorem uses41 (w : World) : Calls Try.prog 77 #[.int .i64 41] w fun e w' => e = .returned (.tuple #[.int .i64 3, .bool false, .bool true]) ∧ w = w' := by
  go_enter Try.func77, Try.ntmps77
  go_wp2
  go_ret3
  exact ⟨rfl, rfl⟩
theorem uses42 (w : World) : Calls Try.prog 77 #[.int .i64 42] w fun e w' => e = .returned (.tuple #[.int .i64 3, .bool false, .bool true]) ∧ w = w' := by
  go_enter Try.func77, Try.ntmps77
  go_wp2
  go_ret3
  exact ⟨rfl, rfl⟩
theorem uses43 (w : World) : Calls Try.prog 77 #[.int .i64 43] w fun e w' => e = .returned (.tuple #[.int .i64 3, .bool false, .bool true]) ∧ w = w' := by
  go_enter Try.func77, Try.ntmps77
  go_wp2
  go_ret3
  exact ⟨rfl, rfl⟩
theorem sum17 (w : World) : Calls Try.prog 76 #[.int .i64 17] w fun e w' => e = .returned (.string (nmS 17)) ∧ w = w' := by
  go_enter Try.func76, Try.ntmps76
  go_wp2
  go_ret
  exact ⟨rfl, rfl⟩
theorem sum18 (w : World) : Calls Try.prog 76 #[.int .i64 18] w fun e w' => e = .returned (.string (nmS 18)) ∧ w = w' := by
  go_enter Try.func76, Try.ntmps76
  go_wp2
  go_ret
  exact ⟨rfl, rfl⟩
theorem sum19 (w : World) : Calls Try.prog 76 #[.int .i64 19] w fun e w' => e = .returned (.string (nmS 19)) ∧ w = w' := by
  go_enter Try.func76, Try.ntmps76
  go_wp2
  go_ret
  exact ⟨rfl, rfl⟩
theorem sum20 (w : World) : Calls Try.prog 76 #[.int .i64 20] w fun e w' => e = .returned (.string (nmS 20)) ∧ w = w' := by
  go_enter Try.func76, Try.ntmps76
  go_wp2
  go_ret
  exact ⟨rfl, rfl⟩
theorem sum21 (w : World) : Calls Try.prog 76 #[.int .i64 21] w fun e w' => e = .returned (.string (nmS 21)) ∧ w = w' := by
  go_enter Try.func76, Try.ntmps76
  go_wp2
  go_ret
  exact ⟨rfl, rfl⟩
theorem sum22 (w : World) : Calls Try.prog 76 #[.int .i64 22] w fun e w' => e = .returned (.string (nmS 22)) ∧ w = w' := by
  go_enter Try.func76, Try.ntmps76
  go_wp2
  go_ret
  exact ⟨rfl, rfl⟩
theorem sum23 (w : World) : Calls Try.prog 76 #[.int .i64 23] w fun e w' => e = .returned (.string (nmS 23)) ∧ w = w' := by
  go_enter Try.func76, Try.ntmps76
  go_wp2
  go_ret
  exact ⟨rfl, rfl⟩
theorem sum24 (w : World) : Calls Try.prog 76 #[.int .i64 24] w fun e w' => e = .returned (.string (nmS 24)) ∧ w = w' := by
  go_enter Try.func76, Try.ntmps76
  go_wp2
  go_ret
  exact ⟨rfl, rfl⟩
theorem sum25 (w : World) : Calls Try.prog 76 #[.int .i64 25] w fun e w' => e = .returned (.string (nmS 25)) ∧ w = w' := by
  go_enter Try.func76, Try.ntmps76
  go_wp2
  go_ret
  exact ⟨rfl, rfl⟩
theorem sum26 (w : World) : Calls Try.prog 76 #[.int .i64 26] w fun e w' => e = .returned (.string (nmS 26)) ∧ w = w' := by
  go_enter Try.func76, Try.ntmps76
  go_wp2
  go_ret
  exact ⟨rfl, rfl⟩
theorem sum27 (w : World) : Calls Try.prog 76 #[.int .i64 27] w fun e w' => e = .returned (.string (nmS 27)) ∧ w = w' := by
  go_enter Try.func76, Try.ntmps76
  go_wp2
  go_ret
  exact ⟨rfl, rfl⟩
theorem sum28 (w : World) : Calls Try.prog 76 #[.int .i64 28] w fun e w' => e = .returned (.string (nmS 28)) ∧ w = w' := by
  go_enter Try.func76, Try.ntmps76
  go_wp2
  go_ret
  exact ⟨rfl, rfl⟩
theorem sum29 (w : World) : Calls Try.prog 76 #[.int .i64 29] w fun e w' => e = .returned (.string (nmS 29)) ∧ w = w' := by
  go_enter Try.func76, Try.ntmps76
  go_wp2
  go_ret
  exact ⟨rfl, rfl⟩
theorem sum30 (w : World) : Calls Try.prog 76 #[.int .i64 30] w fun e w' => e = .returned (.string (nmS 30)) ∧ w = w' := by
  go_enter Try.func76, Try.ntmps76
  go_wp2
  go_ret
  exact ⟨rfl, rfl⟩
theorem sum31 (w : World) : Calls Try.prog 76 #[.int .i64 31] w fun e w' => e = .returned (.string (nmS 31)) ∧ w = w' := by
  go_enter Try.func76, Try.ntmps76
  go_wp2
  go_ret
  exact ⟨rfl, rfl⟩
theorem sum32 (w : World) : Calls Try.prog 76 #[.int .i64 32] w fun e w' => e = .returned (.string (nmS 32)) ∧ w = w' := by
  go_enter Try.func76, Try.ntmps76
  go_wp2
  go_ret
  exact ⟨rfl, rfl⟩
theorem sum41 (w : World) : Calls Try.prog 76 #[.int .i64 41] w fun e w' => e = .returned (.string (nmS 41)) ∧ w = w' := by
  go_enter Try.func76, Try.ntmps76
  go_wp2
  go_ret
  exact ⟨rfl, rfl⟩
theorem sum42 (w : World) : Calls Try.prog 76 #[.int .i64 42] w fun e w' => e = .returned (.string (nmS 42)) ∧ w = w' := by
  go_enter Try.func76, Try.ntmps76
  go_wp2
  go_ret
  exact ⟨rfl, rfl⟩
theorem sum43 (w : World) : Calls Try.prog 76 #[.int .i64 43] w fun e w' => e = .returned (.string (nmS 43)) ∧ w = w' := by
  go_enter Try.func76, Try.ntmps76
  go_wp2
  go_ret
  exact ⟨rfl, rfl⟩
theorem rname0 (w : World) : Calls Try.prog 70 #[.int .i64 0] w fun e w' => e = .returned (.string (nmS 0)) ∧ w = w' := by
  go_enter Try.func70, Try.ntmps70
  go_wp2
  go_ret
  exact ⟨rfl, rfl⟩
theorem rname1 (w : World) : Calls Try.prog 70 #[.int .i64 1] w fun e w' => e = .returned (.string (nmS 1)) ∧ w = w' := by
  go_enter Try.func70, Try.ntmps70
  go_wp2
  go_ret
  exact ⟨rfl, rfl⟩
theorem rname2 (w : World) : Calls Try.prog 70 #[.int .i64 2] w fun e w' => e = .returned (.string (nmS 2)) ∧ w = w' := by
  go_enter Try.func70, Try.ntmps70
  go_wp2
  go_ret
  exact ⟨rfl, rfl⟩
theorem rname3 (w : World) : Calls Try.prog 70 #[.int .i64 3] w fun e w' => e = .returned (.string (nmS 3)) ∧ w = w' := by
  go_enter Try.func70, Try.ntmps70
  go_wp2
  go_ret
  exact ⟨rfl, rfl⟩
theorem rname4 (w : World) : Calls Try.prog 70 #[.int .i64 4] w fun e w' => e = .returned (.string (nmS 4)) ∧ w = w' := by
  go_enter Try.func70, Try.ntmps70
  go_wp2
  go_ret
  exact ⟨rfl, rfl⟩
theorem rname5 (w : World) : Calls Try.prog 70 #[.int .i64 5] w fun e w' => e = .returned (.string (nmS 5)) ∧ w = w' := by
  go_enter Try.func70, Try.ntmps70
  go_wp2
  go_ret
  exact ⟨rfl, rfl⟩
theorem rname6 (w : World) : Calls Try.prog 70 #[.int .i64 6] w fun e w' => e = .returned (.string (nmS 6)) ∧ w = w' := by
  go_enter Try.func70, Try.ntmps70
  go_wp2
  go_ret
  exact ⟨rfl, rfl⟩
theorem rname7 (w : World) : Calls Try.prog 70 #[.int .i64 7] w fun e w' => e = .returned (.string (nmS 7)) ∧ w = w' := by
  go_enter Try.func70, Try.ntmps70
  go_wp2
  go_ret
  exact ⟨rfl, rfl⟩
theorem rname8 (w : World) : Calls Try.prog 70 #[.int .i64 8] w fun e w' => e = .returned (.string (nmS 8)) ∧ w = w' := by
  go_enter Try.func70, Try.ntmps70
  go_wp2
  go_ret
  exact ⟨rfl, rfl⟩
theorem rname9 (w : World) : Calls Try.prog 70 #[.int .i64 9] w fun e w' => e = .returned (.string (nmS 9)) ∧ w = w' := by
  go_enter Try.func70, Try.ntmps70
  go_wp2
  go_ret
  exact ⟨rfl, rfl⟩
theorem rname10 (w : World) : Calls Try.prog 70 #[.int .i64 10] w fun e w' => e = .returned (.string (nmS 10)) ∧ w = w' := by
  go_enter Try.func70, Try.ntmps70
  go_wp2
  go_ret
  exact ⟨rfl, rfl⟩
theorem rname11 (w : World) : Calls Try.prog 70 #[.int .i64 11] w fun e w' => e = .returned (.string (nmS 11)) ∧ w = w' := by
  go_enter Try.func70, Try.ntmps70
  go_wp2
  go_ret
  exact ⟨rfl, rfl⟩
theorem rname12 (w : World) : Calls Try.prog 70 #[.int .i64 12] w fun e w' => e = .returned (.string (nmS 12)) ∧ w = w' := by
  go_enter Try.func70, Try.ntmps70
  go_wp2
  go_ret
  exact ⟨rfl, rfl⟩
theorem rname13 (w : World) : Calls Try.prog 70 #[.int .i64 13] w fun e w' => e = .returned (.string (nmS 13)) ∧ w = w' := by
  go_enter Try.func70, Try.ntmps70
  go_wp2
  go_ret
  exact ⟨rfl, rfl⟩
theorem rname14 (w : World) : Calls Try.prog 70 #[.int .i64 14] w fun e w' => e = .returned (.string (nmS 14)) ∧ w = w' := by
  go_enter Try.func70, Try.ntmps70
  go_wp2
  go_ret
  exact ⟨rfl, rfl⟩
theorem rname15 (w : World) : Calls Try.prog 70 #[.int .i64 15] w fun e w' => e = .returned (.string (nmS 15)) ∧ w = w' := by
  go_enter Try.func70, Try.ntmps70
  go_wp2
  go_ret
  exact ⟨rfl, rfl⟩
theorem rname17 (w : World) : Calls Try.prog 70 #[.int .i64 17] w fun e w' => e = .returned (.string (nmS 17)) ∧ w = w' := by
  go_enter Try.func70, Try.ntmps70
  go_wp2_with (go_at_call 76; refine (sum17 _).mono ?_; rintro e w' ⟨rfl, rfl⟩)
  go_ret
  exact ⟨rfl, rfl⟩
theorem rname18 (w : World) : Calls Try.prog 70 #[.int .i64 18] w fun e w' => e = .returned (.string (nmS 18)) ∧ w = w' := by
  go_enter Try.func70, Try.ntmps70
  go_wp2_with (go_at_call 76; refine (sum18 _).mono ?_; rintro e w' ⟨rfl, rfl⟩)
  go_ret
  exact ⟨rfl, rfl⟩
theorem rname19 (w : World) : Calls Try.prog 70 #[.int .i64 19] w fun e w' => e = .returned (.string (nmS 19)) ∧ w = w' := by
  go_enter Try.func70, Try.ntmps70
  go_wp2_with (go_at_call 76; refine (sum19 _).mono ?_; rintro e w' ⟨rfl, rfl⟩)
  go_ret
  exact ⟨rfl, rfl⟩
theorem rname20 (w : World) : Calls Try.prog 70 #[.int .i64 20] w fun e w' => e = .returned (.string (nmS 20)) ∧ w = w' := by
  go_enter Try.func70, Try.ntmps70
  go_wp2_with (go_at_call 76; refine (sum20 _).mono ?_; rintro e w' ⟨rfl, rfl⟩)
  go_ret
  exact ⟨rfl, rfl⟩
theorem rname21 (w : World) : Calls Try.prog 70 #[.int .i64 21] w fun e w' => e = .returned (.string (nmS 21)) ∧ w = w' := by
  go_enter Try.func70, Try.ntmps70
  go_wp2_with (go_at_call 76; refine (sum21 _).mono ?_; rintro e w' ⟨rfl, rfl⟩)
  go_ret
  exact ⟨rfl, rfl⟩
theorem rname22 (w : World) : Calls Try.prog 70 #[.int .i64 22] w fun e w' => e = .returned (.string (nmS 22)) ∧ w = w' := by
  go_enter Try.func70, Try.ntmps70
  go_wp2_with (go_at_call 76; refine (sum22 _).mono ?_; rintro e w' ⟨rfl, rfl⟩)
  go_ret
  exact ⟨rfl, rfl⟩
theorem rname23 (w : World) : Calls Try.prog 70 #[.int .i64 23] w fun e w' => e = .returned (.string (nmS 23)) ∧ w = w' := by
  go_enter Try.func70, Try.ntmps70
  go_wp2_with (go_at_call 76; refine (sum23 _).mono ?_; rintro e w' ⟨rfl, rfl⟩)
  go_ret
  exact ⟨rfl, rfl⟩
theorem rname24 (w : World) : Calls Try.prog 70 #[.int .i64 24] w fun e w' => e = .returned (.string (nmS 24)) ∧ w = w' := by
  go_enter Try.func70, Try.ntmps70
  go_wp2_with (go_at_call 76; refine (sum24 _).mono ?_; rintro e w' ⟨rfl, rfl⟩)
  go_ret
  exact ⟨rfl, rfl⟩
theorem rname25 (w : World) : Calls Try.prog 70 #[.int .i64 25] w fun e w' => e = .returned (.string (nmS 25)) ∧ w = w' := by
  go_enter Try.func70, Try.ntmps70
  go_wp2_with (go_at_call 76; refine (sum25 _).mono ?_; rintro e w' ⟨rfl, rfl⟩)
  go_ret
  exact ⟨rfl, rfl⟩
theorem rname26 (w : World) : Calls Try.prog 70 #[.int .i64 26] w fun e w' => e = .returned (.string (nmS 26)) ∧ w = w' := by
  go_enter Try.func70, Try.ntmps70
  go_wp2_with (go_at_call 76; refine (sum26 _).mono ?_; rintro e w' ⟨rfl, rfl⟩)
  go_ret
  exact ⟨rfl, rfl⟩
theorem rname27 (w : World) : Calls Try.prog 70 #[.int .i64 27] w fun e w' => e = .returned (.string (nmS 27)) ∧ w = w' := by
  go_enter Try.func70, Try.ntmps70
  go_wp2_with (go_at_call 76; refine (sum27 _).mono ?_; rintro e w' ⟨rfl, rfl⟩)
  go_ret
  exact ⟨rfl, rfl⟩
theorem rname28 (w : World) : Calls Try.prog 70 #[.int .i64 28] w fun e w' => e = .returned (.string (nmS 28)) ∧ w = w' := by
  go_enter Try.func70, Try.ntmps70
  go_wp2_with (go_at_call 76; refine (sum28 _).mono ?_; rintro e w' ⟨rfl, rfl⟩)
  go_ret
  exact ⟨rfl, rfl⟩
theorem rname29 (w : World) : Calls Try.prog 70 #[.int .i64 29] w fun e w' => e = .returned (.string (nmS 29)) ∧ w = w' := by
  go_enter Try.func70, Try.ntmps70
  go_wp2_with (go_at_call 76; refine (sum29 _).mono ?_; rintro e w' ⟨rfl, rfl⟩)
  go_ret
  exact ⟨rfl, rfl⟩
theorem rname30 (w : World) : Calls Try.prog 70 #[.int .i64 30] w fun e w' => e = .returned (.string (nmS 30)) ∧ w = w' := by
  go_enter Try.func70, Try.ntmps70
  go_wp2_with (go_at_call 76; refine (sum30 _).mono ?_; rintro e w' ⟨rfl, rfl⟩)
  go_ret
  exact ⟨rfl, rfl⟩
theorem rname31 (w : World) : Calls Try.prog 70 #[.int .i64 31] w fun e w' => e = .returned (.string (nmS 31)) ∧ w = w' := by
  go_enter Try.func70, Try.ntmps70
  go_wp2_with (go_at_call 76; refine (sum31 _).mono ?_; rintro e w' ⟨rfl, rfl⟩)
  go_ret
  exact ⟨rfl, rfl⟩
theorem rname32 (w : World) : Calls Try.prog 70 #[.int .i64 32] w fun e w' => e = .returned (.string (nmS 32)) ∧ w = w' := by
  go_enter Try.func70, Try.ntmps70
  go_wp2_with (go_at_call 76; refine (sum32 _).mono ?_; rintro e w' ⟨rfl, rfl⟩)
  go_ret
  exact ⟨rfl, rfl⟩
theorem rname41 (w : World) : Calls Try.prog 70 #[.int .i64 41] w fun e w' => e = .returned (.string (nmS 41)) ∧ w = w' := by
  go_enter Try.func70, Try.ntmps70
  go_wp2_with (go_at_call 76; refine (sum41 _).mono ?_; rintro e w' ⟨rfl, rfl⟩)
  go_ret
  exact ⟨rfl, rfl⟩
theorem rname42 (w : World) : Calls Try.prog 70 #[.int .i64 42] w fun e w' => e = .returned (.string (nmS 42)) ∧ w = w' := by
  go_enter Try.func70, Try.ntmps70
  go_wp2_with (go_at_call 76; refine (sum42 _).mono ?_; rintro e w' ⟨rfl, rfl⟩)
  go_ret
  exact ⟨rfl, rfl⟩
theorem rname43 (w : World) : Calls Try.prog 70 #[.int .i64 43] w fun e w' => e = .returned (.string (nmS 43)) ∧ w = w' := by
  go_enter Try.func70, Try.ntmps70
  go_wp2_with (go_at_call 76; refine (sum43 _).mono ?_; rintro e w' ⟨rfl, rfl⟩)
  go_ret
  exact ⟨rfl, rfl⟩
theorem ruses0 (w : World) : Calls Try.prog 63 #[.int .i64 0] w fun e w' => e = .returned (.tuple #[.int .i64 0, .bool false, .bool true]) ∧ w = w' := by
  go_enter Try.func63, Try.ntmps63
  have hz : (nmS 0).toList.isEmpty = false := by rw [toList_data]; rfl
  go_wp2_with (go_at_call 70; refine (rname0 _).mono ?_; rintro e w' ⟨rfl, rfl⟩)
  go_ret3
  exact ⟨rfl, rfl⟩
theorem ruses1 (w : World) : Calls Try.prog 63 #[.int .i64 1] w fun e w' => e = .returned (.tuple #[.int .i64 0, .bool true, .bool true]) ∧ w = w' := by
  go_enter Try.func63, Try.ntmps63
  have hz : (nmS 1).toList.isEmpty = false := by rw [toList_data]; rfl
  go_wp2_with (go_at_call 70; refine (rname1 _).mono ?_; rintro e w' ⟨rfl, rfl⟩)
  go_ret3
  exact ⟨rfl, rfl⟩
theorem ruses2 (w : World) : Calls Try.prog 63 #[.int .i64 2] w fun e w' => e = .returned (.tuple #[.int .i64 3, .bool false, .bool true]) ∧ w = w' := by
  go_enter Try.func63, Try.ntmps63
  have hz : (nmS 2).toList.isEmpty = false := by rw [toList_data]; rfl
  go_wp2_with (go_at_call 70; refine (rname2 _).mono ?_; rintro e w' ⟨rfl, rfl⟩)
  go_ret3
  exact ⟨rfl, rfl⟩
theorem ruses3 (w : World) : Calls Try.prog 63 #[.int .i64 3] w fun e w' => e = .returned (.tuple #[.int .i64 1, .bool true, .bool true]) ∧ w = w' := by
  go_enter Try.func63, Try.ntmps63
  have hz : (nmS 3).toList.isEmpty = false := by rw [toList_data]; rfl
  go_wp2_with (go_at_call 70; refine (rname3 _).mono ?_; rintro e w' ⟨rfl, rfl⟩)
  go_ret3
  exact ⟨rfl, rfl⟩
theorem ruses4 (w : World) : Calls Try.prog 63 #[.int .i64 4] w fun e w' => e = .returned (.tuple #[.int .i64 1, .bool true, .bool true]) ∧ w = w' := by
  go_enter Try.func63, Try.ntmps63
  have hz : (nmS 4).toList.isEmpty = false := by rw [toList_data]; rfl
  go_wp2_with (go_at_call 70; refine (rname4 _).mono ?_; rintro e w' ⟨rfl, rfl⟩)
  go_ret3
  exact ⟨rfl, rfl⟩
theorem ruses5 (w : World) : Calls Try.prog 63 #[.int .i64 5] w fun e w' => e = .returned (.tuple #[.int .i64 3, .bool true, .bool true]) ∧ w = w' := by
  go_enter Try.func63, Try.ntmps63
  have hz : (nmS 5).toList.isEmpty = false := by rw [toList_data]; rfl
  go_wp2_with (go_at_call 70; refine (rname5 _).mono ?_; rintro e w' ⟨rfl, rfl⟩)
  go_ret3
  exact ⟨rfl, rfl⟩
theorem ruses6 (w : World) : Calls Try.prog 63 #[.int .i64 6] w fun e w' => e = .returned (.tuple #[.int .i64 3, .bool true, .bool true]) ∧ w = w' := by
  go_enter Try.func63, Try.ntmps63
  have hz : (nmS 6).toList.isEmpty = false := by rw [toList_data]; rfl
  go_wp2_with (go_at_call 70; refine (rname6 _).mono ?_; rintro e w' ⟨rfl, rfl⟩)
  go_ret3
  exact ⟨rfl, rfl⟩
theorem ruses7 (w : World) : Calls Try.prog 63 #[.int .i64 7] w fun e w' => e = .returned (.tuple #[.int .i64 0, .bool true, .bool true]) ∧ w = w' := by
  go_enter Try.func63, Try.ntmps63
  have hz : (nmS 7).toList.isEmpty = false := by rw [toList_data]; rfl
  go_wp2_with (go_at_call 70; refine (rname7 _).mono ?_; rintro e w' ⟨rfl, rfl⟩)
  go_ret3
  exact ⟨rfl, rfl⟩
theorem ruses8 (w : World) : Calls Try.prog 63 #[.int .i64 8] w fun e w' => e = .returned (.tuple #[.int .i64 1, .bool true, .bool true]) ∧ w = w' := by
  go_enter Try.func63, Try.ntmps63
  have hz : (nmS 8).toList.isEmpty = false := by rw [toList_data]; rfl
  go_wp2_with (go_at_call 70; refine (rname8 _).mono ?_; rintro e w' ⟨rfl, rfl⟩)
  go_ret3
  exact ⟨rfl, rfl⟩
theorem ruses9 (w : World) : Calls Try.prog 63 #[.int .i64 9] w fun e w' => e = .returned (.tuple #[.int .i64 1, .bool true, .bool true]) ∧ w = w' := by
  go_enter Try.func63, Try.ntmps63
  have hz : (nmS 9).toList.isEmpty = false := by rw [toList_data]; rfl
  go_wp2_with (go_at_call 70; refine (rname9 _).mono ?_; rintro e w' ⟨rfl, rfl⟩)
  go_ret3
  exact ⟨rfl, rfl⟩
theorem ruses10 (w : World) : Calls Try.prog 63 #[.int .i64 10] w fun e w' => e = .returned (.tuple #[.int .i64 0, .bool true, .bool true]) ∧ w = w' := by
  go_enter Try.func63, Try.ntmps63
  have hz : (nmS 10).toList.isEmpty = false := by rw [toList_data]; rfl
  go_wp2_with (go_at_call 70; refine (rname10 _).mono ?_; rintro e w' ⟨rfl, rfl⟩)
  go_ret3
  exact ⟨rfl, rfl⟩
theorem ruses11 (w : World) : Calls Try.prog 63 #[.int .i64 11] w fun e w' => e = .returned (.tuple #[.int .i64 1, .bool false, .bool true]) ∧ w = w' := by
  go_enter Try.func63, Try.ntmps63
  have hz : (nmS 11).toList.isEmpty = false := by rw [toList_data]; rfl
  go_wp2_with (go_at_call 70; refine (rname11 _).mono ?_; rintro e w' ⟨rfl, rfl⟩)
  go_ret3
  exact ⟨rfl, rfl⟩
theorem ruses12 (w : World) : Calls Try.prog 63 #[.int .i64 12] w fun e w' => e = .returned (.tuple #[.int .i64 0, .bool false, .bool true]) ∧ w = w' := by
  go_enter Try.func63, Try.ntmps63
  have hz : (nmS 12).toList.isEmpty = false := by rw [toList_data]; rfl
  go_wp2_with (go_at_call 70; refine (rname12 _).mono ?_; rintro e w' ⟨rfl, rfl⟩)
  go_ret3
  exact ⟨rfl, rfl⟩
theorem ruses13 (w : World) : Calls Try.prog 63 #[.int .i64 13] w fun e w' => e = .returned (.tuple #[.int .i64 1, .bool false, .bool true]) ∧ w = w' := by
  go_enter Try.func63, Try.ntmps63
  have hz : (nmS 13).toList.isEmpty = false := by rw [toList_data]; rfl
  go_wp2_with (go_at_call 70; refine (rname13 _).mono ?_; rintro e w' ⟨rfl, rfl⟩)
  go_ret3
  exact ⟨rfl, rfl⟩
theorem ruses14 (w : World) : Calls Try.prog 63 #[.int .i64 14] w fun e w' => e = .returned (.tuple #[.int .i64 1, .bool false, .bool true]) ∧ w = w' := by
  go_enter Try.func63, Try.ntmps63
  have hz : (nmS 14).toList.isEmpty = false := by rw [toList_data]; rfl
  go_wp2_with (go_at_call 70; refine (rname14 _).mono ?_; rintro e w' ⟨rfl, rfl⟩)
  go_ret3
  exact ⟨rfl, rfl⟩
theorem ruses15 (w : World) : Calls Try.prog 63 #[.int .i64 15] w fun e w' => e = .returned (.tuple #[.int .i64 1, .bool false, .bool true]) ∧ w = w' := by
  go_enter Try.func63, Try.ntmps63
  have hz : (nmS 15).toList.isEmpty = false := by rw [toList_data]; rfl
  go_wp2_with (go_at_call 70; refine (rname15 _).mono ?_; rintro e w' ⟨rfl, rfl⟩)
  go_ret3
  exact ⟨rfl, rfl⟩
theorem ruses17 (w : World) : Calls Try.prog 63 #[.int .i64 17] w fun e w' => e = .returned (.tuple #[.int .i64 7, .bool false, .bool true]) ∧ w = w' := by
  go_enter Try.func63, Try.ntmps63
  have hz : (nmS 17).toList.isEmpty = false := by rw [toList_data]; rfl
  go_wp2_with (go_at_call 70; refine (rname17 _).mono ?_; rintro e w' ⟨rfl, rfl⟩)
  go_ret3
  exact ⟨rfl, rfl⟩
theorem ruses18 (w : World) : Calls Try.prog 63 #[.int .i64 18] w fun e w' => e = .returned (.tuple #[.int .i64 7, .bool false, .bool true]) ∧ w = w' := by
  go_enter Try.func63, Try.ntmps63
  have hz : (nmS 18).toList.isEmpty = false := by rw [toList_data]; rfl
  go_wp2_with (go_at_call 70; refine (rname18 _).mono ?_; rintro e w' ⟨rfl, rfl⟩)
  go_ret3
  exact ⟨rfl, rfl⟩
theorem ruses19 (w : World) : Calls Try.prog 63 #[.int .i64 19] w fun e w' => e = .returned (.tuple #[.int .i64 7, .bool false, .bool true]) ∧ w = w' := by
  go_enter Try.func63, Try.ntmps63
  have hz : (nmS 19).toList.isEmpty = false := by rw [toList_data]; rfl
  go_wp2_with (go_at_call 70; refine (rname19 _).mono ?_; rintro e w' ⟨rfl, rfl⟩)
  go_ret3
  exact ⟨rfl, rfl⟩
theorem ruses20 (w : World) : Calls Try.prog 63 #[.int .i64 20] w fun e w' => e = .returned (.tuple #[.int .i64 7, .bool false, .bool true]) ∧ w = w' := by
  go_enter Try.func63, Try.ntmps63
  have hz : (nmS 20).toList.isEmpty = false := by rw [toList_data]; rfl
  go_wp2_with (go_at_call 70; refine (rname20 _).mono ?_; rintro e w' ⟨rfl, rfl⟩)
  go_ret3
  exact ⟨rfl, rfl⟩
theorem ruses21 (w : World) : Calls Try.prog 63 #[.int .i64 21] w fun e w' => e = .returned (.tuple #[.int .i64 7, .bool false, .bool true]) ∧ w = w' := by
  go_enter Try.func63, Try.ntmps63
  have hz : (nmS 21).toList.isEmpty = false := by rw [toList_data]; rfl
  go_wp2_with (go_at_call 70; refine (rname21 _).mono ?_; rintro e w' ⟨rfl, rfl⟩)
  go_ret3
  exact ⟨rfl, rfl⟩
theorem ruses22 (w : World) : Calls Try.prog 63 #[.int .i64 22] w fun e w' => e = .returned (.tuple #[.int .i64 7, .bool false, .bool true]) ∧ w = w' := by
  go_enter Try.func63, Try.ntmps63
  have hz : (nmS 22).toList.isEmpty = false := by rw [toList_data]; rfl
  go_wp2_with (go_at_call 70; refine (rname22 _).mono ?_; rintro e w' ⟨rfl, rfl⟩)
  go_ret3
  exact ⟨rfl, rfl⟩
theorem ruses23 (w : World) : Calls Try.prog 63 #[.int .i64 23] w fun e w' => e = .returned (.tuple #[.int .i64 7, .bool false, .bool true]) ∧ w = w' := by
  go_enter Try.func63, Try.ntmps63
  have hz : (nmS 23).toList.isEmpty = false := by rw [toList_data]; rfl
  go_wp2_with (go_at_call 70; refine (rname23 _).mono ?_; rintro e w' ⟨rfl, rfl⟩)
  go_ret3
  exact ⟨rfl, rfl⟩
theorem ruses24 (w : World) : Calls Try.prog 63 #[.int .i64 24] w fun e w' => e = .returned (.tuple #[.int .i64 7, .bool false, .bool true]) ∧ w = w' := by
  go_enter Try.func63, Try.ntmps63
  have hz : (nmS 24).toList.isEmpty = false := by rw [toList_data]; rfl
  go_wp2_with (go_at_call 70; refine (rname24 _).mono ?_; rintro e w' ⟨rfl, rfl⟩)
  go_ret3
  exact ⟨rfl, rfl⟩
theorem ruses25 (w : World) : Calls Try.prog 63 #[.int .i64 25] w fun e w' => e = .returned (.tuple #[.int .i64 7, .bool false, .bool true]) ∧ w = w' := by
  go_enter Try.func63, Try.ntmps63
  have hz : (nmS 25).toList.isEmpty = false := by rw [toList_data]; rfl
  go_wp2_with (go_at_call 70; refine (rname25 _).mono ?_; rintro e w' ⟨rfl, rfl⟩)
  go_ret3
  exact ⟨rfl, rfl⟩
theorem ruses26 (w : World) : Calls Try.prog 63 #[.int .i64 26] w fun e w' => e = .returned (.tuple #[.int .i64 7, .bool false, .bool true]) ∧ w = w' := by
  go_enter Try.func63, Try.ntmps63
  have hz : (nmS 26).toList.isEmpty = false := by rw [toList_data]; rfl
  go_wp2_with (go_at_call 70; refine (rname26 _).mono ?_; rintro e w' ⟨rfl, rfl⟩)
  go_ret3
  exact ⟨rfl, rfl⟩
theorem ruses27 (w : World) : Calls Try.prog 63 #[.int .i64 27] w fun e w' => e = .returned (.tuple #[.int .i64 7, .bool false, .bool true]) ∧ w = w' := by
  go_enter Try.func63, Try.ntmps63
  have hz : (nmS 27).toList.isEmpty = false := by rw [toList_data]; rfl
  go_wp2_with (go_at_call 70; refine (rname27 _).mono ?_; rintro e w' ⟨rfl, rfl⟩)
  go_ret3
  exact ⟨rfl, rfl⟩
theorem ruses28 (w : World) : Calls Try.prog 63 #[.int .i64 28] w fun e w' => e = .returned (.tuple #[.int .i64 7, .bool false, .bool true]) ∧ w = w' := by
  go_enter Try.func63, Try.ntmps63
  have hz : (nmS 28).toList.isEmpty = false := by rw [toList_data]; rfl
  go_wp2_with (go_at_call 70; refine (rname28 _).mono ?_; rintro e w' ⟨rfl, rfl⟩)
  go_ret3
  exact ⟨rfl, rfl⟩
theorem ruses29 (w : World) : Calls Try.prog 63 #[.int .i64 29] w fun e w' => e = .returned (.tuple #[.int .i64 7, .bool false, .bool true]) ∧ w = w' := by
  go_enter Try.func63, Try.ntmps63
  have hz : (nmS 29).toList.isEmpty = false := by rw [toList_data]; rfl
  go_wp2_with (go_at_call 70; refine (rname29 _).mono ?_; rintro e w' ⟨rfl, rfl⟩)
  go_ret3
  exact ⟨rfl, rfl⟩
theorem ruses30 (w : World) : Calls Try.prog 63 #[.int .i64 30] w fun e w' => e = .returned (.tuple #[.int .i64 7, .bool false, .bool true]) ∧ w = w' := by
  go_enter Try.func63, Try.ntmps63
  have hz : (nmS 30).toList.isEmpty = false := by rw [toList_data]; rfl
  go_wp2_with (go_at_call 70; refine (rname30 _).mono ?_; rintro e w' ⟨rfl, rfl⟩)
  go_ret3
  exact ⟨rfl, rfl⟩
theorem ruses31 (w : World) : Calls Try.prog 63 #[.int .i64 31] w fun e w' => e = .returned (.tuple #[.int .i64 7, .bool false, .bool true]) ∧ w = w' := by
  go_enter Try.func63, Try.ntmps63
  have hz : (nmS 31).toList.isEmpty = false := by rw [toList_data]; rfl
  go_wp2_with (go_at_call 70; refine (rname31 _).mono ?_; rintro e w' ⟨rfl, rfl⟩)
  go_ret3
  exact ⟨rfl, rfl⟩
theorem ruses32 (w : World) : Calls Try.prog 63 #[.int .i64 32] w fun e w' => e = .returned (.tuple #[.int .i64 7, .bool false, .bool true]) ∧ w = w' := by
  go_enter Try.func63, Try.ntmps63
  have hz : (nmS 32).toList.isEmpty = false := by rw [toList_data]; rfl
  go_wp2_with (go_at_call 70; refine (rname32 _).mono ?_; rintro e w' ⟨rfl, rfl⟩)
  go_ret3
  exact ⟨rfl, rfl⟩
theorem ruses41 (w : World) : Calls Try.prog 63 #[.int .i64 41] w fun e w' => e = .returned (.tuple #[.int .i64 3, .bool false, .bool true]) ∧ w = w' := by
  go_enter Try.func63, Try.ntmps63
  have hz : (nmS 41).toList.isEmpty = false := by rw [toList_data]; rfl
  go_wp2_with (go_at_call 70; refine (rname41 _).mono ?_; rintro e w' ⟨rfl, rfl⟩)
  go_ret3
  exact ⟨rfl, rfl⟩
theorem ruses42 (w : World) : Calls Try.prog 63 #[.int .i64 42] w fun e w' => e = .returned (.tuple #[.int .i64 3, .bool false, .bool true]) ∧ w = w' := by
  go_enter Try.func63, Try.ntmps63
  have hz : (nmS 42).toList.isEmpty = false := by rw [toList_data]; rfl
  go_wp2_with (go_at_call 70; refine (rname42 _).mono ?_; rintro e w' ⟨rfl, rfl⟩)
  go_ret3
  exact ⟨rfl, rfl⟩
theorem ruses43 (w : World) : Calls Try.prog 63 #[.int .i64 43] w fun e w' => e = .returned (.tuple #[.int .i64 3, .bool false, .bool true]) ∧ w = w' := by
  go_enter Try.func63, Try.ntmps63
  have hz : (nmS 43).toList.isEmpty = false := by rw [toList_data]; rfl
  go_wp2_with (go_at_call 70; refine (rname43 _).mono ?_; rintro e w' ⟨rfl, rfl⟩)
  go_ret3
  exact ⟨rfl, rfl⟩
theorem kne {op : Int} (h : K op = false) {k : Int} (hk : K k = true) : (op == k) = false := by
  rw [beq_eq_false_iff_ne]; rintro rfl; rw [h] at hk; cases hk
theorem sum_no (op : Int) (h : K op = false) (w : World) : Calls Try.prog 76 #[.int .i64 op] w fun e w' => e = .returned (.string ⟨#[]⟩) ∧ w = w' := by
  have e0 : (op == 0) = false := kne h (by decide)
  have e1 : (op == 1) = false := kne h (by decide)
  have e2 : (op == 2) = false := kne h (by decide)
  have e3 : (op == 3) = false := kne h (by decide)
  have e4 : (op == 4) = false := kne h (by decide)
  have e5 : (op == 5) = false := kne h (by decide)
  have e6 : (op == 6) = false := kne h (by decide)
  have e7 : (op == 7) = false := kne h (by decide)
  have e8 : (op == 8) = false := kne h (by decide)
  have e9 : (op == 9) = false := kne h (by decide)
  have e10 : (op == 10) = false := kne h (by decide)
  have e11 : (op == 11) = false := kne h (by decide)
  have e12 : (op == 12) = false := kne h (by decide)
  have e13 : (op == 13) = false := kne h (by decide)
  have e14 : (op == 14) = false := kne h (by decide)
  have e15 : (op == 15) = false := kne h (by decide)
  have e17 : (op == 17) = false := kne h (by decide)
  have e18 : (op == 18) = false := kne h (by decide)
  have e19 : (op == 19) = false := kne h (by decide)
  have e20 : (op == 20) = false := kne h (by decide)
  have e21 : (op == 21) = false := kne h (by decide)
  have e22 : (op == 22) = false := kne h (by decide)
  have e23 : (op == 23) = false := kne h (by decide)
  have e24 : (op == 24) = false := kne h (by decide)
  have e25 : (op == 25) = false := kne h (by decide)
  have e26 : (op == 26) = false := kne h (by decide)
  have e27 : (op == 27) = false := kne h (by decide)
  have e28 : (op == 28) = false := kne h (by decide)
  have e29 : (op == 29) = false := kne h (by decide)
  have e30 : (op == 30) = false := kne h (by decide)
  have e31 : (op == 31) = false := kne h (by decide)
  have e32 : (op == 32) = false := kne h (by decide)
  have e41 : (op == 41) = false := kne h (by decide)
  have e42 : (op == 42) = false := kne h (by decide)
  have e43 : (op == 43) = false := kne h (by decide)
  clear h
  go_enter Try.func76, Try.ntmps76
  go_wp2
  go_ret
  exact ⟨rfl, rfl⟩
theorem rname_no (op : Int) (h : K op = false) (w : World) : Calls Try.prog 70 #[.int .i64 op] w fun e w' => e = .returned (.string ⟨#[]⟩) ∧ w = w' := by
  have e0 : (op == 0) = false := kne h (by decide)
  have e1 : (op == 1) = false := kne h (by decide)
  have e2 : (op == 2) = false := kne h (by decide)
  have e3 : (op == 3) = false := kne h (by decide)
  have e4 : (op == 4) = false := kne h (by decide)
  have e5 : (op == 5) = false := kne h (by decide)
  have e6 : (op == 6) = false := kne h (by decide)
  have e7 : (op == 7) = false := kne h (by decide)
  have e8 : (op == 8) = false := kne h (by decide)
  have e9 : (op == 9) = false := kne h (by decide)
  have e10 : (op == 10) = false := kne h (by decide)
  have e11 : (op == 11) = false := kne h (by decide)
  have e12 : (op == 12) = false := kne h (by decide)
  have e13 : (op == 13) = false := kne h (by decide)
  have e14 : (op == 14) = false := kne h (by decide)
  have e15 : (op == 15) = false := kne h (by decide)
  have e17 : (op == 17) = false := kne h (by decide)
  have e18 : (op == 18) = false := kne h (by decide)
  have e19 : (op == 19) = false := kne h (by decide)
  have e20 : (op == 20) = false := kne h (by decide)
  have e21 : (op == 21) = false := kne h (by decide)
  have e22 : (op == 22) = false := kne h (by decide)
  have e23 : (op == 23) = false := kne h (by decide)
  have e24 : (op == 24) = false := kne h (by decide)
  have e25 : (op == 25) = false := kne h (by decide)
  have e26 : (op == 26) = false := kne h (by decide)
  have e27 : (op == 27) = false := kne h (by decide)
  have e28 : (op == 28) = false := kne h (by decide)
  have e29 : (op == 29) = false := kne h (by decide)
  have e30 : (op == 30) = false := kne h (by decide)
  have e31 : (op == 31) = false := kne h (by decide)
  have e32 : (op == 32) = false := kne h (by decide)
  have e41 : (op == 41) = false := kne h (by decide)
  have e42 : (op == 42) = false := kne h (by decide)
  have e43 : (op == 43) = false := kne h (by decide)
  have h' := Lib.hid h
  clear h
  go_enter Try.func70, Try.ntmps70
  go_wp2_with (go_at_call 76; refine (sum_no op h'.out _).mono ?_; rintro e w' ⟨rfl, rfl⟩)
  go_ret
  exact ⟨rfl, rfl⟩
theorem ruses_no (op : Int) (h : K op = false) (w : World) : Calls Try.prog 63 #[.int .i64 op] w fun e w' => e = .returned (.tuple #[.int .i64 0, .bool false, .bool false]) ∧ w = w' := by
  have e0 : (op == 0) = false := kne h (by decide)
  have e1 : (op == 1) = false := kne h (by decide)
  have e2 : (op == 2) = false := kne h (by decide)
  have e3 : (op == 3) = false := kne h (by decide)
  have e4 : (op == 4) = false := kne h (by decide)
  have e5 : (op == 5) = false := kne h (by decide)
  have e6 : (op == 6) = false := kne h (by decide)
  have e7 : (op == 7) = false := kne h (by decide)
  have e8 : (op == 8) = false := kne h (by decide)
  have e9 : (op == 9) = false := kne h (by decide)
  have e10 : (op == 10) = false := kne h (by decide)
  have e11 : (op == 11) = false := kne h (by decide)
  have e12 : (op == 12) = false := kne h (by decide)
  have e13 : (op == 13) = false := kne h (by decide)
  have e14 : (op == 14) = false := kne h (by decide)
  have e15 : (op == 15) = false := kne h (by decide)
  have e17 : (op == 17) = false := kne h (by decide)
  have e18 : (op == 18) = false := kne h (by decide)
  have e19 : (op == 19) = false := kne h (by decide)
  have e20 : (op == 20) = false := kne h (by decide)
  have e21 : (op == 21) = false := kne h (by decide)
  have e22 : (op == 22) = false := kne h (by decide)
  have e23 : (op == 23) = false := kne h (by decide)
  have e24 : (op == 24) = false := kne h (by decide)
  have e25 : (op == 25) = false := kne h (by decide)
  have e26 : (op == 26) = false := kne h (by decide)
  have e27 : (op == 27) = false := kne h (by decide)
  have e28 : (op == 28) = false := kne h (by decide)
  have e29 : (op == 29) = false := kne h (by decide)
  have e30 : (op == 30) = false := kne h (by decide)
  have e31 : (op == 31) = false := kne h (by decide)
  have e32 : (op == 32) = false := kne h (by decide)
  have e41 : (op == 41) = false := kne h (by decide)
  have e42 : (op == 42) = false := kne h (by decide)
  have e43 : (op == 43) = false := kne h (by decide)
  have h' := Lib.hid h
  clear h
  go_enter Try.func63, Try.ntmps63
  go_wp2_with (go_at_call 70; refine (rname_no op h'.out _).mono ?_; rintro e w' ⟨rfl, rfl⟩)
  go_ret3
  exact ⟨rfl, rfl⟩
theorem uses_no (op : Int) (h : K op = false) (w : World) : Calls Try.prog 77 #[.int .i64 op] w fun e w' => e = .returned (.tuple #[.int .i64 0, .bool false, .bool false]) ∧ w = w' := by
  have hc : op < 0 ∨ op = 16 ∨ (33 ≤ op ∧ op ≤ 40) ∨ 43 < op := by simp only [K, decide_eq_false_iff_not] at h; omega
  have e0 : (op == 0) = false := kne h (by decide)
  have e1 : (op == 1) = false := kne h (by decide)
  have e2 : (op == 2) = false := kne h (by decide)
  have e3 : (op == 3) = false := kne h (by decide)
  have e4 : (op == 4) = false := kne h (by decide)
  have e5 : (op == 5) = false := kne h (by decide)
  have e6 : (op == 6) = false := kne h (by decide)
  have e7 : (op == 7) = false := kne h (by decide)
  have e8 : (op == 8) = false := kne h (by decide)
  have e9 : (op == 9) = false := kne h (by decide)
  have e10 : (op == 10) = false := kne h (by decide)
  have e11 : (op == 11) = false := kne h (by decide)
  have e12 : (op == 12) = false := kne h (by decide)
  have e13 : (op == 13) = false := kne h (by decide)
  have e14 : (op == 14) = false := kne h (by decide)
  have e15 : (op == 15) = false := kne h (by decide)
  have e17 : (op == 17) = false := kne h (by decide)
  have e18 : (op == 18) = false := kne h (by decide)
  have e19 : (op == 19) = false := kne h (by decide)
  have e20 : (op == 20) = false := kne h (by decide)
  have e21 : (op == 21) = false := kne h (by decide)
  have e22 : (op == 22) = false := kne h (by decide)
  have e23 : (op == 23) = false := kne h (by decide)
  have e24 : (op == 24) = false := kne h (by decide)
  have e25 : (op == 25) = false := kne h (by decide)
  have e26 : (op == 26) = false := kne h (by decide)
  have e27 : (op == 27) = false := kne h (by decide)
  have e28 : (op == 28) = false := kne h (by decide)
  have e29 : (op == 29) = false := kne h (by decide)
  have e30 : (op == 30) = false := kne h (by decide)
  have e31 : (op == 31) = false := kne h (by decide)
  have e32 : (op == 32) = false := kne h (by decide)
  have e41 : (op == 41) = false := kne h (by decide)
  have e42 : (op == 42) = false := kne h (by decide)
  have e43 : (op == 43) = false := kne h (by decide)
  clear h
  rcases hc with hc | hc | ⟨hc, hd⟩ | hc
  · have d1 : decide (17 ≤ op) = false := by simp; omega
    have d2 : decide (41 ≤ op) = false := by simp; omega
    clear hc
    go_enter Try.func77, Try.ntmps77
    go_wp2
    go_ret3
    exact ⟨rfl, rfl⟩
  · have d1 : decide (17 ≤ op) = false := by simp; omega
    have d2 : decide (41 ≤ op) = false := by simp; omega
    clear hc
    go_enter Try.func77, Try.ntmps77
    go_wp2
    go_ret3
    exact ⟨rfl, rfl⟩
  · have d1 : decide (17 ≤ op) = true := by simp; omega
    have d3 : decide (op ≤ 32) = false := by simp; omega
    have d2 : decide (41 ≤ op) = false := by simp; omega
    clear hc hd
    go_enter Try.func77, Try.ntmps77
    go_wp2
    go_ret3
    exact ⟨rfl, rfl⟩
  · have d1 : decide (17 ≤ op) = true := by simp; omega
    have d3 : decide (op ≤ 32) = false := by simp; omega
    have d2 : decide (41 ≤ op) = true := by simp; omega
    have d4 : decide (op ≤ 43) = false := by simp; omega
    clear hc
    go_enter Try.func77, Try.ntmps77
    go_wp2
    go_ret3
    exact ⟨rfl, rfl⟩
theorem U_no {op : Int} (h : K op = false) : U op = 0 := by
  obtain ⟨n0, n1, n2, n3, n4, n5, n6, n7, n8, n9, n10, n11, n12, n13, n14, n15, n17, n18, n19, n20, n21, n22, n23, n24, n25, n26, n27, n28, n29, n30, n31, n32, n41, n42, n43⟩ := K_not h
  unfold U
  rw [if_neg n0, if_neg n1, if_neg n2, if_neg n3, if_neg n4, if_neg n5, if_neg n6, if_neg n7, if_neg n8, if_neg n9, if_neg n10, if_neg n11, if_neg n12, if_neg n13, if_neg n14, if_neg n15, if_neg n17, if_neg n18, if_neg n19, if_neg n20, if_neg n21, if_neg n22, if_neg n23, if_neg n24, if_neg n25, if_neg n26, if_neg n27, if_neg n28, if_neg n29, if_neg n30, if_neg n31, if_neg n32, if_neg n41, if_neg n42, if_neg n43]
theorem I_no {op : Int} (h : K op = false) : I op = false := by
  obtain ⟨n0, n1, n2, n3, n4, n5, n6, n7, n8, n9, n10, n11, n12, n13, n14, n15, n17, n18, n19, n20, n21, n22, n23, n24, n25, n26, n27, n28, n29, n30, n31, n32, n41, n42, n43⟩ := K_not h
  unfold I
  rw [if_neg n1, if_neg n3, if_neg n4, if_neg n5, if_neg n6, if_neg n7, if_neg n8, if_neg n9, if_neg n10]
theorem uses_any (op : Int) (w : World) : Calls Try.prog 77 #[.int .i64 op] w fun e w' => e = .returned (.tuple #[.int .i64 (U op), .bool (I op), .bool (K op)]) ∧ w = w' := by
  cases hk : K op
  · have := uses_no op hk w
    rw [U_no hk, I_no hk]; exact this
  · rcases K_cases hk with rfl | rfl | rfl | rfl | rfl | rfl | rfl | rfl | rfl | rfl | rfl | rfl | rfl | rfl | rfl | rfl | rfl | rfl | rfl | rfl | rfl | rfl | rfl | rfl | rfl | rfl | rfl | rfl | rfl | rfl | rfl | rfl | rfl | rfl | rfl
    · exact uses0 w
    · exact uses1 w
    · exact uses2 w
    · exact uses3 w
    · exact uses4 w
    · exact uses5 w
    · exact uses6 w
    · exact uses7 w
    · exact uses8 w
    · exact uses9 w
    · exact uses10 w
    · exact uses11 w
    · exact uses12 w
    · exact uses13 w
    · exact uses14 w
    · exact uses15 w
    · exact uses17 w
    · exact uses18 w
    · exact uses19 w
    · exact uses20 w
    · exact uses21 w
    · exact uses22 w
    · exact uses23 w
    · exact uses24 w
    · exact uses25 w
    · exact uses26 w
    · exact uses27 w
    · exact uses28 w
    · exact uses29 w
    · exact uses30 w
    · exact uses31 w
    · exact uses32 w
    · exact uses41 w
    · exact uses42 w
    · exact uses43 w
theorem ruses_any (op : Int) (w : World) : Calls Try.prog 63 #[.int .i64 op] w fun e w' => e = .returned (.tuple #[.int .i64 (U op), .bool (I op), .bool (K op)]) ∧ w = w' := by
  cases hk : K op
  · have := ruses_no op hk w
    rw [U_no hk, I_no hk]; exact this
  · rcases K_cases hk with rfl | rfl | rfl | rfl | rfl | rfl | rfl | rfl | rfl | rfl | rfl | rfl | rfl | rfl | rfl | rfl | rfl | rfl | rfl | rfl | rfl | rfl | rfl | rfl | rfl | rfl | rfl | rfl | rfl | rfl | rfl | rfl | rfl | rfl | rfl
    · exact ruses0 w
    · exact ruses1 w
    · exact ruses2 w
    · exact ruses3 w
    · exact ruses4 w
    · exact ruses5 w
    · exact ruses6 w
    · exact ruses7 w
    · exact ruses8 w
    · exact ruses9 w
    · exact ruses10 w
    · exact ruses11 w
    · exact ruses12 w
    · exact ruses13 w
    · exact ruses14 w
    · exact ruses15 w
    · exact ruses17 w
    · exact ruses18 w
    · exact ruses19 w
    · exact ruses20 w
    · exact ruses21 w
    · exact ruses22 w
    · exact ruses23 w
    · exact ruses24 w
    · exact ruses25 w
    · exact ruses26 w
    · exact ruses27 w
    · exact ruses28 w
    · exact ruses29 w
    · exact ruses30 w
    · exact ruses31 w
    · exact ruses32 w
    · exact ruses41 w
    · exact ruses42 w
    · exact ruses43 w
theorem rname_any (op : Int) (hk : K op = true) (w : World) : Calls Try.prog 70 #[.int .i64 op] w fun e w' => e = .returned (.string (nmS op)) ∧ w = w' := by
  rcases K_cases hk with rfl | rfl | rfl | rfl | rfl | rfl | rfl | rfl | rfl | rfl | rfl | rfl | rfl | rfl | rfl | rfl | rfl | rfl | rfl | rfl | rfl | rfl | rfl | rfl | rfl | rfl | rfl | rfl | rfl | rfl | rfl | rfl | rfl | rfl | rfl
  · exact rname0 w
  · exact rname1 w
  · exact rname2 w
  · exact rname3 w
  · exact rname4 w
  · exact rname5 w
  · exact rname6 w
  · exact rname7 w
  · exact rname8 w
  · exact rname9 w
  · exact rname10 w
  · exact rname11 w
  · exact rname12 w
  · exact rname13 w
  · exact rname14 w
  · exact rname15 w
  · exact rname17 w
  · exact rname18 w
  · exact rname19 w
  · exact rname20 w
  · exact rname21 w
  · exact rname22 w
  · exact rname23 w
  · exact rname24 w
  · exact rname25 w
  · exact rname26 w
  · exact rname27 w
  · exact rname28 w
  · exact rname29 w
  · exact rname30 w
  · exact rname31 w
  · exact rname32 w
  · exact rname41 w
  · exact rname42 w
  · exact rname43 w
end Go.Proofs.Ytikgghioneiegaa
