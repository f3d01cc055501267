/-
  The words, in the program and in the document's reading: walks.
-/
import Derived.Test.YtihnnbeepfgphaaGreatDoorLexA
namespace Go.Proofs.YtihnnbeepfgphaaGreatDoor
open Go.RowKit
set_option linter.unusedVariables false
set_option linter.unusedSimpArgs false

def words : List (List UInt8) := [[112, 97, 99, 107, 97, 103, 101], [105, 109, 112, 111, 114, 116], [99, 111, 110, 115, 116], [118, 97, 114], [116, 121, 112, 101], [115, 116, 114, 117, 99, 116], [105, 110, 116, 101, 114, 102, 97, 99, 101], [102, 117, 110, 99], [105, 102], [101, 108, 115, 101], [102, 111, 114], [98, 114, 101, 97, 107], [99, 111, 110, 116, 105, 110, 117, 101], [114, 101, 116, 117, 114, 110], [105, 110, 116], [98, 111, 111, 108], [115, 116, 114, 105, 110, 103], [116, 114, 117, 101], [102, 97, 108, 115, 101], [110, 105, 108], [97, 110, 121], [99, 111, 109, 112, 97, 114, 97, 98, 108, 101], [108, 101, 110], [97, 112, 112, 101, 110, 100], [109, 97, 107, 101], [112, 97, 110, 105, 99], [112, 117, 116], [103, 101, 116]]
def isW (s : ByteArray) : Bool := words.contains s.toList
theorem isW_no {s : ByteArray} (h : isW s = false) : (s.toList == [112, 97, 99, 107, 97, 103, 101]) = false ∧ (s.toList == [105, 109, 112, 111, 114, 116]) = false ∧ (s.toList == [99, 111, 110, 115, 116]) = false ∧ (s.toList == [118, 97, 114]) = false ∧ (s.toList == [116, 121, 112, 101]) = false ∧ (s.toList == [115, 116, 114, 117, 99, 116]) = false ∧ (s.toList == [105, 110, 116, 101, 114, 102, 97, 99, 101]) = false ∧ (s.toList == [102, 117, 110, 99]) = false ∧ (s.toList == [105, 102]) = false ∧ (s.toList == [101, 108, 115, 101]) = false ∧ (s.toList == [102, 111, 114]) = false ∧ (s.toList == [98, 114, 101, 97, 107]) = false ∧ (s.toList == [99, 111, 110, 116, 105, 110, 117, 101]) = false ∧ (s.toList == [114, 101, 116, 117, 114, 110]) = false ∧ (s.toList == [105, 110, 116]) = false ∧ (s.toList == [98, 111, 111, 108]) = false ∧ (s.toList == [115, 116, 114, 105, 110, 103]) = false ∧ (s.toList == [116, 114, 117, 101]) = false ∧ (s.toList == [102, 97, 108, 115, 101]) = false ∧ (s.toList == [110, 105, 108]) = false ∧ (s.toList == [97, 110, 121]) = false ∧ (s.toList == [99, 111, 109, 112, 97, 114, 97, 98, 108, 101]) = false ∧ (s.toList == [108, 101, 110]) = false ∧ (s.toList == [97, 112, 112, 101, 110, 100]) = false ∧ (s.toList == [109, 97, 107, 101]) = false ∧ (s.toList == [112, 97, 110, 105, 99]) = false ∧ (s.toList == [112, 117, 116]) = false ∧ (s.toList == [103, 101, 116]) = false := by
  unfold isW words at h
  simp only [List.contains_cons, Bool.or_eq_false_iff, List.contains_nil, and_true] at h
  simpa using h
theorem isW_yes {s : ByteArray} (h : isW s = true) : s.toList = [112, 97, 99, 107, 97, 103, 101] ∨ s.toList = [105, 109, 112, 111, 114, 116] ∨ s.toList = [99, 111, 110, 115, 116] ∨ s.toList = [118, 97, 114] ∨ s.toList = [116, 121, 112, 101] ∨ s.toList = [115, 116, 114, 117, 99, 116] ∨ s.toList = [105, 110, 116, 101, 114, 102, 97, 99, 101] ∨ s.toList = [102, 117, 110, 99] ∨ s.toList = [105, 102] ∨ s.toList = [101, 108, 115, 101] ∨ s.toList = [102, 111, 114] ∨ s.toList = [98, 114, 101, 97, 107] ∨ s.toList = [99, 111, 110, 116, 105, 110, 117, 101] ∨ s.toList = [114, 101, 116, 117, 114, 110] ∨ s.toList = [105, 110, 116] ∨ s.toList = [98, 111, 111, 108] ∨ s.toList = [115, 116, 114, 105, 110, 103] ∨ s.toList = [116, 114, 117, 101] ∨ s.toList = [102, 97, 108, 115, 101] ∨ s.toList = [110, 105, 108] ∨ s.toList = [97, 110, 121] ∨ s.toList = [99, 111, 109, 112, 97, 114, 97, 98, 108, 101] ∨ s.toList = [108, 101, 110] ∨ s.toList = [97, 112, 112, 101, 110, 100] ∨ s.toList = [109, 97, 107, 101] ∨ s.toList = [112, 97, 110, 105, 99] ∨ s.toList = [112, 117, 116] ∨ s.toList = [103, 101, 116] := by
  unfold isW words at h
  simp only [List.contains_cons, Bool.or_eq_true, List.contains_nil, Bool.false_eq_true, or_false] at h
  simpa using h
theorem of_toList {s : ByteArray} {l : List UInt8} (h : s.toList = l) : s = ⟨l.toArray⟩ := by
  rw [ByteArray.toList_eq] at h
  subst h
  rfl

theorem word_no (s : ByteArray) (w : World) (h : isW s = false) : Calls Tryz.prog 50 #[.string s] w fun e w' => e = .returned (.bool false) ∧ w = w' := by
  obtain ⟨h0, h1, h2, h3, h4, h5, h6, h7, h8, h9, h10, h11, h12, h13, h14, h15, h16, h17, h18, h19, h20, h21, h22, h23, h24, h25, h26, h27⟩ := isW_no h
  clear h
  go_enter Tryz.func50, Tryz.ntmps50
  go_wp2
  go_ret
  exact ⟨rfl, rfl⟩
theorem word_yes (s : ByteArray) (w : World) (h : isW s = true) : Calls Tryz.prog 50 #[.string s] w fun e w' => e = .returned (.bool true) ∧ w = w' := by
  rcases isW_yes h with h | h | h | h | h | h | h | h | h | h | h | h | h | h | h | h | h | h | h | h | h | h | h | h | h | h | h | h
  all_goals
    have h := of_toList h
    subst h
    go_enter Tryz.func50, Tryz.ntmps50
    go_wp2
    go_ret
    exact ⟨rfl, rfl⟩
theorem word_any (s : ByteArray) (w : World) : Calls Tryz.prog 50 #[.string s] w fun e w' => e = .returned (.bool (isW s)) ∧ w = w' := by
  cases h : isW s
  · exact word_no s w h
  · exact word_yes s w h

end Go.Proofs.YtihnnbeepfgphaaGreatDoor
