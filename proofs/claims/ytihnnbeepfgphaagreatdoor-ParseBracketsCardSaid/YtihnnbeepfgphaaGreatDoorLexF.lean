/-
  Signs: walks.
-/
import Derived.Test.YtihnnbeepfgphaaGreatDoorLexE
namespace Go.Proofs.YtihnnbeepfgphaaGreatDoor
open Go.RowKit
set_option linter.unusedVariables false
set_option linter.unusedSimpArgs false

theorem dbl_no {t : ByteArray} (h : doubles.contains t.toList = false) : (t.toList == [58, 61]) = false ∧ (t.toList == [61, 61]) = false ∧ (t.toList == [33, 61]) = false ∧ (t.toList == [60, 61]) = false ∧ (t.toList == [62, 61]) = false ∧ (t.toList == [38, 38]) = false ∧ (t.toList == [124, 124]) = false := by
  unfold doubles at h
  simp only [List.contains_cons, Bool.or_eq_false_iff, List.contains_nil, and_true] at h
  simpa using h
theorem dbl_yes {t : ByteArray} (h : doubles.contains t.toList = true) : t.toList = [58, 61] ∨ t.toList = [61, 61] ∨ t.toList = [33, 61] ∨ t.toList = [60, 61] ∨ t.toList = [62, 61] ∨ t.toList = [38, 38] ∨ t.toList = [124, 124] := by
  unfold doubles at h
  simp only [List.contains_cons, Bool.or_eq_true, List.contains_nil, Bool.false_eq_true, or_false] at h
  simpa using h
theorem sgl_no {c : UInt8} (h : singles.contains c = false) : ((c.toNat : Int) == 40) = false ∧ ((c.toNat : Int) == 41) = false ∧ ((c.toNat : Int) == 91) = false ∧ ((c.toNat : Int) == 93) = false ∧ ((c.toNat : Int) == 123) = false ∧ ((c.toNat : Int) == 125) = false ∧ ((c.toNat : Int) == 44) = false ∧ ((c.toNat : Int) == 59) = false ∧ ((c.toNat : Int) == 46) = false ∧ ((c.toNat : Int) == 58) = false ∧ ((c.toNat : Int) == 61) = false ∧ ((c.toNat : Int) == 60) = false ∧ ((c.toNat : Int) == 62) = false ∧ ((c.toNat : Int) == 43) = false ∧ ((c.toNat : Int) == 45) = false ∧ ((c.toNat : Int) == 42) = false ∧ ((c.toNat : Int) == 47) = false ∧ ((c.toNat : Int) == 37) = false ∧ ((c.toNat : Int) == 33) = false ∧ ((c.toNat : Int) == 38) = false := by
  unfold singles at h
  simp only [List.contains_cons, Bool.or_eq_false_iff, List.contains_nil, and_true, beq_eq_false_iff_ne, ne_eq, ← UInt8.toNat_inj] at h
  simp
  simp at h
  omega
theorem sgl_yes {c : UInt8} (h : singles.contains c = true) : (c.toNat : Int) = 40 ∨ (c.toNat : Int) = 41 ∨ (c.toNat : Int) = 91 ∨ (c.toNat : Int) = 93 ∨ (c.toNat : Int) = 123 ∨ (c.toNat : Int) = 125 ∨ (c.toNat : Int) = 44 ∨ (c.toNat : Int) = 59 ∨ (c.toNat : Int) = 46 ∨ (c.toNat : Int) = 58 ∨ (c.toNat : Int) = 61 ∨ (c.toNat : Int) = 60 ∨ (c.toNat : Int) = 62 ∨ (c.toNat : Int) = 43 ∨ (c.toNat : Int) = 45 ∨ (c.toNat : Int) = 42 ∨ (c.toNat : Int) = 47 ∨ (c.toNat : Int) = 37 ∨ (c.toNat : Int) = 33 ∨ (c.toNat : Int) = 38 := by
  unfold singles at h
  simp only [List.contains_cons, Bool.or_eq_true, List.contains_nil, Bool.false_eq_true, or_false, beq_iff_eq, ← UInt8.toNat_inj] at h
  simp at h
  omega
theorem ext2_list (s : ByteArray) : (s.extract 0 2).toList = s.data.toList.take 2 := by
  rw [ByteArray.toList_eq, ext_list]; simp
theorem head_at {s : ByteArray} (h : 0 < s.size) (p : UInt8 → Bool) : headL p s.data.toList = p s[0] := by
  have := drop_at h
  rw [List.drop_zero] at this
  rw [this]; rfl
theorem size1 {s : ByteArray} (h : s.size ≤ 1) : doubles.contains (s.data.toList.take 2) = false := by
  have : s.data.toList.length ≤ 1 := by simpa using h
  match s.data.toList, this with
  | [], _ => rfl
  | [a], _ => simp [doubles]

theorem size_one (s : ByteArray) (w : World) (h0 : 0 < s.size) (hs : s.size ≤ maxLen) (h : doubles.contains (s.data.toList.take 2) = false) (hl : singles.contains s[0] = true) :
    Calls Tryz.prog 53 #[.string s] w fun e w' => e = .returned (.int .i64 1) ∧ w = w' := by
  unfold maxLen at hs
  rw [← ext2_list] at h
  obtain ⟨d0, d1, d2, d3, d4, d5, d6⟩ := dbl_no h
  clear h
  rcases sgl_yes hl with h | h | h | h | h | h | h | h | h | h | h | h | h | h | h | h | h | h | h | h
  all_goals
    clear hl
    by_cases hz : 1 < s.size
    all_goals
      go_enter Tryz.func53, Tryz.ntmps53
      go_wp2
      go_ret
      exact ⟨rfl, rfl⟩
theorem size_none (s : ByteArray) (w : World) (h0 : 0 < s.size) (hs : s.size ≤ maxLen) (h : doubles.contains (s.data.toList.take 2) = false) (hl : singles.contains s[0] = false) :
    Calls Tryz.prog 53 #[.string s] w fun e w' => e = .returned (.int .i64 0) ∧ w = w' := by
  unfold maxLen at hs
  rw [← ext2_list] at h
  obtain ⟨d0, d1, d2, d3, d4, d5, d6⟩ := dbl_no h
  clear h
  obtain ⟨e0, e1, e2, e3, e4, e5, e6, e7, e8, e9, e10, e11, e12, e13, e14, e15, e16, e17, e18, e19⟩ := sgl_no hl
  clear hl
  by_cases hz : 1 < s.size
  all_goals
    go_enter Tryz.func53, Tryz.ntmps53
    go_wp2
    go_ret
    exact ⟨rfl, rfl⟩
theorem size_two (s : ByteArray) (w : World) (hs : s.size ≤ maxLen) (h : doubles.contains (s.data.toList.take 2) = true) :
    Calls Tryz.prog 53 #[.string s] w fun e w' => e = .returned (.int .i64 2) ∧ w = w' := by
  have hz : 1 < s.size := by
    rcases Nat.lt_or_ge 1 s.size with h1 | h1
    · exact h1
    · rw [size1 h1] at h; cases h
  unfold maxLen at hs
  rw [← ext2_list] at h
  rcases dbl_yes h with hd | hd | hd | hd | hd | hd | hd
  all_goals
    clear h
    go_enter Tryz.func53, Tryz.ntmps53
    go_wp2
    go_ret
    exact ⟨rfl, rfl⟩
theorem size_any (s : ByteArray) (w : World) (h0 : 0 < s.size) (hs : s.size ≤ maxLen) :
    Calls Tryz.prog 53 #[.string s] w fun e w' => e = .returned (.int .i64 (signN s.data.toList)) ∧ w = w' := by
  unfold signN
  rw [head_at h0]
  cases h : doubles.contains (s.data.toList.take 2)
  · cases hl : singles.contains s[0]
    · exact size_none s w h0 hs h hl
    · exact size_one s w h0 hs h hl
  · exact size_two s w hs h
end Go.Proofs.YtihnnbeepfgphaaGreatDoor
