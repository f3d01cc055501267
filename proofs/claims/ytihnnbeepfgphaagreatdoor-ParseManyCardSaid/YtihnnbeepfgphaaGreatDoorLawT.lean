/-
  What the laws' texts are read as, plainly.
-/
import Derived.Test.YtihnnbeepfgphaaGreatDoorLawE2
import Derived.Test.YtihnnbeepfgphaaGreatDoorParL
import Derived.Test.YtihnnbeepfgphaaGreatDoorParJ
namespace Go.Proofs.YtihnnbeepfgphaaGreatDoor
open Go.RowKit
set_option linter.unusedVariables false
set_option linter.unusedSimpArgs false

theorem deep_yes (k : Nat) (h : k ≤ 97) : ∃ (k1 op n : Int) (p tx : List UInt8) (a : Nat) (ks : List Tr), parseD (deepP k) = .tree (.mk k1 op n p tx a ks) := by
  have h1 := deep_ok k (by omega)
  generalize parseD (deepP k) = p at h1
  cases p with
  | tree t => obtain ⟨k1, op, n, p, tx, a, ks⟩ := t; exact ⟨_, _, _, _, _, _, _, rfl⟩
  | fault a e =>
    unfold chkDeep at h1
    simp only [Bool.and_eq_true, decide_eq_true_eq] at h1
    omega
theorem deep_no (k : Nat) (h : 97 < k) (h2 : k < 130) : parseD (deepP k) = .fault 0 3 := by
  have h1 := deep_ok k h2
  generalize parseD (deepP k) = p at h1
  cases p with
  | tree t =>
    unfold chkDeep at h1
    simp only [decide_eq_true_eq] at h1
    omega
  | fault a e =>
    unfold chkDeep at h1
    simp only [Bool.and_eq_true, decide_eq_true_eq, beq_iff_eq] at h1
    obtain ⟨⟨_, rfl⟩, rfl⟩ := h1
    rfl
theorem br_yes (k : Nat) (h : k ≤ 40) : ∃ (op : Int) (p tx : List UInt8) (a : Nat) (ks : List Tr), exprOf (parseD (brP k)) = some (.mk 26 op 7 p tx a ks) := by
  have h1 := br_ok k (by omega)
  unfold chkBr at h1
  rw [if_pos h] at h1
  generalize exprOf (parseD (brP k)) = p at h1
  cases p with
  | none => cases h1
  | some t =>
    obtain ⟨k1, op, n, p, tx, a, ks⟩ := t
    simp only [Bool.and_eq_true, beq_iff_eq] at h1
    obtain ⟨rfl, rfl⟩ := h1
    exact ⟨_, _, _, _, _, rfl⟩
theorem br_no (k : Nat) (h : 40 < k) (h2 : k < 60) : parseD (brP k) = .fault 63 3 := by
  have h1 := br_ok k h2
  unfold chkBr at h1
  rw [if_neg (by omega)] at h1
  generalize parseD (brP k) = p at h1
  cases p with
  | tree t => cases h1
  | fault a e =>
    simp only [Bool.and_eq_true, beq_iff_eq] at h1
    obtain ⟨rfl, rfl⟩ := h1
    rfl
theorem sign_mem (k : Int) : (signZ k).2 = 0 ∨ ((k, (signZ k).1, ((signZ k).2 : Int)) ∈ signs ∧ (signZ k).1.length ≤ 2) := by
  by_cases h18 : k = 18
  · subst h18; exact .inr ⟨by decide, by decide⟩
  by_cases h17 : k = 17
  · subst h17; exact .inr ⟨by decide, by decide⟩
  by_cases h11 : k = 11
  · subst h11; exact .inr ⟨by decide, by decide⟩
  by_cases h12 : k = 12
  · subst h12; exact .inr ⟨by decide, by decide⟩
  by_cases h13 : k = 13
  · subst h13; exact .inr ⟨by decide, by decide⟩
  by_cases h14 : k = 14
  · subst h14; exact .inr ⟨by decide, by decide⟩
  by_cases h15 : k = 15
  · subst h15; exact .inr ⟨by decide, by decide⟩
  by_cases h16 : k = 16
  · subst h16; exact .inr ⟨by decide, by decide⟩
  by_cases h1 : k = 1
  · subst h1; exact .inr ⟨by decide, by decide⟩
  by_cases h2 : k = 2
  · subst h2; exact .inr ⟨by decide, by decide⟩
  by_cases h3 : k = 3
  · subst h3; exact .inr ⟨by decide, by decide⟩
  by_cases h4 : k = 4
  · subst h4; exact .inr ⟨by decide, by decide⟩
  by_cases h5 : k = 5
  · subst h5; exact .inr ⟨by decide, by decide⟩
  · left
    simp only [signZ, if_neg h18, if_neg h17, if_neg h11, if_neg h12, if_neg h13, if_neg h14, if_neg h15, if_neg h16, if_neg h1, if_neg h2, if_neg h3, if_neg h4, if_neg h5]
theorem bind_says (a b : Int) (ha : (signZ a).2 ≠ 0) (hb : (signZ b).2 ≠ 0) : ∃ (op n : Int) (p tx : List UInt8) (at_ : Nat) (u v : Tr), exprOf (parseD (bindP (signZ a).1 (signZ b).1)) = some (.mk 31 op n p tx at_ [u, v]) ∧
    ((signZ b).2 ≤ (signZ a).2 → op = b ∧ u.op = a ∧ v.text = [122]) ∧ (¬ (signZ b).2 ≤ (signZ a).2 → op = a ∧ v.op = b ∧ u.text = [120]) := by
  have h := bind_ok _ ((sign_mem a).resolve_left ha).1 _ ((sign_mem b).resolve_left hb).1
  unfold chkBi at h
  simp only at h
  generalize exprOf (parseD (bindP (signZ a).1 (signZ b).1)) = p at h
  cases p with
  | none => cases h
  | some t =>
    obtain ⟨k1, op, n, p, tx, at_, ks⟩ := t
    cases ks with
    | nil => cases h
    | cons u r =>
      cases r with
      | nil => cases h
      | cons v r2 =>
        cases r2 with
        | cons _ _ => cases h
        | nil =>
          simp only [Bool.and_eq_true, beq_iff_eq] at h
          obtain ⟨rfl, h⟩ := h
          refine ⟨_, _, _, _, _, _, _, rfl, fun hle => ?_, fun hle => ?_⟩
          · rw [if_pos (by omega)] at h
            simp only [Bool.and_eq_true, beq_iff_eq] at h
            exact ⟨h.1.1, h.1.2, h.2⟩
          · rw [if_neg (by omega)] at h
            simp only [Bool.and_eq_true, beq_iff_eq] at h
            exact ⟨h.1.1, h.1.2, h.2⟩
end Go.Proofs.YtihnnbeepfgphaaGreatDoor
