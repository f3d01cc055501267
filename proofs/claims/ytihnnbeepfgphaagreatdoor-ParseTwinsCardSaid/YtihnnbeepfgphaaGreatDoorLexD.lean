/-
  The document's tokens, plainly; the numeral's value.
-/
import Derived.Test.YtihnnbeepfgphaaGreatDoorLexC
import Derived.Test.YtihnnbeepfgphaaGreatDoorShelf
namespace Go.Proofs.YtihnnbeepfgphaaGreatDoor
open Go.RowKit
set_option linter.unusedVariables false
set_option linter.unusedSimpArgs false

def pre2 : List UInt8 → Bool
  | a :: b :: _ => a == 47 && b == 47
  | _ => false
def gapL : Bool → List UInt8 → Nat
  | _, [] => 0
  | true, c :: r => 1 + gapL (c != 10) r
  | false, c :: r => if pre2 (c :: r) then 1 + gapL true r else if isB c then 1 + gapL false r else 0
theorem gapL_le : ∀ (b : Bool) (l : List UInt8), gapL b l ≤ l.length
  | _, [] => by simp [gapL]
  | true, c :: r => by have := gapL_le (c != 10) r; simp [gapL]; omega
  | false, c :: r => by
    have h1 := gapL_le true r
    have h2 := gapL_le false r
    simp only [gapL]; split
    · simp; omega
    · split <;> simp <;> omega
/-- What a byte behind a backslash means. -/
def meanL (c : UInt8) : UInt8 := if c = 110 then 10 else if c = 34 then 34 else if c = 92 then 92 else 0
structure Tk where
  k : Int
  t : List UInt8
  n : Int
def bs (l : List UInt8) : ByteArray := ⟨l.toArray⟩
theorem isW_bs (l : List UInt8) : isW (bs l) = words.contains l := by unfold isW; rw [ByteArray.toList_eq]; simp [bs]
def namedL (l : List UInt8) : Option (Tk × Nat) :=
  if words.contains (l.take (runL isN l)) then some (⟨2, l.take (runL isN l), 0⟩, runL isN l)
  else if 16 < runL isN l then none else some (⟨1, l.take (runL isN l), 0⟩, runL isN l)
def dstep (a : Nat) (c : UInt8) : Nat := a * 10 + (c.toNat - 48)
def digV (l : List UInt8) : Nat := l.foldl dstep 0
def headL (p : UInt8 → Bool) : List UInt8 → Bool
  | [] => false
  | c :: _ => p c
def numberL (l : List UInt8) : Option (Tk × Nat) :=
  if decide (1 < runL isD l) && headL (· == 48) l then none
  else if headL isL (l.drop (runL isD l)) then none
  else if digV (l.take (runL isD l)) < 9223372036854775808 then some (⟨3, l.take (runL isD l), digV (l.take (runL isD l))⟩, runL isD l) else none
def qL : Bool → List UInt8 → Nat → List UInt8 → Option (List UInt8 × Nat)
  | _, _, _, [] => none
  | true, acc, i, c :: r => if meanL c = 0 then none else qL false (acc ++ [meanL c]) (i + 1) r
  | false, acc, i, c :: r => if c = 92 then qL true acc (i + 1) r else if c = 34 then (if 100 < acc.length then none else some (acc, i + 2)) else if c < 32 ∨ 126 < c then none else qL false (acc ++ [c]) (i + 1) r
def quotedL (l : List UInt8) : Option (Tk × Nat) := (qL false [] 0 (l.drop 1)).map fun x => (⟨4, x.1, 0⟩, x.2)
def doubles : List (List UInt8) := [[58, 61], [61, 61], [33, 61], [60, 61], [62, 61], [38, 38], [124, 124]]
def singles : List UInt8 := [40, 41, 91, 93, 123, 125, 44, 59, 46, 58, 61, 60, 62, 43, 45, 42, 47, 37, 33, 38]
def signN (l : List UInt8) : Nat := if doubles.contains (l.take 2) then 2 else if headL (singles.contains ·) l then 1 else 0
def signL (l : List UInt8) : Option (Tk × Nat) := if signN l = 0 then none else some (⟨5, l.take (signN l), 0⟩, signN l)
def firstL (l : List UInt8) : Option (Tk × Nat) := if headL isL l then namedL l else if headL isD l then numberL l else if headL (· == 34) l then quotedL l else signL l

/-! The value of digits. -/
theorem digV_eq (l : List UInt8) : digV l = l.foldl dstep 0 := rfl
theorem dfold_le (l : List UInt8) (a : Nat) : a ≤ l.foldl dstep a := by
  induction l generalizing a with
  | nil => exact Nat.le_refl _
  | cons c r ih => exact Nat.le_trans (by unfold dstep; omega) (ih _)
theorem parseM_digits (l : List UInt8) (h : ∀ c ∈ l, isD c = true) (a : Nat) (ha : a ≤ 18446744073709551615) :
    (l.foldl dstep a ≤ 18446744073709551615 → Lib.parseUintM 18446744073709551615 a l = .ok (l.foldl dstep a)) ∧
    (18446744073709551615 < l.foldl dstep a → Lib.parseUintM 18446744073709551615 a l = .range) := by
  induction l generalizing a with
  | nil => exact ⟨fun _ => rfl, fun h => absurd h (by show ¬ _ < a; omega)⟩
  | cons c r ih =>
    have hc := h c (by simp)
    unfold isD at hc
    have hd : 48 ≤ c.toNat ∧ c.toNat ≤ 57 := by simp at hc; omega
    have hle := dfold_le r (dstep a c)
    have hs : dstep a c = a * 10 + (c.toNat - 48) := rfl
    rw [List.foldl_cons]
    simp only [Lib.parseUintM, if_pos hd, ← hs]
    by_cases h1 : 1844674407370955162 ≤ a
    · rw [if_pos h1]
      exact ⟨fun h => by omega, fun _ => rfl⟩
    · rw [if_neg h1]
      by_cases h2 : 18446744073709551615 < dstep a c
      · rw [if_pos h2]
        exact ⟨fun h => by omega, fun _ => rfl⟩
      · rw [if_neg h2]
        exact ih (fun c hc => h c (by simp [hc])) _ (by omega)
theorem parse_digits (l : List UInt8) (hne : l ≠ []) (h : ∀ c ∈ l, isD c = true) :
    (digV l < 9223372036854775808 → Lib.parseIntB 64 l = .ok (digV l : Int)) ∧ (9223372036854775808 ≤ digV l → Lib.parseIntB 64 l = .range) := by
  match l, hne with
  | c :: r, _ =>
    have hc := h c (by simp)
    unfold isD at hc
    have hd : 48 ≤ c.toNat ∧ c.toNat ≤ 57 := by simp at hc; omega
    obtain ⟨p1, p2⟩ := parseM_digits (c :: r) h 0 (by omega)
    have n0 : ¬ c.toNat = 43 := by omega
    have n2 : ¬ c.toNat = 45 := by omega
    rw [digV_eq]
    generalize hv : (c :: r).foldl dstep 0 = v at p1 p2 ⊢
    refine ⟨fun hlt => ?_, fun hge => ?_⟩
    · have hp := p1 (by omega)
      simp [Lib.parseIntB, Lib.parseUintB, n0, n2, hp]
      omega
    · by_cases h2 : v ≤ 18446744073709551615
      · have hp := p1 h2
        simp [Lib.parseIntB, Lib.parseUintB, n0, n2, hp]
        omega
      · have hp := p2 (by omega)
        simp [Lib.parseIntB, Lib.parseUintB, n0, n2, hp]
theorem take_run (p : UInt8 → Bool) (l : List UInt8) : l.take (runL p l) = l.takeWhile p :=
  (List.prefix_iff_eq_take.1 (List.takeWhile_prefix p)).symm
theorem take_all (p : UInt8 → Bool) (l : List UInt8) : ∀ c ∈ l.take (runL p l), p c = true := by
  intro c hc
  rw [take_run] at hc
  have := List.all_takeWhile (p := p) (l := l)
  exact (List.all_eq_true.1 this) c hc
end Go.Proofs.YtihnnbeepfgphaaGreatDoor
