/-
  The tokens of a text: the last one is the end, and no other; their numbers are bounded.
-/
import Derived.Test.YtihnnbeepfgphaaGreatDoorParA
import Derived.Test.YtihnnbeepfgphaaGreatDoorLexK
namespace Go.Proofs.YtihnnbeepfgphaaGreatDoor
open Go.RowKit
set_option linter.unusedVariables false
set_option linter.unusedSimpArgs false

theorem first_kind {l : List UInt8} {t : Tk} {n : Nat} (h : firstL l = some (t, n)) : t.k ≠ 0 ∧ 0 ≤ t.n ∧ t.n ≤ 9223372036854775807 := by
  unfold firstL at h
  split at h
  · unfold namedL at h
    split at h
    · injection h with h; injection h with h1 h2; subst h1; exact ⟨by simp, by simp, by simp⟩
    · split at h
      · cases h
      · injection h with h; injection h with h1 h2; subst h1; exact ⟨by simp, by simp, by simp⟩
  · split at h
    · unfold numberL at h
      split at h
      · cases h
      · split at h
        · cases h
        · split at h
          · next hd => injection h with h; injection h with h1 h2; subst h1; exact ⟨by simp, by show (0 : Int) ≤ ((digV _ : Nat) : Int); omega, by show ((digV _ : Nat) : Int) ≤ _; omega⟩
          · cases h
    · split at h
      · unfold quotedL at h
        cases hq : qL false [] 0 (l.drop 1) with
        | none => rw [hq] at h; cases h
        | some x => rw [hq] at h; injection h with h; injection h with h1 h2; subst h1; exact ⟨by simp, by simp, by simp⟩
      · unfold signL at h
        split at h
        · cases h
        · injection h with h; injection h with h1 h2; subst h1; exact ⟨by simp, by simp, by simp⟩
theorem lexL_good : ∀ (f k : Nat) (l : List UInt8), l.length < f → ∀ ts, lexL f k l = .inr ts → good ts ∧ ∀ x ∈ ts, 0 ≤ x.1.n ∧ x.1.n ≤ 9223372036854775807
  | 0, _, _, h, _, _ => by omega
  | f + 1, k, l, h, ts, e => by
    by_cases hl : l = []
    · subst hl
      rw [lexL_end] at e
      injection e with e
      subst e
      refine ⟨⟨rfl, rfl, rfl⟩, ?_⟩
      intro x hx
      simp only [List.mem_singleton] at hx
      subst hx
      exact ⟨by simp, by simp⟩
    · cases ho : firstL l with
      | none => rw [lexL_none hl ho] at e; cases e
      | some x =>
        obtain ⟨t, n⟩ := x
        have h1 := first_kind ho
        have h2 := rest_len ho
        have ih := lexL_good f (k + n + gapL false (l.drop n)) ((l.drop n).drop (gapL false (l.drop n))) (by omega)
        rw [lexL_some hl ho] at e
        generalize lexL f (k + n + gapL false (l.drop n)) ((l.drop n).drop (gapL false (l.drop n))) = y at e ih
        cases y with
        | inl p => cases e
        | inr us =>
          simp only [joinL] at e
          injection e with e
          subst e
          obtain ⟨g1, g2⟩ := ih us rfl
          refine ⟨?_, ?_⟩
          · show (if t.k = 0 then _ else good us)
            rw [if_neg h1.1]
            exact g1
          · intro x hx
            simp only [List.singleton_append, List.mem_cons] at hx
            rcases hx with rfl | hx
            · exact h1.2
            · exact g2 x hx
theorem lexD_good {l : List UInt8} {ts : List (Tk × Nat)} (h : lexD l = (ts, 0, 0)) : good ts ∧ (∀ x ∈ ts, 0 ≤ x.1.n ∧ x.1.n ≤ 9223372036854775807) ∧ ts.length ≤ 8193 := by
  have hc := lexD_count h
  unfold lexD at h
  split at h
  · simp at h
  · unfold lexG at h
    have hb := lexL_good (l.length + 1) (gapL false l) (l.drop (gapL false l)) (by simp; omega)
    generalize lexL (l.length + 1) (gapL false l) (l.drop (gapL false l)) = y at h hb
    cases y with
    | inl q => simp [lexO] at h
    | inr us =>
      have h1 := hb us rfl
      simp only [lexO, Prod.mk.injEq] at h
      rw [← h.1] at hc ⊢
      exact ⟨h1.1, h1.2, by omega⟩
end Go.Proofs.YtihnnbeepfgphaaGreatDoor
