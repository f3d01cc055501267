/-
  What one needs, through others too.
-/
import Derived.Test.YtibfikadamfpdaaHo
namespace Go.Proofs.Ytibfikadamfpdaa
open Go.RowKit
set_option linter.unusedVariables false
set_option linter.unusedSimpArgs false

inductive ReachN (n : Nat) (tt : Nat → Nat → Bool) (at_ : Nat) : Nat → Prop
  | base : ReachN n tt at_ at_
  | step {i j : Nat} : ReachN n tt at_ i → j < n → tt i j = true → ReachN n tt at_ j
def ClosedN (n : Nat) (tt : Nat → Nat → Bool) (S : Nat → Bool) : Prop := ∀ i, i < n → S i = true → ∀ j, j < n → tt i j = true → S j = true
theorem reach_sub {n : Nat} {tt : Nat → Nat → Bool} {at_ : Nat} {S : Nat → Bool} (h0 : at_ < n) (h : S at_ = true) (hc : ClosedN n tt S) : ∀ {i : Nat}, ReachN n tt at_ i → i < n ∧ S i = true := by
  intro i hr
  induction hr with
  | base => exact ⟨h0, h⟩
  | step _ hj ht ih => exact ⟨hj, hc _ ih.1 ih.2 _ hj ht⟩
/-- Just what is reached. -/
def IsR (n : Nat) (tt : Nat → Nat → Bool) (at_ : Nat) (S : Nat → Bool) : Prop := ∀ i, i < n → (S i = true ↔ ReachN n tt at_ i)
theorem isR_of {n : Nat} {tt : Nat → Nat → Bool} {at_ : Nat} {S : Nat → Bool} (h0 : at_ < n) (h : S at_ = true) (hc : ClosedN n tt S) (hs : ∀ i, i < n → S i = true → ReachN n tt at_ i) : IsR n tt at_ S :=
  fun i hi => ⟨hs i hi, fun hr => (reach_sub h0 h hc hr).2⟩
def filtN (n : Nat) (S : Nat → Bool) : List Nat := (List.range n).filter S
theorem filt_eq {n : Nat} {tt : Nat → Nat → Bool} {at_ : Nat} {S S' : Nat → Bool} (h : IsR n tt at_ S) (h' : IsR n tt at_ S') : filtN n S = filtN n S' := by
  unfold filtN
  apply List.filter_congr
  intro x hx
  have hxn : x < n := by simpa using hx
  rw [Bool.eq_iff_iff, h x hxn, h' x hxn]
theorem filtN_le (n : Nat) (S : Nat → Bool) : (filtN n S).length ≤ n := by
  have := List.length_filter_le S (List.range n)
  rw [List.length_range] at this
  exact this
theorem filtN_succ (i : Nat) (S : Nat → Bool) : filtN (i + 1) S = filtN i S ++ if S i = true then [i] else [] := by
  unfold filtN
  rw [List.range_succ, List.filter_append]
  cases h : S i <;> simp [h]
def cntF (n : Nat) (S : Nat → Bool) : Nat := ((List.range n).filter fun j => !S j).length
theorem cntF_set {n t : Nat} {S : Nat → Bool} (ht : t < n) (hs : S t = false) : cntF n (fun j => S j || t == j) < cntF n S := by
  unfold cntF
  have e : (List.range n).filter (fun j => !(S j || t == j)) = ((List.range n).filter (fun j => !S j)).filter (fun j => !(t == j)) := by
    rw [List.filter_filter]
    apply List.filter_congr
    intro x _
    cases S x <;> simp
  rw [e, List.length_filter_lt_length_iff_exists]
  exact ⟨t, by simp [ht, hs], by simp⟩
theorem cntF_congr {n : Nat} {S S' : Nat → Bool} (h : ∀ i, i < n → S i = S' i) : cntF n S = cntF n S' := by
  unfold cntF
  congr 1
  apply List.filter_congr
  intro x hx
  rw [h x (by simpa using hx)]
/-- Gone through from the end of an order, once is enough. -/
structure BackI (n : Nat) (tt : Nat → Nat → Bool) (at_ : Nat) (L : List Nat) (m : Nat) (S : Nat → Bool) : Prop where
  top : S at_ = true
  sub : ∀ i, i < n → S i = true → ReachN n tt at_ i
  cl : ∀ q, m ≤ q → q < L.length → S (fl L q) = true → ∀ j, j < n → tt (fl L q) j = true → S j = true
theorem BackI.start {n : Nat} {tt : Nat → Nat → Bool} {at_ : Nat} (L : List Nat) : BackI n tt at_ L L.length (fun j => at_ == j) :=
  ⟨by simp, fun i _ h => by
    have : at_ = i := by simpa using h
    subst this; exact .base, fun q h1 h2 => by omega⟩
theorem BackI.skip {n m : Nat} {tt : Nat → Nat → Bool} {at_ : Nat} {L : List Nat} {S : Nat → Bool} (h : BackI n tt at_ L (m + 1) S) (hs : S (fl L m) = false) : BackI n tt at_ L m S :=
  ⟨h.top, h.sub, fun q h1 h2 h3 => by
    by_cases e : q = m
    · rw [e, hs] at h3; cases h3
    · exact h.cl q (by omega) h2 h3⟩
/-- All that one needs put in. -/
theorem BackI.put {n m : Nat} {tt : Nat → Nat → Bool} {at_ : Nat} {L : List Nat} {S : Nat → Bool} (hlt : ∀ x ∈ L, x < n) (hnd : L.Nodup) (hb : ∀ i x, L[i]? = some x → ∀ j, j < n → tt x j = true → j ∈ L.take i) (h : BackI n tt at_ L (m + 1) S) (hm : m < L.length) (hs : S (fl L m) = true) : BackI n tt at_ L m (fun j => S j || tt (fl L m) j) := by
  have hxm : fl L m < n := hlt _ (List.mem_of_getElem? (fl_get hm))
  refine ⟨by simp [h.top], fun i hi hi2 => ?_, fun q h1 h2 h3 j hj ht => ?_⟩
  · simp only [Bool.or_eq_true] at hi2
    rcases hi2 with e | e
    · exact h.sub i hi e
    · exact .step (h.sub _ hxm hs) hi e
  · by_cases e : q = m
    · subst e
      simp [ht]
    · -- what was put in now stands ahead of m
      have h4 : S (fl L q) = true := by
        simp only [Bool.or_eq_true] at h3
        rcases h3 with e2 | e2
        · exact e2
        · exfalso
          have h5 := hb m (fl L m) (fl_get hm) (fl L q) (hlt _ (List.mem_of_getElem? (fl_get h2))) e2
          obtain ⟨k, hk⟩ := List.getElem?_of_mem h5
          rw [List.getElem?_take] at hk
          split at hk
          · rename_i hkm
            rw [fl_get (by omega)] at hk
            have := nodup_fl.1 hnd k q (by omega) h2 (Option.some.inj hk)
            omega
          · cases hk
      have := h.cl q (by omega) h2 h4 j hj ht
      simp [this]
theorem BackI.done {n : Nat} {tt : Nat → Nat → Bool} {at_ : Nat} {L : List Nat} {S : Nat → Bool} (h : BackI n tt at_ L 0 S) (h0 : at_ < n) (hall : ∀ i, i < n → i ∈ L) : IsR n tt at_ S :=
  isR_of h0 h.top (fun i hi hs j hj ht => by
    obtain ⟨k, hk, e⟩ := mem_fl.1 (hall i hi)
    have := h.cl k (by omega) hk (by rw [e]; exact hs) j hj (by rw [e]; exact ht)
    exact this) h.sub
/-- What Below answers. -/
def BelP (w : World) (N : List ByteArray) (R : List (List ByteArray)) (at_ : Int) (e : Ending) (w' : World) : Prop :=
  Below w.heap.size w w' ∧ ((¬ ((resN N R).2.2 = 0 ∧ 0 ≤ at_ ∧ at_ < (N.length : Int)) ∧ e = .returned (.slice none 0 0)) ∨
    ((resN N R).2.2 = 0 ∧ ∃ a S A c, at_ = ((a : Nat) : Int) ∧ a < N.length ∧ IsR N.length (lk N R) a S ∧ e = .returned (.slice A (filtN N.length S).length c) ∧ SlV w' w'.heap.size A (ints (filtN N.length S))))
end Go.Proofs.Ytibfikadamfpdaa
