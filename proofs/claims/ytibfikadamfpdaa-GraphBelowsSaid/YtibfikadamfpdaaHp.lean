/-
  Heaps, plainly.
-/
import Derived.Test.YtibfikadamfpdaaSl
namespace Go.Proofs.Ytibfikadamfpdaa
set_option linter.unusedVariables false
set_option linter.unusedSimpArgs false

/-- A strict order in which any two that are unlike stand one below the other. -/
structure Ord9 (lt : Nat → Nat → Bool) : Prop where
  asym : ∀ a b, lt a b = true → lt b a = false
  tr : ∀ a b c, lt a b = false → lt b c = false → lt a c = false

def HeapF (lt : Nat → Nat → Bool) (m : Nat) (q : Nat → Nat) : Prop := ∀ k, 0 < k → k < m → lt (q k) (q ((k - 1) / 2)) = false
def sw (q : Nat → Nat) (i j : Nat) : Nat → Nat := fun k => if k = i then q j else if k = j then q i else q k
def UpI (lt : Nat → Nat → Bool) (m : Nat) (q : Nat → Nat) (j : Nat) : Prop :=
  (∀ k, 0 < k → k < m → k ≠ j → lt (q k) (q ((k - 1) / 2)) = false) ∧ (0 < j → ∀ k, 0 < k → k < m → (k - 1) / 2 = j → lt (q k) (q ((j - 1) / 2)) = false)
def DnI (lt : Nat → Nat → Bool) (m : Nat) (q : Nat → Nat) (i : Nat) : Prop :=
  (∀ k, 0 < k → k < m → (k - 1) / 2 ≠ i → lt (q k) (q ((k - 1) / 2)) = false) ∧ (0 < i → ∀ k, 0 < k → k < m → (k - 1) / 2 = i → lt (q k) (q ((i - 1) / 2)) = false)
/-- The same ones, each once where each was there once. -/
structure SameF (m : Nat) (q q' : Nat → Nat) : Prop where
  mem : ∀ x, (∃ k, k < m ∧ q' k = x) ↔ ∃ k, k < m ∧ q k = x
  inj : (∀ a b, a < m → b < m → q a = q b → a = b) → ∀ a b, a < m → b < m → q' a = q' b → a = b
theorem SameF.refl (m : Nat) (q : Nat → Nat) : SameF m q q := ⟨fun _ => Iff.rfl, fun h => h⟩
theorem SameF.trans {m : Nat} {q q' q'' : Nat → Nat} (h : SameF m q q') (k : SameF m q' q'') : SameF m q q'' := ⟨fun x => (k.mem x).trans (h.mem x), fun i => k.inj (h.inj i)⟩
theorem SameF.sw_ {m : Nat} (q : Nat → Nat) {i j : Nat} (hi : i < m) (hj : j < m) : SameF m q (sw q i j) := by
  constructor
  · intro x
    constructor
    · rintro ⟨k, hk, h⟩
      unfold sw at h
      split at h
      · exact ⟨j, hj, h⟩
      · split at h
        · exact ⟨i, hi, h⟩
        · exact ⟨k, hk, h⟩
    · rintro ⟨k, hk, h⟩
      by_cases h1 : k = i
      · refine ⟨j, hj, ?_⟩
        unfold sw
        by_cases h2 : j = i
        · rw [if_pos h2, h2, ← h1]; exact h
        · rw [if_neg h2, if_pos rfl, ← h1]; exact h
      · by_cases h2 : k = j
        · refine ⟨i, hi, ?_⟩
          unfold sw
          rw [if_pos rfl, ← h2]; exact h
        · refine ⟨k, hk, ?_⟩
          unfold sw
          rw [if_neg h1, if_neg h2]; exact h
  · intro h a b ha hb
    unfold sw
    repeat' split
    all_goals
      intro e
      have := h _ _ (by assumption) (by assumption) e
      omega
section
variable {lt : Nat → Nat → Bool} {m : Nat} {q : Nat → Nat}
theorem HeapF.min_ (ho : Ord9 lt) (hir : ∀ a, lt a a = false) (h : HeapF lt m q) : ∀ k, k < m → lt (q k) (q 0) = false := by
  intro k
  induction k using Nat.strongRecOn with
  | _ k ih =>
    intro hk
    by_cases h0 : k = 0
    · rw [h0]; exact hir _
    · exact ho.tr _ _ _ (h k (by omega) hk) (ih ((k - 1) / 2) (by omega) (by omega))
theorem UpI.stop0 (h : UpI lt m q 0) : HeapF lt m q := fun k h0 hk => h.1 k h0 hk (by omega)
theorem UpI.stop {j : Nat} (h : UpI lt m q j) (hl : lt (q j) (q ((j - 1) / 2)) = false) : HeapF lt m q := fun k h0 hk => by
  by_cases e : k = j
  · rw [e]; exact hl
  · exact h.1 k h0 hk e
theorem UpI.step {j : Nat} (ho : Ord9 lt) (h : UpI lt m q j) (hj : 0 < j) (hjm : j < m) (hl : lt (q j) (q ((j - 1) / 2)) = true) : UpI lt m (sw q ((j - 1) / 2) j) ((j - 1) / 2) := by
  have ha := ho.asym _ _ hl
  have hne : (j - 1) / 2 ≠ j := by omega
  have key : ∀ k, 0 < k → k < m → k ≠ j → (k - 1) / 2 = (j - 1) / 2 → lt (q k) (q j) = false := fun k h0 hk hkj e => by
    have := h.1 k h0 hk hkj
    rw [e] at this
    exact ho.tr _ _ _ this ha
  constructor
  · intro k h0 hk hkn
    by_cases hkj : k = j
    · subst hkj
      unfold sw
      rw [if_neg (by omega), if_pos rfl, if_pos rfl]
      exact ha
    · by_cases hp : (k - 1) / 2 = (j - 1) / 2
      · unfold sw
        rw [if_neg hkn, if_neg hkj, if_pos hp]
        exact key k h0 hk hkj hp
      · by_cases hp2 : (k - 1) / 2 = j
        · unfold sw
          rw [if_neg hkn, if_neg hkj, if_neg (by omega), if_pos hp2]
          exact h.2 hj k h0 hk hp2
        · unfold sw
          rw [if_neg hkn, if_neg hkj, if_neg hp, if_neg hp2]
          exact h.1 k h0 hk hkj
  · intro hp0 k h0 hk hpk
    have hI := h.1 ((j - 1) / 2) hp0 (by omega) hne
    by_cases hkj : k = j
    · subst hkj
      unfold sw
      rw [if_neg (by omega), if_pos rfl, if_neg (by omega), if_neg (by omega)]
      exact hI
    · unfold sw
      rw [if_neg (by omega), if_neg hkj, if_neg (by omega), if_neg (by omega)]
      have := h.1 k h0 hk hkj
      rw [hpk] at this
      exact ho.tr _ _ _ this hI
theorem UpI.push (h : HeapF lt m q) : UpI lt (m + 1) q m :=
  ⟨fun k h0 hk hkm => h k h0 (by omega), fun hm k h0 hk e => by omega⟩
theorem HeapF.congr {q' : Nat → Nat} (h : HeapF lt m q) (he : ∀ k, k < m → q' k = q k) : HeapF lt m q' := fun k h0 hk => by
  rw [he k hk, he _ (by omega)]; exact h k h0 hk
theorem DnI.start (h : HeapF lt (m + 1) q) : DnI lt m (sw q 0 m) 0 := by
  refine ⟨fun k h0 hk hp => ?_, fun h => absurd h (by omega)⟩
  unfold sw
  rw [if_neg (by omega), if_neg (by omega), if_neg (by omega), if_neg (by omega)]
  exact h k h0 (by omega)
theorem DnI.none_ {i : Nat} (h : DnI lt m q i) (hi : m ≤ 2 * i + 1) : HeapF lt m q := fun k h0 hk => h.1 k h0 hk (by omega)
/-- The lesser one of those below i. -/
def Kid9 (lt : Nat → Nat → Bool) (m : Nat) (q : Nat → Nat) (i j : Nat) : Prop := (j = 2 * i + 1 ∨ j = 2 * i + 2) ∧ j < m ∧ ∀ k, 0 < k → k < m → (k - 1) / 2 = i → lt (q k) (q j) = false
theorem Kid9.left (hir : ∀ a, lt a a = false) {i : Nat} (h1 : 2 * i + 1 < m) (h2 : 2 * i + 2 < m → lt (q (2 * i + 2)) (q (2 * i + 1)) = false) : Kid9 lt m q i (2 * i + 1) :=
  ⟨.inl rfl, h1, fun k h0 hk hp => by
    rcases (show k = 2 * i + 1 ∨ k = 2 * i + 2 by omega) with e | e
    · rw [e]; exact hir _
    · rw [e]; exact h2 (by omega)⟩
theorem Kid9.right (ho : Ord9 lt) (hir : ∀ a, lt a a = false) {i : Nat} (h1 : 2 * i + 2 < m) (h2 : lt (q (2 * i + 2)) (q (2 * i + 1)) = true) : Kid9 lt m q i (2 * i + 2) :=
  ⟨.inr rfl, h1, fun k h0 hk hp => by
    rcases (show k = 2 * i + 1 ∨ k = 2 * i + 2 by omega) with e | e
    · rw [e]; exact ho.asym _ _ h2
    · rw [e]; exact hir _⟩
theorem DnI.stop {i j : Nat} (ho : Ord9 lt) (h : DnI lt m q i) (hk : Kid9 lt m q i j) (hl : lt (q j) (q i) = false) : HeapF lt m q := fun k h0 hkm => by
  by_cases e : (k - 1) / 2 = i
  · rw [e]; exact ho.tr _ _ _ (hk.2.2 k h0 hkm e) hl
  · exact h.1 k h0 hkm e
theorem DnI.step {i j : Nat} (ho : Ord9 lt) (h : DnI lt m q i) (hk : Kid9 lt m q i j) (hl : lt (q j) (q i) = true) : DnI lt m (sw q i j) j := by
  obtain ⟨hj, hjm, hmin⟩ := hk
  have ha := ho.asym _ _ hl
  have hpj : (j - 1) / 2 = i := by omega
  constructor
  · intro k h0 hkm hp
    by_cases hkj : k = j
    · rw [hkj, hpj]
      unfold sw
      rw [if_neg (by omega), if_pos rfl, if_pos rfl]
      exact ha
    · by_cases hpi : (k - 1) / 2 = i
      · unfold sw
        rw [if_neg (by omega), if_neg hkj, if_pos hpi]
        exact hmin k h0 hkm hpi
      · by_cases hki : k = i
        · subst hki
          unfold sw
          rw [if_pos rfl, if_neg (by omega), if_neg (by omega)]
          exact h.2 h0 j (by omega) hjm hpj
        · unfold sw
          rw [if_neg hki, if_neg hkj, if_neg hpi, if_neg hp]
          exact h.1 k h0 hkm hpi
  · intro hj0 k h0 hkm hp
    rw [hpj]
    unfold sw
    rw [if_neg (by omega), if_neg (by omega), if_pos rfl]
    have := h.1 k h0 hkm (by omega)
    rwa [hp] at this
end

/-! ## Lists as such functions. -/
def fl (l : List Nat) : Nat → Nat := fun k => l.getD k 0
def swL (l : List Nat) (i j : Nat) : List Nat := (l.set i (fl l j)).set j (fl l i)
theorem swL_length (l : List Nat) (i j : Nat) : (swL l i j).length = l.length := by simp [swL]
theorem fl_get {l : List Nat} {k : Nat} (h : k < l.length) : l[k]? = some (fl l k) := by
  simp [fl, List.getD_eq_getElem?_getD, List.getElem?_eq_getElem h]
theorem fl_swL {l : List Nat} {i j : Nat} (hi : i < l.length) (hj : j < l.length) (k : Nat) : fl (swL l i j) k = sw (fl l) i j k := by
  have e : fl (swL l i j) k = ((swL l i j)[k]?).getD 0 := by simp [fl, List.getD_eq_getElem?_getD]
  rw [e]
  unfold swL sw
  rw [List.getElem?_set]
  by_cases h1 : j = k
  · subst h1
    rw [if_pos rfl]
    simp only [List.length_set, hj, if_true, Option.getD_some]
    split
    · rename_i h; rw [h]
    · rfl
  · rw [if_neg h1, List.getElem?_set]
    by_cases h2 : i = k
    · subst h2
      rw [if_pos rfl, if_pos hi, if_pos rfl]; rfl
    · rw [if_neg h2, if_neg (fun h => h2 h.symm), if_neg (fun h => h1 h.symm)]
      simp [fl, List.getD_eq_getElem?_getD]
theorem fl_swL_fun {l : List Nat} {i j : Nat} (hi : i < l.length) (hj : j < l.length) : fl (swL l i j) = sw (fl l) i j := funext fun k => fl_swL hi hj k
theorem fl_append {l : List Nat} {x k : Nat} (h : k < l.length) : fl (l ++ [x]) k = fl l k := by
  simp [fl, List.getD_eq_getElem?_getD, List.getElem?_append_left h]
theorem fl_last (l : List Nat) (x : Nat) : fl (l ++ [x]) l.length = x := by
  simp [fl, List.getD_eq_getElem?_getD]
theorem mem_fl {l : List Nat} {x : Nat} : x ∈ l ↔ ∃ k, k < l.length ∧ fl l k = x := by
  constructor
  · intro h
    obtain ⟨k, hk, e⟩ := List.getElem_of_mem h
    exact ⟨k, hk, by have := fl_get hk; rw [List.getElem?_eq_getElem hk] at this; simpa [e] using this.symm⟩
  · rintro ⟨k, hk, rfl⟩
    exact List.mem_of_getElem? (fl_get hk)
theorem nodup_fl {l : List Nat} : l.Nodup ↔ ∀ a b, a < l.length → b < l.length → fl l a = fl l b → a = b := by
  have hg : ∀ a (h : a < l.length), l[a] = fl l a := fun a h => by
    have := fl_get h
    rw [List.getElem?_eq_getElem h] at this
    exact Option.some.inj this
  unfold List.Nodup
  rw [List.pairwise_iff_getElem]
  constructor
  · intro h a b ha hb e
    rcases Nat.lt_trichotomy a b with hab | hab | hab
    · exact absurd (by rw [hg a ha, hg b hb, e]) (h a b ha hb hab)
    · exact hab
    · exact absurd (by rw [hg a ha, hg b hb, e]) (h b a hb ha hab)
  · intro h a b ha hb hab e
    rw [hg a ha, hg b hb] at e
    have := h a b ha hb e
    omega
end Go.Proofs.Ytibfikadamfpdaa
