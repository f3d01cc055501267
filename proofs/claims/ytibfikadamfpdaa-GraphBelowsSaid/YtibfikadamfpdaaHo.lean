/-
  What holds of an order.
-/
import Derived.Test.YtibfikadamfpdaaGo
namespace Go.Proofs.Ytibfikadamfpdaa
open Go.RowKit
set_option linter.unusedVariables false
set_option linter.unusedSimpArgs false

structure GoodO (n : Nat) (tt : Nat → Nat → Bool) (o : List Nat) : Prop where
  nod : o.Nodup
  lt : ∀ x ∈ o, x < n
  beh : ∀ i x, o[i]? = some x → ∀ j, j < n → tt x j = true → j ∈ o.take i
theorem GoodO.snoc {n : Nat} {tt lt : Nat → Nat → Bool} (ho : Ord9 lt) (hir : ∀ a, lt a a = false) {o : List Nat} (h : GoodO n tt o) {b : Nat} (hb : bestN n tt lt o = some b) : GoodO n tt (o ++ [b]) := by
  have hp := best_range (n := n) (tt := tt) ho hir o n
  rw [show (List.range n).foldl (bestStep n tt lt o) none = some b from hb] at hp
  obtain ⟨h1, h2, _⟩ := hp
  unfold rdyN at h2
  simp only [Bool.and_eq_true, Bool.not_eq_true', beq_iff_eq] at h2
  obtain ⟨h3, h4⟩ := h2
  have hbo : b ∉ o := by simpa using h3
  refine ⟨?_, ?_, ?_⟩
  · rw [List.nodup_append]
    exact ⟨h.nod, by simp, fun a ha c hc => by rw [List.mem_singleton.1 hc]; rintro rfl; exact hbo ha⟩
  · intro x hx
    rcases List.mem_append.1 hx with e | e
    · exact h.lt x e
    · rw [List.mem_singleton.1 e]; exact h1
  · intro i x hx j hj ht
    by_cases hi : i < o.length
    · rw [List.getElem?_append_left hi] at hx
      have := h.beh i x hx j hj ht
      rw [List.take_append_of_le_length (by omega)]
      exact this
    · have hil := (List.getElem?_eq_some_iff.1 hx).1
      simp at hil
      have hio : i = o.length := by omega
      subst hio
      have hxb : x = b := by
        have : (o ++ [b])[o.length]? = some b := by simp
        rw [this] at hx; exact (Option.some.inj hx).symm
      subst hxb
      rw [List.take_append_of_le_length (Nat.le_refl _), List.take_length]
      unfold cntN at h4
      rw [List.length_eq_zero_iff, List.filter_eq_nil_iff] at h4
      have := h4 j (by simpa using hj)
      simp only [ht, Bool.true_and, Bool.not_eq_true', Bool.not_eq_false] at this
      simpa using this
theorem ordF_good {n : Nat} {tt lt : Nat → Nat → Bool} (ho : Ord9 lt) (hir : ∀ a, lt a a = false) : ∀ (f : Nat) (o : List Nat), GoodO n tt o → GoodO n tt (ordF n tt lt f o)
  | 0, o, h => h
  | f + 1, o, h => by
    simp only [ordF]
    cases e : bestN n tt lt o with
    | none => exact h
    | some b => exact ordF_good ho hir f _ (h.snoc ho hir e)
theorem ordN_good (N : List ByteArray) (tt : Nat → Nat → Bool) : GoodO N.length tt (ordN N tt) :=
  ordF_good (nlt_ord N) (nlt_irr N) _ _ ⟨List.nodup_nil, fun x h => by simp at h, fun i x h => by simp at h⟩
theorem sub_len : ∀ (q : List Nat), q.Nodup → ∀ l' : List Nat, (∀ x ∈ q, x ∈ l') → q.length ≤ l'.length
  | [], _, l', _ => by simp
  | a :: r, hq, l', h => by
    have hn := List.nodup_cons.1 hq
    have ha : a ∈ l' := h a (by simp)
    have h1 := sub_len r hn.2 (l'.erase a) (fun x hx => by
      have hxa : x ≠ a := by rintro rfl; exact hn.1 hx
      rw [List.mem_erase_of_ne hxa]
      exact h x (by simp [hx]))
    rw [List.length_erase_of_mem ha] at h1
    have : 0 < l'.length := List.length_pos_of_mem ha
    simp only [List.length_cons]
    omega
theorem range_le {n : Nat} {l : List Nat} (h : ∀ i, i < n → i ∈ l) : n ≤ l.length := by
  have := sub_len (List.range n) List.nodup_range l (fun x hx => h x (by simpa using hx))
  simpa using this
/-- What is said of an order that there is. -/
structure HoldO (N : List ByteArray) (R : List (List ByteArray)) (L : List Nat) : Prop where
  len : L.length = N.length
  lt : ∀ i, i < L.length → fl L i < N.length
  ne : ∀ i k, i < L.length → k < i → fl L k ≠ fl L i
  beh : ∀ i, i < L.length → ∀ s ∈ ofN R (fl L i), ∃ j, j < i ∧ txt9 N (fl L j) = s
theorem res_hold {N : List ByteArray} {R : List (List ByteArray)} (h : (resN N R).2.2 = 0) : HoldO N R (resN N R).1 := by
  unfold resN at h ⊢
  split at h
  · simp at h
  · rename_i h8
    rw [if_neg h8]
    cases ht : twice9 N with
    | some i => rw [ht] at h; simp at h
    | none =>
      rw [ht] at h
      simp only at h ⊢
      cases hb : bad9 N R with
      | some i => rw [hb] at h; simp at h
      | none =>
        rw [hb] at h
        simp only at h ⊢
        cases hl : left9 (ordN N (lk N R)) N.length with
        | some i => rw [hl] at h; simp at h
        | none =>
          simp only
          have hg := ordN_good N (lk N R)
          generalize ordN N (lk N R) = L at hl hg ⊢
          have h1 := find_spec_none hl
          have hb1 := find_spec_none hb
          have hlen : L.length = N.length := by
            have a := pigeon N.length L hg.nod hg.lt
            have b := range_le (n := N.length) (l := L) (fun i hi => by
              have := h1 i hi
              simp only [Bool.not_eq_false'] at this
              exact fst9_isSome.1 this)
            omega
          have hlt : ∀ i, i < L.length → fl L i < N.length := fun i hi => hg.lt _ (List.mem_of_getElem? (fl_get hi))
          refine ⟨hlen, hlt, fun i k hi hk e => ?_, fun i hi s hs => ?_⟩
          · have := nodup_fl.1 hg.nod k i (by omega) hi e
            omega
          · have hbl := hb1 (fl L i) (hlt i hi)
            unfold badL at hbl
            rw [List.any_eq_false] at hbl
            have h2 := hbl s hs
            cases e : fst9 N s with
            | none => rw [e] at h2; exact absurd rfl h2
            | some t =>
              have h3 := hg.beh i (fl L i) (fl_get hi) t (fst9_lt e) (by
                unfold lk lkL
                rw [List.any_eq_true]
                exact ⟨s, hs, by rw [e]; simp⟩)
              obtain ⟨j, hj⟩ := List.getElem?_of_mem h3
              rw [List.getElem?_take] at hj
              split at hj
              · rename_i hji
                rw [fl_get (by omega)] at hj
                refine ⟨j, hji, ?_⟩
                rw [Option.some.inj hj]
                have h4 := (fst9_some e).1
                simp [txt9, h4]
              · cases hj
theorem res_fault {N : List ByteArray} {R : List (List ByteArray)} (h : (resN N R).2.2 ≠ 0) : (resN N R).1 = [] := by
  unfold resN at h ⊢
  split at h
  · rename_i h8; rw [if_pos h8]
  · rename_i h8
    rw [if_neg h8]
    cases ht : twice9 N with
    | some i => rfl
    | none =>
      rw [ht] at h
      simp only at h ⊢
      cases hb : bad9 N R with
      | some i => rfl
      | none =>
        rw [hb] at h
        simp only at h ⊢
        cases hl : left9 (ordN N (lk N R)) N.length with
        | some i => rfl
        | none => rw [hl] at h; simp at h
end Go.Proofs.Ytibfikadamfpdaa
