/-
  Which comes next, plainly: of all that is ready the least; and how a heap keeps up with it.
-/
import Derived.Test.YtibfikadamfpdaaNl
namespace Go.Proofs.Ytibfikadamfpdaa
set_option linter.unusedVariables false
set_option linter.unusedSimpArgs false

theorem pigeon : ∀ (n : Nat) (l : List Nat), l.Nodup → (∀ x ∈ l, x < n) → l.length ≤ n
  | 0, l, _, h => by
    cases l with
    | nil => simp
    | cons a r => exact absurd (h a (by simp)) (by omega)
  | n + 1, l, hn, h => by
    by_cases hm : n ∈ l
    · have h1 := pigeon n (l.erase n) (hn.erase n) (fun x hx => by
        have h2 := (hn.mem_erase_iff).1 hx
        have := h x h2.2
        have := h2.1
        omega)
      rw [List.length_erase_of_mem hm] at h1
      omega
    · have := pigeon n l hn (fun x hx => by
        have := h x hx
        have : x ≠ n := fun e => hm (e ▸ hx)
        omega)
      omega
section
variable (n : Nat) (tt lt : Nat → Nat → Bool)
/-- How many of those that one needs are not there yet. -/
def cntN (o : List Nat) (i : Nat) : Nat := ((List.range n).filter fun j => tt i j && !o.contains j).length
def rdyN (o : List Nat) (i : Nat) : Bool := !o.contains i && cntN n tt o i == 0
def bestStep (o : List Nat) (b : Option Nat) (i : Nat) : Option Nat :=
  if (rdyN n tt o i && match b with | none => true | some k => lt i k) = true then some i else b
def bestN (o : List Nat) : Option Nat := (List.range n).foldl (bestStep n tt lt o) none
def ordF : Nat → List Nat → List Nat
  | 0, o => o
  | f + 1, o => match bestN n tt lt o with
    | none => o
    | some b => ordF f (o ++ [b])
end
section
variable {n : Nat} {tt lt : Nat → Nat → Bool}
def BestP (n : Nat) (tt lt : Nat → Nat → Bool) (o : List Nat) (k : Nat) : Option Nat → Prop
  | none => ∀ i, i < k → rdyN n tt o i = false
  | some b => b < k ∧ rdyN n tt o b = true ∧ ∀ i, i < k → rdyN n tt o i = true → lt i b = false
theorem best_range (ho : Ord9 lt) (hir : ∀ a, lt a a = false) (o : List Nat) : ∀ k, BestP n tt lt o k ((List.range k).foldl (bestStep n tt lt o) none)
  | 0 => fun i h => absurd h (by omega)
  | k + 1 => by
    have ih := best_range ho hir o k
    rw [List.range_succ, List.foldl_append]
    simp only [List.foldl_cons, List.foldl_nil]
    generalize (List.range k).foldl (bestStep n tt lt o) none = b at ih ⊢
    unfold bestStep
    cases b with
    | none =>
      cases hr : rdyN n tt o k with
      | true =>
        simp only [Bool.and_self, if_true]
        refine ⟨by omega, hr, fun i hi h => ?_⟩
        by_cases e : i = k
        · rw [e]; exact hir _
        · rw [ih i (by omega)] at h; cases h
      | false =>
        simp only [Bool.false_and, Bool.false_eq_true, if_false]
        intro i hi
        by_cases e : i = k
        · rw [e]; exact hr
        · exact ih i (by omega)
    | some b =>
      obtain ⟨h1, h2, h3⟩ := ih
      cases hr : rdyN n tt o k with
      | true =>
        cases hl : lt k b with
        | true =>
          simp only [hl, Bool.and_self, if_true]
          refine ⟨by omega, hr, fun i hi h => ?_⟩
          by_cases e : i = k
          · rw [e]; exact hir _
          · exact ho.tr _ _ _ (h3 i (by omega) h) (ho.asym _ _ hl)
        | false =>
          simp only [hl, Bool.and_false, Bool.false_eq_true, if_false]
          refine ⟨by omega, h2, fun i hi h => ?_⟩
          by_cases e : i = k
          · rw [e]; exact hl
          · exact h3 i (by omega) h
      | false =>
        simp only [Bool.false_and, Bool.false_eq_true, if_false]
        refine ⟨by omega, h2, fun i hi h => ?_⟩
        by_cases e : i = k
        · rw [e, hr] at h; cases h
        · exact h3 i (by omega) h
theorem best_is (ho : Ord9 lt) (hir : ∀ a, lt a a = false) {o : List Nat} {b : Nat} (hb : b < n) (hr : rdyN n tt o b = true) (hmin : ∀ i, i < n → rdyN n tt o i = true → lt i b = false) (hd : ∀ a c, a < n → c < n → lt a c = false → lt c a = false → a = c) : bestN n tt lt o = some b := by
  have h := best_range (n := n) (tt := tt) ho hir o n
  unfold bestN
  generalize (List.range n).foldl (bestStep n tt lt o) none = x at h ⊢
  cases x with
  | none => rw [h b hb] at hr; cases hr
  | some c =>
    obtain ⟨h1, h2, h3⟩ := h
    rw [hd c b h1 hb (hmin c h1 h2) (h3 b hb hr)]
theorem best_none (ho : Ord9 lt) (hir : ∀ a, lt a a = false) {o : List Nat} (h0 : ∀ i, i < n → rdyN n tt o i = false) : bestN n tt lt o = none := by
  have h := best_range (n := n) (tt := tt) ho hir o n
  unfold bestN
  generalize (List.range n).foldl (bestStep n tt lt o) none = x at h ⊢
  cases x with
  | none => rfl
  | some c =>
    obtain ⟨h1, h2, h3⟩ := h
    rw [h0 c h1] at h2; cases h2
theorem ordF_none {o : List Nat} (h : bestN n tt lt o = none) : ∀ f, ordF n tt lt f o = o
  | 0 => rfl
  | f + 1 => by simp only [ordF, h]
theorem filt_split (p : Nat → Bool) (o : List Nat) (b : Nat) (hb : o.contains b = false) : ∀ (L : List Nat), L.Nodup →
    (L.filter fun j => p j && !o.contains j).length = (L.filter fun j => p j && !(o ++ [b]).contains j).length + if b ∈ L ∧ p b = true then 1 else 0
  | [], _ => by simp
  | a :: r, hn => by
    have ih := filt_split p o b hb r (List.nodup_cons.1 hn).2
    have ha := (List.nodup_cons.1 hn).1
    by_cases e : a = b
    · subst e
      have hc : (o ++ [a]).contains a = true := by simp
      rw [List.filter_cons, List.filter_cons, hb, hc]
      simp only [ha, false_and, if_false, Nat.add_zero] at ih
      cases hp : p a with
      | true => simp only [Bool.not_false, Bool.not_true, Bool.and_true, Bool.and_false, Bool.false_eq_true, if_false, if_true, List.length_cons, ih, List.mem_cons, true_or, and_self]
      | false => simp only [Bool.not_false, Bool.not_true, Bool.and_true, Bool.and_false, Bool.false_eq_true, if_false, ih, and_false, Nat.add_zero]
    · have hc : (o ++ [b]).contains a = o.contains a := by simp [e]
      rw [List.filter_cons, List.filter_cons, hc]
      have hm : (b ∈ a :: r ∧ p b = true) = (b ∈ r ∧ p b = true) := by simp [Ne.symm e]
      simp only [hm]
      cases hp : (p a && !o.contains a) with
      | true => simp only [if_true, List.length_cons]; omega
      | false => simp only [Bool.false_eq_true, if_false]; exact ih
theorem cnt_snoc {o : List Nat} {b : Nat} (hb : b < n) (ho : b ∉ o) (i : Nat) : cntN n tt o i = cntN n tt (o ++ [b]) i + if tt i b = true then 1 else 0 := by
  have := filt_split (tt i) o b (by simpa using ho) (List.range n) List.nodup_range
  unfold cntN
  simpa [hb] using this

/-- What holds between two rounds. -/
structure KI (n : Nat) (tt : Nat → Nat → Bool) (o q : List Nat) : Prop where
  onod : o.Nodup
  olt : ∀ x ∈ o, x < n
  ocl : ∀ x ∈ o, cntN n tt o x = 0
  qnod : q.Nodup
  qmem : ∀ x, x ∈ q ↔ x < n ∧ x ∉ o ∧ cntN n tt o x = 0
/-- What holds when k of those that may need b are looked through. -/
structure KM (n : Nat) (tt : Nat → Nat → Bool) (o : List Nat) (b k : Nat) (q : List Nat) : Prop where
  qnod : q.Nodup
  qmem : ∀ x, x ∈ q ↔ x < n ∧ x ∉ o ++ [b] ∧ (if x < k then cntN n tt (o ++ [b]) x = 0 else cntN n tt o x = 0)
theorem KI.start {q : List Nat} (hn : q.Nodup) (hm : ∀ x, x ∈ q ↔ x < n ∧ cntN n tt [] x = 0) : KI n tt [] q :=
  ⟨List.nodup_nil, fun x h => by simp at h, fun x h => by simp at h, hn, fun x => by rw [hm]; simp⟩
theorem KI.rdy {o q : List Nat} (h : KI n tt o q) {i : Nat} (hi : i < n) : rdyN n tt o i = true ↔ i ∈ q := by
  rw [h.qmem]
  unfold rdyN
  simp [hi]
theorem KI.qlt {o q : List Nat} (h : KI n tt o q) : ∀ x ∈ q, x < n := fun x hx => ((h.qmem x).1 hx).1
theorem KI.room {o q : List Nat} (h : KI n tt o q) {b : Nat} (hb : b ∈ q) : o.length < n := by
  have h1 := (h.qmem b).1 hb
  have := pigeon n (b :: o) (List.nodup_cons.2 ⟨h1.2.1, h.onod⟩) (fun x hx => by
    rcases List.mem_cons.1 hx with e | e
    · rw [e]; exact h1.1
    · exact h.olt x e)
  simp at this
  omega
theorem KI.best {o q : List Nat} (ho : Ord9 lt) (hir : ∀ a, lt a a = false) (hd : ∀ a c, a < n → c < n → lt a c = false → lt c a = false → a = c) (h : KI n tt o q) {b : Nat} (hb : b ∈ q) (hmin : ∀ x ∈ q, lt x b = false) : bestN n tt lt o = some b :=
  best_is ho hir (h.qlt b hb) ((h.rdy (h.qlt b hb)).2 hb) (fun i hi hr => hmin i ((h.rdy hi).1 hr)) hd
theorem KI.over {o : List Nat} (ho : Ord9 lt) (hir : ∀ a, lt a a = false) (h : KI n tt o []) : bestN n tt lt o = none :=
  best_none ho hir fun i hi => by
    cases hr : rdyN n tt o i with
    | false => rfl
    | true => have := (h.rdy hi).1 hr; simp at this
theorem KI.pop {o q q' : List Nat} (h : KI n tt o q) {b : Nat} (hb : b ∈ q) (hn : q'.Nodup) (hm : ∀ x, x ∈ q' ↔ x ∈ q ∧ x ≠ b) : KM n tt o b 0 q' :=
  ⟨hn, fun x => by
    rw [hm, h.qmem]
    simp only [Nat.not_lt_zero, if_false, List.mem_append, List.mem_singleton, not_or]
    constructor
    · rintro ⟨⟨h1, h2, h3⟩, h4⟩; exact ⟨h1, ⟨h2, h4⟩, h3⟩
    · rintro ⟨h1, ⟨h2, h4⟩, h3⟩; exact ⟨⟨h1, h2, h3⟩, h4⟩⟩
theorem KM.skip {o q : List Nat} {b k : Nat} (h : KM n tt o b k q) (e : k < n → k ∉ o ++ [b] → (cntN n tt (o ++ [b]) k = 0 ↔ cntN n tt o k = 0)) : KM n tt o b (k + 1) q :=
  ⟨h.qnod, fun x => by
    rw [h.qmem]
    by_cases hx : x = k
    · subst hx
      rw [if_neg (by omega), if_pos (by omega)]
      constructor
      · rintro ⟨h1, h2, h3⟩; exact ⟨h1, h2, (e h1 h2).2 h3⟩
      · rintro ⟨h1, h2, h3⟩; exact ⟨h1, h2, (e h1 h2).1 h3⟩
    · by_cases hk : x < k
      · rw [if_pos hk, if_pos (by omega)]
      · rw [if_neg hk, if_neg (by omega)]⟩
theorem KM.put {o q q' : List Nat} {b k : Nat} (h : KM n tt o b k q) (hk : k < n) (hko : k ∉ o ++ [b]) (e : cntN n tt (o ++ [b]) k = 0) (hn : q'.Nodup) (hm : ∀ x, x ∈ q' ↔ x ∈ q ∨ x = k) : KM n tt o b (k + 1) q' :=
  ⟨hn, fun x => by
    rw [hm, h.qmem]
    by_cases hx : x = k
    · subst hx
      rw [if_neg (by omega), if_pos (by omega)]
      simp only [or_true, true_iff]
      exact ⟨hk, hko, e⟩
    · simp only [hx, or_false]
      by_cases hk : x < k
      · rw [if_pos hk, if_pos (by omega)]
      · rw [if_neg hk, if_neg (by omega)]⟩
theorem KI.next {o q q' : List Nat} (h : KI n tt o q) {b : Nat} (hb : b ∈ q) (hm : KM n tt o b n q') : KI n tt (o ++ [b]) q' := by
  have h1 := (h.qmem b).1 hb
  have hc := fun i => cnt_snoc (tt := tt) h1.1 h1.2.1 i
  refine ⟨?_, ?_, ?_, hm.qnod, fun x => ?_⟩
  · rw [List.nodup_append]
    exact ⟨h.onod, by simp, fun a ha c hc => by rw [List.mem_singleton.1 hc]; rintro rfl; exact h1.2.1 ha⟩
  · intro x hx
    rcases List.mem_append.1 hx with e | e
    · exact h.olt x e
    · rw [List.mem_singleton.1 e]; exact h1.1
  · intro x hx
    have := hc x
    have h0 : cntN n tt o x = 0 := by
      rcases List.mem_append.1 hx with e | e
      · exact h.ocl x e
      · rw [List.mem_singleton.1 e]; exact h1.2.2
    omega
  · rw [hm.qmem]
    constructor
    · rintro ⟨h2, h3, h4⟩; rw [if_pos h2] at h4; exact ⟨h2, h3, h4⟩
    · rintro ⟨h2, h3, h4⟩; exact ⟨h2, h3, by rw [if_pos h2]; exact h4⟩
/-- Of what needs b: it was not ready, and is not there. -/
theorem KI.needs {o q : List Nat} (h : KI n tt o q) {b : Nat} (hb : b ∈ q) {k : Nat} (hk : tt k b = true) : cntN n tt o k = cntN n tt (o ++ [b]) k + 1 ∧ k ∉ o ++ [b] := by
  have h1 := (h.qmem b).1 hb
  have hc := cnt_snoc (tt := tt) h1.1 h1.2.1 k
  rw [if_pos hk] at hc
  refine ⟨hc, fun hm => ?_⟩
  rcases List.mem_append.1 hm with e | e
  · have := h.ocl k e; omega
  · rw [List.mem_singleton.1 e] at hc; have := h1.2.2; omega
theorem KI.spare {o q : List Nat} (h : KI n tt o q) {b : Nat} (hb : b ∈ q) {k : Nat} (hk : tt k b = false) : cntN n tt o k = cntN n tt (o ++ [b]) k := by
  have h1 := (h.qmem b).1 hb
  have hc := cnt_snoc (tt := tt) h1.1 h1.2.1 k
  rw [hk] at hc
  simpa using hc
end
end Go.Proofs.Ytibfikadamfpdaa
