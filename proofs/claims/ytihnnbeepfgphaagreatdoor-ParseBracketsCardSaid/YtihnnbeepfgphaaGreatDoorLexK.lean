/-
  The tokens of two texts with a new line between, plainly.
-/
import Derived.Test.YtihnnbeepfgphaaGreatDoorLexI
namespace Go.Proofs.YtihnnbeepfgphaaGreatDoor
open Go.RowKit
set_option linter.unusedVariables false
set_option linter.unusedSimpArgs false

/-! Behind a new line begins something new. -/
theorem run_join (p : UInt8 → Bool) (hp : p 10 = false) (l m : List UInt8) : runL p (l ++ 10 :: m) = runL p l := by
  induction l with
  | nil => simp [runL, hp]
  | cons c r ih =>
    unfold runL at ih ⊢
    cases hc : p c <;> simp [hc, ih]
theorem head_join (p : UInt8 → Bool) {l : List UInt8} (hl : l ≠ []) (m : List UInt8) : headL p (l ++ m) = headL p l := by
  match l, hl with
  | c :: r, _ => rfl
theorem q_join : ∀ (b : Bool) (acc : List UInt8) (i : Nat) (l m : List UInt8), qL b acc i (l ++ 10 :: m) = qL b acc i l
  | true, acc, i, [], m => rfl
  | false, acc, i, [], m => rfl
  | true, acc, i, c :: r, m => by
    rw [List.cons_append, qL, qL, q_join]
  | false, acc, i, c :: r, m => by
    rw [List.cons_append, qL, qL, q_join, q_join]
theorem take_join {l : List UInt8} {n : Nat} (h : n ≤ l.length) (m : List UInt8) : (l ++ m).take n = l.take n := List.take_append_of_le_length h
theorem doubles_join {l : List UInt8} (hl : l ≠ []) (m : List UInt8) : doubles.contains ((l ++ 10 :: m).take 2) = doubles.contains (l.take 2) := by
  match l, hl with
  | [a], _ => simp [doubles]
  | a :: b :: r, _ => rfl
theorem isN_10 : isN 10 = false := by decide
theorem first_join {l : List UInt8} (hl : l ≠ []) (m : List UInt8) : firstL (l ++ 10 :: m) = firstL l := by
  unfold firstL
  rw [head_join _ hl, head_join _ hl, head_join _ hl]
  have e1 : namedL (l ++ 10 :: m) = namedL l := by
    unfold namedL
    rw [run_join isN isN_10, take_join (runL_le _ _)]
  have e2 : numberL (l ++ 10 :: m) = numberL l := by
    unfold numberL
    have h1 : headL isL ((l ++ 10 :: m).drop (runL isD l)) = headL isL (l.drop (runL isD l)) := by
      rw [List.drop_append_of_le_length (runL_le _ _)]
      cases hd : l.drop (runL isD l) with
      | nil => rfl
      | cons c r => rfl
    rw [run_join isD (by decide), take_join (runL_le _ _), head_join _ hl, h1]
  have e3 : quotedL (l ++ 10 :: m) = quotedL l := by
    unfold quotedL
    have : 1 ≤ l.length := by
      have : l.length ≠ 0 := by simpa using hl
      omega
    rw [List.drop_append_of_le_length this, q_join]
  have e4 : signL (l ++ 10 :: m) = signL l := by
    have hn : signN (l ++ 10 :: m) = signN l := by
      unfold signN
      rw [doubles_join hl, head_join _ hl]
    unfold signL
    rw [hn, take_join (signN_le l)]
  rw [e1, e2, e3, e4]
theorem pre2_join (l m : List UInt8) : pre2 (l ++ 10 :: m) = pre2 l := by
  match l with
  | [] => cases m <;> rfl
  | [a] => show (a == 47 && (10 : UInt8) == 47) = false; simp
  | a :: b :: r => rfl
theorem gap_join : ∀ (b : Bool) (l m : List UInt8), (gapL b l < l.length ∧ gapL b (l ++ 10 :: m) = gapL b l) ∨ (gapL b l = l.length ∧ gapL b (l ++ 10 :: m) = l.length + 1 + gapL false m)
  | true, [], m => .inr ⟨rfl, by simp [gapL]⟩
  | false, [], m => by
    refine .inr ⟨rfl, ?_⟩
    have : pre2 (10 :: m) = false := by cases m <;> rfl
    simp [gapL, this, isB]
  | true, c :: r, m => by
    rcases gap_join (c != 10) r m with ⟨h1, h2⟩ | ⟨h1, h2⟩
    · exact .inl ⟨by simp [gapL]; omega, by simp [gapL, h2]⟩
    · exact .inr ⟨by simp [gapL]; omega, by simp [gapL, h2]; omega⟩
  | false, c :: r, m => by
    have hp := pre2_join (c :: r) m
    rw [List.cons_append] at hp
    cases h : pre2 (c :: r) with
    | true =>
      rw [h] at hp
      rcases gap_join true r m with ⟨h1, h2⟩ | ⟨h1, h2⟩
      · exact .inl ⟨by simp [gapL, h]; omega, by simp [gapL, h, hp, h2]⟩
      · exact .inr ⟨by simp [gapL, h]; omega, by simp [gapL, hp, h2]; omega⟩
    | false =>
      rw [h] at hp
      cases hb : isB c with
      | true =>
        rcases gap_join false r m with ⟨h1, h2⟩ | ⟨h1, h2⟩
        · exact .inl ⟨by simp [gapL, h, hb]; omega, by simp [gapL, h, hb, hp, h2]⟩
        · exact .inr ⟨by simp [gapL, h, hb]; omega, by simp [gapL, hp, hb, h2]; omega⟩
      | false => exact .inl ⟨by simp [gapL, h, hb], by simp [gapL, h, hp, hb]⟩

/-! How much of the fuel there is does not matter; where a text stands shifts its places. -/
def shiftL (d : Nat) : Nat ⊕ List (Tk × Nat) → Nat ⊕ List (Tk × Nat)
  | .inl p => .inl (p + d)
  | .inr ts => .inr (ts.map fun x => (x.1, x.2 + d))
theorem shift_join (d : Nat) (a : List (Tk × Nat)) (x : Nat ⊕ List (Tk × Nat)) : shiftL d (joinL a x) = joinL (a.map fun x => (x.1, x.2 + d)) (shiftL d x) := by
  cases x <;> simp [shiftL, joinL]
theorem rest_len {l : List UInt8} {t : Tk} {n : Nat} (h : firstL l = some (t, n)) : ((l.drop n).drop (gapL false (l.drop n))).length < l.length := by
  have := first_size h
  simp; omega
theorem lexL_fuel : ∀ (f f' k : Nat) (l : List UInt8), l.length < f → l.length < f' → lexL f k l = lexL f' k l
  | 0, _, _, _, h, _ => by omega
  | _ + 1, 0, _, _, _, h => by omega
  | f + 1, f' + 1, k, l, h, h' => by
    by_cases hl : l = []
    · subst hl; rfl
    · cases ho : firstL l with
      | none => rw [lexL_none hl ho, lexL_none hl ho]
      | some x =>
        obtain ⟨t, n⟩ := x
        have := rest_len ho
        rw [lexL_some hl ho, lexL_some hl ho, lexL_fuel f f' _ _ (by omega) (by omega)]
theorem lexL_shift : ∀ (f k d : Nat) (l : List UInt8), l.length < f → lexL f (k + d) l = shiftL d (lexL f k l)
  | 0, _, _, _, h => by omega
  | f + 1, k, d, l, h => by
    by_cases hl : l = []
    · subst hl; rfl
    · cases ho : firstL l with
      | none => rw [lexL_none hl ho, lexL_none hl ho]; rfl
      | some x =>
        obtain ⟨t, n⟩ := x
        have := rest_len ho
        rw [lexL_some hl ho, lexL_some hl ho, shift_join, ← lexL_shift f _ d _ (by omega)]
        have e : k + d + n + gapL false (l.drop n) = k + n + gapL false (l.drop n) + d := by omega
        rw [e]; rfl
theorem lexL_ne : ∀ (f k : Nat) (l : List UInt8), l.length < f → ∀ ts, lexL f k l = .inr ts → ts ≠ []
  | 0, _, _, h, _, _ => by omega
  | f + 1, k, l, h, ts, e => by
    by_cases hl : l = []
    · subst hl
      rw [lexL_end] at e
      injection e with e
      rw [← e]; simp
    · cases ho : firstL l with
      | none => rw [lexL_none hl ho] at e; cases e
      | some x =>
        obtain ⟨t, n⟩ := x
        rw [lexL_some hl ho] at e
        generalize lexL f (k + n + gapL false (l.drop n)) ((l.drop n).drop (gapL false (l.drop n))) = y at e
        cases y with
        | inl p => cases e
        | inr us => simp only [joinL] at e; injection e with e; rw [← e]; simp
theorem lexL_bound : ∀ (f k : Nat) (l : List UInt8), l.length < f → (∀ p, lexL f k l = .inl p → p ≤ k + l.length) ∧ (∀ ts, lexL f k l = .inr ts → ts.length ≤ l.length + 1)
  | 0, _, _, h => by omega
  | f + 1, k, l, h => by
    by_cases hl : l = []
    · subst hl
      rw [lexL_end]
      exact ⟨fun p e => (by cases e), fun ts e => by injection e with e; rw [← e]; simp⟩
    · cases ho : firstL l with
      | none =>
        rw [lexL_none hl ho]
        exact ⟨fun p e => (by injection e with e; omega), fun ts e => by cases e⟩
      | some x =>
        obtain ⟨t, n⟩ := x
        have h1 := first_size ho
        have h2 := rest_len ho
        have h3 := gapL_le false (l.drop n)
        obtain ⟨b1, b2⟩ := lexL_bound f (k + n + gapL false (l.drop n)) ((l.drop n).drop (gapL false (l.drop n))) (by omega)
        rw [lexL_some hl ho]
        simp only [List.length_drop] at b1 b2 h2 h3
        generalize lexL f (k + n + gapL false (l.drop n)) ((l.drop n).drop (gapL false (l.drop n))) = y at b1 b2
        cases y with
        | inl p => exact ⟨fun q e => (by simp only [joinL] at e; injection e with e; have := b1 p rfl; omega), fun ts e => by cases e⟩
        | inr us => exact ⟨fun q e => (by cases e), fun ts e => by (simp only [joinL] at e; injection e with e; have := b2 us rfl; rw [← e]; simp; omega)⟩
theorem lexL_places : ∀ (f k : Nat) (l : List UInt8), l.length < f → ∀ ts, lexL f k l = .inr ts → ∀ x ∈ ts, k ≤ x.2 ∧ x.2 ≤ k + l.length
  | 0, _, _, h, _, _ => by omega
  | f + 1, k, l, h, ts, e => by
    by_cases hl : l = []
    · subst hl
      rw [lexL_end] at e
      injection e with e
      subst e
      intro x hx
      simp only [List.mem_singleton] at hx
      subst hx
      exact ⟨Nat.le_refl _, by simp⟩
    · cases ho : firstL l with
      | none => rw [lexL_none hl ho] at e; cases e
      | some x =>
        obtain ⟨t, n⟩ := x
        have h1 := first_size ho
        have h2 := rest_len ho
        have h3 := gapL_le false (l.drop n)
        have ih := lexL_places f (k + n + gapL false (l.drop n)) ((l.drop n).drop (gapL false (l.drop n))) (by omega)
        rw [lexL_some hl ho] at e
        simp only [List.length_drop] at ih h2 h3
        generalize lexL f (k + n + gapL false (l.drop n)) ((l.drop n).drop (gapL false (l.drop n))) = y at e ih
        cases y with
        | inl p => cases e
        | inr us =>
          simp only [joinL] at e
          injection e with e
          subst e
          intro x hx
          simp only [List.singleton_append, List.mem_cons] at hx
          rcases hx with rfl | hx
          · exact ⟨Nat.le_refl _, by simp⟩
          · have := ih us rfl x hx
            omega
theorem lexD_place {l : List UInt8} {p : Nat} (h : lexD l = ([], p, 5)) : p ≤ l.length := by
  unfold lexD at h
  split at h
  · cases h
  · unfold lexG at h
    have hb := (lexL_bound (l.length + 1) (gapL false l) (l.drop (gapL false l)) (by simp; omega)).1
    have hg := gapL_le false l
    generalize lexL (l.length + 1) (gapL false l) (l.drop (gapL false l)) = y at h hb
    cases y with
    | inl q =>
      have := hb q rfl
      simp only [lexO, Prod.mk.injEq] at h
      simp only [List.length_drop] at this
      omega
    | inr ts => simp [lexO] at h
theorem lexD_count {l : List UInt8} {ts : List (Tk × Nat)} (h : lexD l = (ts, 0, 0)) : ts.length ≤ l.length + 1 ∧ ts ≠ [] ∧ l.length ≤ 8192 := by
  unfold lexD at h
  split at h
  · simp at h
  · unfold lexG at h
    have hb := (lexL_bound (l.length + 1) (gapL false l) (l.drop (gapL false l)) (by simp; omega)).2
    have hn := lexL_ne (l.length + 1) (gapL false l) (l.drop (gapL false l)) (by simp; omega)
    generalize lexL (l.length + 1) (gapL false l) (l.drop (gapL false l)) = y at h hb hn
    cases y with
    | inl q => simp [lexO] at h
    | inr us =>
      have h1 := hb us rfl
      have h2 := hn us rfl
      simp only [lexO, Prod.mk.injEq] at h
      simp only [List.length_drop] at h1
      rw [← h.1]
      exact ⟨by omega, h2, by omega⟩
theorem lexD_places {l : List UInt8} {ts : List (Tk × Nat)} (h : lexD l = (ts, 0, 0)) : ∀ x ∈ ts, x.2 ≤ l.length := by
  unfold lexD at h
  split at h
  · simp at h
  · unfold lexG at h
    have hb := lexL_places (l.length + 1) (gapL false l) (l.drop (gapL false l)) (by simp; omega)
    have hg := gapL_le false l
    generalize lexL (l.length + 1) (gapL false l) (l.drop (gapL false l)) = y at h hb
    cases y with
    | inl q => simp [lexO] at h
    | inr us =>
      simp only [lexO, Prod.mk.injEq] at h
      rw [← h.1]
      intro x hx
      have := hb us rfl x hx
      simp only [List.length_drop] at this
      omega
/-- The tokens of a text that begins with blanks, so far on. -/
def lexB (f k : Nat) (l : List UInt8) : Nat ⊕ List (Tk × Nat) := lexL f (k + gapL false l) (l.drop (gapL false l))
theorem lexB_some {f k n : Nat} {l : List UInt8} {t : Tk} (hl : l ≠ []) (h : firstL l = some (t, n)) : lexL (f + 1) k l = joinL [(t, k)] (lexB f (k + n) (l.drop n)) := lexL_some hl h
/-- What both make. -/
def both (x : Nat ⊕ List (Tk × Nat)) (y : Nat ⊕ List (Tk × Nat)) : Nat ⊕ List (Tk × Nat) :=
  match x with
  | .inl p => .inl p
  | .inr ts => joinL ts.dropLast y
theorem both_join (a : Tk × Nat) {x : Nat ⊕ List (Tk × Nat)} (hx : ∀ ts, x = .inr ts → ts ≠ []) (y : Nat ⊕ List (Tk × Nat)) : both (joinL [a] x) y = joinL [a] (both x y) := by
  cases x with
  | inl p => rfl
  | inr ts =>
    show joinL ([a] ++ ts).dropLast y = _
    rw [List.dropLast_append_of_ne_nil (hx ts rfl), ← joinL_join]
    rfl
theorem lexB_join (m : List UInt8) : ∀ (f k : Nat) (l : List UInt8), l.length < f → ∀ F, l.length + 1 + m.length < F → lexB F k (l ++ 10 :: m) = both (lexB f k l) (lexB F (k + l.length + 1) m)
  | 0, _, _, h, _, _ => by omega
  | f + 1, k, l, h, F, hF => by
    unfold lexB
    rcases gap_join false l m with ⟨h1, h2⟩ | ⟨h1, h2⟩
    · rw [h2, List.drop_append_of_le_length (by omega)]
      generalize hg : gapL false l = g at h1
      have hne : l.drop g ≠ [] := by
        intro e
        have := congrArg List.length e
        simp at this; omega
      have hneJ : l.drop g ++ 10 :: m ≠ [] := by simp
      obtain ⟨F', rfl⟩ : ∃ F', F = F' + 1 := ⟨F - 1, by omega⟩
      cases ho : firstL (l.drop g) with
      | none => rw [lexL_none hneJ (by rw [first_join hne]; exact ho), lexL_none hne ho]; rfl
      | some x =>
        obtain ⟨t, n⟩ := x
        obtain ⟨n0, n1⟩ := first_size ho
        rw [lexB_some hneJ (by rw [first_join hne]; exact ho), lexB_some hne ho]
        rw [List.drop_append_of_le_length n1]
        have hl2 : ((l.drop g).drop n).length + g + n = l.length := by simp at n1 ⊢; omega
        rw [lexB_join m f (k + g + n) ((l.drop g).drop n) (by omega) F' (by omega)]
        have hn2 : ∀ ts, lexB f (k + g + n) ((l.drop g).drop n) = .inr ts → ts ≠ [] := fun ts e => lexL_ne f _ _ (by simp only [List.length_drop] at hl2 ⊢; omega) ts e
        rw [both_join _ hn2]
        have e : k + g + n + ((l.drop g).drop n).length + 1 = k + l.length + 1 := by omega
        rw [e]
        have e2 : lexB F' (k + l.length + 1) m = lexB (F' + 1) (k + l.length + 1) m := lexL_fuel _ _ _ _ (by simp; omega) (by simp; omega)
        rw [e2]; rfl
    · rw [h2, h1, List.drop_length, lexL_end]
      have e : (l ++ 10 :: m).drop (l.length + 1 + gapL false m) = m.drop (gapL false m) := by
        rw [show l.length + 1 + gapL false m = l.length + (1 + gapL false m) by omega, ← List.drop_drop, List.drop_append_of_le_length (Nat.le_refl _), List.drop_length, List.nil_append, Nat.add_comm 1, List.drop_succ_cons]
      rw [e]
      show _ = joinL [] _
      rw [joinL_nil]
      congr 1; omega
/-- What Lex tells of two texts with a new line between. -/
theorem lexD_join (l m : List UInt8) (hl : l.length ≤ 4000) (hm : m.length ≤ 4000) :
    (∃ p, lexD l = ([], p, 5) ∧ lexD (l ++ 10 :: m) = ([], p, 5)) ∨
    (∃ ts q, ts ≠ [] ∧ lexD l = (ts, 0, 0) ∧ lexD m = ([], q, 5) ∧ lexD (l ++ 10 :: m) = ([], q + (l.length + 1), 5)) ∨
    (∃ ts us, ts ≠ [] ∧ us ≠ [] ∧ lexD l = (ts, 0, 0) ∧ lexD m = (us, 0, 0) ∧ lexD (l ++ 10 :: m) = (ts.dropLast ++ us.map (fun x => (x.1, x.2 + (l.length + 1))), 0, 0)) := by
  have g : ∀ x : List UInt8, x.length ≤ 8192 → lexD x = lexO (lexB (x.length + 1) 0 x) := by
    intro x hx
    unfold lexD lexG lexB
    rw [if_neg (by omega), Nat.zero_add]
  have hJ : (l ++ 10 :: m).length = l.length + 1 + m.length := by simp; omega
  rw [g l (by omega), g m (by omega), g _ (by omega), hJ, lexB_join m (l.length + 1) 0 l (by omega) _ (by omega)]
  have e2 : lexB (l.length + 1 + m.length + 1) (0 + l.length + 1) m = shiftL (l.length + 1) (lexB (m.length + 1) 0 m) := by
    unfold lexB
    rw [← lexL_shift _ _ _ _ (by simp; omega), lexL_fuel _ (m.length + 1) _ _ (by simp; omega) (by simp; omega)]
    congr 1; omega
  rw [e2]
  cases hx : lexB (l.length + 1) 0 l with
  | inl p => exact .inl ⟨p, rfl, rfl⟩
  | inr ts =>
    have h1 := lexL_ne _ _ _ (by simp; omega) ts hx
    cases hy : lexB (m.length + 1) 0 m with
    | inl q => exact .inr (.inl ⟨ts, q, h1, rfl, rfl, rfl⟩)
    | inr us => exact .inr (.inr ⟨ts, us, h1, lexL_ne _ _ _ (by simp; omega) us hy, rfl, rfl, rfl⟩)
end Go.Proofs.YtihnnbeepfgphaaGreatDoor
