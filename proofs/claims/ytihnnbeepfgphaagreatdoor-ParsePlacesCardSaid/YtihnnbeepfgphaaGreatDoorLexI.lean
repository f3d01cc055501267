/-
  The document's tokens of a whole text, plainly; the first token: a walk.
-/
import Derived.Test.YtihnnbeepfgphaaGreatDoorLexH
namespace Go.Proofs.YtihnnbeepfgphaaGreatDoor
open Go.RowKit
set_option linter.unusedVariables false
set_option linter.unusedSimpArgs false

theorem q_size : ∀ (b : Bool) (acc : List UInt8) (i : Nat) (l : List UInt8) (x : List UInt8) (n : Nat), qL b acc i l = some (x, n) → i + 2 ≤ n ∧ n ≤ i + l.length + 1
  | _, _, _, [], _, _, h => by cases ‹Bool› <;> simp [qL] at h
  | true, acc, i, c :: r, x, n, h => by
    rw [qL] at h
    split at h
    · cases h
    · have := q_size _ _ _ _ _ _ h
      simp; omega
  | false, acc, i, c :: r, x, n, h => by
    rw [qL] at h
    split at h
    · have := q_size _ _ _ _ _ _ h
      simp; omega
    · split at h
      · split at h
        · cases h
        · simp only [Option.some.injEq, Prod.mk.injEq] at h
          simp; omega
      · split at h
        · cases h
        · have := q_size _ _ _ _ _ _ h
          simp; omega
theorem run_first {p : UInt8 → Bool} {l : List UInt8} (h : headL p l = true) : 0 < runL p l := by
  match l with
  | [] => cases h
  | c :: r =>
    have h' : p c = true := h
    simp [runL, h']
theorem run_name_first {l : List UInt8} (h : headL isL l = true) : 0 < runL isN l := by
  refine run_first ?_
  match l with
  | [] => cases h
  | c :: r =>
    have h' : isL c = true := h
    show isN c = true
    simp [isN, h']
theorem signN_le (l : List UInt8) : signN l ≤ l.length := by
  unfold signN
  split
  · rename_i h
    match l with
    | [] => simp [doubles] at h
    | [a] => simp [doubles] at h
    | a :: b :: r => simp
  · split
    · rename_i h
      match l with
      | [] => cases h
      | a :: r => simp
    · omega
theorem first_size {l : List UInt8} {t : Tk} {n : Nat} (h : firstL l = some (t, n)) : 0 < n ∧ n ≤ l.length := by
  unfold firstL at h
  split at h
  · rename_i hl
    have h1 := run_name_first hl
    have h2 := runL_le isN l
    unfold namedL at h
    split at h
    · simp only [Option.some.injEq, Prod.mk.injEq] at h; omega
    · split at h
      · cases h
      · simp only [Option.some.injEq, Prod.mk.injEq] at h; omega
  · split at h
    · rename_i hd
      have h1 := run_first hd
      have h2 := runL_le isD l
      unfold numberL at h
      split at h
      · cases h
      · split at h
        · cases h
        · split at h
          · simp only [Option.some.injEq, Prod.mk.injEq] at h; omega
          · cases h
    · split at h
      · rename_i hq
        unfold quotedL at h
        simp only [Option.map_eq_some_iff] at h
        obtain ⟨⟨x, m⟩, hx, he⟩ := h
        have := q_size _ _ _ _ _ _ hx
        simp only [Prod.mk.injEq] at he
        match l with
        | [] => cases hq
        | c :: r => simp at this ⊢; omega
      · have h2 := signN_le l
        unfold signL at h
        split at h
        · cases h
        · simp only [Option.some.injEq, Prod.mk.injEq] at h; omega

/-- The tokens from a place on (all of them, or the place of the fault). -/
def lexL : Nat → Nat → List UInt8 → Nat ⊕ List (Tk × Nat)
  | 0, k, _ => .inl k
  | _ + 1, k, [] => .inr [(⟨0, [], 0⟩, k)]
  | f + 1, k, c :: r =>
    match firstL (c :: r) with
    | none => .inl k
    | some (t, n) =>
      match lexL f (k + n + gapL false ((c :: r).drop n)) (((c :: r).drop n).drop (gapL false ((c :: r).drop n))) with
      | .inl p => .inl p
      | .inr ts => .inr ((t, k) :: ts)
def joinL (acc : List (Tk × Nat)) : Nat ⊕ List (Tk × Nat) → Nat ⊕ List (Tk × Nat)
  | .inl p => .inl p
  | .inr ts => .inr (acc ++ ts)
theorem lexL_end (f k : Nat) : lexL (f + 1) k [] = .inr [(⟨0, [], 0⟩, k)] := rfl
theorem lexL_none {f k : Nat} {l : List UInt8} (hl : l ≠ []) (h : firstL l = none) : lexL (f + 1) k l = .inl k := by
  match l, hl with
  | c :: r, _ => rw [lexL, h]
theorem lexL_some {f k n : Nat} {l : List UInt8} {t : Tk} (hl : l ≠ []) (h : firstL l = some (t, n)) : lexL (f + 1) k l = joinL [(t, k)] (lexL f (k + n + gapL false (l.drop n)) ((l.drop n).drop (gapL false (l.drop n)))) := by
  match l, hl with
  | c :: r, _ =>
    rw [lexL, h]
    dsimp only
    generalize lexL f (k + n + gapL false ((c :: r).drop n)) (((c :: r).drop n).drop (gapL false ((c :: r).drop n))) = x
    cases x <;> rfl
theorem joinL_join (a b : List (Tk × Nat)) (x : Nat ⊕ List (Tk × Nat)) : joinL a (joinL b x) = joinL (a ++ b) x := by
  cases x <;> simp [joinL]
theorem joinL_nil (x : Nat ⊕ List (Tk × Nat)) : joinL [] x = x := by cases x <;> rfl
/-- What Lex tells of a text: tokens, place, error. -/
def lexO : Nat ⊕ List (Tk × Nat) → List (Tk × Nat) × Nat × Int
  | .inl p => ([], p, 5)
  | .inr ts => (ts, 0, 0)
def lexG (l : List UInt8) : List (Tk × Nat) × Nat × Int := lexO (lexL (l.length + 1) (gapL false l) (l.drop (gapL false l)))
def lexD (l : List UInt8) : List (Tk × Nat) × Nat × Int := if 8192 < l.length then ([], 0, 2) else lexG l

/-! The first token. -/
def fk : Option (Tk × Nat) → Int | none => 0 | some (t, _) => t.k
def ft : Option (Tk × Nat) → ByteArray | none => ⟨#[]⟩ | some (t, _) => bs t.t
def fn : Option (Tk × Nat) → Int | none => 0 | some (t, _) => t.n
def fz : Option (Tk × Nat) → Nat | none => 0 | some (_, n) => n
theorem found_eq (o : Option (Tk × Nat)) : foundV o = .tuple #[.agg #[.int .i64 (fk o), .string (ft o), .int .i64 (fn o), .int .i64 0], .int .i64 (fz o)] := by
  cases o <;> rfl
theorem first_named (s : ByteArray) (w : World) (ht : ErrT w) (hs : s.size ≤ 8192) (h0 : 0 < s.size) (hl : isL s[0] = true) :
    Calls Tryz.prog 23 #[.string s] w fun e w' => e = .returned (foundV (namedL s.data.toList)) ∧ Below w.heap.size w w' := by
  have ht := Lib.hid ht
  have hl := Lib.hid hl
  obtain ⟨o, ho⟩ : ∃ o, namedL s.data.toList = o := ⟨_, rfl⟩
  rw [ho]
  have HO := Lib.hid ho
  clear ho
  go_enter Tryz.func23, Tryz.ntmps23
  go_wp2_with (first
    | (go_at_call 32; refine (letter_any _ _).mono ?_; rw [hl.out]; rintro e w' ⟨rfl, rfl⟩)
    | (go_at_call 34; refine (digit_any _ _).mono ?_; rw [hd.out]; rintro e w' ⟨rfl, rfl⟩)
    | (go_at_call 33; refine (named_any _ _ hs).mono ?_; rw [HO.out, found_eq]; rintro e w1 ⟨rfl, hb⟩; obtain ⟨hx1, hf1, hz1, hB1⟩ := one_box hb; clear hb; have c0 := hx1 0 _ rfl; have c1 := hx1 1 _ rfl; have c2 := hx1 2 _ rfl; have c3 := hx1 3 _ rfl; clear hx1))
  exact bodyPost_ret (v := .tuple #[.agg #[.int .i64 (fk o), .string (ft o), .int .i64 (fn o), .int .i64 0], .int .i64 (fz o)]) (by simp [results, Tryz.results23, go_sem, c0, c1, c2, c3]) rfl ⟨by rw [found_eq], four_cells hB1 (Nat.le_refl _) _ _ _ _⟩
theorem first_number (s : ByteArray) (w : World) (ht : ErrT w) (hs : s.size ≤ 8192) (h0 : 0 < s.size) (hl : isL s[0] = false) (hd : isD s[0] = true) :
    Calls Tryz.prog 23 #[.string s] w fun e w' => e = .returned (foundV (numberL s.data.toList)) ∧ Below w.heap.size w w' := by
  have ht := Lib.hid ht
  have hl := Lib.hid hl
  have hd := Lib.hid hd
  obtain ⟨o, ho⟩ : ∃ o, numberL s.data.toList = o := ⟨_, rfl⟩
  rw [ho]
  have HO := Lib.hid ho
  clear ho
  go_enter Tryz.func23, Tryz.ntmps23
  go_wp2_with (first
    | (go_at_call 32; refine (letter_any _ _).mono ?_; rw [hl.out]; rintro e w' ⟨rfl, rfl⟩)
    | (go_at_call 34; refine (digit_any _ _).mono ?_; rw [hd.out]; rintro e w' ⟨rfl, rfl⟩)
    | (go_at_call 35; refine (number_any _ _ (ht.out.alloc _) hs h0 hd.out).mono ?_; rw [HO.out, found_eq]; rintro e w1 ⟨rfl, hb⟩; obtain ⟨hx1, hf1, hz1, hB1⟩ := one_box hb; clear hb; have c0 := hx1 0 _ rfl; have c1 := hx1 1 _ rfl; have c2 := hx1 2 _ rfl; have c3 := hx1 3 _ rfl; clear hx1))
  exact bodyPost_ret (v := .tuple #[.agg #[.int .i64 (fk o), .string (ft o), .int .i64 (fn o), .int .i64 0], .int .i64 (fz o)]) (by simp [results, Tryz.results23, go_sem, c0, c1, c2, c3]) rfl ⟨by rw [found_eq], four_cells hB1 (Nat.le_refl _) _ _ _ _⟩
theorem first_quoted (s : ByteArray) (w : World) (ht : ErrT w) (hs : s.size ≤ 8192) (h0 : 0 < s.size) (hl : isL s[0] = false) (hd : isD s[0] = false) (f34 : ((s[0].toNat : Int) == 34) = true) :
    Calls Tryz.prog 23 #[.string s] w fun e w' => e = .returned (foundV (quotedL s.data.toList)) ∧ Below w.heap.size w w' := by
  have ht := Lib.hid ht
  have hl := Lib.hid hl
  have hd := Lib.hid hd
  obtain ⟨o, ho⟩ : ∃ o, quotedL s.data.toList = o := ⟨_, rfl⟩
  rw [ho]
  have HO := Lib.hid ho
  clear ho
  go_enter Tryz.func23, Tryz.ntmps23
  go_wp2_with (first
    | (go_at_call 32; refine (letter_any _ _).mono ?_; rw [hl.out]; rintro e w' ⟨rfl, rfl⟩)
    | (go_at_call 34; refine (digit_any _ _).mono ?_; rw [hd.out]; rintro e w' ⟨rfl, rfl⟩)
    | (go_at_call 36; refine (quoted_any _ _ hs h0).mono ?_; rw [HO.out, found_eq]; rintro e w1 ⟨rfl, hb⟩; obtain ⟨hx1, hf1, hz1, hB1⟩ := one_box hb; clear hb; have c0 := hx1 0 _ rfl; have c1 := hx1 1 _ rfl; have c2 := hx1 2 _ rfl; have c3 := hx1 3 _ rfl; clear hx1))
  exact bodyPost_ret (v := .tuple #[.agg #[.int .i64 (fk o), .string (ft o), .int .i64 (fn o), .int .i64 0], .int .i64 (fz o)]) (by simp [results, Tryz.results23, go_sem, c0, c1, c2, c3]) rfl ⟨by rw [found_eq], four_cells hB1 (Nat.le_refl _) _ _ _ _⟩
theorem first_sign (s : ByteArray) (w : World) (ht : ErrT w) (hs : s.size ≤ 8192) (h0 : 0 < s.size) (hl : isL s[0] = false) (hd : isD s[0] = false) (e34 : ¬ (s[0].toNat : Int) = 34) (f34 : ((s[0].toNat : Int) == 34) = false) :
    Calls Tryz.prog 23 #[.string s] w fun e w' => e = .returned (foundV (signL s.data.toList)) ∧ Below w.heap.size w w' := by
  have ht := Lib.hid ht
  have hl := Lib.hid hl
  have hd := Lib.hid hd
  obtain ⟨o, ho⟩ : ∃ o, signL s.data.toList = o := ⟨_, rfl⟩
  rw [ho]
  have HO := Lib.hid ho
  clear ho
  go_enter Tryz.func23, Tryz.ntmps23
  go_wp2_with (first
    | (go_at_call 32; refine (letter_any _ _).mono ?_; rw [hl.out]; rintro e w' ⟨rfl, rfl⟩)
    | (go_at_call 34; refine (digit_any _ _).mono ?_; rw [hd.out]; rintro e w' ⟨rfl, rfl⟩)
    | (go_at_call 37; refine (sign_any _ _ hs h0).mono ?_; rw [HO.out, found_eq]; rintro e w1 ⟨rfl, hb⟩; obtain ⟨hx1, hf1, hz1, hB1⟩ := one_box hb; clear hb; have c0 := hx1 0 _ rfl; have c1 := hx1 1 _ rfl; have c2 := hx1 2 _ rfl; have c3 := hx1 3 _ rfl; clear hx1))
  exact bodyPost_ret (v := .tuple #[.agg #[.int .i64 (fk o), .string (ft o), .int .i64 (fn o), .int .i64 0], .int .i64 (fz o)]) (by simp [results, Tryz.results23, go_sem, c0, c1, c2, c3]) rfl ⟨by rw [found_eq], four_cells hB1 (Nat.le_refl _) _ _ _ _⟩
theorem first_any (s : ByteArray) (w : World) (ht : ErrT w) (hs : s.size ≤ 8192) (h0 : 0 < s.size) :
    Calls Tryz.prog 23 #[.string s] w fun e w' => e = .returned (foundV (firstL s.data.toList)) ∧ Below w.heap.size w w' := by
  unfold firstL
  rw [head_at h0, head_at h0, head_at h0]
  cases hl : isL s[0]
  · cases hd : isD s[0]
    · cases h34 : s[0] == 34
      · have h34' : ¬ s[0] = 34 := by simpa using h34
        have e34 : ¬ (s[0].toNat : Int) = 34 := byte_ne h34'
        simp only [Bool.false_eq_true, if_false]
        exact first_sign s w ht hs h0 hl hd e34 (beq_eq_false_iff_ne.2 e34)
      · have h34' : s[0] = 34 := by simpa using h34
        simp only [Bool.false_eq_true, if_false, if_true]
        exact first_quoted s w ht hs h0 hl hd (by simpa using byte_eq h34')
    · simp only [Bool.false_eq_true, if_false, if_true]
      exact first_number s w ht hs h0 hl hd
  · simp only [if_true]
    exact first_named s w ht hs h0 hl
end Go.Proofs.YtihnnbeepfgphaaGreatDoor
