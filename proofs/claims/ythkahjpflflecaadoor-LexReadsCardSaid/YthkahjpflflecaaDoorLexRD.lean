/-
  The document's next token: a walk.
-/
import Derived.Test.YthkahjpflflecaaDoorLexRC
namespace Go.Proofs.YthkahjpflflecaaDoor
open Go.RowKit
set_option linter.unusedVariables false

def NextPost (o : Option (Tk × Nat)) (p : Nat) (w : World) (e : Ending) (w' : World) : Prop :=
  ∃ (tk : Int) (tt : ByteArray) (tn ta ee : Int), e = .returned (.tuple #[.agg #[.int .i64 tk, .string tt, .int .i64 tn, .int .i64 ta], .int .i64 ee, .bool o.isSome]) ∧ Below w.heap.size w w' ∧ ∀ t n, o = some (t, n) → tk = t.k ∧ tt = bs t.t ∧ tn = t.n ∧ ta = p ∧ ee = ((p + n : Nat) : Int)
theorem below_box2 (w : World) (c c' : Array Value) (t t' : TypeId) : Below w.heap.size w ((w.alloc (.cells c t)).alloc (.cells c' t')) := ((Below.refl _ _).alloc (Nat.le_refl _) _).alloc (by simp) _
theorem word_short {l : List UInt8} (h : words.contains l = true) : l.length ≤ 16 := by
  unfold words at h
  simp only [List.contains_cons, Bool.or_eq_true, List.contains_nil, Bool.false_eq_true, or_false, beq_iff_eq] at h
  rcases h with rfl | rfl | rfl | rfl | rfl | rfl | rfl | rfl | rfl | rfl | rfl | rfl | rfl | rfl | rfl | rfl | rfl | rfl | rfl | rfl | rfl | rfl | rfl | rfl | rfl | rfl | rfl | rfl <;> decide
theorem first_L {s : ByteArray} {p : Nat} (hp : p < s.size) (h : isL s[p] = true) : firstL (s.data.toList.drop p) = namedL (s.data.toList.drop p) := by
  unfold firstL; rw [drop_head hp, h]; rfl
theorem first_D {s : ByteArray} {p : Nat} (hp : p < s.size) (h : isL s[p] = false) (h2 : isD s[p] = true) : firstL (s.data.toList.drop p) = numberL (s.data.toList.drop p) := by
  unfold firstL; rw [drop_head hp, drop_head hp, h, h2]; rfl
theorem first_Q {s : ByteArray} {p : Nat} (hp : p < s.size) (h : isL s[p] = false) (h2 : isD s[p] = false) (h3 : s[p] = 34) : firstL (s.data.toList.drop p) = quotedL (s.data.toList.drop p) := by
  unfold firstL; rw [drop_head hp, drop_head hp, drop_head hp, h, h2, h3]; rfl
theorem first_S {s : ByteArray} {p : Nat} (hp : p < s.size) (h : isL s[p] = false) (h2 : isD s[p] = false) (h3 : s[p] ≠ 34) : firstL (s.data.toList.drop p) = signL (s.data.toList.drop p) := by
  have : (s[p] == 34) = false := by simpa using h3
  unfold firstL; rw [drop_head hp, drop_head hp, drop_head hp, h, h2, this]; rfl
theorem next_sign (s : ByteArray) (p : Nat) (w : World) (hs : s.size ≤ 8192) (hp : p < s.size) (h : isL s[p] = false) (h2 : isD s[p] = false) (h3 : s[p] ≠ 34) :
    Calls Tryd.prog 36 #[.string s, .int .i64 p] w (NextPost (firstL (s.data.toList.drop p)) p w) := by
  rw [first_S hp h h2 h3]
  have f34 : ((s[p].toNat : Int) == 34) = false := by simpa using byte_ne (d := 34) h3
  have p1 : (p : Int) < (s.size : Int) := by omega
  have z1 : (s.size : Int) ≤ 8192 := by omega
  obtain ⟨n, hn⟩ : ∃ n, signN (s.data.toList.drop p) = n := ⟨_, rfl⟩
  have hle := signN_le (s.data.toList.drop p)
  rw [hn, List.length_drop] at hle
  simp only [Array.length_toList, ByteArray.size_data] at hle
  have hcall := rsign_any s p
  rw [hn] at hcall
  unfold signL
  rw [hn]
  obtain ⟨t, ht⟩ : ∃ t, (s.data.toList.drop p).take n = t := ⟨_, rfl⟩
  have htl : t.length = n := by rw [← ht, List.length_take_of_le (by simp; omega)]
  rw [ht] at hcall ⊢
  have hbz : (bs t).size = n := by rw [bs_size, htl]
  have HL := Lib.hid h
  have HD := Lib.hid h2
  have HC := Lib.hid hcall
  by_cases hn0 : n = 0
  · subst hn0
    have ht0 : t = [] := List.eq_nil_of_length_eq_zero htl
    subst ht0
    rw [if_pos rfl]
    have hb0 : (bs []) = (⟨#[]⟩ : ByteArray) := rfl
    rw [hb0] at HC
    clear h h2 h3 hn ht htl hcall hbz hb0 hle
    go_enter Tryd.func36, Tryd.ntmps36
    go_wp2_with (first | (go_at_call 26; ((with_reducible refine (Letter_any s[p] _).mono ?_); rw [HL.out]; rintro e w' ⟨rfl, rfl⟩)) | (go_at_call 27; ((with_reducible refine (Digit_any s[p] _).mono ?_); rw [HD.out]; rintro e w' ⟨rfl, rfl⟩)) | (go_at_call 44; refine (HC.out _ hs hp).mono ?_; rintro e w' ⟨rfl, rfl⟩))
    exact bodyPost_ret (v := .tuple #[.agg #[.int .i64 5, .string ⟨#[]⟩, .int .i64 0, .int .i64 p], .int .i64 p, .bool false]) (by simp [results, Tryd.results36, go_sem]) rfl ⟨_, _, _, _, _, rfl, below_box _ _ _, fun t n h => by cases h⟩
  · rw [if_neg hn0]
    have hne : ((bs t).toList == []) = false := by
      rw [ByteArray.toList_eq, bs_list]
      cases t with
      | nil => exact absurd htl.symm hn0
      | cons a r => rfl
    have hne2 : (bs t).toList.isEmpty = false := by
      rw [ByteArray.toList_eq, bs_list]
      cases t with
      | nil => exact absurd htl.symm hn0
      | cons a r => rfl
    clear h h2 h3 hn ht htl hcall
    go_enter Tryd.func36, Tryd.ntmps36
    go_wp2_with (first | (go_at_call 26; ((with_reducible refine (Letter_any s[p] _).mono ?_); rw [HL.out]; rintro e w' ⟨rfl, rfl⟩)) | (go_at_call 27; ((with_reducible refine (Digit_any s[p] _).mono ?_); rw [HD.out]; rintro e w' ⟨rfl, rfl⟩)) | (go_at_call 44; refine (HC.out _ hs hp).mono ?_; rintro e w' ⟨rfl, rfl⟩))
    exact bodyPost_ret (v := .tuple #[.agg #[.int .i64 5, .string (bs t), .int .i64 0, .int .i64 p], .int .i64 ((p : Int) + (n : Int)), .bool true]) (by simp [results, Tryd.results36, go_sem]) rfl ⟨_, _, _, _, _, rfl, below_box _ _ _, fun t' n' h => by
      injection h with h; injection h with h1 h2; subst h1 h2; exact ⟨rfl, rfl, rfl, rfl, by omega⟩⟩
theorem next_quoted (s : ByteArray) (p : Nat) (w : World) (hs : s.size ≤ 8192) (hp : p < s.size) (h : isL s[p] = false) (h2 : isD s[p] = false) (h3 : s[p] = 34) :
    Calls Tryd.prog 36 #[.string s, .int .i64 p] w (NextPost (firstL (s.data.toList.drop p)) p w) := by
  rw [first_Q hp h h2 h3]
  have f34 : ((s[p].toNat : Int) == 34) = true := by rw [h3]; rfl
  have p1 : (p : Int) < (s.size : Int) := by omega
  have z1 : (s.size : Int) ≤ 8192 := by omega
  have hcall := fun w => rquoted_any s p w hs hp
  obtain ⟨o, ho⟩ : ∃ o, quotedL (s.data.toList.drop p) = o := ⟨_, rfl⟩
  rw [ho] at hcall ⊢
  have HL := Lib.hid h
  have HD := Lib.hid h2
  clear h h2 h3 ho
  cases o with
  | none =>
    have HC := Lib.hid hcall
    clear hcall
    go_enter Tryd.func36, Tryd.ntmps36
    go_wp2_with (first | (go_at_call 26; ((with_reducible refine (Letter_any s[p] _).mono ?_); rw [HL.out]; rintro e w' ⟨rfl, rfl⟩)) | (go_at_call 27; ((with_reducible refine (Digit_any s[p] _).mono ?_); rw [HD.out]; rintro e w' ⟨rfl, rfl⟩)) | (go_at_call 43; refine (HC.out _).mono ?_; unfold rqV tk0; rintro e w1 ⟨rfl, hb⟩; obtain ⟨hx1, hf1, hz1, hB1⟩ := one_box hb; clear hb; have c0 := hx1 0 _ rfl; have c1 := hx1 1 _ rfl; have c2 := hx1 2 _ rfl; have c3 := hx1 3 _ rfl; clear hx1))
    exact bodyPost_ret (v := .tuple #[.agg #[.int .i64 0, .string ⟨#[]⟩, .int .i64 0, .int .i64 0], .int .i64 0, .bool false]) (by simp [results, Tryd.results36, go_sem, c0, c1, c2, c3]) rfl ⟨_, _, _, _, _, rfl, four_cells hB1 (Nat.le_refl _) _ _ _ _, fun t n h => by cases h⟩
  | some x =>
    obtain ⟨t, n⟩ := x
    have HC := Lib.hid hcall
    clear hcall
    go_enter Tryd.func36, Tryd.ntmps36
    go_wp2_with (first | (go_at_call 26; ((with_reducible refine (Letter_any s[p] _).mono ?_); rw [HL.out]; rintro e w' ⟨rfl, rfl⟩)) | (go_at_call 27; ((with_reducible refine (Digit_any s[p] _).mono ?_); rw [HD.out]; rintro e w' ⟨rfl, rfl⟩)) | (go_at_call 43; refine (HC.out _).mono ?_; unfold rqV tkV; rintro e w1 ⟨rfl, hb⟩; obtain ⟨hx1, hf1, hz1, hB1⟩ := one_box hb; clear hb; have c0 := hx1 0 _ rfl; have c1 := hx1 1 _ rfl; have c2 := hx1 2 _ rfl; have c3 := hx1 3 _ rfl; clear hx1))
    exact bodyPost_ret (v := .tuple #[.agg #[.int .i64 t.k, .string (bs t.t), .int .i64 t.n, .int .i64 p], .int .i64 ((p + n : Nat) : Int), .bool true]) (by simp [results, Tryd.results36, go_sem, c0, c1, c2, c3]) rfl ⟨_, _, _, _, _, rfl, four_cells hB1 (Nat.le_refl _) _ _ _ _, fun t' n' h => by
      injection h with h; injection h with h1 h2; subst h1 h2; exact ⟨rfl, rfl, rfl, rfl, rfl⟩⟩
theorem number_len {l : List UInt8} {t : Tk} {n : Nat} (h : numberL l = some (t, n)) : t.t.length = n := by
  unfold numberL at h
  split at h
  · cases h
  · split at h
    · cases h
    · split at h
      · simp only [Option.some.injEq, Prod.mk.injEq] at h
        obtain ⟨rfl, rfl⟩ := h
        exact List.length_take_of_le (runL_le _ _)
      · cases h
set_option maxRecDepth 100000 in
theorem next_number (s : ByteArray) (p : Nat) (w : World) (hs : s.size ≤ 8192) (hp : p < s.size) (h : isL s[p] = false) (h2 : isD s[p] = true) :
    Calls Tryd.prog 36 #[.string s, .int .i64 p] w (NextPost (firstL (s.data.toList.drop p)) p w) := by
  rw [first_D hp h h2]
  have p1 : (p : Int) < (s.size : Int) := by omega
  have z1 : (s.size : Int) ≤ 8192 := by omega
  have hcall := fun w => rnumber_any s p w hs hp h2
  have hfs : ∀ t n, numberL (s.data.toList.drop p) = some (t, n) → t.t.length = n ∧ n ≤ 8192 := by
    intro t n e
    have e2 : firstL (s.data.toList.drop p) = some (t, n) := by rw [first_D hp h h2]; exact e
    have := (first_size e2).2
    rw [List.length_drop] at this
    simp only [Array.length_toList, ByteArray.size_data] at this
    exact ⟨number_len e, by omega⟩
  obtain ⟨o, ho⟩ : ∃ o, numberL (s.data.toList.drop p) = o := ⟨_, rfl⟩
  rw [ho] at hcall hfs ⊢
  have HL := Lib.hid h
  have HD := Lib.hid h2
  clear h h2 ho
  cases o with
  | none =>
    have HC := Lib.hid hcall
    clear hcall hfs
    go_enter Tryd.func36, Tryd.ntmps36
    go_wp2_with (first | (go_at_call 26; ((with_reducible refine (Letter_any s[p] _).mono ?_); rw [HL.out]; rintro e w' ⟨rfl, rfl⟩)) | (go_at_call 27; ((with_reducible refine (Digit_any s[p] _).mono ?_); rw [HD.out]; rintro e w' ⟨rfl, rfl⟩)) | (go_at_call 42; refine (HC.out _).mono ?_; unfold rnumV tk0; rintro e w1 ⟨rfl, hb⟩; obtain ⟨hx1, hf1, hz1, hB1⟩ := one_box hb; clear hb; have c0 := hx1 0 _ rfl; have c1 := hx1 1 _ rfl; have c2 := hx1 2 _ rfl; have c3 := hx1 3 _ rfl; clear hx1))
    have hz : w.heap.size < w1.heap.size := by omega
    have hzn : w.heap.size ≠ w1.heap.size := by omega
    go_region
    go_wp2
    exact bodyPost_ret (v := .tuple #[.agg #[.int .i64 0, .string ⟨#[]⟩, .int .i64 0, .int .i64 0], .int .i64 p, .bool false]) (by simp [results, Tryd.results36, go_sem, c0, c1, c2, c3, hz]) rfl ⟨_, _, _, _, _, rfl, Below.drew ((four_cells hB1 (Nat.le_refl _) _ _ _ _).alloc (by simp; omega) _), fun t n h => by cases h⟩
  | some x =>
    obtain ⟨t, n⟩ := x
    obtain ⟨hl, hn⟩ := hfs t n rfl
    have hbz : (bs t.t).size = n := by rw [bs_size, hl]
    have HC := Lib.hid hcall
    clear hcall hfs hl
    go_enter Tryd.func36, Tryd.ntmps36
    go_wp2_with (first | (go_at_call 26; ((with_reducible refine (Letter_any s[p] _).mono ?_); rw [HL.out]; rintro e w' ⟨rfl, rfl⟩)) | (go_at_call 27; ((with_reducible refine (Digit_any s[p] _).mono ?_); rw [HD.out]; rintro e w' ⟨rfl, rfl⟩)) | (go_at_call 42; refine (HC.out _).mono ?_; unfold rnumV tkV; rintro e w1 ⟨rfl, hb⟩; obtain ⟨hx1, hf1, hz1, hB1⟩ := one_box hb; clear hb; have c0 := hx1 0 _ rfl; have c1 := hx1 1 _ rfl; have c2 := hx1 2 _ rfl; have c3 := hx1 3 _ rfl; clear hx1))
    have hz : w.heap.size < w1.heap.size := by omega
    have hzn : w.heap.size ≠ w1.heap.size := by omega
    go_region
    go_wp2
    exact bodyPost_ret (v := .tuple #[.agg #[.int .i64 t.k, .string (bs t.t), .int .i64 t.n, .int .i64 p], .int .i64 ((p : Int) + (n : Int)), .bool true]) (by simp [results, Tryd.results36, go_sem, c0, c1, c2, c3, hz]) rfl ⟨_, _, _, _, _, rfl, Below.drew ((four_cells hB1 (Nat.le_refl _) _ _ _ _).alloc (by simp; omega) _), fun t' n' h => by
      injection h with h; injection h with h1 h2; subst h1 h2; exact ⟨rfl, rfl, rfl, rfl, by omega⟩⟩
set_option maxRecDepth 100000 in
set_option maxHeartbeats 1000000 in
theorem next_named (s : ByteArray) (p : Nat) (w : World) (hs : s.size ≤ 8192) (hp : p < s.size) (h : isL s[p] = true) :
    Calls Tryd.prog 36 #[.string s, .int .i64 p] w (NextPost (firstL (s.data.toList.drop p)) p w) := by
  rw [first_L hp h]
  have p0 : (0 : Int) ≤ (p : Int) := by omega
  have p1 : (p : Int) < (s.size : Int) := by omega
  have z1 : (s.size : Int) ≤ 8192 := by omega
  obtain ⟨N, hN⟩ : ∃ N, runL isN (s.data.toList.drop p) = N := ⟨_, rfl⟩
  have hrun := runL_le isN (s.data.toList.drop p)
  rw [hN, List.length_drop] at hrun
  simp only [Array.length_toList, ByteArray.size_data] at hrun
  obtain ⟨o, ho⟩ : ∃ o, namedL (s.data.toList.drop p) = o := ⟨_, rfl⟩
  have ho2 := ho
  unfold namedL at ho2
  rw [hN] at ho2
  rw [ho]
  have HP := Lib.hid h
  have HN := Lib.hid hN
  have HO2 := Lib.hid ho2
  clear ho ho2 hN h
  go_enter Tryd.func36, Tryd.ntmps36
  go_wp2_with (first | (go_at_call 26; ((with_reducible refine (Letter_any s[p] _).mono ?_); rw [HP.out]; rintro e w' ⟨rfl, rfl⟩)))
  go_loop [7] (fun i => ∃ j : Nat, p ≤ j ∧ j ≤ s.size ∧ i = .int .i64 j ∧ (j - p) + runL isN (s.data.toList.drop j) = N) (fun i => s.size - (intOf i).toNat)
  case atStart => exact ⟨p, Nat.le_refl _, by omega, rfl, by have := HN.out; omega⟩
  case round =>
    obtain ⟨j, hpj, hj, rfl, hr⟩ := hrel
    have j0 : (0 : Int) ≤ (j : Int) := by omega
    have j2 : (j : Int) ≤ (s.size : Int) := by omega
    by_cases hmore : j < s.size ∧ headL isN (s.data.toList.drop j) = true
    · obtain ⟨hjs, hD⟩ := hmore
      rw [drop_head hjs] at hD
      have hy := runL_yes (p := isN) hjs hD
      have j1 : (j : Int) < (s.size : Int) := by omega
      have HR := Lib.hid (show (j + 1 - p) + runL isN (s.data.toList.drop (j + 1)) = N by omega)
      cases hl : isL s[j] with
      | true =>
        have HL := Lib.hid hl
        clear hr hy hD hl
        go_wp2_with (first | (go_at_call 26; ((with_reducible refine (Letter_any s[j] _).mono ?_); rw [HL.out]; rintro e w' ⟨rfl, rfl⟩)))
        go_round
        case rel => exact ⟨j + 1, by omega, by omega, by go_num, HR.out⟩
        case measure => simp [intOf]; omega
      | false =>
        have hd : isD s[j] = true := by simpa [isN, hl] using hD
        have HL := Lib.hid hl
        have HD := Lib.hid hd
        clear hr hy hD hl hd
        go_wp2_with (first | (go_at_call 26; ((with_reducible refine (Letter_any s[j] _).mono ?_); rw [HL.out]; rintro e w' ⟨rfl, rfl⟩)) | (go_at_call 27; ((with_reducible refine (Digit_any s[j] _).mono ?_); rw [HD.out]; rintro e w' ⟨rfl, rfl⟩)))
        go_round
        case rel => exact ⟨j + 1, by omega, by omega, by go_num, HR.out⟩
        case measure => simp [intOf]; omega
    · have hz : runL isN (s.data.toList.drop j) = 0 := by
        rcases Nat.lt_or_ge j s.size with h | h
        · have h2 : isN s[j] = false := by
            cases hx : isN s[j]
            · rfl
            · exact absurd ⟨h, by rw [drop_head h]; exact hx⟩ hmore
          exact runL_no h h2
        · rw [List.drop_eq_nil_of_le (by simpa using h)]; rfl
      have hjn : j = p + N := by omega
      subst hjn
      have hnot : ∀ h : p + N < s.size, isL s[p + N] = false ∧ isD s[p + N] = false := by
        intro h
        have h2 : isN s[p + N] = false := by
          cases hx : isN s[p + N]
          · rfl
          · exact absurd ⟨h, by rw [drop_head h]; exact hx⟩ hmore
        simpa [isN] using h2
      obtain ⟨t, ht⟩ : ∃ t, (s.data.toList.drop p).take N = t := ⟨_, rfl⟩
      have hX := ext_cut s p N
      rw [ht] at hX
      have ho2 := HO2.out
      rw [ht] at ho2
      have e1 : (p : Int) + (N : Int) - (p : Int) = (N : Int) := by omega
      have e2 : ((p : Int) + (N : Int)).toNat = p + N := by omega
      obtain ⟨b, hb⟩ : ∃ b, isW (bs t) = b := ⟨_, rfl⟩
      have HW := Lib.hid hb
      rw [isW_bs] at hb
      rw [hb] at ho2
      have htl : t.length = N := by rw [← ht, List.length_take_of_le (by simp; omega)]
      have hbN : b = true → N ≤ 16 := by
        intro e; rw [e] at hb
        have := word_short hb
        omega
      clear hr hz hmore HO2 hb HN
      by_cases hjs : p + N < s.size
      · have j1 : (p : Int) + (N : Int) < (s.size : Int) := by omega
        have HL := Lib.hid (hnot hjs).1
        have HD := Lib.hid (hnot hjs).2
        clear hnot ht htl
        cases b with
        | true =>
          have hN16 : (N : Int) ≤ 16 := by have := hbN rfl; omega
          have ho3 : o = some (⟨2, t, 0⟩, N) := by simpa using ho2.symm
          subst ho3
          clear ho2 hbN
          go_wp2_with (first | (go_at_call 26; ((with_reducible refine (Letter_any s[p + N] _).mono ?_); rw [HL.out]; rintro e w' ⟨rfl, rfl⟩)) | (go_at_call 27; ((with_reducible refine (Digit_any s[p + N] _).mono ?_); rw [HD.out]; rintro e w' ⟨rfl, rfl⟩)) | (go_at_call 15; refine (rword_any _ _).mono ?_; rw [HW.out]; rintro e w' ⟨rfl, rfl⟩))
          exact bodyPost_ret (v := .tuple #[.agg #[.int .i64 2, .string (bs t), .int .i64 0, .int .i64 p], .int .i64 ((p : Int) + (N : Int)), .bool true]) (by simp [results, Tryd.results36, go_sem]) rfl ⟨_, _, _, _, _, rfl, below_box2 _ _ _ _ _, fun t' n' h => by
          injection h with h; injection h with h1 h2; subst h1 h2; exact ⟨rfl, rfl, rfl, rfl, by omega⟩⟩
        | false =>
          by_cases hN : 16 < N
          · have hN16 : 16 < (N : Int) := by omega
            have ho3 : o = none := by simpa [hN] using ho2.symm
            subst ho3
            clear ho2 hbN
            go_wp2_with (first | (go_at_call 26; ((with_reducible refine (Letter_any s[p + N] _).mono ?_); rw [HL.out]; rintro e w' ⟨rfl, rfl⟩)) | (go_at_call 27; ((with_reducible refine (Digit_any s[p + N] _).mono ?_); rw [HD.out]; rintro e w' ⟨rfl, rfl⟩)) | (go_at_call 15; refine (rword_any _ _).mono ?_; rw [HW.out]; rintro e w' ⟨rfl, rfl⟩))
            exact bodyPost_ret (v := .tuple #[.agg #[.int .i64 1, .string (bs t), .int .i64 0, .int .i64 p], .int .i64 ((p : Int) + (N : Int)), .bool false]) (by simp [results, Tryd.results36, go_sem]; omega) rfl ⟨_, _, _, _, _, rfl, below_box2 _ _ _ _ _, fun t n h => by cases h⟩
          · have hN16 : (N : Int) ≤ 16 := by omega
            have ho3 : o = some (⟨1, t, 0⟩, N) := by simpa [hN] using ho2.symm
            subst ho3
            clear ho2 hbN
            go_wp2_with (first | (go_at_call 26; ((with_reducible refine (Letter_any s[p + N] _).mono ?_); rw [HL.out]; rintro e w' ⟨rfl, rfl⟩)) | (go_at_call 27; ((with_reducible refine (Digit_any s[p + N] _).mono ?_); rw [HD.out]; rintro e w' ⟨rfl, rfl⟩)) | (go_at_call 15; refine (rword_any _ _).mono ?_; rw [HW.out]; rintro e w' ⟨rfl, rfl⟩))
            exact bodyPost_ret (v := .tuple #[.agg #[.int .i64 1, .string (bs t), .int .i64 0, .int .i64 p], .int .i64 ((p : Int) + (N : Int)), .bool true]) (by simp [results, Tryd.results36, go_sem]) rfl ⟨_, _, _, _, _, rfl, below_box2 _ _ _ _ _, fun t' n' h => by
          injection h with h; injection h with h1 h2; subst h1 h2; exact ⟨rfl, rfl, rfl, rfl, by omega⟩⟩
      · have j1 : (p : Int) + (N : Int) = (s.size : Int) := by omega
        have j3 : ¬ (p : Int) + (N : Int) < (s.size : Int) := by omega
        have d3 : decide ((p : Int) + (N : Int) < (s.size : Int)) = false := by simp; omega
        clear hnot ht htl j1
        cases b with
        | true =>
          have hN16 : (N : Int) ≤ 16 := by have := hbN rfl; omega
          have ho3 : o = some (⟨2, t, 0⟩, N) := by simpa using ho2.symm
          subst ho3
          clear ho2 hbN
          go_wp2_with (first | (go_at_call 15; refine (rword_any _ _).mono ?_; rw [HW.out]; rintro e w' ⟨rfl, rfl⟩))
          exact bodyPost_ret (v := .tuple #[.agg #[.int .i64 2, .string (bs t), .int .i64 0, .int .i64 p], .int .i64 ((p : Int) + (N : Int)), .bool true]) (by simp [results, Tryd.results36, go_sem]) rfl ⟨_, _, _, _, _, rfl, below_box2 _ _ _ _ _, fun t' n' h => by
          injection h with h; injection h with h1 h2; subst h1 h2; exact ⟨rfl, rfl, rfl, rfl, by omega⟩⟩
        | false =>
          by_cases hN : 16 < N
          · have hN16 : 16 < (N : Int) := by omega
            have ho3 : o = none := by simpa [hN] using ho2.symm
            subst ho3
            clear ho2 hbN
            go_wp2_with (first | (go_at_call 15; refine (rword_any _ _).mono ?_; rw [HW.out]; rintro e w' ⟨rfl, rfl⟩))
            exact bodyPost_ret (v := .tuple #[.agg #[.int .i64 1, .string (bs t), .int .i64 0, .int .i64 p], .int .i64 ((p : Int) + (N : Int)), .bool false]) (by simp [results, Tryd.results36, go_sem]; omega) rfl ⟨_, _, _, _, _, rfl, below_box2 _ _ _ _ _, fun t n h => by cases h⟩
          · have hN16 : (N : Int) ≤ 16 := by omega
            have ho3 : o = some (⟨1, t, 0⟩, N) := by simpa [hN] using ho2.symm
            subst ho3
            clear ho2 hbN
            go_wp2_with (first | (go_at_call 15; refine (rword_any _ _).mono ?_; rw [HW.out]; rintro e w' ⟨rfl, rfl⟩))
            exact bodyPost_ret (v := .tuple #[.agg #[.int .i64 1, .string (bs t), .int .i64 0, .int .i64 p], .int .i64 ((p : Int) + (N : Int)), .bool true]) (by simp [results, Tryd.results36, go_sem]) rfl ⟨_, _, _, _, _, rfl, below_box2 _ _ _ _ _, fun t' n' h => by
          injection h with h; injection h with h1 h2; subst h1 h2; exact ⟨rfl, rfl, rfl, rfl, by omega⟩⟩
theorem rnext_any (s : ByteArray) (p : Nat) (w : World) (hs : s.size ≤ 8192) (hp : p < s.size) :
    Calls Tryd.prog 36 #[.string s, .int .i64 p] w (NextPost (firstL (s.data.toList.drop p)) p w) := by
  cases h : isL s[p] with
  | true => exact next_named s p w hs hp h
  | false =>
    cases h2 : isD s[p] with
    | true => exact next_number s p w hs hp h h2
    | false =>
      by_cases h3 : s[p] = 34
      · exact next_quoted s p w hs hp h h2 h3
      · exact next_sign s p w hs hp h h2 h3
end Go.Proofs.YthkahjpflflecaaDoor
