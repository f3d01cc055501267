/-
  Names, numbers, signs: walks.
-/
import Derived.Test.YtihnnbeepfgphaaGreatDoorLexF
import Derived.Below
import Derived.Lib.AtoiErrMem
import Derived.Laws.NewBlocks
namespace Go.Proofs.YtihnnbeepfgphaaGreatDoor
open Go.RowKit
set_option linter.unusedVariables false
set_option linter.unusedSimpArgs false

theorem ext_bs (s : ByteArray) (n : Nat) : s.extract 0 n = bs (s.data.toList.take n) := by
  refine ByteArray.ext ?_
  rw [← Array.toList_inj, ext_list]; simp [bs]
theorem bs_list (l : List UInt8) : (bs l).data.toList = l := by simp [bs]
theorem bs_size (l : List UInt8) : (bs l).size = l.length := by simp [bs, ByteArray.size]
def tkV (t : Tk) (at_ : Int) : Value := .agg #[.int .i64 t.k, .string (bs t.t), .int .i64 t.n, .int .i64 at_]
def tk0 : Value := .agg #[.int .i64 0, .string ⟨#[]⟩, .int .i64 0, .int .i64 0]
def foundV : Option (Tk × Nat) → Value
  | none => .tuple #[tk0, .int .i64 0]
  | some (t, n) => .tuple #[tkV t 0, .int .i64 n]

theorem clone_any (s : ByteArray) (w : World) (hs : s.size ≤ 8192) : Calls Tryz.prog 47 #[.string s] w fun e w' => e = .returned (.string s) ∧ Below w.heap.size w w' := by
  go_enter Tryz.func47, Tryz.ntmps47
  go_wp2_with (go_at_call 66; refine (Tryz.stringslite_Clone _ _ (by omega)).mono ?_; rintro e w1 ⟨rfl, hb⟩)
  go_ret
  exact ⟨rfl, hb⟩

theorem named_one (s : ByteArray) (w : World) (hs : s.size ≤ 8192) (n : Nat) (hN : n = runL isN s.data.toList) (t : Tk) (m : Nat)
    (hk : (isW (s.extract 0 n) = true ∧ t = ⟨2, s.data.toList.take n, 0⟩ ∧ m = n) ∨ (isW (s.extract 0 n) = false ∧ ¬ 16 < n ∧ t = ⟨1, s.data.toList.take n, 0⟩ ∧ m = n)) :
    Calls Tryz.prog 33 #[.string s] w fun e w' => e = .returned (foundV (some (t, m))) ∧ Below w.heap.size w w' := by
  have hn := runL_le isN s.data.toList
  simp at hn
  have hz : (s.extract 0 n).size = n := by simp; omega
  have hL := Lib.hid hN
  have hZ := Lib.hid hz
  have hn' : n ≤ s.size := by omega
  clear hN hz hn
  have hz' : (s.extract 0 n).size ≤ 8192 := by rw [hZ.out]; omega
  have hX := Lib.hid (ext_bs s n)
  rcases hk with ⟨hW, rfl, rfl⟩ | ⟨hW, hlt, rfl, rfl⟩
  all_goals
    have hW := Lib.hid hW
    go_enter Tryz.func33, Tryz.ntmps33
    go_wp2_with (first
    | (go_at_call 48; refine (run_name _ _ (by unfold maxLen; omega)).mono ?_; rw [← hL.out]; rintro e w' ⟨rfl, rfl⟩)
    | (go_at_call 47; refine (clone_any _ _ hz').mono ?_; rintro e w1 ⟨rfl, hb⟩; obtain ⟨hx1, hf1, hz1, hB1⟩ := one_box hb; clear hb; have c0 := hx1 0 _ rfl; have c1 := hx1 1 _ rfl; have c2 := hx1 2 _ rfl; have c3 := hx1 3 _ rfl; clear hx1)
    | (go_at_call 50; refine (word_any _ _).mono ?_; rw [hW.out]; rintro e w' ⟨rfl, rfl⟩))
    exact bodyPost_ret (v := foundV (some (_, _))) (by simp [results, Tryz.results33, foundV, tkV, go_sem, hX.out, c0, c1, c2, c3]) rfl ⟨rfl, four_cells hB1 (Nat.le_refl _) _ _ _ _⟩
theorem named_none (s : ByteArray) (w : World) (hs : s.size ≤ 8192) (n : Nat) (hN : n = runL isN s.data.toList) (hW : isW (s.extract 0 n) = false) (hlt : 16 < n) :
    Calls Tryz.prog 33 #[.string s] w fun e w' => e = .returned (foundV none) ∧ Below w.heap.size w w' := by
  have hn := runL_le isN s.data.toList
  simp at hn
  have hz : (s.extract 0 n).size = n := by simp; omega
  have hL := Lib.hid hN
  have hZ := Lib.hid hz
  have hn' : n ≤ s.size := by omega
  clear hN hz hn
  have hz' : (s.extract 0 n).size ≤ 8192 := by rw [hZ.out]; omega
  have hW := Lib.hid hW
  go_enter Tryz.func33, Tryz.ntmps33
  go_wp2_with (first
    | (go_at_call 48; refine (run_name _ _ (by unfold maxLen; omega)).mono ?_; rw [← hL.out]; rintro e w' ⟨rfl, rfl⟩)
    | (go_at_call 47; refine (clone_any _ _ hz').mono ?_; rintro e w1 ⟨rfl, hb⟩; obtain ⟨hx1, hf1, hz1, hB1⟩ := one_box hb; clear hb; have c0 := hx1 0 _ rfl; have c1 := hx1 1 _ rfl; have c2 := hx1 2 _ rfl; have c3 := hx1 3 _ rfl; clear hx1)
    | (go_at_call 50; refine (word_any _ _).mono ?_; rw [hW.out]; rintro e w' ⟨rfl, rfl⟩))
  exact bodyPost_ret (v := foundV none) (by simp [results, Tryz.results33, foundV, tk0, go_sem, c0, c1, c2, c3]) rfl ⟨rfl, four_cells hB1 (Nat.le_refl _) _ _ _ _⟩
theorem named_any (s : ByteArray) (w : World) (hs : s.size ≤ 8192) :
    Calls Tryz.prog 33 #[.string s] w fun e w' => e = .returned (foundV (namedL s.data.toList)) ∧ Below w.heap.size w w' := by
  unfold namedL
  by_cases hW : words.contains (s.data.toList.take (runL isN s.data.toList)) = true
  · rw [if_pos hW]
    exact named_one s w hs _ rfl _ _ (.inl ⟨by rw [ext_bs, isW_bs]; exact hW, rfl, rfl⟩)
  · rw [if_neg hW]
    by_cases hlt : 16 < runL isN s.data.toList
    · rw [if_pos hlt]
      exact named_none s w hs _ rfl (by rw [ext_bs, isW_bs]; simpa using hW) hlt
    · rw [if_neg hlt]
      exact named_one s w hs _ rfl _ _ (.inr ⟨by rw [ext_bs, isW_bs]; simpa using hW, hlt, rfl, rfl⟩)

/-- The library's variable holds an error. -/
def ErrT (w : World) : Prop := ∃ te pe, w.cell? ⟨1, 0, none⟩ = some (.iface te pe)
theorem ErrT.below {w w' : World} (h : ErrT w) (hb : Below w.heap.size w w') : ErrT w' := by
  obtain ⟨te, pe, hc⟩ := h
  exact ⟨te, pe, (hb.cell (p := ⟨1, 0, none⟩) (World.block_lt_of_cell? w _ hc)).trans hc⟩
theorem ErrT.alloc {w : World} (h : ErrT w) (o : Obj) : ErrT (w.alloc o) := h.below ((Below.refl _ _).alloc (Nat.le_refl _) _)
theorem parse_ok (s : ByteArray) (w : World) (hs : s.size ≤ 8192) (hne : s.data.toList ≠ []) (hd : ∀ c ∈ s.data.toList, isD c = true) (hv : digV s.data.toList < 9223372036854775808) :
    Calls Tryz.prog 51 #[.string s, .int .i64 10, .int .i64 64] w fun e w' => e = .returned (.tuple #[.int .i64 (digV s.data.toList), .nilIface]) ∧ Below w.heap.size w w' :=
  (Tryz.strconv_ParseInt_10_at64_ok s (by omega) _ ((parse_digits _ hne hd).1 hv) w).mono fun e w' ⟨he, hw⟩ => ⟨he, by
    rcases hw with rfl | ⟨t, rfl⟩
    · exact Below.refl _ _
    · exact Lib.bytesWorld_below _ _ _⟩
theorem parse_range (s : ByteArray) (w : World) (hs : s.size ≤ 8192) (hne : s.data.toList ≠ []) (hd : ∀ c ∈ s.data.toList, isD c = true) (hv : 9223372036854775808 ≤ digV s.data.toList) (ht : ErrT w) :
    Calls Tryz.prog 51 #[.string s, .int .i64 10, .int .i64 64] w fun e w' => ∃ n a, e = .returned (.tuple #[.int .i64 n, .iface 88 (.pointer (some a))]) ∧ Below w.heap.size w w' := by
  obtain ⟨te, pe, hc⟩ := ht
  exact (Tryz.strconv_ParseInt_10_at64_range s (by omega) ((parse_digits _ hne hd).2 hv) _ w hc (.inr ⟨te, pe, rfl⟩)).mono fun e w' ⟨N, he, _, _, hb⟩ => ⟨_, _, he, hb⟩

/-! Numbers. -/
theorem run_pos {s : ByteArray} (h0 : 0 < s.size) (hd : isD s[0] = true) : 0 < runL isD s.data.toList := by
  have := runL_yes (p := isD) h0 hd
  rw [List.drop_zero] at this
  omega
theorem drop_head {s : ByteArray} {n : Nat} (h : n < s.size) (p : UInt8 → Bool) : headL p (s.data.toList.drop n) = p s[n] := by rw [drop_at h]; rfl
theorem drop_none {s : ByteArray} {n : Nat} (h : s.size ≤ n) (p : UInt8 → Bool) : headL p (s.data.toList.drop n) = false := by
  rw [List.drop_eq_nil_of_le (by simpa using h)]; rfl
theorem number_nought (s : ByteArray) (w : World) (hs : s.size ≤ 8192) (n : Nat) (hN : n = runL isD s.data.toList) (h1 : 1 < n) (h0 : 0 < s.size) (h48 : (s[0].toNat : Int) = 48) :
    Calls Tryz.prog 35 #[.string s] w fun e w' => e = .returned (foundV none) ∧ Below w.heap.size w w' := by
  have hn := runL_le isD s.data.toList
  simp at hn
  have hL := Lib.hid hN
  have hn' : n ≤ s.size := by omega
  clear hN hn
  go_enter Tryz.func35, Tryz.ntmps35
  go_wp2_with (go_at_call 48; refine (run_digit _ _ (by unfold maxLen; omega)).mono ?_; rw [← hL.out]; rintro e w' ⟨rfl, rfl⟩)
  exact bodyPost_ret (v := foundV none) (by simp [results, Tryz.results35, foundV, tk0, go_sem]) rfl ⟨rfl, below_box _ _ _⟩
theorem number_letter (s : ByteArray) (w : World) (hs : s.size ≤ 8192) (n : Nat) (hN : n = runL isD s.data.toList) (hA : ¬ 1 < n ∨ (1 < n ∧ 0 < s.size ∧ ((s[0]!.toNat : Int) == 48) = false)) (h2 : n < s.size) (hl : isL s[n] = true) :
    Calls Tryz.prog 35 #[.string s] w fun e w' => e = .returned (foundV none) ∧ Below w.heap.size w w' := by
  have hn := runL_le isD s.data.toList
  simp at hn
  have hL := Lib.hid hN
  have hl := Lib.hid hl
  have hn' : n ≤ s.size := by omega
  clear hN hn
  rcases hA with h1 | ⟨h1, h0, e48⟩
  all_goals
    (try rw [getElem!_pos s 0 h0] at e48)
    go_enter Tryz.func35, Tryz.ntmps35
    go_wp2_with (first
      | (go_at_call 48; refine (run_digit _ _ (by unfold maxLen; omega)).mono ?_; rw [← hL.out]; rintro e w' ⟨rfl, rfl⟩)
      | (go_at_call 32; refine (letter_any _ _).mono ?_; rw [hl.out]; rintro e w' ⟨rfl, rfl⟩)
      | (go_at_call 47; refine (clone_any _ _ hz').mono ?_; rintro e w1 ⟨rfl, hb⟩; obtain ⟨hx1, hf1, hz1, hB1⟩ := one_box hb; clear hb; have c0 := hx1 0 _ rfl; have c1 := hx1 1 _ rfl; have c2 := hx1 2 _ rfl; have c3 := hx1 3 _ rfl; clear hx1)
      | (go_at_call 51; fail))
    exact bodyPost_ret (v := foundV none) (by simp [results, Tryz.results35, foundV, tk0, go_sem]) rfl ⟨rfl, below_box _ _ _⟩
set_option maxHeartbeats 1600000 in
theorem number_one (s : ByteArray) (w : World) (ht : ErrT w) (hs : s.size ≤ 8192) (n : Nat) (hN : n = runL isD s.data.toList) (hp : 0 < n) (hA : ¬ 1 < n ∨ (1 < n ∧ 0 < s.size ∧ ((s[0]!.toNat : Int) == 48) = false))
    (hB : ¬ n < s.size ∨ (n < s.size ∧ isL s[n]! = false)) (hv : digV (s.data.toList.take n) < 9223372036854775808) :
    Calls Tryz.prog 35 #[.string s] w fun e w' => e = .returned (foundV (some (⟨3, s.data.toList.take n, digV (s.data.toList.take n)⟩, n))) ∧ Below w.heap.size w w' := by
  have hn := runL_le isD s.data.toList
  simp at hn
  have hX := ext_bs s n
  have hz : (s.extract 0 n).size = n := by simp; omega
  have hl0 : (s.extract 0 n).data.toList = s.data.toList.take n := by rw [hX, bs_list]
  have hall : ∀ c ∈ (s.extract 0 n).data.toList, isD c = true := by rw [hl0, hN]; exact take_all isD _
  have hne : (s.extract 0 n).data.toList ≠ [] := by
    intro e
    have h1 : (s.extract 0 n).data.toList.length = n := by simpa using hz
    rw [e] at h1
    simp at h1
    omega
  rw [← hl0] at hv
  have hL := Lib.hid hN
  have hn' : n ≤ s.size := by omega
  have HX := Lib.hid hX
  have hz' : (s.extract 0 n).size ≤ 8192 := by rw [hz]; omega
  have HA := Lib.hid hall
  have HL := Lib.hid hl0
  clear hN hn hz hX hl0 hall
  rcases hA with h1 | ⟨h1, h0, e48⟩ <;> rcases hB with h2 | ⟨h2, hl⟩
  all_goals
    (try rw [getElem!_pos s 0 h0] at e48)
    (try rw [getElem!_pos s n h2] at hl)
    (try have hl := Lib.hid hl)
    go_enter Tryz.func35, Tryz.ntmps35
    go_wp2_with (first
      | (go_at_call 48; refine (run_digit _ _ (by unfold maxLen; omega)).mono ?_; rw [← hL.out]; rintro e w' ⟨rfl, rfl⟩)
      | (go_at_call 32; refine (letter_any _ _).mono ?_; rw [hl.out]; rintro e w' ⟨rfl, rfl⟩)
      | (go_at_call 47; refine (clone_any _ _ hz').mono ?_; rintro e w1 ⟨rfl, hb⟩; obtain ⟨hx1, hf1, hz1, hB1⟩ := one_box hb; clear hb; have c0 := hx1 0 _ rfl; have c1 := hx1 1 _ rfl; have c2 := hx1 2 _ rfl; have c3 := hx1 3 _ rfl; clear hx1)
      | (go_at_call 51; refine (parse_ok _ _ hz' hne HA.out hv).mono ?_; rintro e w2 ⟨rfl, hb⟩; have hB2 := below_next hB1 hb; have d0 := (hb.cell (p := ⟨w.heap.size, 0, none⟩) (by show w.heap.size < _; omega)).trans c0; have d1 := (hb.cell (p := ⟨w.heap.size, 1, none⟩) (by show w.heap.size < _; omega)).trans c1; have d2 := (hb.cell (p := ⟨w.heap.size, 2, none⟩) (by show w.heap.size < _; omega)).trans c2; have d3 := (hb.cell (p := ⟨w.heap.size, 3, none⟩) (by show w.heap.size < _; omega)).trans c3; have hf2 : ∀ i, w2.frozen? ⟨w.heap.size, i, none⟩ = false := (fun i => (hb.frozen (p := ⟨w.heap.size, i, none⟩) (by show w.heap.size < _; omega)).trans (hf1 i)); clear hb))
    exact bodyPost_ret (v := foundV (some (_, _))) (by simp [results, Tryz.results35, foundV, tkV, go_sem, HX.out, d0, d1, d2, d3]) rfl ⟨rfl, four_cells hB2 (Nat.le_refl _) _ _ _ _⟩
set_option maxHeartbeats 1600000 in
theorem number_great (s : ByteArray) (w : World) (ht : ErrT w) (hs : s.size ≤ 8192) (n : Nat) (hN : n = runL isD s.data.toList) (hp : 0 < n) (hA : ¬ 1 < n ∨ (1 < n ∧ 0 < s.size ∧ ((s[0]!.toNat : Int) == 48) = false))
    (hB : ¬ n < s.size ∨ (n < s.size ∧ isL s[n]! = false)) (hv : 9223372036854775808 ≤ digV (s.data.toList.take n)) :
    Calls Tryz.prog 35 #[.string s] w fun e w' => e = .returned (foundV (none)) ∧ Below w.heap.size w w' := by
  have hn := runL_le isD s.data.toList
  simp at hn
  have hX := ext_bs s n
  have hz : (s.extract 0 n).size = n := by simp; omega
  have hl0 : (s.extract 0 n).data.toList = s.data.toList.take n := by rw [hX, bs_list]
  have hall : ∀ c ∈ (s.extract 0 n).data.toList, isD c = true := by rw [hl0, hN]; exact take_all isD _
  have hne : (s.extract 0 n).data.toList ≠ [] := by
    intro e
    have h1 : (s.extract 0 n).data.toList.length = n := by simpa using hz
    rw [e] at h1
    simp at h1
    omega
  rw [← hl0] at hv
  have hL := Lib.hid hN
  have hn' : n ≤ s.size := by omega
  have HX := Lib.hid hX
  have hz' : (s.extract 0 n).size ≤ 8192 := by rw [hz]; omega
  have HA := Lib.hid hall
  have HL := Lib.hid hl0
  clear hN hn hz hX hl0 hall
  rcases hA with h1 | ⟨h1, h0, e48⟩ <;> rcases hB with h2 | ⟨h2, hl⟩
  all_goals
    (try rw [getElem!_pos s 0 h0] at e48)
    (try rw [getElem!_pos s n h2] at hl)
    (try have hl := Lib.hid hl)
    go_enter Tryz.func35, Tryz.ntmps35
    go_wp2_with (first
      | (go_at_call 48; refine (run_digit _ _ (by unfold maxLen; omega)).mono ?_; rw [← hL.out]; rintro e w' ⟨rfl, rfl⟩)
      | (go_at_call 32; refine (letter_any _ _).mono ?_; rw [hl.out]; rintro e w' ⟨rfl, rfl⟩)
      | (go_at_call 47; refine (clone_any _ _ hz').mono ?_; rintro e w1 ⟨rfl, hb⟩; obtain ⟨hx1, hf1, hz1, hB1⟩ := one_box hb; clear hb; have c0 := hx1 0 _ rfl; have c1 := hx1 1 _ rfl; have c2 := hx1 2 _ rfl; have c3 := hx1 3 _ rfl; clear hx1)
      | (go_at_call 51; refine (parse_range _ _ hz' hne HA.out hv (ht.below hB1)).mono ?_; rintro e w2 ⟨nn, aa, rfl, hb⟩; have hB2 := below_next hB1 hb; have d0 := (hb.cell (p := ⟨w.heap.size, 0, none⟩) (by show w.heap.size < _; omega)).trans c0; have d1 := (hb.cell (p := ⟨w.heap.size, 1, none⟩) (by show w.heap.size < _; omega)).trans c1; have d2 := (hb.cell (p := ⟨w.heap.size, 2, none⟩) (by show w.heap.size < _; omega)).trans c2; have d3 := (hb.cell (p := ⟨w.heap.size, 3, none⟩) (by show w.heap.size < _; omega)).trans c3; have hf2 : ∀ i, w2.frozen? ⟨w.heap.size, i, none⟩ = false := (fun i => (hb.frozen (p := ⟨w.heap.size, i, none⟩) (by show w.heap.size < _; omega)).trans (hf1 i)); clear hb))
    exact bodyPost_ret (v := foundV (none)) (by simp [results, Tryz.results35, foundV, tk0, go_sem, d0, d1, d2, d3]) rfl ⟨rfl, four_cells hB2 (Nat.le_refl _) _ _ _ _⟩
theorem number_any (s : ByteArray) (w : World) (ht : ErrT w) (hs : s.size ≤ 8192) (h0 : 0 < s.size) (hd : isD s[0] = true) :
    Calls Tryz.prog 35 #[.string s] w fun e w' => e = .returned (foundV (numberL s.data.toList)) ∧ Below w.heap.size w w' := by
  have hp := run_pos h0 hd
  have hh := head_at h0 (· == 48)
  have e48 : (s[0] == 48) = false → ((s[0]!.toNat : Int) == 48) = false := by
    intro h
    rw [getElem!_pos s 0 h0]
    simp [← UInt8.toNat_inj] at h ⊢
    omega
  unfold numberL
  rw [hh]
  by_cases hA : (decide (1 < runL isD s.data.toList) && s[0] == 48) = true
  · rw [if_pos hA]
    simp only [Bool.and_eq_true, decide_eq_true_eq, beq_iff_eq] at hA
    exact number_nought s w hs _ rfl hA.1 h0 (by rw [hA.2]; rfl)
  · rw [if_neg hA]
    have hA' : ¬ 1 < runL isD s.data.toList ∨ (1 < runL isD s.data.toList ∧ 0 < s.size ∧ ((s[0]!.toNat : Int) == 48) = false) := by
      by_cases h1 : 1 < runL isD s.data.toList
      · refine .inr ⟨h1, h0, e48 ?_⟩
        simpa [h1] using hA
      · exact .inl h1
    by_cases hB : headL isL (s.data.toList.drop (runL isD s.data.toList)) = true
    · rw [if_pos hB]
      rcases Nat.lt_or_ge (runL isD s.data.toList) s.size with h2 | h2
      · rw [drop_head h2] at hB
        exact number_letter s w hs _ rfl hA' h2 hB
      · rw [drop_none h2] at hB; cases hB
    · rw [if_neg hB]
      have hB' : ¬ runL isD s.data.toList < s.size ∨ (runL isD s.data.toList < s.size ∧ isL s[runL isD s.data.toList]! = false) := by
        rcases Nat.lt_or_ge (runL isD s.data.toList) s.size with h2 | h2
        · refine .inr ⟨h2, ?_⟩
          rw [drop_head h2] at hB
          rw [getElem!_pos s _ h2]
          simpa using hB
        · exact .inl (by omega)
      by_cases hv : digV (s.data.toList.take (runL isD s.data.toList)) < 9223372036854775808
      · rw [if_pos hv]
        exact number_one s w ht hs _ rfl hp hA' hB' hv
      · rw [if_neg hv]
        exact number_great s w ht hs _ rfl hp hA' hB' (by omega)
end Go.Proofs.YtihnnbeepfgphaaGreatDoor
