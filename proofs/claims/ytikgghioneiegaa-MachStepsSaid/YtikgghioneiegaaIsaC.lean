/-
  Which instructions may be, and their words, in the program and in the document's reading: walks.
-/
import Derived.Test.YtikgghioneiegaaIsaB
import Derived.WalkKit
import Derived.Lib.Hide
import Derived.Deep.QuietTactic
import Derived.BigQuiet
namespace Go.Proofs.Ytikgghioneiegaa
open Go.RowKit
set_option linter.unusedVariables false

theorem bcell {W w1 : World} (hb : Below W.heap.size W w1) : (∀ b o, b < W.heap.size → w1.cell? ⟨b, o, none⟩ = W.cell? ⟨b, o, none⟩) ∧ (∀ b o, b < W.heap.size → w1.frozen? ⟨b, o, none⟩ = W.frozen? ⟨b, o, none⟩) :=
  ⟨fun b o h => hb.cell (p := ⟨b, o, none⟩) h, fun b o h => hb.frozen (p := ⟨b, o, none⟩) h⟩
theorem ret_bool {a b : Bool} (h : a = b) : Ending.returned (.bool a) = .returned (.bool b) := by rw [h]
theorem ret_bool_w {a b : Bool} {w w' : World} (h : a = b) (hw : w = w') : Ending.returned (.bool a) = .returned (.bool b) ∧ w = w' := by rw [h]; exact ⟨rfl, hw⟩

theorem fitsReg_any (r : Int) (h : Bool) (w : World) :
    Calls Try.prog 78 #[.int .i64 r, .bool h] w fun e w' => e = .returned (.bool (rg h r)) ∧ w = w' := by
  cases h
  · go_enter Try.func78, Try.ntmps78
    go_wp2
    go_ret
    exact ret_bool_w (by rw [rg, if_neg (by simp), Bool.eq_iff_iff]; simp) rfl
  · by_cases h0 : 0 ≤ r
    · go_enter Try.func78, Try.ntmps78
      go_wp2
      go_ret
      exact ret_bool_w (by rw [rg, if_pos rfl, Bool.eq_iff_iff]; simp [h0]) rfl
    · have hd : decide (0 ≤ r) = false := by simpa using h0
      go_enter Try.func78, Try.ntmps78
      go_wp2
      go_ret
      exact ret_bool_w (by rw [rg, if_pos rfl, Bool.eq_iff_iff]; simp; omega) rfl
theorem fitsImm_any (r : Int) (h : Bool) (w : World) :
    Calls Try.prog 79 #[.int .i64 r, .bool h] w fun e w' => e = .returned (.bool (ni h r)) ∧ w = w' := by
  cases h
  · go_enter Try.func79, Try.ntmps79
    go_wp2
    go_ret
    exact ret_bool_w (by rw [ni, if_neg (by simp), Bool.eq_iff_iff]; simp) rfl
  · by_cases h0 : -2147483648 ≤ r
    · go_enter Try.func79, Try.ntmps79
      go_wp2
      go_ret
      exact ret_bool_w (by rw [ni, if_pos rfl, Bool.eq_iff_iff]; simp [h0]) rfl
    · have hd : decide (-2147483648 ≤ r) = false := by simpa using h0
      go_enter Try.func79, Try.ntmps79
      go_wp2
      go_ret
      exact ret_bool_w (by rw [ni, if_pos rfl, Bool.eq_iff_iff]; simp; omega) rfl
theorem reg_any (r : Int) (h : Bool) (w : World) :
    Calls Try.prog 64 #[.bool h, .int .i64 r] w fun e w' => e = .returned (.bool (rg h r)) ∧ w = w' := by
  cases h
  · go_enter Try.func64, Try.ntmps64
    go_wp2
    go_ret
    exact ret_bool_w (by rw [rg, if_neg (by simp), Bool.eq_iff_iff]; simp) rfl
  · by_cases h0 : 0 ≤ r
    · go_enter Try.func64, Try.ntmps64
      go_wp2
      all_goals
        go_ret
        exact ret_bool_w (by rw [rg, if_pos rfl, Bool.eq_iff_iff]; simp [h0] <;> omega) rfl
    · have hd : decide (0 ≤ r) = false := by simpa using h0
      go_enter Try.func64, Try.ntmps64
      go_wp2
      all_goals
        go_ret
        exact ret_bool_w (by rw [rg, if_pos rfl, Bool.eq_iff_iff]; simp; omega) rfl
theorem bit1 (op : Int) : (bits .and .i64 (U op) 1 != 0) = hA op ∧ (bits .and .i64 (U op) 2 != 0) = hB op ∧ (bits .and .i64 (U op) 4 != 0) = hC op := by
  unfold hA hB hC
  have h : U op = 0 ∨ U op = 1 ∨ U op = 3 ∨ U op = 7 := by
    cases hk : K op
    · left; exact U_no hk
    · rcases K_cases hk with rfl | rfl | rfl | rfl | rfl | rfl | rfl | rfl | rfl | rfl | rfl | rfl | rfl | rfl | rfl | rfl | rfl | rfl | rfl | rfl | rfl | rfl | rfl | rfl | rfl | rfl | rfl | rfl | rfl | rfl | rfl | rfl | rfl | rfl | rfl <;> decide +kernel
  rcases h with h | h | h | h <;> rw [h] <;> decide +kernel
/-- fits, where there is no such op. -/
theorem fits_no (op a b c n : Int) (h : K op = false) (w : World) :
    Calls Try.prog 71 #[.agg #[.int .i64 op, .int .i64 a, .int .i64 b, .int .i64 c, .int .i64 n]] w fun e w' => e = .returned (.bool (F op a b c n)) ∧ Below w.heap.size w w' := by
  have hF : F op a b c n = false := by simp [F, h]
  rw [hF]
  go_enter Try.func71, Try.ntmps71
  go_wp2_with (go_at_call 77; refine (uses_any _ _).mono ?_; rintro e w' ⟨rfl, rfl⟩)
  go_ret
  exact ⟨rfl, (Below.refl _ _).alloc (Nat.le_refl _) _⟩
theorem fits_any (op a b c n : Int) (w : World) :
    Calls Try.prog 71 #[.agg #[.int .i64 op, .int .i64 a, .int .i64 b, .int .i64 c, .int .i64 n]] w fun e w' => e = .returned (.bool (F op a b c n)) ∧ Below w.heap.size w w' := by
  cases h : K op
  · exact fits_no op a b c n h w
  obtain ⟨h1, h2, h3⟩ := bit1 op
  cases ha : rg (hA op) a
  · have hF : F op a b c n = false := by simp [F, ha]
    rw [hF]
    clear hF
    go_enter Try.func71, Try.ntmps71
    go_wp2_with (first | (go_at_call 77; refine (uses_any _ _).mono ?_; rintro e w' ⟨rfl, rfl⟩) | (go_at_call 78; refine (fitsReg_any _ _ _).mono ?_; rintro e w' ⟨rfl, rfl⟩) | (go_at_call 79; refine (fitsImm_any _ _ _).mono ?_; rintro e w' ⟨rfl, rfl⟩))
    go_ret
    exact ⟨rfl, (Below.refl _ _).alloc (Nat.le_refl _) _⟩
  cases hb : rg (hB op) b
  · have hF : F op a b c n = false := by simp [F, hb]
    rw [hF]
    clear hF
    go_enter Try.func71, Try.ntmps71
    go_wp2_with (first | (go_at_call 77; refine (uses_any _ _).mono ?_; rintro e w' ⟨rfl, rfl⟩) | (go_at_call 78; refine (fitsReg_any _ _ _).mono ?_; rintro e w' ⟨rfl, rfl⟩) | (go_at_call 79; refine (fitsImm_any _ _ _).mono ?_; rintro e w' ⟨rfl, rfl⟩))
    go_ret
    exact ⟨rfl, (Below.refl _ _).alloc (Nat.le_refl _) _⟩
  cases hc : rg (hC op) c
  · have hF : F op a b c n = false := by simp [F, hc]
    rw [hF]
    clear hF
    go_enter Try.func71, Try.ntmps71
    go_wp2_with (first | (go_at_call 77; refine (uses_any _ _).mono ?_; rintro e w' ⟨rfl, rfl⟩) | (go_at_call 78; refine (fitsReg_any _ _ _).mono ?_; rintro e w' ⟨rfl, rfl⟩) | (go_at_call 79; refine (fitsImm_any _ _ _).mono ?_; rintro e w' ⟨rfl, rfl⟩))
    go_ret
    exact ⟨rfl, (Below.refl _ _).alloc (Nat.le_refl _) _⟩
  have hF : F op a b c n = ni (I op) n := by simp [F, h, ha, hb, hc]
  rw [hF]
  clear hF
  go_enter Try.func71, Try.ntmps71
  go_wp2_with (first | (go_at_call 77; refine (uses_any _ _).mono ?_; rintro e w' ⟨rfl, rfl⟩) | (go_at_call 78; refine (fitsReg_any _ _ _).mono ?_; rintro e w' ⟨rfl, rfl⟩) | (go_at_call 79; refine (fitsImm_any _ _ _).mono ?_; rintro e w' ⟨rfl, rfl⟩))
  go_ret
  exact ⟨rfl, (Below.refl _ _).alloc (Nat.le_refl _) _⟩
/-- The word of an instruction, or none. -/
theorem encode_no (op a b c n : Int) (h : F op a b c n = false) (w : World) :
    Calls Try.prog 65 #[.agg #[.int .i64 op, .int .i64 a, .int .i64 b, .int .i64 c, .int .i64 n]] w fun e w' => e = .returned (.tuple #[.int .i64 0, .int .i64 4]) ∧ Below w.heap.size w w' := by
  go_enter Try.func65, Try.ntmps65
  go_wp2_with (go_at_call 71; refine (fits_any _ _ _ _ _ _).mono ?_; rintro e w' ⟨rfl, hb⟩; obtain ⟨hc, hf⟩ := bcell hb)
  go_ret2
  exact ⟨rfl, ((Below.refl _ _).alloc (Nat.le_refl _) _).trans (hb.mono (by simp))⟩
theorem encode_yes (op a b c n : Int) (h : F op a b c n = true) (w : World) :
    Calls Try.prog 65 #[.agg #[.int .i64 op, .int .i64 a, .int .i64 b, .int .i64 c, .int .i64 n]] w fun e w' => e = .returned (.tuple #[.int .i64 (W op a b c n), .int .i64 0]) ∧ Below w.heap.size w w' := by
  have B := F_bd h
  have hp := Lib.hid (pack B)
  have hm := i64_and32 n
  obtain ⟨o0, o1, a0, a1, b0, b1, c0, c1, n0, n1⟩ := B
  go_enter Try.func65, Try.ntmps65
  go_wp2_with (go_at_call 71; refine (fits_any _ _ _ _ _ _).mono ?_; rintro e w' ⟨rfl, hb⟩; obtain ⟨hc, hf⟩ := bcell hb)
  go_ret2
  refine ⟨?_, ((Below.refl _ _).alloc (Nat.le_refl _) _).trans (hb.mono (by simp))⟩
  rw [← hp.out]
  rfl
theorem U_cases (op : Int) : U op = 0 ∨ U op = 1 ∨ U op = 3 ∨ U op = 7 := by
  cases hk : K op
  · left; exact U_no hk
  · rcases K_cases hk with rfl | rfl | rfl | rfl | rfl | rfl | rfl | rfl | rfl | rfl | rfl | rfl | rfl | rfl | rfl | rfl | rfl | rfl | rfl | rfl | rfl | rfl | rfl | rfl | rfl | rfl | rfl | rfl | rfl | rfl | rfl | rfl | rfl | rfl | rfl <;> decide +kernel
theorem ubd (op : Int) : 0 ≤ U op ∧ U op ≤ 7 := by rcases U_cases op with h | h | h | h <;> rw [h] <;> decide
theorem ubits (op : Int) : (U op % 2 == 1) = hA op ∧ (U op / 2 % 2 == 1) = hB op ∧ decide (4 ≤ U op) = hC op := by
  unfold hA hB hC
  rcases U_cases op with h | h | h | h <;> rw [h] <;> decide +kernel
theorem rencode_no0 (op a b c n : Int) (h : K op = false) (w : World) :
    Calls Try.prog 39 #[.agg #[.int .i64 op, .int .i64 a, .int .i64 b, .int .i64 c, .int .i64 n]] w fun e w' => e = .returned (.tuple #[.int .i64 0, .int .i64 4]) ∧ Below w.heap.size w w' := by
  go_enter Try.func39, Try.ntmps39
  go_wp2_with (first | (go_at_call 63; refine (ruses_any _ _).mono ?_; rintro e w' ⟨rfl, rfl⟩) | (go_at_call 64; refine (reg_any _ _ _).mono ?_; rintro e w' ⟨rfl, rfl⟩))
  go_ret2
  exact ⟨rfl, (Below.refl _ _).alloc (Nat.le_refl _) _⟩
theorem rencode_noA (op a b c n : Int) (h : K op = true) (ha : rg (hA op) a = false) (w : World) :
    Calls Try.prog 39 #[.agg #[.int .i64 op, .int .i64 a, .int .i64 b, .int .i64 c, .int .i64 n]] w fun e w' => e = .returned (.tuple #[.int .i64 0, .int .i64 4]) ∧ Below w.heap.size w w' := by
  obtain ⟨h1, h2, h3⟩ := ubits op
  obtain ⟨u0, u1⟩ := ubd op
  go_enter Try.func39, Try.ntmps39
  go_wp2_with (first | (go_at_call 63; refine (ruses_any _ _).mono ?_; rintro e w' ⟨rfl, rfl⟩) | (go_at_call 64; refine (reg_any _ _ _).mono ?_; rintro e w' ⟨rfl, rfl⟩))
  go_ret2
  exact ⟨rfl, (Below.refl _ _).alloc (Nat.le_refl _) _⟩
theorem rencode_noB (op a b c n : Int) (h : K op = true) (ha : rg (hA op) a = true) (hb : rg (hB op) b = false) (w : World) :
    Calls Try.prog 39 #[.agg #[.int .i64 op, .int .i64 a, .int .i64 b, .int .i64 c, .int .i64 n]] w fun e w' => e = .returned (.tuple #[.int .i64 0, .int .i64 4]) ∧ Below w.heap.size w w' := by
  obtain ⟨h1, h2, h3⟩ := ubits op
  obtain ⟨u0, u1⟩ := ubd op
  go_enter Try.func39, Try.ntmps39
  go_wp2_with (first | (go_at_call 63; refine (ruses_any _ _).mono ?_; rintro e w' ⟨rfl, rfl⟩) | (go_at_call 64; refine (reg_any _ _ _).mono ?_; rintro e w' ⟨rfl, rfl⟩))
  go_ret2
  exact ⟨rfl, (Below.refl _ _).alloc (Nat.le_refl _) _⟩
theorem rencode_noC (op a b c n : Int) (h : K op = true) (ha : rg (hA op) a = true) (hb : rg (hB op) b = true) (hc : rg (hC op) c = false) (w : World) :
    Calls Try.prog 39 #[.agg #[.int .i64 op, .int .i64 a, .int .i64 b, .int .i64 c, .int .i64 n]] w fun e w' => e = .returned (.tuple #[.int .i64 0, .int .i64 4]) ∧ Below w.heap.size w w' := by
  obtain ⟨h1, h2, h3⟩ := ubits op
  obtain ⟨u0, u1⟩ := ubd op
  go_enter Try.func39, Try.ntmps39
  go_wp2_with (first | (go_at_call 63; refine (ruses_any _ _).mono ?_; rintro e w' ⟨rfl, rfl⟩) | (go_at_call 64; refine (reg_any _ _ _).mono ?_; rintro e w' ⟨rfl, rfl⟩))
  go_ret2
  exact ⟨rfl, (Below.refl _ _).alloc (Nat.le_refl _) _⟩
theorem rencode_noI (op a b c n : Int) (h : K op = true) (ha : rg (hA op) a = true) (hb : rg (hB op) b = true) (hc : rg (hC op) c = true) (hi : I op = false) (hn : (n == 0) = false) (w : World) :
    Calls Try.prog 39 #[.agg #[.int .i64 op, .int .i64 a, .int .i64 b, .int .i64 c, .int .i64 n]] w fun e w' => e = .returned (.tuple #[.int .i64 0, .int .i64 4]) ∧ Below w.heap.size w w' := by
  obtain ⟨h1, h2, h3⟩ := ubits op
  obtain ⟨u0, u1⟩ := ubd op
  have hn' : (n != 0) = true := by simp [bne, hn]
  clear hn
  go_enter Try.func39, Try.ntmps39
  go_wp2_with (first | (go_at_call 63; refine (ruses_any _ _).mono ?_; rintro e w' ⟨rfl, rfl⟩) | (go_at_call 64; refine (reg_any _ _ _).mono ?_; rintro e w' ⟨rfl, rfl⟩))
  go_ret2
  exact ⟨rfl, (Below.refl _ _).alloc (Nat.le_refl _) _⟩
theorem rencode_noL (op a b c n : Int) (h : K op = true) (ha : rg (hA op) a = true) (hb : rg (hB op) b = true) (hc : rg (hC op) c = true) (hi : I op = true) (hn : decide (n < -2147483648) = true) (w : World) :
    Calls Try.prog 39 #[.agg #[.int .i64 op, .int .i64 a, .int .i64 b, .int .i64 c, .int .i64 n]] w fun e w' => e = .returned (.tuple #[.int .i64 0, .int .i64 4]) ∧ Below w.heap.size w w' := by
  obtain ⟨h1, h2, h3⟩ := ubits op
  obtain ⟨u0, u1⟩ := ubd op
  go_enter Try.func39, Try.ntmps39
  go_wp2_with (first | (go_at_call 63; refine (ruses_any _ _).mono ?_; rintro e w' ⟨rfl, rfl⟩) | (go_at_call 64; refine (reg_any _ _ _).mono ?_; rintro e w' ⟨rfl, rfl⟩))
  go_ret2
  exact ⟨rfl, (Below.refl _ _).alloc (Nat.le_refl _) _⟩
theorem rencode_noM (op a b c n : Int) (h : K op = true) (ha : rg (hA op) a = true) (hb : rg (hB op) b = true) (hc : rg (hC op) c = true) (hi : I op = true) (hl : decide (n < -2147483648) = false) (hn : decide (2147483647 < n) = true) (w : World) :
    Calls Try.prog 39 #[.agg #[.int .i64 op, .int .i64 a, .int .i64 b, .int .i64 c, .int .i64 n]] w fun e w' => e = .returned (.tuple #[.int .i64 0, .int .i64 4]) ∧ Below w.heap.size w w' := by
  obtain ⟨h1, h2, h3⟩ := ubits op
  obtain ⟨u0, u1⟩ := ubd op
  go_enter Try.func39, Try.ntmps39
  go_wp2_with (first | (go_at_call 63; refine (ruses_any _ _).mono ?_; rintro e w' ⟨rfl, rfl⟩) | (go_at_call 64; refine (reg_any _ _ _).mono ?_; rintro e w' ⟨rfl, rfl⟩))
  go_ret2
  exact ⟨rfl, (Below.refl _ _).alloc (Nat.le_refl _) _⟩
theorem rencode_no (op a b c n : Int) (h : F op a b c n = false) (w : World) :
    Calls Try.prog 39 #[.agg #[.int .i64 op, .int .i64 a, .int .i64 b, .int .i64 c, .int .i64 n]] w fun e w' => e = .returned (.tuple #[.int .i64 0, .int .i64 4]) ∧ Below w.heap.size w w' := by
  cases hk : K op
  · exact rencode_no0 op a b c n hk w
  cases ha : rg (hA op) a
  · exact rencode_noA op a b c n hk ha w
  cases hb : rg (hB op) b
  · exact rencode_noB op a b c n hk ha hb w
  cases hc : rg (hC op) c
  · exact rencode_noC op a b c n hk ha hb hc w
  have hn : ni (I op) n = false := by simpa [F, hk, ha, hb, hc] using h
  cases hi : I op
  · exact rencode_noI op a b c n hk ha hb hc hi (by rw [hi] at hn; simpa [ni] using hn) w
  · by_cases hl : n < -2147483648
    · exact rencode_noL op a b c n hk ha hb hc hi (by simpa using hl) w
    · exact rencode_noM op a b c n hk ha hb hc hi (by simpa using hl) (by rw [hi] at hn; simp [ni] at hn; simp; omega) w
theorem rencode_yes (op a b c n : Int) (h : F op a b c n = true) (w : World) :
    Calls Try.prog 39 #[.agg #[.int .i64 op, .int .i64 a, .int .i64 b, .int .i64 c, .int .i64 n]] w fun e w' => e = .returned (.tuple #[.int .i64 (W op a b c n), .int .i64 0]) ∧ Below w.heap.size w w' := by
  obtain ⟨hk, ha, hb, hc, hn⟩ := F_parts h
  obtain ⟨o0, o1, a0, a1, b0, b1, c0, c1, n0, n1⟩ := F_bd h
  clear h
  obtain ⟨h1, h2, h3⟩ := ubits op
  obtain ⟨u0, u1⟩ := ubd op
  cases hi : I op
  · have e0 : n = 0 := by rw [hi] at hn; simpa [ni] using hn
    clear hn
    subst e0
    go_enter Try.func39, Try.ntmps39
    go_wp2_with (first | (go_at_call 63; refine (ruses_any _ _).mono ?_; rintro e w' ⟨rfl, rfl⟩) | (go_at_call 64; refine (reg_any _ _ _).mono ?_; rintro e w' ⟨rfl, rfl⟩))
    go_ret2
    refine ⟨?_, (Below.refl _ _).alloc (Nat.le_refl _) _⟩
    show Ending.returned (.tuple #[_, _]) = _
    unfold W
    simp
    try omega
  · clear hn
    have d1 : decide (n < -2147483648) = false := by simp; omega
    have d2 : decide (2147483647 < n) = false := by simp; omega
    by_cases hz : n < 0
    · go_enter Try.func39, Try.ntmps39
      go_wp2_with (first | (go_at_call 63; refine (ruses_any _ _).mono ?_; rintro e w' ⟨rfl, rfl⟩) | (go_at_call 64; refine (reg_any _ _ _).mono ?_; rintro e w' ⟨rfl, rfl⟩))
      go_ret2
      refine ⟨?_, (Below.refl _ _).alloc (Nat.le_refl _) _⟩
      show Ending.returned (.tuple #[_, _]) = _
      unfold W
      simp
      try omega
    · go_enter Try.func39, Try.ntmps39
      go_wp2_with (first | (go_at_call 63; refine (ruses_any _ _).mono ?_; rintro e w' ⟨rfl, rfl⟩) | (go_at_call 64; refine (reg_any _ _ _).mono ?_; rintro e w' ⟨rfl, rfl⟩))
      go_ret2
      refine ⟨?_, (Below.refl _ _).alloc (Nat.le_refl _) _⟩
      show Ending.returned (.tuple #[_, _]) = _
      unfold W
      simp
      try omega
end Go.Proofs.Ytikgghioneiegaa
