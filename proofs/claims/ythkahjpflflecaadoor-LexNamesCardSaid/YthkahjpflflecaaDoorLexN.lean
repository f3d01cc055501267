/-
  Names, in the program and in the document's reading: walks.
-/
import Derived.Test.YthkahjpflflecaaDoorLexJ
namespace Go.Proofs.YthkahjpflflecaaDoor
open Go.RowKit
set_option linter.unusedVariables false

def nmB (l : List UInt8) : Bool := decide (0 < l.length) && decide (l.length ≤ 16) && headL isL l && decide (runL isN l = l.length) && !words.contains l
theorem ne_nil {s : ByteArray} (h : 0 < s.size) : (s.toList == []) = false ∧ s.toList.isEmpty = false := by
  rw [ByteArray.toList_eq]
  have : s.data.toList.length ≠ 0 := by
    have e : s.data.toList.length = s.size := by simp
    omega
  cases hl : s.data.toList with
  | nil => rw [hl] at this; simp at this
  | cons a r => exact ⟨rfl, rfl⟩
theorem name_empty (w : World) : Calls Tryd.prog 16 #[.string ⟨#[]⟩] w fun e w' => e = .returned (.bool false) ∧ w = w' := by
  go_enter Tryd.func16, Tryd.ntmps16
  go_wp2
  go_ret
  exact ⟨rfl, rfl⟩
theorem name_long (s : ByteArray) (w : World) (h0 : 0 < s.size) (h : 16 < s.size) : Calls Tryd.prog 16 #[.string s] w fun e w' => e = .returned (.bool false) ∧ w = w' := by
  obtain ⟨e1, e2⟩ := ne_nil h0
  have h' : 16 < (s.size : Int) := by omega
  go_enter Tryd.func16, Tryd.ntmps16
  go_wp2
  go_ret
  exact ⟨rfl, rfl⟩
theorem name_digit (s : ByteArray) (w : World) (h0 : 0 < s.size) (h : s.size ≤ 16) (hd : isD s[0] = true) : Calls Tryd.prog 16 #[.string s] w fun e w' => e = .returned (.bool false) ∧ w = w' := by
  obtain ⟨e1, e2⟩ := ne_nil h0
  have hd := Lib.hid hd
  go_enter Tryd.func16, Tryd.ntmps16
  go_wp2_with (go_at_call 23; refine (digit_any _ _).mono ?_; rw [hd.out]; rintro e w' ⟨rfl, rfl⟩)
  go_ret
  exact ⟨rfl, rfl⟩
theorem name_rest (s : ByteArray) (w : World) (h0 : 0 < s.size) (h : s.size ≤ 16) (hd : isD s[0] = false) : Calls Tryd.prog 16 #[.string s] w fun e w' => e = .returned (.bool (decide (runL isN s.data.toList = s.size) && !isW s)) ∧ w = w' := by
  obtain ⟨e1, e2⟩ := ne_nil h0
  have hd := Lib.hid hd
  obtain ⟨n, hn⟩ : ∃ n, runL isN s.data.toList = n := ⟨_, rfl⟩
  obtain ⟨b, hb⟩ : ∃ b, isW s = b := ⟨_, rfl⟩
  have hs : s.size ≤ maxLen := by unfold maxLen; omega
  rw [hn, hb]
  have HN := Lib.hid hn
  have HB := Lib.hid hb
  clear hn hb
  by_cases hz : n = s.size
  · subst hz
    cases b
    all_goals
      go_enter Tryd.func16, Tryd.ntmps16
      go_wp2_with (first
        | (go_at_call 23; refine (digit_any _ _).mono ?_; rw [hd.out]; rintro e w' ⟨rfl, rfl⟩)
        | (go_at_call 24; refine (run_name _ _ hs).mono ?_; rw [HN.out]; rintro e w' ⟨rfl, rfl⟩)
        | (go_at_call 14; refine (word_any _ _).mono ?_; rw [HB.out]; rintro e w' ⟨rfl, rfl⟩))
      go_ret
      exact ⟨ret_bool (by simp), rfl⟩
  · have hz' : ((n : Int) == (s.size : Int)) = false := by simp; omega
    have hz2 : ¬ (n : Int) = (s.size : Int) := by omega
    go_enter Tryd.func16, Tryd.ntmps16
    go_wp2_with (first
      | (go_at_call 23; refine (digit_any _ _).mono ?_; rw [hd.out]; rintro e w' ⟨rfl, rfl⟩)
      | (go_at_call 24; refine (run_name _ _ hs).mono ?_; rw [HN.out]; rintro e w' ⟨rfl, rfl⟩)
      | (go_at_call 14; refine (word_any _ _).mono ?_; rw [HB.out]; rintro e w' ⟨rfl, rfl⟩))
    go_ret
    exact ⟨ret_bool (by simp [hz]), rfl⟩
theorem isW_list (s : ByteArray) : isW s = words.contains s.data.toList := by unfold isW; rw [ByteArray.toList_eq]
theorem empty_of {s : ByteArray} (h : ¬ 0 < s.size) : s = ⟨#[]⟩ := by
  refine ByteArray.ext ?_
  have : s.data.size = 0 := by have : s.data.size = s.size := rfl; omega
  exact Array.eq_empty_of_size_eq_zero this
theorem LD (c : UInt8) : isL c = true → isD c = false := by
  intro h
  simp [isL, isD] at h ⊢
  omega
theorem name_any (s : ByteArray) (w : World) : Calls Tryd.prog 16 #[.string s] w fun e w' => e = .returned (.bool (nmB s.data.toList)) ∧ w = w' := by
  have hl : s.data.toList.length = s.size := by simp
  unfold nmB
  rw [hl]
  by_cases h0 : 0 < s.size
  · rw [head_at h0]
    by_cases h1 : 16 < s.size
    · refine (name_long s w h0 h1).mono fun e w' ⟨he, hw⟩ => ⟨he.trans (ret_bool ?_), hw⟩
      simp; omega
    · cases hd : isD s[0]
      · refine (name_rest s w h0 (by omega) hd).mono fun e w' ⟨he, hw⟩ => ⟨he.trans (ret_bool ?_), hw⟩
        rw [isW_list]
        cases hL : isL s[0]
        · have : runL isN s.data.toList = 0 := by
            have := runL_no (p := isN) h0 (by simp [isN, hL, hd])
            rwa [List.drop_zero] at this
          rw [this]
          simp; omega
        · simp [show s.size ≤ 16 by omega, h0]
      · refine (name_digit s w h0 (by omega) hd).mono fun e w' ⟨he, hw⟩ => ⟨he.trans (ret_bool ?_), hw⟩
        have : isL s[0] = false := by
          cases hL : isL s[0]
          · rfl
          · rw [LD _ hL] at hd; cases hd
        simp [this]
  · obtain rfl := empty_of h0
    exact (name_empty w).mono fun e w' ⟨he, hw⟩ => ⟨he, hw⟩

theorem rname_empty (w : World) : Calls Tryd.prog 17 #[.string ⟨#[]⟩] w fun e w' => e = .returned (.bool false) ∧ w = w' := by
  go_enter Tryd.func17, Tryd.ntmps17
  go_wp2
  go_ret
  exact ⟨rfl, rfl⟩
theorem rname_long (s : ByteArray) (w : World) (h0 : 0 < s.size) (h : 16 < s.size) : Calls Tryd.prog 17 #[.string s] w fun e w' => e = .returned (.bool false) ∧ w = w' := by
  obtain ⟨e1, e2⟩ := ne_nil h0
  have h' : 16 < (s.size : Int) := by omega
  go_enter Tryd.func17, Tryd.ntmps17
  go_wp2
  go_ret
  exact ⟨rfl, rfl⟩
theorem rname_other (s : ByteArray) (w : World) (h0 : 0 < s.size) (h : s.size ≤ 16) (hd : isL s[0] = false ∨ (isL s[0] = true ∧ isW s = true)) : Calls Tryd.prog 17 #[.string s] w fun e w' => e = .returned (.bool false) ∧ w = w' := by
  obtain ⟨e1, e2⟩ := ne_nil h0
  rcases hd with hd | ⟨hd, hw⟩
  · have hd := Lib.hid hd
    go_enter Tryd.func17, Tryd.ntmps17
    go_wp2_with (go_at_call 26; refine (Letter_any _ _).mono ?_; rw [hd.out]; rintro e w' ⟨rfl, rfl⟩)
    go_ret
    exact ⟨rfl, rfl⟩
  · have hd := Lib.hid hd
    have hw := Lib.hid hw
    go_enter Tryd.func17, Tryd.ntmps17
    go_wp2_with (first
      | (go_at_call 26; refine (Letter_any _ _).mono ?_; rw [hd.out]; rintro e w' ⟨rfl, rfl⟩)
      | (go_at_call 15; refine (rword_any _ _).mono ?_; rw [hw.out]; rintro e w' ⟨rfl, rfl⟩))
    go_ret
    exact ⟨rfl, rfl⟩
set_option maxHeartbeats 400000 in
theorem rname_rest (s : ByteArray) (w : World) (h0 : 0 < s.size) (h : s.size ≤ 16) (hd : isL s[0] = true) (hw : isW s = false) : Calls Tryd.prog 17 #[.string s] w fun e w' => e = .returned (.bool (decide (runL isN s.data.toList = s.size))) ∧ w = w' := by
  obtain ⟨e1, e2⟩ := ne_nil h0
  have hd := Lib.hid hd
  have hw := Lib.hid hw
  go_enter Tryd.func17, Tryd.ntmps17
  go_wp2_with (first
    | (go_at_call 26; refine (Letter_any _ _).mono ?_; rw [hd.out]; rintro e w' ⟨rfl, rfl⟩)
    | (go_at_call 15; refine (rword_any _ _).mono ?_; rw [hw.out]; rintro e w' ⟨rfl, rfl⟩))
  go_loop [3] (fun i => ∃ k : Nat, k ≤ s.size ∧ i = .int .i64 k ∧ runL isN (s.data.toList.drop k) + k = runL isN s.data.toList) (fun i => s.size - (intOf i).toNat)
  case atStart => exact ⟨0, Nat.zero_le _, rfl, by simp⟩
  case round =>
    obtain ⟨k, hk, rfl, hr⟩ := hrel
    by_cases hlt : k < s.size
    · cases hp : isL s[k]
      · cases hq : isD s[k]
        · have hn := runL_no (p := isN) hlt (by simp [isN, hp, hq])
          have HP := Lib.hid hp
          have HQ := Lib.hid hq
          have HR := Lib.hid hr
          have HN := Lib.hid hn
          clear hp hr hn hq
          go_wp2_with (first
            | (go_at_call 26; refine (Letter_any _ _).mono ?_; rw [HP.out]; rintro e w' ⟨rfl, rfl⟩)
            | (go_at_call 27; refine (Digit_any _ _).mono ?_; rw [HQ.out]; rintro e w' ⟨rfl, rfl⟩))
          go_ret
          exact ⟨ret_bool (by rw [← HR.out, HN.out]; simp; omega), rfl⟩
        · have hn := runL_yes (p := isN) hlt (by simp [isN, hp, hq])
          have HP := Lib.hid hp
          have HQ := Lib.hid hq
          have HR := Lib.hid hr
          have HN := Lib.hid hn
          clear hp hr hn hq
          go_wp2_with (first
            | (go_at_call 26; refine (Letter_any _ _).mono ?_; rw [HP.out]; rintro e w' ⟨rfl, rfl⟩)
            | (go_at_call 27; refine (Digit_any _ _).mono ?_; rw [HQ.out]; rintro e w' ⟨rfl, rfl⟩))
          go_round
          case rel => exact ⟨k + 1, by omega, by go_num, by rw [← HR.out, HN.out]; omega⟩
          case measure => simp [intOf]; omega
      · have hn := runL_yes (p := isN) hlt (by simp [isN, hp])
        have HP := Lib.hid hp
        have HR := Lib.hid hr
        have HN := Lib.hid hn
        clear hp hr hn
        go_wp2_with (first
          | (go_at_call 26; refine (Letter_any _ _).mono ?_; rw [HP.out]; rintro e w' ⟨rfl, rfl⟩))
        go_round
        case rel => exact ⟨k + 1, by omega, by go_num, by rw [← HR.out, HN.out]; omega⟩
        case measure => simp [intOf]; omega
    · obtain rfl : k = s.size := by omega
      rw [runL_end] at hr
      have HR := Lib.hid hr
      clear hr
      go_wp2
      go_ret
      exact ⟨ret_bool (by rw [← HR.out]; simp), rfl⟩
theorem rname_any (s : ByteArray) (w : World) : Calls Tryd.prog 17 #[.string s] w fun e w' => e = .returned (.bool (nmB s.data.toList)) ∧ w = w' := by
  have hl : s.data.toList.length = s.size := by simp
  unfold nmB
  rw [hl]
  by_cases h0 : 0 < s.size
  · rw [head_at h0]
    by_cases h1 : 16 < s.size
    · refine (rname_long s w h0 h1).mono fun e w' ⟨he, hw⟩ => ⟨he.trans (ret_bool ?_), hw⟩
      simp; omega
    · cases hL : isL s[0]
      · refine (rname_other s w h0 (by omega) (.inl hL)).mono fun e w' ⟨he, hw⟩ => ⟨he.trans (ret_bool ?_), hw⟩
        simp
      · cases hW : isW s
        · refine (rname_rest s w h0 (by omega) hL hW).mono fun e w' ⟨he, hw⟩ => ⟨he.trans (ret_bool ?_), hw⟩
          rw [isW_list] at hW
          rw [hW]
          simp [h0]; omega
        · refine (rname_other s w h0 (by omega) (.inr ⟨hL, hW⟩)).mono fun e w' ⟨he, hw⟩ => ⟨he.trans (ret_bool ?_), hw⟩
          rw [isW_list] at hW
          rw [hW]
          simp
  · obtain rfl := empty_of h0
    exact (rname_empty w).mono fun e w' ⟨he, hw⟩ => ⟨he, hw⟩
end Go.Proofs.YthkahjpflflecaaDoor
