/-
  The document's blanks and signs: walks.
-/
import Derived.Test.YthkahjpflflecaaDoorLexP
namespace Go.Proofs.YthkahjpflflecaaDoor
open Go.RowKit
set_option linter.unusedVariables false

theorem gap_cases {s : ByteArray} {k : Nat} (hk : k < s.size) :
    (isB s[k] = true ∧ gapL false (s.data.toList.drop k) = 1 + gapL false (s.data.toList.drop (k + 1))) ∨
    (isB s[k] = false ∧ pre2 (s.data.toList.drop k) = false ∧ gapL false (s.data.toList.drop k) = 0) ∨
    (isB s[k] = false ∧ ∃ h : k + 1 < s.size, s[k] = 47 ∧ s[k + 1] = 47 ∧ gapL false (s.data.toList.drop k) = gapL true (s.data.toList.drop k)) := by
  have hg := gap_plain hk
  cases hB : isB s[k] with
  | true =>
    have hp : pre2 (s.data.toList.drop k) = false := by
      rw [drop_at hk]
      cases hd : s.data.toList.drop (k + 1) with
      | nil => rfl
      | cons a r =>
        have : s[k] ≠ 47 := by rintro e; rw [e] at hB; exact absurd hB (by decide)
        simp [pre2, this]
    rw [hp, hB] at hg
    exact .inl ⟨rfl, by simpa using hg⟩
  | false =>
    cases hp : pre2 (s.data.toList.drop k) with
    | false =>
      rw [hp, hB] at hg
      exact .inr (.inl ⟨rfl, rfl, by simpa using hg⟩)
    | true =>
      have hl1 : k + 1 < s.size := by
        rw [drop_at hk] at hp
        rcases Nat.lt_or_ge (k + 1) s.size with h | h
        · exact h
        · rw [List.drop_eq_nil_of_le (by simpa using h)] at hp; cases hp
      have h47 : s[k] = 47 ∧ s[k + 1] = 47 := by
        rw [drop_at hk, drop_at hl1] at hp
        simpa [pre2] using hp
      refine .inr (.inr ⟨rfl, hl1, h47.1, h47.2, ?_⟩)
      rw [hp] at hg
      rw [gap_remark hk, h47.1]
      have : ((47 : UInt8) != 10) = true := by decide
      rw [this]
      simpa using hg
theorem notB {c : UInt8} (h : isB c = false) : ((c.toNat : Int) == 32) = false ∧ ((c.toNat : Int) == 9) = false ∧ ((c.toNat : Int) == 10) = false ∧ ((c.toNat : Int) == 13) = false := by
  simp [isB] at h ⊢
  omega
set_option maxHeartbeats 1000000 in
theorem rblank_any (s : ByteArray) (p : Nat) (w : World) (hs : s.size ≤ maxLen) (hp : p ≤ s.size) :
    Calls Tryd.prog 35 #[.string s, .int .i64 p] w fun e w' => e = .returned (.int .i64 ((p + gapL false (s.data.toList.drop p) : Nat) : Int)) ∧ w = w' := by
  unfold maxLen at hs
  obtain ⟨E, hE⟩ : ∃ E, p + gapL false (s.data.toList.drop p) = E := ⟨_, rfl⟩
  rw [hE]
  have HE := Lib.hid hE
  clear hE
  go_enter Tryd.func35, Tryd.ntmps35
  go_wp2
  go_loop [1] (fun i => ∃ k : Nat, k ≤ s.size ∧ i = .int .i64 k ∧ k + gapL false (s.data.toList.drop k) = E) (fun i => s.size - (intOf i).toNat)
  case atStart => exact ⟨p, hp, rfl, HE.out⟩
  case round =>
    obtain ⟨k, hk, rfl, hr⟩ := hrel
    by_cases hlt : k < s.size
    · have hb0 : 0 ≤ (s[k].toNat : Int) ∧ (s[k].toNat : Int) ≤ 255 := by have := s[k].toNat_lt; omega
      rcases gap_cases hlt with ⟨hB, hg⟩ | ⟨hB, hpr, hg⟩ | ⟨hB, hl1, e1, e2, hg⟩
      · have HR := Lib.hid (show k + 1 + gapL false (s.data.toList.drop (k + 1)) = E by omega)
        have hB' : (s[k].toNat : Int) = 32 ∨ (s[k].toNat : Int) = 9 ∨ (s[k].toNat : Int) = 10 ∨ (s[k].toNat : Int) = 13 := by simpa [isB] using hB
        clear hr hg hB hb0
        rcases hB' with h | h | h | h
        all_goals
          go_wp2
          go_round
          case rel => exact ⟨k + 1, by omega, by go_num, HR.out⟩
          case measure => simp [intOf]; omega
      · obtain ⟨n32, n9, n10, n13⟩ := notB hB
        have HR := Lib.hid (show k = E by omega)
        by_cases h47 : s[k] = 47
        · have y1 : ((s[k].toNat : Int) != 47) = false := by rw [h47]; rfl
          by_cases hl1 : k + 1 < s.size
          · have y2 : ((s[k + 1].toNat : Int) != 47) = true := by
              have h2 : s[k + 1] ≠ 47 := by
                intro e
                rw [drop_at hlt, drop_at hl1, h47, e] at hpr
                exact absurd hpr (by simp [pre2])
              simpa using byte_ne (d := 47) h2
            clear hr hg hB hpr hb0 h47
            go_wp2
            go_ret
            exact ⟨ret_int (by rw [← HR.out]), rfl⟩
          · have hl1' : (s.size : Int) ≤ (k : Int) + 1 := by omega
            clear hr hg hB hpr hb0 h47
            go_wp2
            go_ret
            exact ⟨ret_int (by rw [← HR.out]), rfl⟩
        · have y1 : ((s[k].toNat : Int) != 47) = true := by simpa using byte_ne (d := 47) h47
          clear hr hg hB hpr hb0 h47
          go_wp2
          go_ret
          exact ⟨ret_int (by rw [← HR.out]), rfl⟩
      · obtain ⟨n32, n9, n10, n13⟩ := notB hB
        have y1 : ((s[k].toNat : Int) != 47) = false := by rw [e1]; rfl
        have y2 : ((s[k + 1].toNat : Int) != 47) = false := by rw [e2]; rfl
        have HK := Lib.hid (show k + gapL true (s.data.toList.drop k) = E by omega)
        have E1 := Lib.hid e1
        have dl : decide ((s.size : Int) ≤ (k : Int) + 1) = false := by simp; omega
        clear hr hg hB hb0 e1 e2
        go_wp2
        go_loop [1] (fun i => ∃ j : Nat, k ≤ j ∧ j ≤ s.size ∧ i = .int .i64 j ∧ j + gapL true (s.data.toList.drop j) = E) (fun i => s.size - (intOf i).toNat)
        case atStart => exact ⟨k, Nat.le_refl _, by omega, rfl, HK.out⟩
        case round =>
          obtain ⟨j, hkj, hj, rfl, hr⟩ := hrel
          by_cases hjl : j < s.size
          · have hc0 : 0 ≤ (s[j].toNat : Int) ∧ (s[j].toNat : Int) ≤ 255 := by have := s[j].toNat_lt; omega
            by_cases h10 : s[j] = 10
            · have hne : k < j := by
                rcases Nat.lt_or_ge k j with h | h
                · exact h
                · obtain rfl : j = k := by omega
                  have := E1.out
                  rw [this] at h10; exact absurd h10 (by decide)
              have y10 : ((s[j].toNat : Int) != 10) = false := by rw [h10]; rfl
              have hG : j + gapL false (s.data.toList.drop j) = E := by
                rw [gap_remark hjl, h10] at hr
                rw [gap_plain hjl, h10]
                have : pre2 (s.data.toList.drop j) = false := by
                  rw [drop_at hjl, h10]
                  cases s.data.toList.drop (j + 1) <;> rfl
                rw [this]
                simp [isB] at hr ⊢
                omega
              have HG := Lib.hid hG
              clear hr h10 hc0 hG HK
              go_wp2
              go_round
              case rel => exact ⟨j, by omega, rfl, HG.out⟩
              case measure => simp [intOf]; omega
            · have y10 : ((s[j].toNat : Int) != 10) = true := by simpa using byte_ne (d := 10) h10
              have hG : j + 1 + gapL true (s.data.toList.drop (j + 1)) = E := by
                rw [gap_remark hjl] at hr
                have : (s[j] != 10) = true := by simpa using h10
                rw [this] at hr
                omega
              have HG := Lib.hid hG
              clear hr h10 hc0 hG HK
              go_wp2
              go_round
              case rel => exact ⟨j + 1, by omega, by omega, by go_num, HG.out⟩
              case measure => simp [intOf]; omega
          · obtain rfl : j = s.size := by omega
            have HG := Lib.hid (show s.size + gapL false (s.data.toList.drop s.size) = E by rw [gap_end] at hr ⊢; exact hr)
            clear hr HK
            go_wp2
            go_round
            case rel => exact ⟨s.size, Nat.le_refl _, rfl, HG.out⟩
            case measure => simp [intOf]; omega
    · obtain rfl : k = s.size := by omega
      rw [gap_end] at hr
      have HR := Lib.hid hr
      clear hr
      go_wp2
      go_ret
      exact ⟨ret_int (by rw [← HR.out]; simp), rfl⟩

/-! Signs. -/
theorem ext2_at (s : ByteArray) (k : Nat) : (s.extract k (k + 2)).toList = (s.data.toList.drop k).take 2 := by
  rw [ByteArray.toList_eq, ext_list]; congr 1; omega
theorem two_at {s : ByteArray} {k : Nat} (h : doubles.contains ((s.data.toList.drop k).take 2) = true) : k + 1 < s.size := by
  rcases Nat.lt_or_ge (k + 1) s.size with h1 | h1
  · exact h1
  · have : ((s.data.toList.drop k).take 2).length ≤ 1 := by simp; omega
    match (s.data.toList.drop k).take 2, this, h with
    | [], _, h => exact absurd h (by decide)
    | [a], _, h => simp [doubles] at h
theorem rsign_none (s : ByteArray) (k : Nat) (w : World) (hs : s.size ≤ 8192) (hk : k < s.size) (h : doubles.contains ((s.data.toList.drop k).take 2) = false) (hl : singles.contains s[k] = false) :
    Calls Tryd.prog 44 #[.string s, .int .i64 k] w fun e w' => e = .returned (.string (bs [])) ∧ w = w' := by
  rw [← ext2_at] at h
  obtain ⟨d0, d1, d2, d3, d4, d5, d6⟩ := dbl_no h
  clear h
  obtain ⟨e0, e1, e2, e3, e4, e5, e6, e7, e8, e9, e10, e11, e12, e13, e14, e15, e16, e17, e18, e19⟩ := sgl_no hl
  clear hl
  by_cases hz : k + 1 < s.size
  all_goals
    go_enter Tryd.func44, Tryd.ntmps44
    go_wp2
    go_ret
    exact ⟨rfl, rfl⟩
set_option maxHeartbeats 4000000 in
theorem rsign_one (s : ByteArray) (k : Nat) (w : World) (hs : s.size ≤ 8192) (hk : k < s.size) (h : doubles.contains ((s.data.toList.drop k).take 2) = false) (hl : singles.contains s[k] = true) :
    Calls Tryd.prog 44 #[.string s, .int .i64 k] w fun e w' => e = .returned (.string (s.extract k (k + 1))) ∧ w = w' := by
  rw [← ext2_at] at h
  obtain ⟨d0, d1, d2, d3, d4, d5, d6⟩ := dbl_no h
  clear h
  rcases sgl_yes hl with h | h | h | h | h | h | h | h | h | h | h | h | h | h | h | h | h | h | h | h
  all_goals
    clear hl
    by_cases hz : k + 1 < s.size
    all_goals
      go_enter Tryd.func44, Tryd.ntmps44
      go_wp2
      go_ret
      exact ⟨rfl, rfl⟩
set_option maxHeartbeats 1000000 in
theorem rsign_two (s : ByteArray) (k : Nat) (w : World) (hs : s.size ≤ 8192) (h : doubles.contains ((s.data.toList.drop k).take 2) = true) :
    Calls Tryd.prog 44 #[.string s, .int .i64 k] w fun e w' => e = .returned (.string (s.extract k (k + 2))) ∧ w = w' := by
  have hz := two_at h
  rw [← ext2_at] at h
  rcases dbl_yes h with hd | hd | hd | hd | hd | hd | hd
  all_goals
    clear h
    go_enter Tryd.func44, Tryd.ntmps44
    go_wp2
    go_ret
    exact ⟨rfl, rfl⟩
theorem rsign_any (s : ByteArray) (k : Nat) (w : World) (hs : s.size ≤ 8192) (hk : k < s.size) :
    Calls Tryd.prog 44 #[.string s, .int .i64 k] w fun e w' => e = .returned (.string (bs ((s.data.toList.drop k).take (signN (s.data.toList.drop k))))) ∧ w = w' := by
  unfold signN
  rw [drop_head hk]
  cases h : doubles.contains ((s.data.toList.drop k).take 2)
  · cases hl : singles.contains s[k]
    · exact rsign_none s k w hs hk h hl
    · have := rsign_one s k w hs hk h hl
      rw [ext_cut] at this
      exact this
  · have := rsign_two s k w hs h
    rw [ext_cut] at this
    exact this
end Go.Proofs.YthkahjpflflecaaDoor
