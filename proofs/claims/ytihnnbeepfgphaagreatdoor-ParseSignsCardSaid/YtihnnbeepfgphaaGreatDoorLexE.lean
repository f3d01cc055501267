/-
  Blanks, remarks: walks.
-/
import Derived.Test.YtihnnbeepfgphaaGreatDoorLexD
namespace Go.Proofs.YtihnnbeepfgphaaGreatDoor
open Go.RowKit
set_option linter.unusedVariables false
set_option linter.unusedSimpArgs false

theorem drop_at {s : ByteArray} {k : Nat} (hk : k < s.size) : s.data.toList.drop k = s[k] :: s.data.toList.drop (k + 1) := List.drop_eq_getElem_cons (by simpa using hk)
theorem ext_list (s : ByteArray) (a b : Nat) : (s.extract a b).data.toList = (s.data.toList.drop a).take (b - a) := by
  simp [ByteArray.data_extract, List.take_drop]
theorem ext_end (s : ByteArray) (a : Nat) : (s.extract a s.size).data.toList = s.data.toList.drop a := by
  rw [ext_list, List.take_of_length_le (by simp)]
theorem ne_byte (c d : UInt8) : ((c.toNat : Int) != (d.toNat : Int)) = (c != d) := by
  rw [Bool.eq_iff_iff]
  simp [bne_iff_ne, ← UInt8.toNat_inj]
  omega
theorem has_pre2 (l : List UInt8) : Lib.hasPrefix l [47, 47] = pre2 l := by
  match l with
  | [] => rfl
  | [a] => simp [Lib.hasPrefix, pre2, List.isPrefixOf]
  | a :: b :: r => simp [Lib.hasPrefix, pre2, List.isPrefixOf, Bool.beq_comm (a := (47 : UInt8))]
theorem gap_remark {s : ByteArray} {k : Nat} (hk : k < s.size) : gapL true (s.data.toList.drop k) = 1 + gapL (s[k] != 10) (s.data.toList.drop (k + 1)) := by rw [drop_at hk]; rfl
theorem gap_plain {s : ByteArray} {k : Nat} (hk : k < s.size) : gapL false (s.data.toList.drop k) = if pre2 (s.data.toList.drop k) then 1 + gapL true (s.data.toList.drop (k + 1)) else if isB s[k] then 1 + gapL false (s.data.toList.drop (k + 1)) else 0 := by rw [drop_at hk]; rfl
theorem gap_end (b : Bool) (s : ByteArray) : gapL b (s.data.toList.drop s.size) = 0 := by
  rw [List.drop_eq_nil_of_le (by simp)]; cases b <;> rfl
theorem prefix_at (s : ByteArray) (k : Nat) (w : World) :
    Calls Tryz.prog 30 #[.string (s.extract k s.size), .string ⟨#[47, 47]⟩] w fun e w' => e = .returned (.bool (pre2 (s.data.toList.drop k))) ∧ w = w' :=
  (Tryz.strings_HasPrefix _ _ w).mono fun e w' ⟨he, hw⟩ => ⟨by rw [he, ext_end]; exact ret_bool (has_pre2 _), hw.symm⟩

set_option maxHeartbeats 400000 in
theorem gap_any (s : ByteArray) (w : World) (hs : s.size ≤ maxLen) : Calls Tryz.prog 22 #[.string s] w fun e w' => e = .returned (.int .i64 (gapL false s.data.toList)) ∧ w = w' := by
  unfold maxLen at hs
  go_enter Tryz.func22, Tryz.ntmps22
  go_wp2
  go_loop [3, 7] (fun m i => ∃ (b : Bool) (k : Nat), k ≤ s.size ∧ m = .bool b ∧ i = .int .i64 k ∧ gapL b (s.data.toList.drop k) + k = gapL false s.data.toList) (fun _ i => s.size - (intOf i).toNat)
  case atStart => exact ⟨false, 0, Nat.zero_le _, rfl, rfl, by simp⟩
  case round =>
    obtain ⟨b, k, hk, rfl, rfl, hr⟩ := hrel
    by_cases hlt : k < s.size
    · cases b
      · have hp := gap_plain hlt
        cases h1 : pre2 (s.data.toList.drop k)
        · cases h2 : isB s[k]
          · rw [h1, h2] at hp
            have HP := Lib.hid hp
            have HR := Lib.hid hr
            have H1 := Lib.hid h1
            have H2 := Lib.hid h2
            clear hp hr h1 h2
            go_wp2_with (first
              | (go_at_call 30; refine (prefix_at _ _ _).mono ?_; rw [H1.out]; rintro e w' ⟨rfl, rfl⟩)
              | (go_at_call 31; refine (blank_any _ _).mono ?_; rw [H2.out]; rintro e w' ⟨rfl, rfl⟩))
            go_ret
            exact ⟨ret_int (by rw [← HR.out, HP.out]; simp), rfl⟩
          · rw [h1, h2] at hp
            have HP := Lib.hid hp
            have HR := Lib.hid hr
            have H1 := Lib.hid h1
            have H2 := Lib.hid h2
            clear hp hr h1 h2
            go_wp2_with (first
              | (go_at_call 30; refine (prefix_at _ _ _).mono ?_; rw [H1.out]; rintro e w' ⟨rfl, rfl⟩)
              | (go_at_call 31; refine (blank_any _ _).mono ?_; rw [H2.out]; rintro e w' ⟨rfl, rfl⟩))
            go_round
            case rel => exact ⟨false, k + 1, by omega, rfl, by go_num, by have := HP.out; simp at this; rw [← HR.out]; omega⟩
            case measure => simp [intOf]; omega
        · rw [h1] at hp
          have HP := Lib.hid hp
          have HR := Lib.hid hr
          have H1 := Lib.hid h1
          clear hp hr h1
          go_wp2_with (first
            | (go_at_call 30; refine (prefix_at _ _ _).mono ?_; rw [H1.out]; rintro e w' ⟨rfl, rfl⟩))
          go_round
          case rel => exact ⟨true, k + 1, by omega, rfl, by go_num, by have := HP.out; simp at this; rw [← HR.out]; omega⟩
          case measure => simp [intOf]; omega
      · have hp := gap_remark hlt
        have HP := Lib.hid hp
        have HR := Lib.hid hr
        clear hp hr
        go_wp2
        go_round
        case rel => exact ⟨s[k] != 10, k + 1, by omega, by rw [← ne_byte]; rfl, by go_num, by have := HP.out; rw [← HR.out]; omega⟩
        case measure => simp [intOf]; omega
    · obtain rfl : k = s.size := by omega
      rw [gap_end] at hr
      have HR := Lib.hid hr
      clear hr
      go_wp2
      go_ret
      exact ⟨ret_int (by rw [← HR.out]; omega), rfl⟩
end Go.Proofs.YtihnnbeepfgphaaGreatDoor
