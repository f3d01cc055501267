/-
  The document's numbers: a walk.
-/
import Derived.Test.YthkahjpflflecaaDoorLexRA
namespace Go.Proofs.YthkahjpflflecaaDoor
open Go.RowKit
set_option linter.unusedVariables false

def rnumV (p : Nat) : Option (Tk × Nat) → Value
  | none => .tuple #[tk0, .bool false]
  | some (t, _) => .tuple #[tkV t p, .bool true]
theorem take_at {s : ByteArray} {p m : Nat} (h : p + m < s.size) : (s.data.toList.drop p).take (m + 1) = (s.data.toList.drop p).take m ++ [s[p + m]] := by
  have hl : m < (s.data.toList.drop p).length := by simp; omega
  rw [List.take_succ_eq_append_getElem hl]
  congr 2
  simp
  rfl
theorem digV_snoc (l : List UInt8) (c : UInt8) : digV (l ++ [c]) = digV l * 10 + (c.toNat - 48) := by
  unfold digV; rw [List.foldl_append]; rfl
theorem digV_take (l : List UInt8) (m n : Nat) (h : m ≤ n) : digV (l.take m) ≤ digV (l.take n) := by
  have e : l.take n = l.take m ++ (l.drop m).take (n - m) := by
    rw [show n = m + (n - m) by omega, List.take_add]
    simp
  rw [e]
  unfold digV
  rw [List.foldl_append]
  exact dfold_le _ _
set_option maxRecDepth 100000 in
set_option maxHeartbeats 4000000 in
theorem rnumber_any (s : ByteArray) (p : Nat) (w : World) (hs : s.size ≤ 8192) (hp : p < s.size) (hd : isD s[p] = true) :
    Calls Tryd.prog 42 #[.string s, .int .i64 p] w fun e w' => e = .returned (rnumV p (numberL (s.data.toList.drop p))) ∧ Below w.heap.size w w' := by
  have hrun := runL_le isD (s.data.toList.drop p)
  simp only [List.length_drop, Array.length_toList, ByteArray.size_data] at hrun
  obtain ⟨N, hN⟩ : ∃ N, runL isD (s.data.toList.drop p) = N := ⟨_, rfl⟩
  obtain ⟨o, ho⟩ : ∃ o, numberL (s.data.toList.drop p) = o := ⟨_, rfl⟩
  have ho2 := ho
  unfold numberL at ho2
  rw [hN] at ho2 hrun
  rw [ho]
  have hN0 : 0 < N := by
    have := runL_yes (p := isD) hp hd
    omega
  have HN := Lib.hid hN
  have HO2 := Lib.hid ho2
  have HP := Lib.hid hd
  clear hN ho ho2 hd
  go_enter Tryd.func42, Tryd.ntmps42
  go_wp2
  go_loop [6, 7] (fun i v => ∃ m : Nat, p + m ≤ s.size ∧ i = .int .i64 ((p + m : Nat) : Int) ∧ m + runL isD (s.data.toList.drop (p + m)) = N ∧ v = .int .i64 (digV ((s.data.toList.drop p).take m)) ∧ digV ((s.data.toList.drop p).take m) < 9223372036854775808) (fun i _ => s.size - (intOf i).toNat)
  case atStart => exact ⟨0, by omega, by go_num, by rw [Nat.add_zero]; have := HN.out; omega, rfl, by rw [List.take_zero]; decide⟩
  case round =>
    obtain ⟨m, hm, rfl, hr, rfl, hv⟩ := hrel
    obtain ⟨V, hV⟩ : ∃ V, digV ((s.data.toList.drop p).take m) = V := ⟨_, rfl⟩
    rw [hV] at hv ⊢
    obtain ⟨j, hj⟩ : ∃ j, p + m = j := ⟨_, rfl⟩
    rw [hj] at hr hm ⊢
    have j0 : (0 : Int) ≤ (j : Int) := by omega
    have jm : (j : Int) ≤ 8192 := by omega
    have v0 : (0 : Int) ≤ (V : Int) := by omega
    have v1 : (V : Int) ≤ 9223372036854775807 := by omega
    have p0 : (0 : Int) ≤ (p : Int) := by omega
    by_cases hmore : j < s.size ∧ headL isD (s.data.toList.drop j) = true
    · obtain ⟨hjs, hD⟩ := hmore
      rw [drop_head hjs] at hD
      have hy := runL_yes (p := isD) hjs hD
      have hb : 48 ≤ (s[j].toNat : Int) ∧ (s[j].toNat : Int) ≤ 57 := by simpa [isD] using hD
      obtain ⟨b0, b1⟩ := hb
      have j1 : (j : Int) < (s.size : Int) := by omega
      have hsn : digV ((s.data.toList.drop p).take (m + 1)) = V * 10 + (s[j].toNat - 48) := by
        rw [take_at (by omega), digV_snoc, hV]
        congr 2
        simp only [hj]
      obtain ⟨d, hdd⟩ : ∃ d : Nat, (s[j].toNat : Int) - 48 = d := ⟨s[j].toNat - 48, by omega⟩
      have d9 : (d : Int) ≤ 9 := by omega
      have hw1 : IntKind.u8.wrap ((s[j].toNat : Int) - 48) = (d : Int) := by rw [IntKind.wrap_u8]; omega
      have hdn : s[j].toNat - 48 = d := by omega
      rw [hdn] at hsn
      have HD := Lib.hid hD
      have HSN := Lib.hid hsn
      have HJ := Lib.hid hj
      by_cases hbig : (9223372036854775807 - (d : Int)) / 10 < (V : Int)
      · have hno : o = none := by
          rw [← HO2.out]
          have h1 := digV_take (s.data.toList.drop p) (m + 1) N (by omega)
          rw [hsn] at h1
          have h2 : ¬ digV ((s.data.toList.drop p).take N) < 9223372036854775808 := by omega
          rw [if_neg h2]
          simp
        subst hno
        clear hD hr hy hV hj hsn hdn b0 b1
        go_wp2_with (first | (go_at_call 27; refine (Digit_any _ _).mono ?_; rw [HD.out]; rintro e w' ⟨rfl, rfl⟩))
        exact bodyPost_ret (v := .tuple #[tk0, .bool false]) (by simp [results, Tryd.results42, tk0, go_sem]) rfl ⟨rfl, below_box _ _ _⟩
      · have hv2 : V * 10 + d < 9223372036854775808 := by omega
        have jv : 10 * (V : Int) + (d : Int) ≤ 9223372036854775807 := by omega
        have hrn : m + 1 + runL isD (s.data.toList.drop (j + 1)) = N := by omega
        have HRN := Lib.hid hrn
        clear hD hr hy hV hj hsn hdn b0 b1 hrn
        go_wp2_with (first | (go_at_call 27; refine (Digit_any _ _).mono ?_; rw [HD.out]; rintro e w' ⟨rfl, rfl⟩))
        go_round
        case rel => exact ⟨m + 1, by have := HJ.out; omega, by have := HJ.out; go_num, by have := HJ.out; rw [show p + (m + 1) = j + 1 by omega]; exact HRN.out, by rw [HSN.out]; go_num, by rw [HSN.out]; exact hv2⟩
        case measure => simp [intOf]; omega
    · have hz : runL isD (s.data.toList.drop j) = 0 := by
        rcases Nat.lt_or_ge j s.size with h | h
        · have h2 : isD s[j] = false := by
            cases hx : isD s[j]
            · rfl
            · exact absurd ⟨h, by rw [drop_head h]; exact hx⟩ hmore
          exact runL_no h h2
        · rw [List.drop_eq_nil_of_le (by simpa using h)]; rfl
      obtain rfl : m = N := by omega
      have ho2 := HO2.out
      rw [hV, List.drop_drop, hj, if_pos hv, drop_head hp] at ho2
      have hdig : ∀ h : j < s.size, isD s[j] = false := by
        intro h
        cases hx : isD s[j]
        · rfl
        · exact absurd ⟨h, by rw [drop_head h]; exact hx⟩ hmore
      have hpj : (p : Int) + (m : Int) = (j : Int) := by omega
      have HV := Lib.hid hV
      have HJ := Lib.hid hj
      clear hr hz hV hmore HO2
      by_cases hA : 1 < m ∧ s[p] = 48
      · have hno : o = none := by
          rw [if_pos (by simp [hA.1, hA.2])] at ho2
          exact ho2.symm
        subst hno
        have a1 : (p : Int) + 1 < (j : Int) := by have := hA.1; omega
        have a2 : ((s[p].toNat : Int) == 48) = true := by rw [hA.2]; rfl
        clear ho2 hA hj
        by_cases hjs : j < s.size
        · have HD := Lib.hid (hdig hjs)
          clear hdig
          go_wp2_with (first | (go_at_call 27; refine (Digit_any _ _).mono ?_; rw [HD.out]; rintro e w' ⟨rfl, rfl⟩))
          exact bodyPost_ret (v := .tuple #[tk0, .bool false]) (by simp [results, Tryd.results42, tk0, go_sem]) rfl ⟨rfl, below_box _ _ _⟩
        · obtain rfl : j = s.size := by omega
          clear hdig
          go_wp2
          exact bodyPost_ret (v := .tuple #[tk0, .bool false]) (by simp [results, Tryd.results42, tk0, go_sem]) rfl ⟨rfl, below_box _ _ _⟩
      · rw [if_neg (by simpa using hA)] at ho2
        by_cases hjs : j < s.size
        · have HD := Lib.hid (hdig hjs)
          rw [drop_head hjs] at ho2
          cases hl : isL s[j] with
          | true =>
            rw [hl] at ho2
            have hno : o = none := by simpa using ho2.symm
            subst hno
            have HL := Lib.hid hl
            clear ho2 hl hdig hj
            by_cases a1 : 1 < m
            · have a3 : (p : Int) + 1 < (j : Int) := by omega
              have a2 : ((s[p].toNat : Int) == 48) = false := by simpa using byte_ne (d := 48) (fun e => hA ⟨a1, e⟩)
              clear hA
              go_wp2_with (first | (go_at_call 27; refine (Digit_any _ _).mono ?_; rw [HD.out]; rintro e w' ⟨rfl, rfl⟩) | (go_at_call 26; refine (Letter_any _ _).mono ?_; rw [HL.out]; rintro e w' ⟨rfl, rfl⟩))
              exact bodyPost_ret (v := .tuple #[tk0, .bool false]) (by simp [results, Tryd.results42, tk0, go_sem]) rfl ⟨rfl, below_box _ _ _⟩
            · have a3 : ¬ (p : Int) + 1 < (j : Int) := by omega
              clear hA
              go_wp2_with (first | (go_at_call 27; refine (Digit_any _ _).mono ?_; rw [HD.out]; rintro e w' ⟨rfl, rfl⟩) | (go_at_call 26; refine (Letter_any _ _).mono ?_; rw [HL.out]; rintro e w' ⟨rfl, rfl⟩))
              exact bodyPost_ret (v := .tuple #[tk0, .bool false]) (by simp [results, Tryd.results42, tk0, go_sem]) rfl ⟨rfl, below_box _ _ _⟩
          | false =>
            rw [hl] at ho2
            have hso : o = some (⟨3, (s.data.toList.drop p).take m, (V : Int)⟩, m) := by simpa using ho2.symm
            subst hso
            have HL := Lib.hid hl
            have HX := Lib.hid (ext_cut s p m)
            clear ho2 hl hdig hj
            by_cases a1 : 1 < m
            · have a3 : (p : Int) + 1 < (j : Int) := by omega
              have a2 : ((s[p].toNat : Int) == 48) = false := by simpa using byte_ne (d := 48) (fun e => hA ⟨a1, e⟩)
              clear hA
              go_wp2_with (first | (go_at_call 27; refine (Digit_any _ _).mono ?_; rw [HD.out]; rintro e w' ⟨rfl, rfl⟩) | (go_at_call 26; refine (Letter_any _ _).mono ?_; rw [HL.out]; rintro e w' ⟨rfl, rfl⟩))
              exact bodyPost_ret (v := .tuple #[tkV ⟨3, (s.data.toList.drop p).take m, (V : Int)⟩ p, .bool true]) (by simp [results, Tryd.results42, tkV, go_sem, ← HX.out, HJ.out]) rfl ⟨rfl, below_box _ _ _⟩
            · have a3 : ¬ (p : Int) + 1 < (j : Int) := by omega
              clear hA
              go_wp2_with (first | (go_at_call 27; refine (Digit_any _ _).mono ?_; rw [HD.out]; rintro e w' ⟨rfl, rfl⟩) | (go_at_call 26; refine (Letter_any _ _).mono ?_; rw [HL.out]; rintro e w' ⟨rfl, rfl⟩))
              exact bodyPost_ret (v := .tuple #[tkV ⟨3, (s.data.toList.drop p).take m, (V : Int)⟩ p, .bool true]) (by simp [results, Tryd.results42, tkV, go_sem, ← HX.out, HJ.out]) rfl ⟨rfl, below_box _ _ _⟩
        · obtain rfl : j = s.size := by omega
          rw [List.drop_eq_nil_of_le (by simp)] at ho2
          have hso : o = some (⟨3, (s.data.toList.drop p).take m, (V : Int)⟩, m) := by simpa [headL] using ho2.symm
          subst hso
          have HX := Lib.hid (ext_cut s p m)
          clear ho2 hdig hj
          by_cases a1 : 1 < m
          · have a3 : (p : Int) + 1 < (s.size : Int) := by omega
            have a2 : ((s[p].toNat : Int) == 48) = false := by simpa using byte_ne (d := 48) (fun e => hA ⟨a1, e⟩)
            clear hA
            go_wp2
            exact bodyPost_ret (v := .tuple #[tkV ⟨3, (s.data.toList.drop p).take m, (V : Int)⟩ p, .bool true]) (by simp [results, Tryd.results42, tkV, go_sem, ← HX.out, HJ.out]) rfl ⟨rfl, below_box _ _ _⟩
          · have a3 : ¬ (p : Int) + 1 < (s.size : Int) := by omega
            clear hA
            go_wp2
            exact bodyPost_ret (v := .tuple #[tkV ⟨3, (s.data.toList.drop p).take m, (V : Int)⟩ p, .bool true]) (by simp [results, Tryd.results42, tkV, go_sem, ← HX.out, HJ.out]) rfl ⟨rfl, below_box _ _ _⟩
end Go.Proofs.YthkahjpflflecaaDoor
