/-
  Numerals: their digits, and the document's reading of them: a walk.
-/
import Derived.Test.YthkahjpflflecaaDoorLexI
import Derived.Lib.ItoaLen
namespace Go.Proofs.YthkahjpflflecaaDoor
open Go.RowKit Go.Sort Go.Lib
set_option linter.unusedVariables false

def chr (z : Int) : ByteArray := ⟨#[UInt8.ofNat z.toNat]⟩
theorem chr_conv (w : World) (z : Int) : (convert 36 9 (.slice (some ⟨w.heap.size, 0, none⟩) 1 1)).run Tryd.prog (w.alloc (.cells #[.int .u8 z] 5)) = .ok (.string (chr z)) (w.alloc (.cells #[.int .u8 z] 5)) :=
  run_convert_bytes_arg (P := Tryd.prog) _ 36 5 Tryd.underlying36 Tryd.underlying5 w.heap.size 0 1 1 [z] rfl (fun i hi => by
    have : i = 0 := by omega
    subst this
    rw [World.cell?_alloc_at _ _ _ _ rfl]; rfl) 9 Tryd.underlying9
theorem dec_step (u : Nat) (h : u ≠ 0) (r : List UInt8) : (if u / 10 = 0 then [] else decDigits (u / 10)) ++ (UInt8.ofNat (48 + u % 10) :: r) = decDigits u ++ r := by
  by_cases hu : u < 10
  · have h1 : u / 10 = 0 := by omega
    have h2 : u % 10 = u := by omega
    have e : decDigits u = [UInt8.ofNat (48 + u)] := by rw [decDigits.eq_def, dif_pos hu]
    rw [e, h1, h2]; simp
  · have h1 : ¬ u / 10 = 0 := by omega
    have e : decDigits u = decDigits (u / 10) ++ [UInt8.ofNat (48 + u % 10)] := by rw [decDigits.eq_def, dif_neg hu]
    rw [e, if_neg h1, List.append_assoc, List.singleton_append]
theorem dec_len (u : Nat) (h : u ≤ 9223372036854775808) : (decDigits u).length ≤ 20 := by
  have := itoa_length_le (-(u : Int)) (by omega) (by omega)
  by_cases hu : u = 0
  · subst hu; decide +kernel
  · rw [itoa_neg u (by omega)] at this
    simp at this; omega

theorem chr_cons (u : Nat) (l : List UInt8) : chr (48 + (u : Int) % 10) ++ (⟨l.toArray⟩ : ByteArray) = ⟨(UInt8.ofNat (48 + u % 10) :: l).toArray⟩ := by
  have : (48 + (u : Int) % 10).toNat = 48 + u % 10 := by omega
  rw [chr, this]
  apply ByteArray.ext
  simp
theorem number_pos (n : Nat) (hn : 0 < n) (h1 : n ≤ 9223372036854775808) (h2 : n ≤ 9223372036854775807) (w : World) :
    Calls Tryd.prog 19 #[.int .i64 (n)] w fun e w' => e = .returned (.string (bs (decDigits n))) ∧ Below w.heap.size w w' := by
  have hz' : (((n : Int)) == 0) = false := by simp; omega
  have hL := dec_len n h1
  go_enter Tryd.func19, Tryd.ntmps19
  go_wp2
  go_loopw [3, 4, 5] (fun s m d wr => ∃ (l : List UInt8) (u : Nat), u ≤ n ∧ s = .string ⟨l.toArray⟩ ∧ m = .int .i64 (u : Int) ∧ (if u = 0 then [] else decDigits u) ++ l = decDigits n ∧ Below w.heap.size w wr)
    (fun _ m _ _ => (RowKit.intOf m).natAbs)
  case atStart => exact ⟨[], n, Nat.le_refl _, rfl, rfl, by rw [if_neg (by omega)]; simp, Below.refl _ _⟩
  case round =>
    obtain ⟨l, u, hu, rfl, rfl, hd, hb⟩ := hrel
    have hl : l.length ≤ 20 := by
      have := congrArg List.length hd
      rw [List.length_append] at this
      omega
    by_cases h0 : u = 0
    · subst h0
      have hd : l = decDigits n := by simpa using hd
      have Hd := Lib.hid hd
      clear hd
      have hlt : decide ((n : Int) < 0) = false := by simp; try omega
      go_wp2
      go_ret
      refine ⟨?_, hb⟩
      show Ending.returned (.string _) = _
      rw [Hd.out]; rfl
    · have hs := dec_step u h0 l
      have hz : (((u : Int) : Int) != 0) = true := by simp; omega
      have Hd := Lib.hid hd
      have Hs := Lib.hid hs
      clear hd hs
      have hcv := chr_conv wr
      have hch : ∀ z, (chr z).size = 1 := fun z => rfl
      go_wp2
      go_round
      case rel =>
        refine ⟨UInt8.ofNat (48 + u % 10) :: l, u / 10, by omega, ?_, ?_, ?_, hb.alloc hb.size _⟩
        · show Value.string (chr _ ++ _) = _
          rw [chr_cons]
        · go_num
        · rw [Hs.out, ← Hd.out, if_neg h0]
      case measure => simp [RowKit.intOf]; omega
theorem number_nat (u : Nat) (h : u ≤ 9223372036854775807) (w : World) :
    Calls Tryd.prog 19 #[.int .i64 u] w fun e w' => e = .returned (.string (bs (decDigits u))) ∧ Below w.heap.size w w' := by
  rcases Nat.eq_zero_or_pos u with rfl | hp
  · have e : bs (decDigits 0) = ⟨#[48]⟩ := by rw [decDigits.eq_def, dif_pos (by decide)]; rfl
    rw [e]
    go_enter Tryd.func19, Tryd.ntmps19
    go_wp2
    go_ret
    exact ⟨rfl, Below.refl _ _⟩
  · exact number_pos u hp (by omega) h w

/-! Digits. -/
theorem digit_byte (k : Nat) (h : k < 10) : isD (UInt8.ofNat (48 + k)) = true ∧ (UInt8.ofNat (48 + k)).toNat = 48 + k := by
  have e : (UInt8.ofNat (48 + k)).toNat = 48 + k := by simp; omega
  exact ⟨by unfold isD; rw [e]; simp; omega, e⟩
theorem dec_small (u : Nat) (h : u < 10) : decDigits u = [UInt8.ofNat (48 + u)] := by rw [decDigits.eq_def, dif_pos h]
theorem dec_great (u : Nat) (h : ¬ u < 10) : decDigits u = decDigits (u / 10) ++ [UInt8.ofNat (48 + u % 10)] := by rw [decDigits.eq_def, dif_neg h]
theorem dec_all (u : Nat) : ∀ c ∈ decDigits u, isD c = true := by
  induction u using Nat.strongRecOn with
  | ind u ih =>
    by_cases h : u < 10
    · rw [dec_small u h]
      intro c hc
      simp only [List.mem_singleton] at hc
      rw [hc]; exact (digit_byte u h).1
    · rw [dec_great u h]
      intro c hc
      rcases List.mem_append.1 hc with hc | hc
      · exact ih _ (by omega) c hc
      · simp only [List.mem_singleton] at hc
        rw [hc]; exact (digit_byte _ (by omega)).1
theorem dec_value (u : Nat) : digV (decDigits u) = u := by
  induction u using Nat.strongRecOn with
  | ind u ih =>
    by_cases h : u < 10
    · rw [dec_small u h]
      show 0 * 10 + ((UInt8.ofNat (48 + u)).toNat - 48) = u
      rw [(digit_byte u h).2]; omega
    · rw [dec_great u h]
      unfold digV
      rw [List.foldl_append]
      have := ih (u / 10) (by omega)
      unfold digV at this
      rw [this]
      show (u / 10) * 10 + ((UInt8.ofNat (48 + u % 10)).toNat - 48) = u
      rw [(digit_byte (u % 10) (by omega)).2]; omega
theorem dec_ne (u : Nat) : decDigits u ≠ [] := by
  by_cases h : u < 10
  · rw [dec_small u h]; simp
  · rw [dec_great u h]; simp
theorem head_append (p : UInt8 → Bool) {a b : List UInt8} (h : a ≠ []) : headL p (a ++ b) = headL p a := by
  match a, h with
  | c :: r, _ => rfl
theorem dec_head (u : Nat) (hu : 0 < u) : headL (· == 48) (decDigits u) = false := by
  induction u using Nat.strongRecOn with
  | ind u ih =>
    by_cases h : u < 10
    · rw [dec_small u h]
      show (UInt8.ofNat (48 + u) == 48) = false
      simp only [beq_eq_false_iff_ne, ne_eq, ← UInt8.toNat_inj, (digit_byte u h).2]
      simp; omega
    · rw [dec_great u h, head_append _ (dec_ne _)]
      exact ih _ (by omega) (by omega)
/-! What is read of digits. -/
theorem run_all {l : List UInt8} (h : ∀ c ∈ l, isD c = true) : runL isD l = l.length := by
  induction l with
  | nil => rfl
  | cons c r ih =>
    have h1 := h c (by simp)
    have h2 := ih (fun c hc => h c (by simp [hc]))
    unfold runL at h2 ⊢
    simp [h1, h2]
theorem run_stop {l r : List UInt8} {c : UInt8} (h : ∀ c ∈ l, isD c = true) (hc : isD c = false) : runL isD (l ++ c :: r) = l.length := by
  induction l with
  | nil => simp [runL, hc]
  | cons a t ih =>
    have h1 := h a (by simp)
    have h2 := ih (fun c hc => h c (by simp [hc]))
    unfold runL at h2 ⊢
    simp [h1, h2]
theorem head_D {l : List UInt8} (hne : l ≠ []) (h : ∀ c ∈ l, isD c = true) : headL isD l = true := by
  match l, hne with
  | c :: r, _ => exact h c (by simp)
theorem DL (c : UInt8) : isD c = true → isL c = false := by
  intro h
  simp [isL, isD] at h ⊢
  omega
theorem DB (c : UInt8) : isD c = true → isB c = false ∧ c ≠ 47 := by
  intro h
  simp [isD] at h
  refine ⟨by simp [isB]; omega, ?_⟩
  rintro rfl
  revert h; decide
theorem head_notL {l : List UInt8} (h : headL isD l = true) : headL isL l = false := by
  match l with
  | [] => rfl
  | c :: r => exact DL c h
theorem gap_digit {l : List UInt8} (h : headL isD l = true) : gapL false l = 0 := by
  match l with
  | [] => rfl
  | c :: r =>
    obtain ⟨h1, h2⟩ := DB c h
    have hp : pre2 (c :: r) = false := by
      cases r with
      | nil => rfl
      | cons b t => simp [pre2, h2]
    simp [gapL, hp, h1]
theorem first_digits {l : List UInt8} (h : headL isD l = true) : firstL l = numberL l := by
  unfold firstL
  rw [head_notL h, h]
  rfl
theorem lexD_number {l : List UInt8} (hne : l ≠ []) (h : ∀ c ∈ l, isD c = true) (h48 : ¬ (1 < l.length ∧ headL (· == 48) l = true)) (hv : digV l < 9223372036854775808) (hz : l.length ≤ 8192) :
    lexD l = ([(⟨3, l, digV l⟩, 0), (⟨0, [], 0⟩, l.length)], 0, 0) := by
  have hD := head_D hne h
  have hf : firstL l = some (⟨3, l, digV l⟩, l.length) := by
    rw [first_digits hD]
    unfold numberL
    rw [run_all h, List.drop_length, List.take_length]
    rw [if_neg (by simpa using h48)]
    simp [headL, hv]
  have hlen : l.length = (l.length - 1) + 1 := by
    have : l.length ≠ 0 := by simpa using hne
    omega
  unfold lexD lexG
  rw [if_neg (by omega), gap_digit hD, List.drop_zero, lexL_some hne hf, List.drop_length]
  rw [show gapL false [] = 0 from rfl, List.drop_nil, hlen, lexL_end]
  simp [joinL, lexO]
theorem lexD_none {l : List UInt8} (hne : l ≠ []) (h : headL isD l = true) (hn : numberL l = none) (hz : l.length ≤ 8192) : lexD l = ([], 0, 5) := by
  unfold lexD lexG
  rw [if_neg (by omega), gap_digit h, List.drop_zero, lexL_none hne (by rw [first_digits h]; exact hn)]
  rfl
end Go.Proofs.YthkahjpflflecaaDoor
