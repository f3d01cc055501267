/-
  Numerals, names and texts of instructions, in the program and in the document's reading: walks.
-/
import Derived.Test.YtfdmoafncbjonaaDoorIsaC
import Derived.Test.YtfdmoafncbjonaaDoorShelf
import Derived.Lib.ItoaLen
import Derived.WalkKit
import Derived.Lib.Hide
import Derived.Deep.QuietTactic
import Derived.BigQuiet
import Derived.LoopTactic
import Derived.Outline
import Derived.Laws.BytesArg
import Derived.Laws.NewBlocks
import Derived.Test.YtfdmoafncbjonaaDoorIsaN
import Derived.StillTailTactics
namespace Go.Proofs.YtfdmoafncbjonaaDoor
open Go.RowKit Go.Sort Go.Lib
set_option linter.unusedVariables false

/-- The library's table of powers of ten. -/
def Tab (w : World) : Prop := Lib.TabIs Tryd.prog w "internal/strconv.uint64pow10" .u64 Lib.pow10Tab
theorem tab_below {w w' : World} (h : Tab w) (hb : Below w.heap.size w w') : Tab w' := by
  unfold Tab Lib.TabIs World.var? at *
  cases hg : Tryd.prog.globalNamed "internal/strconv.uint64pow10" with
  | none => rw [hg] at h; cases h
  | some g =>
    rw [hg] at h
    simp only [Option.bind_some] at h ⊢
    have hl : g < w.heap.size := by
      rcases Nat.lt_or_ge g w.heap.size with hl | hl
      · exact hl
      · have : w.heap[g]? = none := Array.getElem?_eq_none hl
        rw [this] at h; cases h
    rw [hb.block g hl]
    exact h
theorem tab_alloc {w : World} (h : Tab w) (o : Obj) : Tab (w.alloc o) := tab_below h ((Below.refl _ _).alloc (Nat.le_refl _) _)
theorem below_grow (w : World) (k : Nat) (os : Array Obj) : Below w.heap.size w (grow (w.drewN k) os) :=
  ⟨rfl, rfl, rfl, by simp [size_grow], fun i hi => (heap_grow_old (w.drewN k) os (k := i) hi).trans rfl⟩
/-- A numeral as the program's text. -/
def numS (n : Int) : ByteArray := ⟨(itoa n).toArray⟩
theorem format_any (n : Int) (h0 : -9223372036854775808 ≤ n) (h1 : n ≤ 9223372036854775807) (w : World) (ht : Tab w) :
    Calls Tryd.prog 25 #[.int .i64 n, .int .i64 10] w fun e w' => e = .returned (.string (numS n)) ∧ Below w.heap.size w w' :=
  (Tryd.strconv_FormatInt_10 n h0 h1 w ht).mono fun e w' ⟨he, k, os, hw⟩ => ⟨he, by rw [hw]; exact below_grow w k os⟩
theorem itoa_reg (r : Int) (h0 : 0 ≤ r) (h1 : r ≤ 15) (w : World) :
    Calls Tryd.prog 24 #[.int .i64 r] w fun e w' => e = .returned (.string (numS r)) ∧ w = w' := by
  obtain ⟨k, rfl⟩ := Int.eq_ofNat_of_zero_le h0
  refine (Tryd.strconv_Itoa_small k (by omega) w).mono fun e w' ⟨he, hw⟩ => ⟨?_, hw.symm⟩
  rw [he, numS, itoa_nonneg]
def chr (z : Int) : ByteArray := ⟨#[UInt8.ofNat z.toNat]⟩
theorem chr_conv (w : World) (z : Int) : (convert 51 9 (.slice (some ⟨w.heap.size, 0, none⟩) 1 1)).run Tryd.prog (w.alloc (.cells #[.int .u8 z] 5)) = .ok (.string (chr z)) (w.alloc (.cells #[.int .u8 z] 5)) :=
  run_convert_bytes_arg (P := Tryd.prog) _ 51 5 Tryd.underlying51 Tryd.underlying5 w.heap.size 0 1 1 [z] rfl (fun i hi => by
    have : i = 0 := by omega
    subst this
    rw [World.cell?_alloc_at _ _ _ _ rfl]; rfl) 9 Tryd.underlying9
theorem dec_step (u : Nat) (h : u ≠ 0) (r : List UInt8) : (if u / 10 = 0 then [] else decDigits (u / 10)) ++ (UInt8.ofNat (48 + u % 10) :: r) = decDigits u ++ r := by
  by_cases hu : u < 10
  · have h1 : u / 10 = 0 := by omega
    have h2 : u % 10 = u := by omega
    have e : decDigits u = [UInt8.ofNat (48 + u)] := by rw [decDigits.eq_def, dif_pos hu]
    rw [e, h1, h2]; simp
  · have h1 : ¬ u / 10 = 0 := by omega
    have e : decDigits u = decDigits (u / 10) ++ [UInt8.ofNat (48 + u % 10)] := by rw [decDigits.eq_def, dif_neg hu]
    rw [e, if_neg h1, List.append_assoc, List.singleton_append]
theorem dec_len (u : Nat) (h : u ≤ 9223372036854775808) : (decDigits u).length ≤ 20 := by
  have := itoa_length_le (-(u : Int)) (by omega) (by omega)
  by_cases hu : u = 0
  · subst hu; decide +kernel
  · rw [itoa_neg u (by omega)] at this
    simp at this; omega

theorem chr_cons (u : Nat) (l : List UInt8) : chr (48 + (u : Int) % 10) ++ (⟨l.toArray⟩ : ByteArray) = ⟨(UInt8.ofNat (48 + u % 10) :: l).toArray⟩ := by
  have : (48 + (u : Int) % 10).toNat = 48 + u % 10 := by omega
  rw [chr, this]
  apply ByteArray.ext
  simp
theorem number_pos (n : Nat) (hn : 0 < n) (h1 : n ≤ 9223372036854775808) (h2 : n ≤ 9223372036854775807) (w : World) :
    Calls Tryd.prog 26 #[.int .i64 (n)] w fun e w' => e = .returned (.string (numS (n))) ∧ Below w.heap.size w w' := by
  have hz' : (((n : Int)) == 0) = false := by simp; omega
  have hL := dec_len n h1
  go_enter Tryd.func26, Tryd.ntmps26
  go_wp2
  go_loopw [3, 4, 5] (fun s m d wr => ∃ (l : List UInt8) (u : Nat), u ≤ n ∧ s = .string ⟨l.toArray⟩ ∧ m = .int .i64 (u : Int) ∧ (if u = 0 then [] else decDigits u) ++ l = decDigits n ∧ Below w.heap.size w wr)
    (fun _ m _ _ => (RowKit.intOf m).natAbs)
  case atStart => exact ⟨[], n, Nat.le_refl _, rfl, rfl, by rw [if_neg (by omega)]; simp, Below.refl _ _⟩
  case round =>
    obtain ⟨l, u, hu, rfl, rfl, hd, hb⟩ := hrel
    have hl : l.length ≤ 20 := by
      have := congrArg List.length hd
      rw [List.length_append] at this
      omega
    by_cases h0 : u = 0
    · subst h0
      have hd : l = decDigits n := by simpa using hd
      have Hd := Lib.hid hd
      clear hd
      have hlt : decide ((n : Int) < 0) = false := by simp; try omega
      go_wp2
      go_ret
      refine ⟨?_, hb⟩
      show Ending.returned (.string _) = _
      rw [Hd.out, numS, itoa_nonneg]
    · have hs := dec_step u h0 l
      have hz : (((u : Int) : Int) != 0) = true := by simp; omega
      have Hd := Lib.hid hd
      have Hs := Lib.hid hs
      clear hd hs
      have hcv := chr_conv wr
      have hch : ∀ z, (chr z).size = 1 := fun z => rfl
      go_wp2
      go_round
      case rel =>
        refine ⟨UInt8.ofNat (48 + u % 10) :: l, u / 10, by omega, ?_, ?_, ?_, hb.alloc hb.size _⟩
        · show Value.string (chr _ ++ _) = _
          rw [chr_cons]
        · go_num
        · rw [Hs.out, ← Hd.out, if_neg h0]
      case measure => simp [RowKit.intOf]; omega
theorem number_neg (n : Nat) (hn : 0 < n) (h1 : n ≤ 9223372036854775808) (w : World) :
    Calls Tryd.prog 26 #[.int .i64 (-n)] w fun e w' => e = .returned (.string (numS (-n))) ∧ Below w.heap.size w w' := by
  have hz' : (((-n : Int)) == 0) = false := by simp; omega
  have hL := dec_len n h1
  go_enter Tryd.func26, Tryd.ntmps26
  go_wp2
  go_loopw [3, 4, 5] (fun s m d wr => ∃ (l : List UInt8) (u : Nat), u ≤ n ∧ s = .string ⟨l.toArray⟩ ∧ m = .int .i64 (-(u : Int)) ∧ (if u = 0 then [] else decDigits u) ++ l = decDigits n ∧ Below w.heap.size w wr)
    (fun _ m _ _ => (RowKit.intOf m).natAbs)
  case atStart => exact ⟨[], n, Nat.le_refl _, rfl, rfl, by rw [if_neg (by omega)]; simp, Below.refl _ _⟩
  case round =>
    obtain ⟨l, u, hu, rfl, rfl, hd, hb⟩ := hrel
    have hl : l.length ≤ 20 := by
      have := congrArg List.length hd
      rw [List.length_append] at this
      omega
    by_cases h0 : u = 0
    · subst h0
      have hd : l = decDigits n := by simpa using hd
      have Hd := Lib.hid hd
      clear hd
      have hlt : decide ((-n : Int) < 0) = true := by simp; try omega
      go_wp2
      go_ret
      refine ⟨?_, hb⟩
      show Ending.returned (.string _) = _
      rw [Hd.out, numS, itoa_neg n (by omega)]
      refine congrArg (fun b => Ending.returned (.string b)) (ByteArray.ext ?_)
      simp
    · have hs := dec_step u h0 l
      have hz : (((-(u : Int)) : Int) != 0) = true := by simp; omega
      have Hd := Lib.hid hd
      have Hs := Lib.hid hs
      clear hd hs
      have hcv := chr_conv wr
      have hch : ∀ z, (chr z).size = 1 := fun z => rfl
      go_wp2
      all_goals
        go_round
        case rel =>
          refine ⟨UInt8.ofNat (48 + u % 10) :: l, u / 10, by omega, ?_, ?_, ?_, hb.alloc hb.size _⟩
          · show Value.string (chr _ ++ _) = _
            first
              | rw [chr_cons]
              | (rw [show (48 + -((u : Int) % 10)) = 48 + (u : Int) % 10 from by omega, chr_cons])
          · go_num
          · rw [Hs.out, ← Hd.out, if_neg h0]
        case measure => simp [RowKit.intOf]; omega
theorem number_any (n : Int) (h0 : -9223372036854775808 ≤ n) (h1 : n ≤ 9223372036854775807) (w : World) :
    Calls Tryd.prog 26 #[.int .i64 n] w fun e w' => e = .returned (.string (numS n)) ∧ Below w.heap.size w w' := by
  rcases Int.lt_trichotomy n 0 with h | h | h
  · obtain ⟨k, hk⟩ : ∃ k : Nat, n = -(k : Int) := ⟨n.natAbs, by omega⟩
    subst hk
    exact number_neg k (by omega) (by omega) w
  · subst h
    have e : numS 0 = ⟨#[48]⟩ := by unfold numS; rw [show (0 : Int) = ((0 : Nat) : Int) from rfl, itoa_nonneg, decDigits.eq_def, dif_pos (by decide)]; rfl
    rw [e]
    go_enter Tryd.func26, Tryd.ntmps26
    go_wp2
    go_ret
    exact ⟨rfl, Below.refl _ _⟩
  · obtain ⟨k, hk⟩ : ∃ k : Nat, n = (k : Int) := ⟨n.natAbs, by omega⟩
    subst hk
    exact number_pos k (by omega) (by omega) (by omega) w
end Go.Proofs.YtfdmoafncbjonaaDoor
