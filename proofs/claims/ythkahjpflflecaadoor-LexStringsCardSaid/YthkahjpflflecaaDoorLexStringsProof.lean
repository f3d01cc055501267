/-
  Every string of bytes from 32 to 126 and 10 can be written and is read again, up to as many as there may be; the library's variables start as their texts lay them.
-/
import Derived.Test.YthkahjpflflecaaDoorRows
import Derived.Test.YthkahjpflflecaaDoorLexR
import Derived.Test.YthkahjpflflecaaDoorLexV
import Derived.BigQuiet
import Derived.WalkKit
namespace Go.Proofs.YthkahjpflflecaaDoor.lexStrings
open Go.ChangeShapes Go.WideShapes Go.ChangeAt Go.RowKit
set_option linter.unusedVariables false

/-! ### The walk. -/
theorem bs_add (l m : List UInt8) : bs l ++ (⟨m.toArray⟩ : ByteArray) = bs (l ++ m) := by
  refine ByteArray.ext ?_
  simp [bs]
theorem below_drewN {B : Nat} {w w1 : World} (h : Below B w w1) (n : Nat) : Below B w (w1.drewN n) := ⟨h.os, h.tape, h.output, h.size, h.block⟩
theorem num_same (n : Int) (w : World) : Calls Tryd.prog 12 #[.int .i64 n] w fun e w' => e = .returned (.int .i64 n) ∧ w' = w :=
  (num_any n w).mono fun _ _ ⟨he, hw⟩ => ⟨he, hw.symm⟩
theorem lex_fault (s : ByteArray) (w : World) (ht : ErrT w) (h : lexD s.data.toList = ([], 0, 5)) :
    Calls Tryd.prog 9 #[.string s] w fun e w' => ∃ A c, e = .returned (.tuple #[.slice A 0 c, .int .i64 0, .int .i64 5]) ∧ Below w.heap.size w w' := by
  have := lex_any s w ht
  rw [h] at this
  exact this.mono fun e w' ⟨A, c, he, _, hb⟩ => ⟨A, c, he, hb⟩
theorem lex_text (s : ByteArray) (l : List UInt8) (m : Nat) (w : World) (ht : ErrT w) (h : lexD s.data.toList = ([(⟨4, l, 0⟩, 0), (⟨0, [], 0⟩, m)], 0, 0)) :
    Calls Tryd.prog 9 #[.string s] w fun e w' => ∃ g c, e = .returned (.tuple #[.slice (some ⟨g, 0, none⟩) 2 c, .int .i64 0, .int .i64 0]) ∧ Below w.heap.size w w' ∧ 2 ≤ c ∧ g < w'.heap.size ∧
      w'.cell? ⟨g, 0, none⟩ = some (.int .i64 4) ∧ w'.cell? ⟨g, 1, none⟩ = some (.string (bs l)) ∧ w'.cell? ⟨g, 2, none⟩ = some (.int .i64 0) ∧ w'.cell? ⟨g, 3, none⟩ = some (.int .i64 0) := by
  have := lex_any s w ht
  rw [h] at this
  refine this.mono ?_
  rintro e w1 ⟨A, c, rfl, hown, hB⟩
  obtain ⟨g, rfl, hgc, hgb, hgs, hfz, hcl⟩ := own_cells hown (by simp)
  exact ⟨g, c, rfl, hB, hgc, hgs, hcl 0 _ rfl, hcl 1 _ rfl, hcl 2 _ rfl, hcl 3 _ rfl⟩
theorem conv_two (c : UInt8) (w : World) : (convert 36 9 (.slice (some ⟨w.heap.size, 0, none⟩) 2 2)).run Tryd.prog (w.alloc (.cells #[.int .u8 92, .int .u8 c.toNat] 5)) = .ok (.string ⟨#[92, c]⟩) (w.alloc (.cells #[.int .u8 92, .int .u8 c.toNat] 5)) :=
  run_convert_bytes_back (P := Tryd.prog) _ 36 9 5 ⟨w.heap.size, 0, none⟩ 2 [92, c] Tryd.underlying36 Tryd.underlying5 Tryd.underlying9 (fun j hj => by
    simp at hj
    match j, hj with
    | 0, _ => rw [show (⟨w.heap.size, 0, none⟩ : Addr).add 0 = ⟨w.heap.size, 0, none⟩ from rfl, World.cell?_alloc_at _ _ _ _ rfl]; rfl
    | 1, _ => rw [show (⟨w.heap.size, 0, none⟩ : Addr).add 1 = ⟨w.heap.size, 1, none⟩ from rfl, World.cell?_alloc_at _ _ _ _ rfl]; rfl)
theorem conv_one (c : UInt8) (w : World) : (convert 36 9 (.slice (some ⟨w.heap.size, 0, none⟩) 1 1)).run Tryd.prog (w.alloc (.cells #[.int .u8 c.toNat] 5)) = .ok (.string ⟨#[c]⟩) (w.alloc (.cells #[.int .u8 c.toNat] 5)) :=
  run_convert_bytes_back (P := Tryd.prog) _ 36 9 5 ⟨w.heap.size, 0, none⟩ 1 [c] Tryd.underlying36 Tryd.underlying5 Tryd.underlying9 (fun j hj => by
    simp at hj
    subst hj
    rw [show (⟨w.heap.size, 0, none⟩ : Addr).add 0 = ⟨w.heap.size, 0, none⟩ from rfl, World.cell?_alloc_at _ _ _ _ rfl]; rfl)
set_option maxHeartbeats 2000000 in
theorem walk (w : World) (ht : ErrT w) (IA : Option Addr) (bl : List UInt8) (c2 : Nat) (hi : Reads w w.heap.size 1 IA bl.length (bl.map byteV)) :
    Calls Tryd.prog 8 #[.slice IA bl.length c2] w fun e w' => e = .returned (.bool true) ∧ Below w.heap.size w w' := by
  have ht := Lib.hid ht
  have hi := Lib.hid hi
  by_cases hlen : 200 < bl.length
  · have hlen' : 200 < (bl.length : Int) := by omega
    go_enter Tryd.func8, Tryd.ntmps8
    go_wp2_with (go_at_call 13; refine (awake_any _ ht.out).mono ?_; rintro e w1 ⟨rfl, hb⟩)
    go_ret
    exact ⟨rfl, hb⟩
  obtain ⟨i0, hi0, hz0, hz1, hz2⟩ := info_parts byte_info
  have hlen' : (bl.length : Int) ≤ 200 := by omega
  go_enter Tryd.func8, Tryd.ntmps8
  go_wp2
  go_loopw [3, 4, 5] (fun s v i wr => ∃ k : Nat, k ≤ bl.length ∧ i = .int .i64 k ∧ s = .string (bs (34 :: (bl.take k).flatMap enc1)) ∧ wr.ownsRow w.heap.size 5 1 v k (((bl.take k).map mean1).map byteV) ∧ Below w.heap.size w wr) (fun _ _ i _ => bl.length - (intOf i).toNat)
  case atStart => exact ⟨0, Nat.zero_le _, rfl, rfl, World.ownsRow_nil _ _ _ 1, Below.refl _ _⟩
  case round =>
    obtain ⟨k, hk, rfl, rfl, hown, hB⟩ := hrel
    obtain ⟨wo, rfl⟩ : ∃ wo : World, wo = wr := ⟨_, rfl⟩
    have k0 : (0 : Int) ≤ (k : Int) := by omega
    obtain ⟨AO, cO, rfl⟩ := own_shape hown
    have HOWN := Lib.hid hown
    clear hown
    have hsz : (bs (34 :: (bl.take k).flatMap enc1)).size ≤ 401 := by
      rw [bs_size, List.length_cons]
      have := enc_len (bl.take k)
      have h2 : (bl.take k).length ≤ k := List.length_take_le _ _
      omega
    by_cases hlt : k < bl.length
    · have k1 : (k : Int) < (bl.length : Int) := by omega
      obtain ⟨ad, u, hA, _, hu, hcell⟩ := ((hi.out).below hB).at_ hlt
      obtain ⟨c, hc⟩ : ∃ c, bl[k]? = some c := ⟨_, List.getElem?_eq_getElem hlt⟩
      have hu' : u = .int .u8 c.toNat := by
        rw [List.getElem?_map, hc] at hu
        exact (Option.some.inj hu).symm
      subst hu' hA
      have htk : bl.take (k + 1) = bl.take k ++ [c] := by rw [List.take_add_one, hc]; rfl
      have HTE := Lib.hid (show 34 :: (bl.take (k + 1)).flatMap enc1 = (34 :: (bl.take k).flatMap enc1) ++ enc1 c by rw [htk]; simp)
      have HTM := Lib.hid (show ((bl.take (k + 1)).map mean1).map byteV = ((bl.take k).map mean1).map byteV ++ [byteV (mean1 c)] by rw [htk]; simp)
      have hb0 : 0 ≤ (c.toNat : Int) ∧ (c.toNat : Int) ≤ 255 := by have := c.toNat_lt; omega
      obtain ⟨hb0, hb1⟩ := hb0
      clear hu hc htk
      by_cases h10 : c = 10
      · have HE := Lib.hid (show enc1 c = [92, 110] by unfold enc1; rw [if_pos h10])
        have HM := Lib.hid (show mean1 c = c by unfold mean1; rw [if_pos (.inl h10)])
        have f10 : ((c.toNat : Int) == 10) = true := by rw [byte_eq h10]; rfl
        clear h10
        go_wp2_with (at_builtin; refine wpList_append_any _ rfl (.tmp 58) (.tmp 60) _ rfl w.heap.size 5 i0 _ 1 1 Tryd.underlying36 hi0 hz0 hz1 hz2 rfl (by omega) (.slice AO k cO) k _ rfl (HOWN.out.alloc _) (wo.heap.size + 1) (some ⟨wo.heap.size, 0, none⟩) 1 1 [.int .u8 c.toNat] rfl ⟨rfl, fun _ => ⟨_, rfl, by simp, World.news_of_block (cs := #[.int .u8 c.toNat]) (t := 5) (fr := (0, 0)) (heap_alloc_new wo _)⟩⟩ (by simp [Value.oneCell']) (by simp only [maxLen]; omega) (by omega) (by have := hB.size; simp; omega) ?_; intro v' w2 hown2 hg2 hat2)
        have HO2 := Lib.hid hown2
        have hlv := fun q (hq : (Value.slice AO k cO).ownBlock = some q) => (HOWN.out.lt q hq).1
        have hB2 : Below w.heap.size w w2 := (hB.alloc hB.size _).grown hg2 (by have := hB.size; simp; omega) hlv
        clear hown2 hg2 hat2 hlv
        go_roundw
        case rel => exact ⟨k + 1, by omega, by go_num, by rw [HTE.out, HE.out]; exact congrArg Value.string (bs_add _ _), by rw [HTM.out, HM.out]; exact HO2.out, hB2⟩
        case measure => simp [intOf]; omega
      have e10 : ¬ (c.toNat : Int) = 10 := byte_ne h10
      have f10 : ((c.toNat : Int) == 10) = false := beq_eq_false_iff_ne.2 e10
      by_cases h34 : c = 34
      · have HE := Lib.hid (show enc1 c = [92, c] by unfold enc1; rw [if_neg h10, if_pos (.inl h34)])
        have HM := Lib.hid (show mean1 c = c by unfold mean1; rw [if_pos (.inr (.inl h34))])
        have f34 : ((c.toNat : Int) == 34) = true := by rw [byte_eq h34]; rfl
        have hcv := conv_two c wo
        have hcz : (⟨#[92, c]⟩ : ByteArray).size = 2 := rfl
        clear h10 h34
        go_wp2_with (at_builtin; refine wpList_append_any _ rfl (.tmp 58) (.tmp 60) _ rfl w.heap.size 5 i0 _ 1 1 Tryd.underlying36 hi0 hz0 hz1 hz2 rfl (by omega) (.slice AO k cO) k _ rfl ((HOWN.out.alloc _).alloc _) (wo.heap.size + 1 + 1) (some ⟨wo.heap.size + 1, 0, none⟩) 1 1 [.int .u8 c.toNat] rfl ⟨rfl, fun _ => ⟨_, rfl, by simp, World.news_of_block (cs := #[.int .u8 c.toNat]) (t := 5) (fr := (0, 0)) (by simpa using heap_alloc_new (wo.alloc (.cells #[.int .u8 92, .int .u8 c.toNat] 5)) _)⟩⟩ (by simp [Value.oneCell']) (by simp only [maxLen]; omega) (by omega) (by have := hB.size; simp; omega) ?_; intro v' w2 hown2 hg2 hat2)
        have HO2 := Lib.hid hown2
        have hlv := fun q (hq : (Value.slice AO k cO).ownBlock = some q) => (HOWN.out.lt q hq).1
        have hB2 : Below w.heap.size w w2 := ((hB.alloc hB.size _).alloc (by have := hB.size; simp; omega) _).grown hg2 (by have := hB.size; simp; omega) hlv
        clear hown2 hg2 hat2 hlv
        go_roundw
        case rel => exact ⟨k + 1, by omega, by go_num, by rw [HTE.out, HE.out]; exact congrArg Value.string (bs_add _ _), by rw [HTM.out, HM.out]; exact HO2.out, hB2⟩
        case measure => simp [intOf]; omega
      have e34 : ¬ (c.toNat : Int) = 34 := byte_ne h34
      have f34 : ((c.toNat : Int) == 34) = false := beq_eq_false_iff_ne.2 e34
      by_cases h92 : c = 92
      · have HE := Lib.hid (show enc1 c = [92, c] by unfold enc1; rw [if_neg h10, if_pos (.inr h92)])
        have HM := Lib.hid (show mean1 c = c by unfold mean1; rw [if_pos (.inr (.inr h92))])
        have f92 : ((c.toNat : Int) == 92) = true := by rw [byte_eq h92]; rfl
        have hcv := conv_two c wo
        have hcz : (⟨#[92, c]⟩ : ByteArray).size = 2 := rfl
        clear h10 h34 h92
        go_wp2_with (at_builtin; refine wpList_append_any _ rfl (.tmp 58) (.tmp 60) _ rfl w.heap.size 5 i0 _ 1 1 Tryd.underlying36 hi0 hz0 hz1 hz2 rfl (by omega) (.slice AO k cO) k _ rfl ((HOWN.out.alloc _).alloc _) (wo.heap.size + 1 + 1) (some ⟨wo.heap.size + 1, 0, none⟩) 1 1 [.int .u8 c.toNat] rfl ⟨rfl, fun _ => ⟨_, rfl, by simp, World.news_of_block (cs := #[.int .u8 c.toNat]) (t := 5) (fr := (0, 0)) (by simpa using heap_alloc_new (wo.alloc (.cells #[.int .u8 92, .int .u8 c.toNat] 5)) _)⟩⟩ (by simp [Value.oneCell']) (by simp only [maxLen]; omega) (by omega) (by have := hB.size; simp; omega) ?_; intro v' w2 hown2 hg2 hat2)
        have HO2 := Lib.hid hown2
        have hlv := fun q (hq : (Value.slice AO k cO).ownBlock = some q) => (HOWN.out.lt q hq).1
        have hB2 : Below w.heap.size w w2 := ((hB.alloc hB.size _).alloc (by have := hB.size; simp; omega) _).grown hg2 (by have := hB.size; simp; omega) hlv
        clear hown2 hg2 hat2 hlv
        go_roundw
        case rel => exact ⟨k + 1, by omega, by go_num, by rw [HTE.out, HE.out]; exact congrArg Value.string (bs_add _ _), by rw [HTM.out, HM.out]; exact HO2.out, hB2⟩
        case measure => simp [intOf]; omega
      have e92 : ¬ (c.toNat : Int) = 92 := byte_ne h92
      have f92 : ((c.toNat : Int) == 92) = false := beq_eq_false_iff_ne.2 e92
      have hno : ¬ (c = 10 ∨ c = 34 ∨ c = 92) := fun h => h.elim h10 fun h => h.elim h34 h92
      have hno2 : ¬ (c = 34 ∨ c = 92) := fun h => h.elim h34 h92
      by_cases hr : c < 32 ∨ 126 < c
      · have HE := Lib.hid (show enc1 c = [120] by unfold enc1; rw [if_neg h10, if_neg hno2, if_pos hr])
        have HM := Lib.hid (show mean1 c = 120 by unfold mean1; rw [if_neg hno, if_pos hr])
        have hr' : (c.toNat : Int) < 32 ∨ 126 < (c.toNat : Int) := by
          rcases hr with h | h
          · have := UInt8.lt_iff_toNat_lt.1 h; simp at this; omega
          · have := UInt8.lt_iff_toNat_lt.1 h; simp at this; omega
        clear h10 h34 h92 hno hno2 hr
        rcases hr' with hr | hr
        · have hx1 := hr
          go_wp2_with (at_builtin; refine wpList_append_any _ rfl (.tmp 58) (.tmp 60) _ rfl w.heap.size 5 i0 _ 1 1 Tryd.underlying36 hi0 hz0 hz1 hz2 rfl (by omega) (.slice AO k cO) k _ rfl (HOWN.out.alloc _) (wo.heap.size + 1) (some ⟨wo.heap.size, 0, none⟩) 1 1 [.int .u8 120] rfl ⟨rfl, fun _ => ⟨_, rfl, by simp, World.news_of_block (cs := #[.int .u8 120]) (t := 5) (fr := (0, 0)) (heap_alloc_new wo _)⟩⟩ (by simp [Value.oneCell']) (by simp only [maxLen]; omega) (by omega) (by have := hB.size; simp; omega) ?_; intro v' w2 hown2 hg2 hat2)
          have HO2 := Lib.hid hown2
          have hlv := fun q (hq : (Value.slice AO k cO).ownBlock = some q) => (HOWN.out.lt q hq).1
          have hB2 : Below w.heap.size w w2 := (hB.alloc hB.size _).grown hg2 (by have := hB.size; simp; omega) hlv
          clear hown2 hg2 hat2 hlv
          go_roundw
          case rel => exact ⟨k + 1, by omega, by go_num, by rw [HTE.out, HE.out]; exact congrArg Value.string (bs_add _ _), by rw [HTM.out, HM.out]; exact HO2.out, hB2⟩
          case measure => simp [intOf]; omega
        · have hx1 : ¬ (c.toNat : Int) < 32 := by omega
          go_wp2_with (at_builtin; refine wpList_append_any _ rfl (.tmp 58) (.tmp 60) _ rfl w.heap.size 5 i0 _ 1 1 Tryd.underlying36 hi0 hz0 hz1 hz2 rfl (by omega) (.slice AO k cO) k _ rfl (HOWN.out.alloc _) (wo.heap.size + 1) (some ⟨wo.heap.size, 0, none⟩) 1 1 [.int .u8 120] rfl ⟨rfl, fun _ => ⟨_, rfl, by simp, World.news_of_block (cs := #[.int .u8 120]) (t := 5) (fr := (0, 0)) (heap_alloc_new wo _)⟩⟩ (by simp [Value.oneCell']) (by simp only [maxLen]; omega) (by omega) (by have := hB.size; simp; omega) ?_; intro v' w2 hown2 hg2 hat2)
          have HO2 := Lib.hid hown2
          have hlv := fun q (hq : (Value.slice AO k cO).ownBlock = some q) => (HOWN.out.lt q hq).1
          have hB2 : Below w.heap.size w w2 := (hB.alloc hB.size _).grown hg2 (by have := hB.size; simp; omega) hlv
          clear hown2 hg2 hat2 hlv
          go_roundw
          case rel => exact ⟨k + 1, by omega, by go_num, by rw [HTE.out, HE.out]; exact congrArg Value.string (bs_add _ _), by rw [HTM.out, HM.out]; exact HO2.out, hB2⟩
          case measure => simp [intOf]; omega
      · have HE := Lib.hid (show enc1 c = [c] by unfold enc1; rw [if_neg h10, if_neg hno2, if_neg hr])
        have HM := Lib.hid (show mean1 c = c by unfold mean1; rw [if_neg hno, if_neg hr])
        have r1 : ¬ (c.toNat : Int) < 32 := by intro h; exact hr (.inl (UInt8.lt_iff_toNat_lt.2 (by simp; omega)))
        have r2 : ¬ 126 < (c.toNat : Int) := by intro h; exact hr (.inr (UInt8.lt_iff_toNat_lt.2 (by simp; omega)))
        have hcv := conv_one c wo
        have hcz : (⟨#[c]⟩ : ByteArray).size = 1 := rfl
        clear h10 h34 h92 hno hno2 hr
        go_wp2_with (at_builtin; refine wpList_append_any _ rfl (.tmp 58) (.tmp 60) _ rfl w.heap.size 5 i0 _ 1 1 Tryd.underlying36 hi0 hz0 hz1 hz2 rfl (by omega) (.slice AO k cO) k _ rfl ((HOWN.out.alloc _).alloc _) (wo.heap.size + 1 + 1) (some ⟨wo.heap.size + 1, 0, none⟩) 1 1 [.int .u8 c.toNat] rfl ⟨rfl, fun _ => ⟨_, rfl, by simp, World.news_of_block (cs := #[.int .u8 c.toNat]) (t := 5) (fr := (0, 0)) (by simpa using heap_alloc_new (wo.alloc (.cells #[.int .u8 c.toNat] 5)) _)⟩⟩ (by simp [Value.oneCell']) (by simp only [maxLen]; omega) (by omega) (by have := hB.size; simp; omega) ?_; intro v' w2 hown2 hg2 hat2)
        have HO2 := Lib.hid hown2
        have hlv := fun q (hq : (Value.slice AO k cO).ownBlock = some q) => (HOWN.out.lt q hq).1
        have hB2 : Below w.heap.size w w2 := ((hB.alloc hB.size _).alloc (by have := hB.size; simp; omega) _).grown hg2 (by have := hB.size; simp; omega) hlv
        clear hown2 hg2 hat2 hlv
        go_roundw
        case rel => exact ⟨k + 1, by omega, by go_num, by rw [HTE.out, HE.out]; exact congrArg Value.string (bs_add _ _), by rw [HTM.out, HM.out]; exact HO2.out, hB2⟩
        case measure => simp [intOf]; omega
    · obtain rfl : k = bl.length := by omega
      rw [List.take_length] at hsz
      have HS := Lib.hid (show bs (34 :: (bl.take bl.length).flatMap enc1) = bs (34 :: bl.flatMap enc1) by rw [List.take_length])
      rw [HS.out]
      have HO2 := HOWN.out
      rw [List.take_length] at HO2
      have HOWN := Lib.hid HO2
      clear HO2
      have ht1 := Lib.hid (ht.out.below hB)
      obtain ⟨t, hT⟩ : ∃ t, bs (34 :: bl.flatMap enc1) = t := ⟨_, rfl⟩
      have hq1 := lexD_quoted bl (by omega)
      have hq2 := lexD_open bl (by omega)
      have e1 : (t ++ (⟨#[34]⟩ : ByteArray)).data.toList = 34 :: (bl.flatMap enc1 ++ [34]) := by rw [← hT]; simp [bs]
      have e2 : t.data.toList = 34 :: bl.flatMap enc1 := by rw [← hT, bs_list]
      rw [← e1] at hq1
      rw [← e2] at hq2
      have H2 := Lib.hid (fun w ht => lex_fault t w ht hq2)
      rw [hT] at hsz ⊢
      clear e1 e2 hq2 hT
      by_cases h100 : 100 < bl.length
      · rw [if_pos h100] at hq1
        have H1 := Lib.hid (fun w ht => lex_fault (t ++ ⟨#[34]⟩) w ht hq1)
        have h100' : 100 < (bl.length : Int) := by omega
        clear hq1
        go_wp2_with (first
          | (go_at_call 9; ((with_reducible refine (H1.out _ ht1.out).mono ?_); rintro e w3 ⟨A3, c3, rfl, hb3⟩))
          | (go_at_call 12; refine (num_any _ _).mono ?_; rintro e w' ⟨rfl, rfl⟩))
        go_ret
        exact ⟨rfl, hB.trans (hb3.mono hB.size)⟩
      · rw [if_neg h100] at hq1
        have H1 := Lib.hid (fun w ht => lex_text (t ++ ⟨#[34]⟩) _ _ w ht hq1)
        have h100' : (bl.length : Int) ≤ 100 := by omega
        clear hq1
        go_wp2_with (first
          | (go_at_call 9; ((with_reducible refine (H1.out _ ht1.out).mono ?_); rintro e w3 ⟨g, c3, rfl, hb3, hg3, hgs, q0, q1, q2, q3⟩; have ht2 := Lib.hid (ht1.out.below hb3)))
          | (go_at_call 9; ((with_reducible refine (H2.out _ ht2.out).mono ?_); rintro e w4 ⟨A4, c4, rfl, hb4⟩)))
        have r0 := (hb4.cell (p := ⟨g, 0, none⟩) hgs).trans q0
        have r1 := (hb4.cell (p := ⟨g, 1, none⟩) hgs).trans q1
        have r2 := (hb4.cell (p := ⟨g, 2, none⟩) hgs).trans q2
        have r3 := (hb4.cell (p := ⟨g, 3, none⟩) hgs).trans q3
        have hcv : ∀ n, (convert 36 9 (.slice AO bl.length cO)).run Tryd.prog (w4.drewN n) = .ok (.string (bs (bl.map mean1))) (w4.drewN n) := by
          intro n
          have ho := own_below (own_below HOWN.out hb3) hb4
          have hl : (bl.map mean1).length = bl.length := by simp
          have ho2 : (w4.drewN n).ownsRow w.heap.size 5 1 (.slice AO bl.length cO) (bl.map mean1).length ((bl.map mean1).map byteV) := by rw [hl]; exact ho
          have := own_string ho2
          simpa using this
        have hB4 : Below w.heap.size w w4 := (hB.trans (hb3.mono hB.size)).trans (hb4.mono (by have := hB.size; have := hb3.size; omega))
        go_quiet ((go_at_call 12; exact Calls.quiet_of_same (num_same _ _)))
        go_wp2
        go_ret
        exact ⟨rfl, below_drewN hB4 _⟩

/-! ### The row's step. -/
set_option maxRecDepth 100000 in
theorem lifted (os : Os) (started : os.Started) (H : Type) (enc : TypeId × Value → H) :
    ReturnsInHanded {} Tryd.checked os 8 .any (fun w args => (Rows.lexStringsSpec.pre enc Tryd.prog Tryd.f8 Rows.lexStringsRow.domain false w args ∧ laidMet Tryd.prog Rows.lexStringsRow.laid w) ∧ sizedMet enc Tryd.prog Tryd.f8 (OpenSpec.ofChange Rows.lexStringsSpec) false w args)
      (Rows.lexStringsSpec.post enc Tryd.prog Tryd.f8 false true false false) := by
  refine returnsInHanded_of_change_and (C := Tryd.checked) (X := fun w _ => laidMet Tryd.prog Rows.lexStringsRow.laid w) (fun _ _ _ hh h => h.of_heap hh) own started (by kernel_rfl) Tryd.func8
    (ChangeSpec.witness_at (enc := enc) (C := Tryd.checked) (os := os) (X := fun w _ => laidMet Tryd.prog Rows.lexStringsRow.laid w) false (laidWorld os) #[.slice none 0 0] 8 rfl (by kernel_rfl) (by kernel_rfl) (by kernel_rfl) (by kernel_rfl) (by kernel_rfl) (laidWorld_met os _)) ?_
  intro W base args ds gs before hval0 hW _ _ hL _
  have hval : ∀ (j : Nat) t v, Tryd.f8.params[j]? = some t → args[j]? = some v → Value.okWide Tryd.prog W .any base t v := hval0
  have hW' := hW
  obtain ⟨p, q, hA0, hV, rfl, _, _⟩ := hW
  have hA : DataW.TrodAll enc Tryd.prog W 0 (fun _ => true) true Tryd.f8.params.toList args.toList ds p := hA0
  rw [Tryd.params8] at hA hval
  obtain ⟨v0, vs0, d0, ds0, p0, q0, hargs, rfl, rfl, h0, r0⟩ := trodAll_cons hA
  obtain ⟨rfl, rfl, rfl⟩ := trodAll_nil r0
  obtain rfl : args = #[v0] := by cases args; simp_all
  obtain ⟨rfl, rfl⟩ := trodVars_none hV
  obtain ⟨IA, bl, c2, rfl, hi⟩ := open_input (hval 0 36 v0 rfl rfl) h0
  refine (walk W (errT_of_laid hL) IA bl c2 hi).mono fun e W' ⟨he, hb⟩ => ?_
  subst he
  exact ⟨_, rfl, post_law laidOut (by rw [Tryd.params8]; intro t ht; simp at ht; (first | (rcases ht with rfl | rfl | rfl) | (rcases ht with rfl | rfl) | subst ht) <;> exact ⟨by kernel_rfl, of_decide_eq_true (by kernel_rfl)⟩) rfl rfl Tryd.underlying4 rfl hW' hb⟩

theorem over : Rows.lexStringsRow.holds Tryd.pinned (OpenSpec.ofChange Rows.lexStringsSpec) :=
  OpenClaim.holds_of_wide 8 Tryd.f8 rfl rfl rfl rfl rfl rfl rfl ⟨rfl, rfl, rfl, rfl, rfl⟩ rfl rfl rfl rfl rfl (by kernel_rfl) Tryd.func8 (by kernel_rfl)
    (of_decide_eq_true (by kernel_rfl)) (by unfold Func.isWrapper; first | (rw [if_pos (by decide +kernel)]; kernel_rfl) | (rw [if_neg (by decide +kernel)]; exact ⟨rfl, rfl⟩))
    (fun os started H enc _ => lifted os started H enc)

/-- The statement. -/
theorem proved : Rows.LexStringsCardSaid :=
  Claim7.holds_tied_plain_at .later [] _ true _ true
    over (fun _ h => by cases h) (by kernel_rfl) (fun _ h => by cases h) lexStrings_row_tie rfl ⟨rfl, rfl⟩ (by kernel_rfl) rfl
    (fun f fn hf hfn => by
      obtain rfl : f = 8 := Option.some.inj ((show Tryd.prog.funcNamed "mortise/mortiselaw4.LexStrings" = some 8 by kernel_rfl).symm.trans hf) |>.symm
      obtain rfl : fn = Tryd.f8 := (Option.some.inj (Tryd.func8.symm.trans hfn)).symm
      exact ⟨by kernel_rfl, fun j t ht => by
        have hm := Array.mem_of_getElem? ht
        rw [Tryd.params8] at hm
        simp at hm
        (first | (rcases hm with rfl | rfl | rfl) | (rcases hm with rfl | rfl) | subst hm) <;> exact (show Tryd.prog.wantsStandIn _ = false by kernel_rfl)⟩)
    (by kernel_rfl)
#print axioms proved
end Go.Proofs.YthkahjpflflecaaDoor.lexStrings
