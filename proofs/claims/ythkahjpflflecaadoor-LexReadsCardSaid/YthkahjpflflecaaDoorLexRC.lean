/-
  The document's strings: a walk.
-/
import Derived.Test.YthkahjpflflecaaDoorLexRB
namespace Go.Proofs.YthkahjpflflecaaDoor
open Go.RowKit
set_option linter.unusedVariables false

def rqV (p : Nat) : Option (Tk × Nat) → Value
  | none => .tuple #[tk0, .int .i64 0, .bool false]
  | some (t, n) => .tuple #[tkV t p, .int .i64 ((p + n : Nat) : Int), .bool true]
theorem q_at {t : ByteArray} {k : Nat} (hk : k < t.size) (acc : List UInt8) (i : Nat) : qL false acc i (t.data.toList.drop k) = if t[k] = 92 then qL true acc (i + 1) (t.data.toList.drop (k + 1)) else if t[k] = 34 then (if 100 < acc.length then none else some (acc, i + 2)) else if t[k] < 32 ∨ 126 < t[k] then none else qL false (acc ++ [t[k]]) (i + 1) (t.data.toList.drop (k + 1)) := by rw [drop_at hk]; rfl
theorem q_tat {t : ByteArray} {k : Nat} (hk : k < t.size) (acc : List UInt8) (i : Nat) : qL true acc i (t.data.toList.drop k) = if meanL t[k] = 0 then none else qL false (acc ++ [meanL t[k]]) (i + 1) (t.data.toList.drop (k + 1)) := by rw [drop_at hk]; rfl
set_option maxRecDepth 100000 in
set_option maxHeartbeats 8000000 in
theorem rquoted_any (s : ByteArray) (p : Nat) (w : World) (hs : s.size ≤ 8192) (hp : p < s.size) :
    Calls Tryd.prog 43 #[.string s, .int .i64 p] w fun e w' => e = .returned (rqV p (quotedL (s.data.toList.drop p))) ∧ Below w.heap.size w w' := by
  obtain ⟨i0, hi0, hz0, hz1, hz2⟩ := info_parts byte_info
  unfold quotedL
  rw [List.drop_drop]
  obtain ⟨Q, hQ⟩ : ∃ Q, qL false [] 0 (s.data.toList.drop (p + 1)) = Q := ⟨_, rfl⟩
  rw [hQ]
  have HQ0 := Lib.hid hQ
  clear hQ
  have p0 : (0 : Int) ≤ (p : Int) := by omega
  have p1 : (p : Int) < (s.size : Int) := by omega
  have z1 : (s.size : Int) ≤ 8192 := by omega
  go_enter Tryd.func43, Tryd.ntmps43
  go_wp2
  go_loopw [7, 8] (fun v k wr => ∃ (acc : List UInt8) (i : Nat), p + 1 + i ≤ s.size ∧ k = .int .i64 ((p + 1 + i : Nat) : Int) ∧ acc.length ≤ i ∧ wr.ownsRow (w.heap.size + 1) 5 1 v acc.length (acc.map byteV) ∧ Below (w.alloc box).heap.size (w.alloc box) wr ∧ qL false acc i (s.data.toList.drop (p + 1 + i)) = Q) (fun _ k _ => s.size - (intOf k).toNat)
  case atStart => exact ⟨[], 0, by omega, by go_num, Nat.le_refl _, World.ownsRow_nil _ _ _ 1, Below.refl _ _, HQ0.out⟩
  case round =>
    obtain ⟨acc, i, hi, rfl, hai, hown, hB, hq⟩ := hrel
    obtain ⟨wo, rfl⟩ : ∃ wo : World, wo = wr := ⟨_, rfl⟩
    obtain ⟨j, hj⟩ : ∃ j, p + 1 + i = j := ⟨_, rfl⟩
    rw [hj] at hi hq ⊢
    have j0 : (0 : Int) ≤ (j : Int) := by omega
    have j2 : (j : Int) ≤ (s.size : Int) := by omega
    obtain ⟨AO, cO, rfl⟩ := own_shape hown
    obtain ⟨hx1, hf1, hz1', hB1⟩ := one_box hB
    have c0 := hx1 0 _ rfl
    have c1 := hx1 1 _ rfl
    have c2 := hx1 2 _ rfl
    have c3 := hx1 3 _ rfl
    clear hx1
    have HO := Lib.hid hown
    have HB := Lib.hid hB
    have al : acc.length ≤ 8192 := by omega
    have HJ := Lib.hid hj
    have pj : (p : Int) + 1 ≤ (j : Int) := by omega
    clear hown hB hj HQ0
    by_cases hlt : j < s.size
    · have j1 : (j : Int) < (s.size : Int) := by omega
      have hb0 : 0 ≤ (s[j].toNat : Int) ∧ (s[j].toNat : Int) ≤ 255 := by have := s[j].toNat_lt; omega
      obtain ⟨hb0, hb1⟩ := hb0
      rw [q_at hlt] at hq
      by_cases h92 : s[j] = 92
      · rw [if_pos h92] at hq
        have y34 : ((s[j].toNat : Int) != 34) = true := by rw [h92]; rfl
        have y92 : ((s[j].toNat : Int) == 92) = true := by rw [h92]; rfl
        have r1 : ¬ (s[j].toNat : Int) < 32 := by rw [h92]; decide
        have r2 : ¬ 126 < (s[j].toNat : Int) := by rw [h92]; decide
        by_cases hl2 : j + 1 < s.size
        · rw [q_tat hl2] at hq
          have k1 : (j : Int) + 1 < (s.size : Int) := by omega
          have hb2 : 0 ≤ (s[j + 1].toNat : Int) ∧ (s[j + 1].toNat : Int) ≤ 255 := by have := s[j + 1].toNat_lt; omega
          obtain ⟨hb2, hb3⟩ := hb2
          by_cases m1 : s[j + 1] = 110
          · have hm : meanL s[j + 1] = 10 := by rw [m1]; rfl
            rw [hm, if_neg (by decide)] at hq
            have HQ := Lib.hid hq
            have y1 : ((s[j + 1].toNat : Int) == 110) = true := by rw [m1]; rfl
            clear hq h92 m1 hm
            go_wp2_with (at_builtin; refine wpList_append_any _ rfl (.tmp 53) (.tmp 55) _ rfl (w.heap.size + 1) 5 i0 _ 1 1 Tryd.underlying36 hi0 hz0 hz1 hz2 rfl (by omega) (.slice AO acc.length cO) acc.length _ rfl (HO.out.alloc _) (wo.heap.size + 1) (some ⟨wo.heap.size, 0, none⟩) 1 1 [.int .u8 10] rfl ⟨rfl, fun _ => ⟨_, rfl, by simp, World.news_of_block (cs := #[.int .u8 10]) (t := 5) (fr := (0, 0)) (heap_alloc_new wo _)⟩⟩ (by simp [Value.oneCell']) (by simp only [maxLen]; omega) (by omega) (by simp; omega) ?_; intro v' w2 hown2 hg2 hat2)
            have HO2 := Lib.hid hown2
            have hlv := fun q (hq : (Value.slice AO acc.length cO).ownBlock = some q) => (HO.out.lt q hq).1
            have hB2 : Below (w.alloc box).heap.size (w.alloc box) w2 := (HB.out.alloc (by simp; omega) _).grown hg2 (by simp; omega) (by simpa using hlv)
            clear hown2 hg2 hat2 hlv
            go_roundw
            case rel => exact ⟨acc ++ [10], i + 2, by have := HJ.out; omega, by have := HJ.out; go_num, by simp; omega, by rw [List.length_append, List.map_append]; exact HO2.out, hB2, by have := HJ.out; rw [show p + 1 + (i + 2) = j + 2 by omega]; exact HQ.out⟩
            case measure => simp [intOf]; omega
          have f1 : ((s[j + 1].toNat : Int) == 110) = false := by simpa using byte_ne (d := 110) m1
          by_cases m2 : s[j + 1] = 34
          · have hm : meanL s[j + 1] = s[j + 1] := by rw [m2]; rfl
            rw [hm, if_neg (by rw [m2]; decide)] at hq
            have HQ := Lib.hid hq
            have y1 : ((s[j + 1].toNat : Int) == 34) = true := by rw [m2]; rfl
            clear hq h92 m1 m2 hm
            go_wp2_with (at_builtin; refine wpList_append_any _ rfl (.tmp 53) (.tmp 55) _ rfl (w.heap.size + 1) 5 i0 _ 1 1 Tryd.underlying36 hi0 hz0 hz1 hz2 rfl (by omega) (.slice AO acc.length cO) acc.length _ rfl (HO.out.alloc _) (wo.heap.size + 1) (some ⟨wo.heap.size, 0, none⟩) 1 1 [.int .u8 s[j + 1].toNat] rfl ⟨rfl, fun _ => ⟨_, rfl, by simp, World.news_of_block (cs := #[.int .u8 s[j + 1].toNat]) (t := 5) (fr := (0, 0)) (heap_alloc_new wo _)⟩⟩ (by simp [Value.oneCell']) (by simp only [maxLen]; omega) (by omega) (by simp; omega) ?_; intro v' w2 hown2 hg2 hat2)
            have HO2 := Lib.hid hown2
            have hlv := fun q (hq : (Value.slice AO acc.length cO).ownBlock = some q) => (HO.out.lt q hq).1
            have hB2 : Below (w.alloc box).heap.size (w.alloc box) w2 := (HB.out.alloc (by simp; omega) _).grown hg2 (by simp; omega) (by simpa using hlv)
            clear hown2 hg2 hat2 hlv
            go_roundw
            case rel => exact ⟨acc ++ [s[j + 1]], i + 2, by have := HJ.out; omega, by have := HJ.out; go_num, by simp; omega, by rw [List.length_append, List.map_append]; exact HO2.out, hB2, by have := HJ.out; rw [show p + 1 + (i + 2) = j + 2 by omega]; exact HQ.out⟩
            case measure => simp [intOf]; omega
          have f2 : ((s[j + 1].toNat : Int) == 34) = false := by simpa using byte_ne (d := 34) m2
          by_cases m3 : s[j + 1] = 92
          · have hm : meanL s[j + 1] = s[j + 1] := by rw [m3]; rfl
            rw [hm, if_neg (by rw [m3]; decide)] at hq
            have HQ := Lib.hid hq
            have y1 : ((s[j + 1].toNat : Int) == 92) = true := by rw [m3]; rfl
            clear hq h92 m1 m2 m3 hm
            go_wp2_with (at_builtin; refine wpList_append_any _ rfl (.tmp 53) (.tmp 55) _ rfl (w.heap.size + 1) 5 i0 _ 1 1 Tryd.underlying36 hi0 hz0 hz1 hz2 rfl (by omega) (.slice AO acc.length cO) acc.length _ rfl (HO.out.alloc _) (wo.heap.size + 1) (some ⟨wo.heap.size, 0, none⟩) 1 1 [.int .u8 s[j + 1].toNat] rfl ⟨rfl, fun _ => ⟨_, rfl, by simp, World.news_of_block (cs := #[.int .u8 s[j + 1].toNat]) (t := 5) (fr := (0, 0)) (heap_alloc_new wo _)⟩⟩ (by simp [Value.oneCell']) (by simp only [maxLen]; omega) (by omega) (by simp; omega) ?_; intro v' w2 hown2 hg2 hat2)
            have HO2 := Lib.hid hown2
            have hlv := fun q (hq : (Value.slice AO acc.length cO).ownBlock = some q) => (HO.out.lt q hq).1
            have hB2 : Below (w.alloc box).heap.size (w.alloc box) w2 := (HB.out.alloc (by simp; omega) _).grown hg2 (by simp; omega) (by simpa using hlv)
            clear hown2 hg2 hat2 hlv
            go_roundw
            case rel => exact ⟨acc ++ [s[j + 1]], i + 2, by have := HJ.out; omega, by have := HJ.out; go_num, by simp; omega, by rw [List.length_append, List.map_append]; exact HO2.out, hB2, by have := HJ.out; rw [show p + 1 + (i + 2) = j + 2 by omega]; exact HQ.out⟩
            case measure => simp [intOf]; omega
          have f3 : ((s[j + 1].toNat : Int) == 92) = false := by simpa using byte_ne (d := 92) m3
          have hm : meanL s[j + 1] = 0 := by unfold meanL; rw [if_neg m1, if_neg m2, if_neg m3]
          rw [hm, if_pos rfl] at hq
          have HQ := Lib.hid hq
          clear hq h92 m1 m2 m3 hm
          go_wp2
          exact bodyPost_ret (v := .tuple #[tk0, .int .i64 0, .bool false]) (by simp [results, Tryd.results43, tk0, go_sem, c0, c1, c2, c3]) rfl ⟨by rw [← HQ.out]; rfl, four_cells hB1 (Nat.le_refl _) _ _ _ _⟩
        · rw [List.drop_eq_nil_of_le (by simp; omega)] at hq
          have k1 : (s.size : Int) ≤ (j : Int) + 1 := by omega
          have HQ := Lib.hid hq
          clear hq h92
          go_wp2
          exact bodyPost_ret (v := .tuple #[tk0, .int .i64 0, .bool false]) (by simp [results, Tryd.results43, tk0, go_sem, c0, c1, c2, c3]) rfl ⟨by rw [← HQ.out]; rfl, four_cells hB1 (Nat.le_refl _) _ _ _ _⟩
      rw [if_neg h92] at hq
      have f92 : ((s[j].toNat : Int) == 92) = false := by simpa using byte_ne (d := 92) h92
      by_cases h34 : s[j] = 34
      · rw [if_pos h34] at hq
        have y34 : ((s[j].toNat : Int) != 34) = false := by rw [h34]; rfl
        have k1 : decide ((s.size : Int) ≤ (j : Int)) = false := by simp; omega
        by_cases hl : 100 < acc.length
        · rw [if_pos hl] at hq
          have HQ := Lib.hid hq
          have hl' : 100 < (acc.length : Int) := by omega
          clear hq h92 h34
          go_wp2
          exact bodyPost_ret (v := .tuple #[tk0, .int .i64 0, .bool false]) (by simp [results, Tryd.results43, tk0, go_sem, c0, c1, c2, c3]) rfl ⟨by rw [← HQ.out]; rfl, four_cells hB1 (Nat.le_refl _) _ _ _ _⟩
        · rw [if_neg hl] at hq
          have HQ := Lib.hid hq
          have hl' : (acc.length : Int) ≤ 100 := by omega
          have hcv := own_string HO.out
          clear hq h92 h34
          go_wp2
          exact bodyPost_ret (v := .tuple #[tkV ⟨4, acc, 0⟩ p, .int .i64 ((j : Int) + 1), .bool true]) (by simp [results, Tryd.results43, tkV, go_sem, c0, c1, c2, c3]) rfl ⟨by rw [← HQ.out]; exact congrArg Ending.returned (show Value.tuple #[tkV ⟨4, acc, 0⟩ p, .int .i64 ((j : Int) + 1), .bool true] = Value.tuple #[tkV ⟨4, acc, 0⟩ p, .int .i64 ((p + (i + 2) : Nat) : Int), .bool true] by have := HJ.out; rw [show (j : Int) + 1 = ((p + (i + 2) : Nat) : Int) by omega]), four_cells hB1 (Nat.le_refl _) _ _ _ _⟩
      rw [if_neg h34] at hq
      have y34 : ((s[j].toNat : Int) != 34) = true := by simpa using byte_ne (d := 34) h34
      by_cases hr : s[j] < 32 ∨ 126 < s[j]
      · rw [if_pos hr] at hq
        have HQ := Lib.hid hq
        have hr' : (s[j].toNat : Int) < 32 ∨ 126 < (s[j].toNat : Int) := by
          rcases hr with h | h
          · have := UInt8.lt_iff_toNat_lt.1 h; simp at this; omega
          · have := UInt8.lt_iff_toNat_lt.1 h; simp at this; omega
        clear hq h92 h34 hr
        rcases hr' with hr | hr
        · go_wp2
          exact bodyPost_ret (v := .tuple #[tk0, .int .i64 0, .bool false]) (by simp [results, Tryd.results43, tk0, go_sem, c0, c1, c2, c3]) rfl ⟨by rw [← HQ.out]; rfl, four_cells hB1 (Nat.le_refl _) _ _ _ _⟩
        · have r1 : ¬ (s[j].toNat : Int) < 32 := by omega
          go_wp2
          exact bodyPost_ret (v := .tuple #[tk0, .int .i64 0, .bool false]) (by simp [results, Tryd.results43, tk0, go_sem, c0, c1, c2, c3]) rfl ⟨by rw [← HQ.out]; rfl, four_cells hB1 (Nat.le_refl _) _ _ _ _⟩
      · rw [if_neg hr] at hq
        have r1 : ¬ (s[j].toNat : Int) < 32 := by intro h; exact hr (.inl (UInt8.lt_iff_toNat_lt.2 (by simp; omega)))
        have r2 : ¬ 126 < (s[j].toNat : Int) := by intro h; exact hr (.inr (UInt8.lt_iff_toNat_lt.2 (by simp; omega)))
        have HQ := Lib.hid hq
        clear hq h92 h34 hr
        go_wp2_with (at_builtin; refine wpList_append_any _ rfl (.tmp 53) (.tmp 55) _ rfl (w.heap.size + 1) 5 i0 _ 1 1 Tryd.underlying36 hi0 hz0 hz1 hz2 rfl (by omega) (.slice AO acc.length cO) acc.length _ rfl (HO.out.alloc _) (wo.heap.size + 1) (some ⟨wo.heap.size, 0, none⟩) 1 1 [.int .u8 s[j].toNat] rfl ⟨rfl, fun _ => ⟨_, rfl, by simp, World.news_of_block (cs := #[.int .u8 s[j].toNat]) (t := 5) (fr := (0, 0)) (heap_alloc_new wo _)⟩⟩ (by simp [Value.oneCell']) (by simp only [maxLen]; omega) (by omega) (by simp; omega) ?_; intro v' w2 hown2 hg2 hat2)
        have HO2 := Lib.hid hown2
        have hlv := fun q (hq : (Value.slice AO acc.length cO).ownBlock = some q) => (HO.out.lt q hq).1
        have hB2 : Below (w.alloc box).heap.size (w.alloc box) w2 := (HB.out.alloc (by simp; omega) _).grown hg2 (by simp; omega) (by simpa using hlv)
        clear hown2 hg2 hat2 hlv
        go_roundw
        case rel => exact ⟨acc ++ [s[j]], i + 1, by have := HJ.out; omega, by have := HJ.out; go_num, by simp; omega, by rw [List.length_append, List.map_append]; exact HO2.out, hB2, by have := HJ.out; rw [show p + 1 + (i + 1) = j + 1 by omega]; exact HQ.out⟩
        case measure => simp [intOf]; omega
    · obtain rfl : j = s.size := by omega
      rw [List.drop_eq_nil_of_le (by simp)] at hq
      have HQ := Lib.hid hq
      clear hq
      go_wp2
      exact bodyPost_ret (v := .tuple #[tk0, .int .i64 0, .bool false]) (by simp [results, Tryd.results43, tk0, go_sem, c0, c1, c2, c3]) rfl ⟨by rw [← HQ.out]; rfl, four_cells hB1 (Nat.le_refl _) _ _ _ _⟩
end Go.Proofs.YthkahjpflflecaaDoor
