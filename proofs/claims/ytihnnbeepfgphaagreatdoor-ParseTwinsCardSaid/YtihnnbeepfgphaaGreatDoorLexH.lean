/-
  Signs, strings, the first token: walks.
-/
import Derived.Test.YtihnnbeepfgphaaGreatDoorLexG
import Derived.Laws.BytesArg
import Derived.Laws.IdiomStrings
namespace Go.Proofs.YtihnnbeepfgphaaGreatDoor
open Go.RowKit
set_option linter.unusedVariables false
set_option linter.unusedSimpArgs false

theorem meaning_any (c : UInt8) (w : World) : Calls Tryz.prog 52 #[.int .u8 c.toNat] w fun e w' => e = .returned (.int .u8 (meanL c).toNat) ∧ w = w' := by
  by_cases h1 : c = 110
  · subst h1
    go_enter Tryz.func52, Tryz.ntmps52
    go_wp2
    go_ret
    exact ⟨rfl, rfl⟩
  by_cases h2 : c = 34
  · subst h2
    go_enter Tryz.func52, Tryz.ntmps52
    go_wp2
    go_ret
    exact ⟨rfl, rfl⟩
  by_cases h3 : c = 92
  · subst h3
    go_enter Tryz.func52, Tryz.ntmps52
    go_wp2
    go_ret
    exact ⟨rfl, rfl⟩
  have hm : meanL c = 0 := by unfold meanL; rw [if_neg h1, if_neg h2, if_neg h3]
  have e1 : ¬ (c.toNat : Int) = 110 := by intro e; exact h1 (UInt8.toNat_inj.1 (by simpa using (by omega : c.toNat = 110)))
  have e2 : ¬ (c.toNat : Int) = 34 := by intro e; exact h2 (UInt8.toNat_inj.1 (by simpa using (by omega : c.toNat = 34)))
  have e3 : ¬ (c.toNat : Int) = 92 := by intro e; exact h3 (UInt8.toNat_inj.1 (by simpa using (by omega : c.toNat = 92)))
  rw [hm]
  clear hm h1 h2 h3
  go_enter Tryz.func52, Tryz.ntmps52
  go_wp2
  go_ret
  exact ⟨rfl, rfl⟩

theorem sign_any (s : ByteArray) (w : World) (hs : s.size ≤ 8192) (h0 : 0 < s.size) :
    Calls Tryz.prog 37 #[.string s] w fun e w' => e = .returned (foundV (signL s.data.toList)) ∧ Below w.heap.size w w' := by
  obtain ⟨n, hN⟩ : ∃ n, n = signN s.data.toList := ⟨_, rfl⟩
  have hle : n ≤ s.size := by
    rw [hN]; unfold signN
    split
    · rename_i h
      rcases Nat.lt_or_ge 1 s.size with h1 | h1
      · omega
      · rw [size1 h1] at h; cases h
    · split <;> omega
  have hX := ext_bs s n
  have hz : (s.extract 0 n).size = n := by simp; omega
  have hz' : (s.extract 0 n).size ≤ 8192 := by omega
  unfold signL
  rw [← hN]
  have HN := Lib.hid hN
  have HX := Lib.hid hX
  clear hN hX hz
  by_cases hn : n = 0
  · rw [if_pos hn]
    have HZ := Lib.hid hn
    have hn0 : (n : Int) = 0 := by omega
    clear hn
    go_enter Tryz.func37, Tryz.ntmps37
    go_wp2_with (go_at_call 53; refine (size_any _ _ h0 (by unfold maxLen; omega)).mono ?_; rw [← HN.out]; rintro e w' ⟨rfl, rfl⟩)
    exact bodyPost_ret (v := foundV none) (by simp [results, Tryz.results37, foundV, tk0, go_sem]) rfl ⟨rfl, below_box _ _ _⟩
  · rw [if_neg hn]
    have hn0 : ¬ (n : Int) = 0 := by omega
    go_enter Tryz.func37, Tryz.ntmps37
    go_wp2_with (first
      | (go_at_call 53; refine (size_any _ _ h0 (by unfold maxLen; omega)).mono ?_; rw [← HN.out]; rintro e w' ⟨rfl, rfl⟩)
      | (go_at_call 47; refine (clone_any _ _ hz').mono ?_; rintro e w1 ⟨rfl, hb⟩; obtain ⟨hx1, hf1, hz1, hB1⟩ := one_box hb; clear hb; have c0 := hx1 0 _ rfl; have c1 := hx1 1 _ rfl; have c2 := hx1 2 _ rfl; have c3 := hx1 3 _ rfl; clear hx1))
    exact bodyPost_ret (v := foundV (some (_, _))) (by simp [results, Tryz.results37, foundV, tkV, go_sem, HX.out, c0, c1, c2, c3]) rfl ⟨rfl, four_cells hB1 (Nat.le_refl _) _ _ _ _⟩

/-! Strings. -/
def byteV (c : UInt8) : Value := .int .u8 c.toNat
theorem own_string {w : World} {base : Nat} {v : Value} {l : List UInt8} (h : w.ownsRow base 5 1 v l.length (l.map byteV)) : (convert 41 9 v).run Tryz.prog w = .ok (.string (bs l)) w := by
  rcases h.2 with ⟨rfl, hl⟩ | ⟨g, cap, cur, rfl, _⟩
  · have : l = [] := List.eq_nil_of_length_eq_zero hl
    subst this
    exact run_convert_bytes_nil (w := w) 41 5 Tryz.underlying41 Tryz.underlying5 0 0 9 Tryz.underlying9
  · exact run_convert_bytes_back (P := Tryz.prog) w 41 9 5 ⟨g, 0, none⟩ cap l Tryz.underlying41 Tryz.underlying5 Tryz.underlying9 (fun j hj => by
      refine h.cells (g := g) rfl j _ ?_
      simp [hj, byteV])
def box : Obj := .cells #[.int .i64 0, .string ⟨#[]⟩, .int .i64 0, .int .i64 0] 58
theorem byte_info : (Tryz.prog.info? 5).map (fun i => (i.zero, i.size, i.bytes)) = some (some (.int .u8 0), 1, 1) := by kernel_rfl
theorem byte_eq {c d : UInt8} (h : c = d) : (c.toNat : Int) = (d.toNat : Int) := by rw [h]
theorem byte_ne {c d : UInt8} (h : ¬ c = d) : ¬ (c.toNat : Int) = (d.toNat : Int) := fun e => h (UInt8.toNat_inj.1 (by omega))
theorem q_true {t : ByteArray} {k : Nat} (hk : k < t.size) (acc : List UInt8) : qL true acc k (t.data.toList.drop k) = if meanL t[k] = 0 then none else qL false (acc ++ [meanL t[k]]) (k + 1) (t.data.toList.drop (k + 1)) := by rw [drop_at hk]; rfl
theorem q_false {t : ByteArray} {k : Nat} (hk : k < t.size) (acc : List UInt8) : qL false acc k (t.data.toList.drop k) = if t[k] = 92 then qL true acc (k + 1) (t.data.toList.drop (k + 1)) else if t[k] = 34 then (if 100 < acc.length then none else some (acc, k + 2)) else if t[k] < 32 ∨ 126 < t[k] then none else qL false (acc ++ [t[k]]) (k + 1) (t.data.toList.drop (k + 1)) := by rw [drop_at hk]; rfl
theorem q_end (b : Bool) (acc : List UInt8) (k : Nat) (t : ByteArray) : qL b acc k (t.data.toList.drop t.size) = none := by
  rw [List.drop_eq_nil_of_le (by simp)]; cases b <;> rfl

set_option maxRecDepth 100000 in
set_option maxHeartbeats 2000000 in
theorem quoted_any (s : ByteArray) (w : World) (hs : s.size ≤ 8192) (h0 : 0 < s.size) :
    Calls Tryz.prog 36 #[.string s] w fun e w' => e = .returned (foundV (quotedL s.data.toList)) ∧ Below w.heap.size w w' := by
  obtain ⟨i0, hi0, hz0, hz1, hz2⟩ := info_parts byte_info
  obtain ⟨t, hX⟩ : ∃ t, s.extract 1 s.size = t := ⟨_, rfl⟩
  have htl : t.data.toList = s.data.toList.drop 1 := by rw [← hX, ext_end]
  have htz : t.size ≤ 8192 := by rw [← hX]; simp; omega
  unfold quotedL
  rw [← htl]
  clear htl
  go_enter Tryz.func36, Tryz.ntmps36
  go_wp2
  clear hX
  go_loopw [5, 6, 14] (fun v m i wr => ∃ (b : Bool) (acc : List UInt8) (k : Nat), k ≤ t.size ∧ m = .bool b ∧ i = .int .i64 k ∧ acc.length ≤ k ∧ wr.ownsRow (w.heap.size + 1) 5 1 v acc.length (acc.map byteV) ∧ Below (w.alloc box).heap.size (w.alloc box) wr ∧ qL b acc k (t.data.toList.drop k) = qL false [] 0 t.data.toList) (fun _ _ i _ => t.size - (intOf i).toNat)
  case atStart => exact ⟨false, [], 0, Nat.zero_le _, rfl, rfl, Nat.le_refl _, World.ownsRow_nil _ _ _ 1, Below.refl _ _, by simp⟩
  case round =>
    obtain ⟨b, acc, k, hk, rfl, rfl, hak, hown, hB, hq⟩ := hrel
    obtain ⟨wo, rfl⟩ : ∃ wo : World, wo = wr := ⟨_, rfl⟩
    have k0 : (0 : Int) ≤ (k : Int) := by omega
    obtain ⟨AO, cO, rfl⟩ := own_shape hown
    obtain ⟨hx1, hf1, hz1', hB1⟩ := one_box hB
    have c0 := hx1 0 _ rfl
    have c1 := hx1 1 _ rfl
    have c2 := hx1 2 _ rfl
    have c3 := hx1 3 _ rfl
    clear hx1
    have HO := Lib.hid hown
    have HB := Lib.hid hB
    clear hown hB
    by_cases hlt : k < t.size
    · have k1 : (k : Int) < (t.size : Int) := by omega
      have hb0 : 0 ≤ (t[k].toNat : Int) ∧ (t[k].toNat : Int) ≤ 255 := by have := t[k].toNat_lt; omega
      obtain ⟨hb0, hb1⟩ := hb0
      cases b
      · rw [q_false hlt] at hq
        by_cases h92 : t[k] = 92
        · rw [if_pos h92] at hq
          have e92 : (t[k].toNat : Int) = 92 := byte_eq h92
          have HQ := Lib.hid hq
          clear hq h92
          go_wp2
          go_roundw
          case rel => exact ⟨true, acc, k + 1, by omega, rfl, by go_num, by omega, HO.out, HB.out, HQ.out⟩
          case measure => simp [intOf]; omega
        rw [if_neg h92] at hq
        have e92 : ¬ (t[k].toNat : Int) = 92 := byte_ne h92
        have f92 : ((t[k].toNat : Int) == 92) = false := beq_eq_false_iff_ne.2 e92
        by_cases h34 : t[k] = 34
        · rw [if_pos h34] at hq
          have e34 : (t[k].toNat : Int) = 34 := byte_eq h34
          clear h34 h92
          by_cases hl : 100 < acc.length
          · rw [if_pos hl] at hq
            have HQ := Lib.hid hq
            clear hq
            go_wp2
            exact bodyPost_ret (v := foundV none) (by simp [results, Tryz.results36, foundV, tk0, go_sem, c0, c1, c2, c3]) rfl ⟨by rw [← HQ.out]; rfl, four_cells hB1 (Nat.le_refl _) _ _ _ _⟩
          · rw [if_neg hl] at hq
            have HQ := Lib.hid hq
            clear hq
            have hcv := own_string HO.out
            go_wp2
            exact bodyPost_ret (v := foundV (some (⟨4, acc, 0⟩, k + 2))) (by simp [results, Tryz.results36, foundV, tkV, go_sem, c0, c1, c2, c3]) rfl ⟨by rw [← HQ.out]; rfl, four_cells hB1 (Nat.le_refl _) _ _ _ _⟩
        rw [if_neg h34] at hq
        have e34 : ¬ (t[k].toNat : Int) = 34 := byte_ne h34
        have f34 : ((t[k].toNat : Int) == 34) = false := beq_eq_false_iff_ne.2 e34
        by_cases hr : t[k] < 32 ∨ 126 < t[k]
        · rw [if_pos hr] at hq
          have HQ := Lib.hid hq
          clear hq
          rcases hr with hr | hr
          · have hr' : (t[k].toNat : Int) < 32 := by have := UInt8.lt_iff_toNat_lt.1 hr; simp at this; omega
            clear hr
            go_wp2
            exact bodyPost_ret (v := foundV none) (by simp [results, Tryz.results36, foundV, tk0, go_sem, c0, c1, c2, c3]) rfl ⟨by rw [← HQ.out]; rfl, four_cells hB1 (Nat.le_refl _) _ _ _ _⟩
          · have hr' : 126 < (t[k].toNat : Int) := by have := UInt8.lt_iff_toNat_lt.1 hr; simp at this; omega
            have hr'' : ¬ (t[k].toNat : Int) < 32 := by omega
            clear hr
            go_wp2
            exact bodyPost_ret (v := foundV none) (by simp [results, Tryz.results36, foundV, tk0, go_sem, c0, c1, c2, c3]) rfl ⟨by rw [← HQ.out]; rfl, four_cells hB1 (Nat.le_refl _) _ _ _ _⟩
        · rw [if_neg hr] at hq
          have r1 : ¬ (t[k].toNat : Int) < 32 := by intro h; exact hr (.inl (UInt8.lt_iff_toNat_lt.2 (by simp; omega)))
          have r2 : ¬ 126 < (t[k].toNat : Int) := by intro h; exact hr (.inr (UInt8.lt_iff_toNat_lt.2 (by simp; omega)))
          have HQ := Lib.hid hq
          clear hq hr h34 h92
          go_wp2_with (at_builtin; refine wpList_append_any _ rfl (.tmp 20) (.tmp 22) _ rfl (w.heap.size + 1) 5 i0 _ 1 1 Tryz.underlying41 hi0 hz0 hz1 hz2 rfl (by omega) (.slice AO acc.length cO) acc.length _ rfl (HO.out.alloc _) (wo.heap.size + 1) (some ⟨wo.heap.size, 0, none⟩) 1 1 [byteV t[k]] rfl ⟨rfl, fun _ => ⟨_, rfl, by simp, World.news_of_block (cs := #[byteV t[k]]) (t := 5) (fr := (0, 0)) (heap_alloc_new wo _)⟩⟩ (by simp [Value.oneCell', byteV]) (by simp only [maxLen]; omega) (by omega) (by simp; omega) ?_; intro v' w2 hown2 hg2 hat2)
          have HO2 := Lib.hid hown2
          have hlv := fun q (hq : (Value.slice AO acc.length cO).ownBlock = some q) => (HO.out.lt q hq).1
          have hB2 : Below (w.alloc box).heap.size (w.alloc box) w2 := (HB.out.alloc (by simp; omega) _).grown hg2 (by simp; omega) (by simpa using hlv)
          clear hown2 hg2 hat2 hlv
          go_roundw
          case rel => exact ⟨false, acc ++ [t[k]], k + 1, by omega, rfl, by go_num, by simp; omega, by simpa using HO2.out, hB2, HQ.out⟩
          case measure => simp [intOf]; omega
      · rw [q_true hlt] at hq
        by_cases hm : meanL t[k] = 0
        · rw [if_pos hm] at hq
          have HM := Lib.hid hm
          have HQ := Lib.hid hq
          clear hq hm
          go_wp2_with (go_at_call 52; refine (meaning_any _ _).mono ?_; rw [HM.out]; rintro e w' ⟨rfl, rfl⟩)
          exact bodyPost_ret (v := foundV none) (by simp [results, Tryz.results36, foundV, tk0, go_sem, c0, c1, c2, c3]) rfl ⟨by rw [← HQ.out]; rfl, four_cells hB1 (Nat.le_refl _) _ _ _ _⟩
        · rw [if_neg hm] at hq
          have HQ := Lib.hid hq
          have hm' : ¬ ((meanL t[k]).toNat : Int) = 0 := byte_ne (d := 0) hm
          clear hq hm
          go_wp2_with (first
            | (go_at_call 52; refine (meaning_any _ _).mono ?_; rintro e w' ⟨rfl, rfl⟩)
            | (at_builtin; refine wpList_append_any _ rfl (.tmp 31) (.tmp 33) _ rfl (w.heap.size + 1) 5 i0 _ 1 1 Tryz.underlying41 hi0 hz0 hz1 hz2 rfl (by omega) (.slice AO acc.length cO) acc.length _ rfl (HO.out.alloc _) (wo.heap.size + 1) (some ⟨wo.heap.size, 0, none⟩) 1 1 [byteV (meanL t[k])] rfl ⟨rfl, fun _ => ⟨_, rfl, by simp, World.news_of_block (cs := #[byteV (meanL t[k])]) (t := 5) (fr := (0, 0)) (heap_alloc_new wo _)⟩⟩ (by simp [Value.oneCell', byteV]) (by simp only [maxLen]; omega) (by omega) (by simp; omega) ?_; intro v' w2 hown2 hg2 hat2))
          have HO2 := Lib.hid hown2
          have hlv := fun q (hq : (Value.slice AO acc.length cO).ownBlock = some q) => (HO.out.lt q hq).1
          have hB2 : Below (w.alloc box).heap.size (w.alloc box) w2 := (HB.out.alloc (by simp; omega) _).grown hg2 (by simp; omega) (by simpa using hlv)
          clear hown2 hg2 hat2 hlv
          go_roundw
          case rel => exact ⟨false, acc ++ [meanL t[k]], k + 1, by omega, rfl, by go_num, by simp; omega, by simpa using HO2.out, hB2, HQ.out⟩
          case measure => simp [intOf]; omega
    · obtain rfl : k = t.size := by omega
      rw [q_end] at hq
      have HQ := Lib.hid hq
      clear hq
      go_wp2
      exact bodyPost_ret (v := foundV none) (by simp [results, Tryz.results36, foundV, tk0, go_sem, c0, c1, c2, c3]) rfl ⟨by rw [← HQ.out]; rfl, four_cells hB1 (Nat.le_refl _) _ _ _ _⟩
end Go.Proofs.YtihnnbeepfgphaaGreatDoor
