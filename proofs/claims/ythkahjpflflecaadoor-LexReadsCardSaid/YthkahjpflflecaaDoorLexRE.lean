/-
  The document's tokens of a whole text; two lists of tokens held side by side: walks.
-/
import Derived.Test.YthkahjpflflecaaDoorLexRD
namespace Go.Proofs.YthkahjpflflecaaDoor
open Go.RowKit
set_option linter.unusedVariables false

set_option maxHeartbeats 2000000 in
theorem long_any (s : ByteArray) (w : World) (hs : s.size ≤ 8192) : Calls Tryd.prog 22 #[.string s] w (LexPost (lexG s.data.toList) w) := by
  obtain ⟨i0, hi0, hz0, hz1, hz2⟩ := info_parts token_info
  obtain ⟨l, hl⟩ : ∃ l, s.data.toList = l := ⟨_, rfl⟩
  have hsz : l.length = s.size := by rw [← hl]; simp
  rw [hl]
  unfold lexG
  obtain ⟨g, hg⟩ : ∃ g, gapL false l = g := ⟨_, rfl⟩
  have hgl : g ≤ l.length := by rw [← hg]; exact gapL_le _ _
  rw [hg]
  obtain ⟨R, hR⟩ : ∃ R, lexL (l.length + 1) g (l.drop g) = R := ⟨_, rfl⟩
  rw [hR]
  have hblank := fun p (hp : p ≤ s.size) w => rblank_any s p w (by unfold maxLen; omega) hp
  have hnext := fun p (hp : p < s.size) w => rnext_any s p w hs hp
  rw [hl] at hblank hnext
  have hb0 : ∀ w, Calls Tryd.prog 35 #[.string s, .int .i64 0] w fun e w' => e = .returned (.int .i64 g) ∧ w = w' := by
    intro w
    have := hblank 0 (Nat.zero_le _) w
    rw [List.drop_zero, Nat.zero_add, hg] at this
    exact this
  have HL := Lib.hid hl
  have HG := Lib.hid hg
  have HR := Lib.hid hR
  have HS := Lib.hid hsz
  have HB := Lib.hid hblank
  have HB0 := Lib.hid hb0
  have HNX := Lib.hid hnext
  have hg' : g ≤ s.size := by omega
  clear hl hg hR hsz hgl hblank hb0 hnext
  go_enter Tryd.func22, Tryd.ntmps22
  go_wp2_with (go_at_call 35; refine (HB0.out _).mono ?_; rintro e w' ⟨rfl, rfl⟩)
  go_loopw [5, 6] (fun v i wr => ∃ (acc : List (Tk × Nat)) (k f : Nat), k ≤ s.size ∧ i = .int .i64 k ∧ acc.length ≤ k ∧ s.size < k + f ∧ wr.ownsRow w.heap.size 31 4 v acc.length (acc.flatMap tkC) ∧ Below w.heap.size w wr ∧ joinL acc (lexL f k (l.drop k)) = R) (fun _ i _ => s.size - (intOf i).toNat)
  case atStart => exact ⟨[], g, l.length + 1, hg', rfl, Nat.zero_le _, by have := HS.out; omega, World.ownsRow_nil _ _ _ 4, Below.refl _ _, by rw [joinL_nil]; exact HR.out⟩
  case round =>
    obtain ⟨acc, k, f, hk, rfl, hak, hkf, hown, hB, hq⟩ := hrel
    obtain ⟨wo, rfl⟩ : ∃ wo : World, wo = wr := ⟨_, rfl⟩
    have k0 : (0 : Int) ≤ (k : Int) := by omega
    obtain ⟨AO, cO, rfl⟩ := own_shape hown
    obtain ⟨f', rfl⟩ : ∃ f', f = f' + 1 := ⟨f - 1, by omega⟩
    by_cases hlt : k < s.size
    · have k1 : (k : Int) < (s.size : Int) := by omega
      have hne : l.drop k ≠ [] := by
        intro e
        have := congrArg List.length e
        simp at this
        have := HS.out
        omega
      have hnx := HNX.out k hlt
      cases ho : firstL (l.drop k) with
      | none =>
        rw [lexL_none hne ho] at hq
        rw [ho] at hnx
        have HN := Lib.hid hnx
        have HQ := Lib.hid hq
        clear hnx ho hq hne
        go_wp2_with (first
          | (go_at_call 36; refine (HN.out _).mono ?_; rintro e w1 ⟨tk, tt, tn, ta, ee, rfl, hb, _⟩; have hB1 : Below w.heap.size w w1 := hB.trans (hb.mono hB.size)))
        go_ret3
        rw [← HQ.out]
        exact ⟨none, 0, rfl, World.ownsRow_nil _ _ _ 4, hB1.alloc hB1.size _⟩
      | some x =>
        obtain ⟨t, n⟩ := x
        obtain ⟨n0, n1⟩ := first_size ho
        have n2 : n ≤ s.size - k := by have := HS.out; simp at n1; omega
        rw [lexL_some hne ho, joinL_join] at hq
        rw [ho] at hnx
        obtain ⟨g2, hg2⟩ : ∃ g2, gapL false ((l.drop k).drop n) = g2 := ⟨_, rfl⟩
        have hgl := gapL_le false ((l.drop k).drop n)
        rw [hg2] at hq hgl
        have hd2 : (l.drop k).drop n = l.drop (k + n) := by rw [List.drop_drop]
        have hbl := HB.out (k + n) (by omega)
        rw [← hd2, hg2] at hbl
        have g3 : k + n + g2 ≤ s.size := by have := HS.out; simp at hgl; omega
        rw [hd2] at hq
        have HN := Lib.hid hnx
        have HBL := Lib.hid hbl
        have HOWN := Lib.hid hown
        have HQ := Lib.hid hq
        clear ho hg2 hown hq hd2 hne hgl n1 hnx hbl
        go_wp2_with (first
          | (go_at_call 36; refine (HN.out _).mono ?_; rintro e w1 ⟨tk, tt, tn, ta, ee, rfl, hb, hf⟩; obtain ⟨rfl, rfl, rfl, rfl, rfl⟩ := hf t n rfl; clear hf; have HOWN1 := Lib.hid (own_below HOWN.out hb); have hB1 : Below w.heap.size w w1 := hB.trans (hb.mono hB.size))
          | (at_builtin; refine wpList_append_any _ rfl (.tmp 26) (.tmp 28) _ rfl w.heap.size 31 i0 _ 4 40 Tryd.underlying22 hi0 hz0 hz1 hz2 rfl (by omega) (.slice AO acc.length cO) acc.length _ rfl ((HOWN1.out.alloc _).alloc _) (w1.heap.size + 1 + 1) (some ⟨w1.heap.size + 1, 0, none⟩) 1 1 (tkC (t, k)) rfl ⟨rfl, fun _ => ⟨_, rfl, by simp, World.news_of_block (cs := #[.int .i64 t.k, .string (bs t.t), .int .i64 t.n, .int .i64 k]) (t := 31) (fr := (0, 0)) (by simpa using heap_alloc_new (w1.alloc (.cells #[.int .i64 t.k, .string (bs t.t), .int .i64 t.n, .int .i64 k] 31)) _)⟩⟩ (cells_ne _) (by simp only [maxLen]; omega) (by omega) (by have := hB1.size; simp; omega) ?_; intro v' w2 hown2 hg2 hat2)
          | (go_at_call 35; refine (HBL.out _).mono ?_; rintro e w' ⟨rfl, rfl⟩))
        have HO2 := Lib.hid hown2
        have hlv := fun q (hq : (Value.slice AO acc.length cO).ownBlock = some q) => (HOWN1.out.lt q hq).1
        have hB2 : Below w.heap.size w w2 := (((hB1.alloc hB1.size _).alloc (by have := hB1.size; simp; omega) _).grown hg2 (by have := hB1.size; simp; omega) hlv)
        clear hown2 hg2 hat2 hlv
        go_roundw
        case rel => exact ⟨acc ++ [(t, k)], k + n + g2, f', g3, by go_num, by simp; omega, by omega, by simpa using HO2.out, hB2, by rw [← HQ.out, List.drop_drop]⟩
        case measure => simp [intOf]; omega
    · obtain rfl : k = s.size := by omega
      have hnil : l.drop s.size = [] := List.drop_eq_nil_of_le (by have := HS.out; omega)
      rw [hnil, lexL_end] at hq
      have HQ := Lib.hid hq
      have HOWN := Lib.hid hown
      clear hq hnil hown
      go_wp2_with (at_builtin; refine wpList_append_any _ rfl (.tmp 33) (.tmp 37) _ rfl w.heap.size 31 i0 _ 4 40 Tryd.underlying22 hi0 hz0 hz1 hz2 rfl (by omega) (.slice AO acc.length cO) acc.length _ rfl (HOWN.out.alloc _) (wo.heap.size + 1) (some ⟨wo.heap.size, 0, none⟩) 1 1 (tkC (⟨0, [], 0⟩, s.size)) rfl ⟨rfl, fun _ => ⟨_, rfl, by simp, World.news_of_block (cs := #[.int .i64 0, .string ⟨#[]⟩, .int .i64 0, .int .i64 s.size]) (t := 31) (fr := (0, 0)) (heap_alloc_new wo _)⟩⟩ (cells_ne _) (by simp only [maxLen]; omega) (by omega) (by have := hB.size; simp; omega) ?_; intro v' w2 hown2 hg2 hat2)
      have hlv := fun q (hq : (Value.slice AO acc.length cO).ownBlock = some q) => (HOWN.out.lt q hq).1
      have hB2 : Below w.heap.size w w2 := ((hB.alloc hB.size _).grown hg2 (by have := hB.size; simp; omega) hlv)
      obtain ⟨A2, c2, rfl⟩ := own_shape hown2
      go_ret3
      rw [← HQ.out]
      exact ⟨A2, c2, by simp [joinL, lexO], by simpa [joinL, lexO] using hown2, hB2⟩
theorem rlex_any (s : ByteArray) (w : World) : Calls Tryd.prog 10 #[.string s] w (LexPost (lexD s.data.toList) w) := by
  have hl : s.data.toList.length = s.size := by simp
  unfold lexD
  rw [hl]
  by_cases hs : 8192 < s.size
  · rw [if_pos hs]
    have hs' : 8192 < (s.size : Int) := by omega
    clear hl
    go_enter Tryd.func10, Tryd.ntmps10
    go_wp2
    go_ret3
    exact ⟨none, 0, rfl, World.ownsRow_nil _ _ _ 4, Below.refl _ _⟩
  · rw [if_neg hs]
    have hs' : (s.size : Int) ≤ 8192 := by omega
    have hlong := long_any s w (by omega)
    obtain ⟨x, hx⟩ : ∃ x, lexG s.data.toList = x := ⟨_, rfl⟩
    rw [hx] at hlong ⊢
    have HL := Lib.hid hlong
    clear hl hlong hx
    go_enter Tryd.func10, Tryd.ntmps10
    go_wp2_with (go_at_call 22; refine HL.out.mono ?_; rintro e w1 ⟨A, c, rfl, ho, hb⟩)
    go_ret3
    exact ⟨A, c, rfl, ho, hb⟩
theorem same_any (w : World) (ts : List (Tk × Nat)) (g h c d : Nat) (ha : Toks w g ts) (hb : Toks w h ts) (hc : ts.length ≤ c) (hd : ts.length ≤ d) (hn : ts.length ≤ 8193) :
    Calls Tryd.prog 11 #[.slice (some ⟨g, 0, none⟩) ts.length c, .slice (some ⟨h, 0, none⟩) ts.length d] w fun e w' => e = .returned (.bool true) ∧ Below w.heap.size w w' := by
  have z1 : (ts.length : Int) ≤ 8193 := by omega
  go_enter Tryd.func11, Tryd.ntmps11
  go_wp2
  go_loopw [5] (fun i wr => ∃ k m : Nat, k ≤ ts.length ∧ i = .int .i64 k ∧ wr = w.drewN m) (fun i _ => ts.length - (intOf i).toNat)
  case atStart => exact ⟨0, 0, Nat.zero_le _, rfl, rfl⟩
  case round =>
    obtain ⟨k, m, hk, rfl, rfl⟩ := hrel
    have k0 : (0 : Int) ≤ (k : Int) := by omega
    by_cases hlt : k < ts.length
    · have k1 : (k : Int) < (ts.length : Int) := by omega
      obtain ⟨x, hx⟩ : ∃ x, ts[k]? = some x := ⟨_, List.getElem?_eq_getElem hlt⟩
      obtain ⟨a0, a1, a2, a3⟩ := ha.cell k x hx
      obtain ⟨b0, b1, b2, b3⟩ := hb.cell k x hx
      clear hx
      go_wp2
      go_quiet (fail)
      go_wp2
      go_roundw
      case rel => exact ⟨k + 1, _, by omega, by go_num, rfl⟩
      case measure => simp [intOf]; omega
    · obtain rfl : k = ts.length := by omega
      have hno : ¬ ((ts.length : Int)) < (ts.length : Int) := by omega
      go_wp2
      go_ret
      exact ⟨rfl, below_drewN (Below.refl _ _) _⟩
theorem same_nil (w : World) (A B : Option Addr) (c d : Nat) : Calls Tryd.prog 11 #[.slice A 0 c, .slice B 0 d] w fun e w' => e = .returned (.bool true) ∧ w = w' := by
  go_enter Tryd.func11, Tryd.ntmps11
  go_wp2
  go_loop [5] (fun i => i = .int .i64 0) (fun _ => 0)
  case atStart => rfl
  case round =>
    subst hrel
    go_wp2
    go_ret
    exact ⟨rfl, rfl⟩
end Go.Proofs.YthkahjpflflecaaDoor
