/-
  All tokens of a text: a walk.
-/
import Derived.Test.YtihnnbeepfgphaaGreatDoorLexI
namespace Go.Proofs.YtihnnbeepfgphaaGreatDoor
open Go.RowKit
set_option linter.unusedVariables false
set_option linter.unusedSimpArgs false

def tkC (x : Tk × Nat) : List Value := [.int .i64 x.1.k, .string (bs x.1.t), .int .i64 x.1.n, .int .i64 x.2]
theorem token_info : (Tryz.prog.info? 58).map (fun i => (i.zero, i.size, i.bytes)) = some (some (.agg #[.int .i64 0, .string ⟨#[]⟩, .int .i64 0, .int .i64 0]), 4, 40) := by kernel_rfl
theorem found_some (t : Tk) (n : Nat) : foundV (some (t, n)) = .tuple #[.agg #[.int .i64 t.k, .string (bs t.t), .int .i64 t.n, .int .i64 0], .int .i64 n] := rfl
theorem found_none : foundV none = .tuple #[.agg #[.int .i64 0, .string ⟨#[]⟩, .int .i64 0, .int .i64 0], .int .i64 0] := rfl
/-- What a lexer's answer is: a slice of the tokens, the place, the error. -/
def LexPost (x : List (Tk × Nat) × Nat × Int) (w : World) (e : Ending) (w' : World) : Prop :=
  ∃ A c, e = .returned (.tuple #[.slice A x.1.length c, .int .i64 x.2.1, .int .i64 x.2.2]) ∧ w'.ownsRow w.heap.size 58 4 (.slice A x.1.length c) x.1.length (x.1.flatMap tkC) ∧ Below w.heap.size w w'
theorem cells_ne (x : Tk × Nat) : ∀ u ∈ tkC x, u.oneCell' = true := by
  intro u hu
  simp [tkC] at hu
  rcases hu with rfl | rfl | rfl | rfl <;> rfl

set_option maxRecDepth 100000 in
set_option maxHeartbeats 2000000 in
theorem lex_any (s : ByteArray) (w : World) (ht : ErrT w) : Calls Tryz.prog 18 #[.string s] w (LexPost (lexD s.data.toList) w) := by
  obtain ⟨i0, hi0, hz0, hz1, hz2⟩ := info_parts token_info
  obtain ⟨l, hl⟩ : ∃ l, s.data.toList = l := ⟨_, rfl⟩
  have hsz : l.length = s.size := by rw [← hl]; simp
  rw [hl]
  by_cases hs : 8192 < s.size
  · have hd : lexD l = ([], 0, 2) := by unfold lexD; rw [if_pos (by omega)]
    rw [hd]
    have hs' : 8192 < (s.size : Int) := by omega
    clear hd hsz hl
    go_enter Tryz.func18, Tryz.ntmps18
    go_wp2
    go_ret3
    exact ⟨none, 0, rfl, World.ownsRow_nil _ _ _ 4, Below.refl _ _⟩
  have hd : lexD l = lexG l := by unfold lexD; rw [if_neg (by omega)]
  rw [hd]
  clear hd
  unfold lexG
  obtain ⟨g, hg⟩ : ∃ g, gapL false l = g := ⟨_, rfl⟩
  have hgl : g ≤ l.length := by rw [← hg]; exact gapL_le _ _
  rw [hg]
  obtain ⟨R, hR⟩ : ∃ R, lexL (l.length + 1) g (l.drop g) = R := ⟨_, rfl⟩
  rw [hR]
  have HL := Lib.hid hl
  have HG := Lib.hid hg
  have HR := Lib.hid hR
  have HS := Lib.hid hsz
  have hg' : g ≤ s.size := by omega
  clear hl hg hR hsz hgl
  go_enter Tryz.func18, Tryz.ntmps18
  go_wp2_with (go_at_call 22; refine (gap_any _ _ (by unfold maxLen; omega)).mono ?_; rw [HL.out, HG.out]; rintro e w' ⟨rfl, rfl⟩)
  go_loopw [5, 6] (fun v i wr => ∃ (acc : List (Tk × Nat)) (k f : Nat), k ≤ s.size ∧ i = .int .i64 k ∧ acc.length ≤ k ∧ s.size < k + f ∧ wr.ownsRow w.heap.size 58 4 v acc.length (acc.flatMap tkC) ∧ Below w.heap.size w wr ∧ joinL acc (lexL f k (l.drop k)) = R) (fun _ i _ => s.size - (intOf i).toNat)
  case atStart => exact ⟨[], g, l.length + 1, hg', rfl, Nat.zero_le _, by have := HS.out; omega, World.ownsRow_nil _ _ _ 4, Below.refl _ _, by rw [joinL_nil]; exact HR.out⟩
  case round =>
    obtain ⟨acc, k, f, hk, rfl, hak, hkf, hown, hB, hq⟩ := hrel
    obtain ⟨wo, rfl⟩ : ∃ wo : World, wo = wr := ⟨_, rfl⟩
    have k0 : (0 : Int) ≤ (k : Int) := by omega
    obtain ⟨AO, cO, rfl⟩ := own_shape hown
    obtain ⟨f', rfl⟩ : ∃ f', f = f' + 1 := ⟨f - 1, by omega⟩
    have HT := Lib.hid (ht.below hB)
    by_cases hlt : k < s.size
    · have k1 : (k : Int) < (s.size : Int) := by omega
      have hne : l.drop k ≠ [] := by
        intro e
        have := congrArg List.length e
        simp at this
        have := HS.out
        omega
      have hez : (s.extract k s.size).size = s.size - k := by simp
      have hel := ext_end s k
      rw [HL.out] at hel
      cases ho : firstL (l.drop k) with
      | none =>
        rw [lexL_none hne ho] at hq
        have hb0 : (s.extract k s.size).size ≤ 8192 := by omega
        have hb1 : 0 < (s.extract k s.size).size := by omega
        have HE := Lib.hid hel
        have HO := Lib.hid ho
        have HQ := Lib.hid hq
        clear hel ho hq hez hne
        go_wp2_with (first
          | (go_at_call 23; refine (first_any _ _ HT.out hb0 hb1).mono ?_; rw [HE.out, HO.out, found_none]; rintro e w1 ⟨rfl, hb⟩; have hB1 : Below w.heap.size w w1 := hB.trans (hb.mono hB.size)))
        go_ret3
        rw [← HQ.out]
        exact ⟨none, 0, rfl, World.ownsRow_nil _ _ _ 4, hB1.alloc hB1.size _⟩
      | some x =>
        obtain ⟨t, n⟩ := x
        obtain ⟨n0, n1⟩ := first_size ho
        have n2 : n ≤ s.size - k := by have := HS.out; simp at n1; omega
        rw [lexL_some hne ho, joinL_join] at hq
        obtain ⟨g2, hg2⟩ : ∃ g2, gapL false ((l.drop k).drop n) = g2 := ⟨_, rfl⟩
        have hgl := gapL_le false ((l.drop k).drop n)
        rw [hg2] at hq hgl
        have hel2 := ext_end s (k + n)
        rw [HL.out] at hel2
        have hd2 : (l.drop k).drop n = l.drop (k + n) := by rw [List.drop_drop]
        have hez2 : (s.extract (k + n) s.size).size = s.size - (k + n) := by simp
        have hb0 : (s.extract k s.size).size ≤ 8192 := by omega
        have hb1 : 0 < (s.extract k s.size).size := by omega
        have hb2 : (s.extract (k + n) s.size).size ≤ maxLen := by unfold maxLen; omega
        have g3 : k + n + g2 ≤ s.size := by have := HS.out; simp at hgl; omega
        have hn0 : ¬ (n : Int) = 0 := by omega
        have fn0 : ((n : Int) == 0) = false := by simp; omega
        rw [hd2] at hg2 hq
        have HE := Lib.hid hel
        have HE2 := Lib.hid hel2
        have HO := Lib.hid ho
        have HG2 := Lib.hid hg2
        have HOWN := Lib.hid hown
        have HQ := Lib.hid hq
        clear hel hel2 ho hg2 hown hq hez hez2 hd2 hne hgl n1
        go_wp2_with (first
          | (go_at_call 23; refine (first_any _ _ HT.out hb0 hb1).mono ?_; rw [HE.out, HO.out, found_some]; rintro e w1 ⟨rfl, hb⟩; have HOWN1 := Lib.hid (own_below HOWN.out hb); have hB1 : Below w.heap.size w w1 := hB.trans (hb.mono hB.size))
          | (at_builtin; refine wpList_append_any _ rfl (.tmp 30) (.tmp 32) _ rfl w.heap.size 58 i0 _ 4 40 Tryz.underlying44 hi0 hz0 hz1 hz2 rfl (by omega) (.slice AO acc.length cO) acc.length _ rfl ((HOWN1.out.alloc _).alloc _) (w1.heap.size + 1 + 1) (some ⟨w1.heap.size + 1, 0, none⟩) 1 1 (tkC (t, k)) rfl ⟨rfl, fun _ => ⟨_, rfl, by simp, World.news_of_block (cs := #[.int .i64 t.k, .string (bs t.t), .int .i64 t.n, .int .i64 k]) (t := 58) (fr := (0, 0)) (by simpa using heap_alloc_new (w1.alloc (.cells #[.int .i64 t.k, .string (bs t.t), .int .i64 t.n, .int .i64 k] 58)) _)⟩⟩ (cells_ne _) (by simp only [maxLen]; omega) (by omega) (by have := hB1.size; simp; omega) ?_; intro v' w2 hown2 hg2 hat2)
          | (go_at_call 22; refine (gap_any _ _ hb2).mono ?_; rw [HE2.out, HG2.out]; rintro e w' ⟨rfl, rfl⟩))
        have HO2 := Lib.hid hown2
        have hlv := fun q (hq : (Value.slice AO acc.length cO).ownBlock = some q) => (HOWN1.out.lt q hq).1
        have hB2 : Below w.heap.size w w2 := (((hB1.alloc hB1.size _).alloc (by have := hB1.size; simp; omega) _).grown hg2 (by have := hB1.size; simp; omega) hlv)
        clear hown2 hg2 hat2 hlv
        go_roundw
        case rel => exact ⟨acc ++ [(t, k)], k + n + g2, f', g3, by go_num, by simp; omega, by omega, by simpa using HO2.out, hB2, by rw [← HQ.out, List.drop_drop]⟩
        case measure => simp [intOf]; omega
    · obtain rfl : k = s.size := by omega
      have hnil : l.drop s.size = [] := List.drop_eq_nil_of_le (by have := HS.out; omega)
      rw [hnil, lexL_end] at hq
      have HQ := Lib.hid hq
      have HOWN := Lib.hid hown
      clear hq hnil hown
      go_wp2_with (at_builtin; refine wpList_append_any _ rfl (.tmp 43) (.tmp 46) _ rfl w.heap.size 58 i0 _ 4 40 Tryz.underlying44 hi0 hz0 hz1 hz2 rfl (by omega) (.slice AO acc.length cO) acc.length _ rfl (HOWN.out.alloc _) (wo.heap.size + 1) (some ⟨wo.heap.size, 0, none⟩) 1 1 (tkC (⟨0, [], 0⟩, s.size)) rfl ⟨rfl, fun _ => ⟨_, rfl, by simp, World.news_of_block (cs := #[.int .i64 0, .string ⟨#[]⟩, .int .i64 0, .int .i64 s.size]) (t := 58) (fr := (0, 0)) (heap_alloc_new wo _)⟩⟩ (cells_ne _) (by simp only [maxLen]; omega) (by omega) (by have := hB.size; simp; omega) ?_; intro v' w2 hown2 hg2 hat2)
      have hlv := fun q (hq : (Value.slice AO acc.length cO).ownBlock = some q) => (HOWN.out.lt q hq).1
      have hB2 : Below w.heap.size w w2 := ((hB.alloc hB.size _).grown hg2 (by have := hB.size; simp; omega) hlv)
      obtain ⟨A2, c2, rfl⟩ := own_shape hown2
      go_ret3
      rw [← HQ.out]
      exact ⟨A2, c2, by simp [joinL, lexO], by simpa [joinL, lexO] using hown2, hB2⟩
end Go.Proofs.YtihnnbeepfgphaaGreatDoor
