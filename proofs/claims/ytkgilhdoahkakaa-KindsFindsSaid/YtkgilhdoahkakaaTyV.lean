/-
  Types' texts, the document's: walks.
-/
import Derived.Test.YtkgilhdoahkakaaTyE
namespace Go.Proofs.Ytkgilhdoahkakaa
open Go.RowKit
set_option linter.unusedVariables false
set_option linter.unusedSimpArgs false

theorem bs_eq {x : ByteArray} {l : List UInt8} (h : x.data.toList = l) : x = bs l := by
  subst h
  rfl
def RTextC (N : Nat) : Prop := ∀ t : Ty, t.count ≤ N → t.sz ≤ 1500000 → ∀ (w : World) (F : Nat → Prop) (vs : List Value), RT w F t vs → Calls Try.prog 17 #[.agg vs.toArray] w fun e w' => e = .returned (.string (bs (txt t))) ∧ Below w.heap.size w w'
set_option maxRecDepth 100000 in
set_option maxHeartbeats 4000000 in
theorem rtext_step (N : Nat) (ih : RTextC N) : RTextC (N + 1) := by
  rintro ⟨k, p, n, la, lr⟩ hct hsz w F vs hr
  rw [count_mk] at hct
  rw [sz_mk] at hsz
  obtain ⟨A, c, B, d, rfl, ha, hb⟩ := hr.openL
  have HA := Lib.hid (fun w' (h : Below w.heap.size w w') => ha.bel h)
  have HB := Lib.hid (fun w' (h : Below w.heap.size w w') => hb.bel h)
  clear hr ha hb
  show Calls Try.prog 17 #[.agg #[.int .i64 k, .string p, .string n, .slice A la.length c, .slice B lr.length d]] w _
  have hnb := Below.alloc (Below.refl w.heap.size w) (Nat.le_refl _)
  by_cases h0 : k = 0
  · subst h0
    have hX : bs (txt (.mk 0 p n la lr)) = ⟨#[110, 111, 110, 101]⟩ := by rw [txt_mk]; rfl
    rw [hX]
    clear hX
    go_enter Try.func17, Try.ntmps17
    go_wp2
    go_ret
    exact ⟨rfl, hnb _⟩
  by_cases h1 : k = 1
  · subst h1
    have hX : bs (txt (.mk 1 p n la lr)) = ⟨#[105, 110, 116]⟩ := by rw [txt_mk]; rfl
    rw [hX]
    clear hX
    go_enter Try.func17, Try.ntmps17
    go_wp2
    go_ret
    exact ⟨rfl, hnb _⟩
  by_cases h2 : k = 2
  · subst h2
    have hX : bs (txt (.mk 2 p n la lr)) = ⟨#[98, 111, 111, 108]⟩ := by rw [txt_mk]; rfl
    rw [hX]
    clear hX
    go_enter Try.func17, Try.ntmps17
    go_wp2
    go_ret
    exact ⟨rfl, hnb _⟩
  by_cases h3 : k = 3
  · subst h3
    have hX : bs (txt (.mk 3 p n la lr)) = ⟨#[115, 116, 114, 105, 110, 103]⟩ := by rw [txt_mk]; rfl
    rw [hX]
    clear hX
    go_enter Try.func17, Try.ntmps17
    go_wp2
    go_ret
    exact ⟨rfl, hnb _⟩
  by_cases h4 : k = 4
  · subst h4
    have hX : bs (txt (.mk 4 p n la lr)) = ⟨#[110, 105, 108]⟩ := by rw [txt_mk]; rfl
    rw [hX]
    clear hX
    go_enter Try.func17, Try.ntmps17
    go_wp2
    go_ret
    exact ⟨rfl, hnb _⟩
  by_cases h5 : k = 5
  · subst h5
    have hX : bs (txt (.mk 5 p n la lr)) = ⟨#[42]⟩ ++ p ++ ⟨#[46]⟩ ++ n := by rw [txt_mk]; exact (bs_eq (by simp [ByteArray.data_append])).symm
    rw [hX]
    clear hX
    go_enter Try.func17, Try.ntmps17
    go_wp2
    go_ret
    exact ⟨rfl, hnb _⟩
  by_cases h8 : k = 8
  · subst h8
    have hX : bs (txt (.mk 8 p n la lr)) = p ++ ⟨#[46]⟩ ++ n := by rw [txt_mk]; exact (bs_eq (by simp [ByteArray.data_append])).symm
    rw [hX]
    clear hX
    go_enter Try.func17, Try.ntmps17
    go_wp2
    go_ret
    exact ⟨rfl, hnb _⟩
  by_cases h9 : k = 9
  · subst h9
    have hX : bs (txt (.mk 9 p n la lr)) = n := by rw [txt_mk]; exact (bs_eq (by simp [ByteArray.data_append])).symm
    rw [hX]
    clear hX
    go_enter Try.func17, Try.ntmps17
    go_wp2
    go_ret
    exact ⟨rfl, hnb _⟩
  by_cases h6 : k = 6
  · subst h6
    cases la with
    | nil =>
      have hX : bs (txt (.mk 6 p n [] lr)) = ⟨#[91, 93]⟩ := by rw [txt_mk]; rfl
      rw [hX]
      clear hX
      go_enter Try.func17, Try.ntmps17
      go_wp2
      go_ret
      exact ⟨rfl, hnb _⟩
    | cons u r =>
      have hX : bs (txt (.mk 6 p n (u :: r) lr)) = ⟨#[91, 93]⟩ ++ bs (txt u) := by rw [txt_mk]; exact (bs_eq (by simp [ByteArray.data_append, bs, txtF])).symm
      rw [hX]
      rw [countL_cons] at hct
      rw [szL_cons] at hsz
      obtain ⟨g, o, us, rfl, hF, hgl, hrep, hat⟩ := (HA.out w (Below.refl _ _)).at_ (i := 0) (u := u) rfl
      have HI := Lib.hid (fun w' (h : Below w.heap.size w w') => ih u (by omega) (by omega) w' F us (hrep.bel h))
      have hul : (bs (txt u)).size ≤ 15000000 := by rw [bs_size]; have := txt_len u; omega
      generalize bs (txt u) = ub at HI hul ⊢
      obtain ⟨k1, p1, n1, A1, m1, c1, B1, l1, d1, rfl⟩ := hrep.shape
      have q0 := hat 0 _ rfl
      have q1 := hat 1 _ rfl
      have q2 := hat 2 _ rfl
      have q3 := hat 3 _ rfl
      have q4 := hat 4 _ rfl
      simp only [Nat.zero_mul, Nat.add_zero] at q0 q1 q2 q3 q4
      have hl0 : (((u :: r).length : Int) == 0) = false := by simp; omega
      have hl1 : (0 : Int) < ((u :: r).length : Int) := by simp only [List.length_cons]; omega
      obtain ⟨ln, hln⟩ : ∃ ln, (u :: r).length = ln := ⟨_, rfl⟩
      rw [hln] at hl0 hl1 ⊢
      have HNB := Lib.hid (hnb (.cells #[.int .i64 6, .string p, .string n, .slice (some ⟨g, o, none⟩) ln c, .slice B lr.length d] 24))
      clear hX hat hrep hln HA HB ih hnb
      go_enter Try.func17, Try.ntmps17
      go_wp2_with (go_at_call 17; refine (HI.out _ HNB.out).mono ?_; rintro e w5 ⟨rfl, hb5⟩)
      go_ret
      exact ⟨rfl, HNB.out.trans (hb5.mono HNB.out.size)⟩
  by_cases h7 : k = 7
  · subst h7
    have hX : bs (txt (.mk 7 p n la lr)) = bs ([102, 117, 110, 99, 40] ++ txtJ la) ++ (if lr.length = 0 then ⟨#[41]⟩ else ⟨#[41, 32]⟩ ++ bs (txtF lr)) := by
      rw [txt_mk]
      refine (bs_eq ?_).symm
      by_cases hl : lr.length = 0 <;> simp [ByteArray.data_append, bs, hl]
    have HX := Lib.hid hX
    clear hX
    have HNB := Lib.hid (hnb (.cells #[.int .i64 7, .string p, .string n, .slice A la.length c, .slice B lr.length d] 24))
    have n0 : (0 : Int) ≤ (la.length : Int) := by omega
    have hln := len_countL la
    have hcs := countL_szL la
    have n1 : (la.length : Int) ≤ 1500000 := by omega
    have m0 : (0 : Int) ≤ (lr.length : Int) := by omega
    have hlr := len_countL lr
    have hcr := countL_szL lr
    have m1 : (lr.length : Int) ≤ 1500000 := by omega
    clear hnb
    go_enter Try.func17, Try.ntmps17
    go_wp2
    go_loopg [3, 4] la.length (fun gk v3 v4 wr => ∃ (j : Nat) (x : ByteArray), j + gk = la.length ∧ v4 = .int .i64 j ∧ v3 = .string x ∧ x = bs ([102, 117, 110, 99, 40] ++ txtJ (la.take j)) ∧ Below w.heap.size w wr ∧ Blk wr w.heap.size 24 #[.int .i64 7, .string p, .string n, .slice A la.length c, .slice B lr.length d])
    case atStart => exact ⟨0, ⟨#[102, 117, 110, 99, 40]⟩, by simp, rfl, rfl, rfl, HNB.out, Blk.new _ _ _⟩
    case round =>
      obtain ⟨j, x, hj, rfl, rfl, hx, hbl, hbx⟩ := hrel
      have b3 := hbx.cell 3
      have b4 := hbx.cell 4
      have bz := hbx.lt
      have HBL := Lib.hid hbl
      cases gk with
      | zero =>
        obtain rfl : j = la.length := by omega
        rw [List.take_length] at hx
        cases lr with
        | nil =>
          have hxl : x.size ≤ 15000005 := by rw [hx, bs_size]; have := txtJ_len la; simp; omega
          have HXX := Lib.hid hx
          clear hx hj hbl
          go_wp2
          go_ret
          refine ⟨?_, HBL.out⟩
          rw [HX.out, if_pos (show ([] : List Ty).length = 0 from rfl), ← HXX.out]
          rfl
        | cons u r =>
          rw [countL_cons] at hct
          rw [szL_cons] at hsz
          obtain ⟨g, o, us, rfl, hF, hgl, hrep, hat⟩ := (HB.out wr hbl).at_ (i := 0) (u := u) rfl
          have HI := Lib.hid (ih u (by omega) (by omega) wr F us hrep)
          have hul : (bs (txt u)).size ≤ 15000000 := by rw [bs_size]; have := txt_len u; omega
          have hxl : x.size ≤ 15000005 := by rw [hx, bs_size]; have := txtJ_len la; simp; omega
          have HXX := Lib.hid hx
          have hu0 : txtF (u :: r) = txt u := by simp only [txtF]
          rw [hu0] at HX
          obtain ⟨ub, hub⟩ : ∃ ub, bs (txt u) = ub := ⟨_, rfl⟩
          rw [hub] at HI hul HX
          obtain ⟨k1, p1, n1', A1, m1', c1, B1, l1, d1, rfl⟩ := hrep.shape
          have q0 := hat 0 _ rfl
          have q1 := hat 1 _ rfl
          have q2 := hat 2 _ rfl
          have q3 := hat 3 _ rfl
          have q4 := hat 4 _ rfl
          simp only [Nat.zero_mul, Nat.add_zero] at q0 q1 q2 q3 q4
          have hl1 : (0 : Int) < ((u :: r).length : Int) := by simp only [List.length_cons]; omega
          have hl2 : (u :: r).length ≠ 0 := by simp
          have HL2 := Lib.hid hl2
          obtain ⟨ln, hln⟩ : ∃ ln, (u :: r).length = ln := ⟨_, rfl⟩
          rw [hln] at hl1 b4 ⊢
          clear hx hj hbl hat hrep hub hu0 hl2 hln hbx m0 m1 hlr hcr
          go_wp2_with (go_at_call 17; refine HI.out.mono ?_; rintro e w5 ⟨rfl, hb5⟩)
          go_ret
          refine ⟨?_, HBL.out.trans (hb5.mono HBL.out.size)⟩
          rw [HX.out, if_neg HL2.out, ← HXX.out]
          simp [ByteArray.append_assoc]
      | succ f =>
        have hjl : j < la.length := by omega
        obtain ⟨u, hu⟩ : ∃ u, la[j]? = some u := ⟨_, List.getElem?_eq_getElem hjl⟩
        obtain ⟨g, o, us, rfl, hF, hgl, hrep, hat⟩ := (HA.out wr hbl).at_ hu
        have hck := count_kid la j u hu
        have hsk := sz_kid la j u hu
        have HI := Lib.hid (ih u (by omega) (by omega) wr F us hrep)
        have hul : (bs (txt u)).size ≤ 15000000 := by rw [bs_size]; have := txt_len u; omega
        have htl := txtJ_len (la.take j)
        have hxl : x.size ≤ 15000005 := by rw [hx, bs_size]; simp; omega
        have htk : la.take (j + 1) = la.take j ++ [u] := by rw [List.take_add_one, hu]; rfl
        have hlj : (la.take j).length = j := by simp; omega
        have hnx : bs ([102, 117, 110, 99, 40] ++ txtJ (la.take (j + 1))) = (if j = 0 then x else x ++ ⟨#[44, 32]⟩) ++ bs (txt u) := by
          refine (bs_eq ?_).symm
          rw [htk, txtJ_snoc, hlj, hx]
          by_cases h0 : j = 0 <;> simp [ByteArray.data_append, bs, h0]
        obtain ⟨ub, hub⟩ : ∃ ub, bs (txt u) = ub := ⟨_, rfl⟩
        rw [hub] at HI hul hnx
        have HNX := Lib.hid hnx
        obtain ⟨k1, p1, n1', A1, m1', c1, B1, l1, d1, rfl⟩ := hrep.shape
        have q0 := hat 0 _ rfl
        have q1 := hat 1 _ rfl
        have q2 := hat 2 _ rfl
        have q3 := hat 3 _ rfl
        have q4 := hat 4 _ rfl
        simp only [Nat.add_zero] at q0
        have j1 : (j : Int) < (la.length : Int) := by omega
        have j0 : (0 : Int) ≤ (j : Int) := by omega
        have HBX := Lib.hid hbx
        clear hx hbl hat hrep hub hnx htk hlj htl hu hck hsk hbx
        by_cases h0 : j = 0
        · subst h0
          simp only [Nat.zero_mul, Nat.add_zero] at q0 q1 q2 q3 q4
          go_wp2_with (go_at_call 17; refine HI.out.mono ?_; rintro e w5 ⟨rfl, hb5⟩)
          go_roundg f
          case measure => omega
          case rel => exact ⟨0 + 1, _, by omega, by go_num, rfl, by rw [HNX.out]; rfl, HBL.out.trans (hb5.mono HBL.out.size), HBX.out.bel2 hb5⟩
        · have j5 : (0 : Int) < (j : Int) := by omega
          have HJ0 := Lib.hid h0
          clear h0
          go_wp2_with (go_at_call 17; refine HI.out.mono ?_; rintro e w5 ⟨rfl, hb5⟩)
          go_roundg f
          case measure => omega
          case rel => exact ⟨j + 1, _, by omega, by go_num, rfl, by rw [HNX.out, if_neg HJ0.out], HBL.out.trans (hb5.mono HBL.out.size), HBX.out.bel2 hb5⟩
  have hX : bs (txt (.mk k p n la lr)) = ⟨#[]⟩ := by rw [txt_mk]; simp only [*, if_false]; rfl
  rw [hX]
  have e0 : (k == 0) = false := by simpa using h0
  have e1 : (k == 1) = false := by simpa using h1
  have e2 : (k == 2) = false := by simpa using h2
  have e3 : (k == 3) = false := by simpa using h3
  have e4 : (k == 4) = false := by simpa using h4
  have e5 : (k == 5) = false := by simpa using h5
  have e6 : (k == 6) = false := by simpa using h6
  have e7 : (k == 7) = false := by simpa using h7
  have e8 : (k == 8) = false := by simpa using h8
  have e9 : (k == 9) = false := by simpa using h9
  clear hX h0 h1 h2 h3 h4 h5 h6 h7 h8 h9
  go_enter Try.func17, Try.ntmps17
  go_wp2
  go_ret
  exact ⟨rfl, hnb _⟩
theorem rtext_all : ∀ N : Nat, RTextC N
  | 0 => fun t h => by have := count_pos t; omega
  | N + 1 => rtext_step N (rtext_all N)
end Go.Proofs.Ytkgilhdoahkakaa
