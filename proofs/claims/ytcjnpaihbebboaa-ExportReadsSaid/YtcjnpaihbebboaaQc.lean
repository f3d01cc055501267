/-
  Types and expressions by the document's writer: walks.
-/
import Derived.Test.YtcjnpaihbebboaaQb
namespace Go.Proofs.Ytcjnpaihbebboaa
open Go.RowKit
set_option linter.unusedVariables false
set_option linter.unusedSimpArgs false

theorem any_take {α : Type} (p : α → Bool) (l : List α) (j : Nat) (u : α) (h : l[j]? = some u) : (l.take (j + 1)).any p = ((l.take j).any p || p u) := by
  rw [List.take_add_one, h, Option.toList_some, List.any_append]; simp
theorem WrN.cell {w w' : World} {wb : Nat} {o o' : Option Nat} (h : WrN w w' wb o o') {p : Addr} (hp : p.block < w.heap.size) (h1 : p.block ≠ wb) (h2 : o ≠ some p.block) : w'.cell? p = w.cell? p :=
  World.cell?_of_block (h.fresh hp h1 h2)
mutual
/-- A type that stands in so many others, or one within it, stands in too many. -/
def deepT : Ty → Nat → Bool
  | .mk _ _ _ la lr, a => decide (100 < a) || deepTs la (a + 1) || deepTs lr (a + 1)
def deepTs : List Ty → Nat → Bool
  | [], _ => false
  | t :: r, a => deepT t a || deepTs r a
end
theorem deepTs_eq (a : Nat) : ∀ l : List Ty, deepTs l a = l.any (fun t => deepT t a)
  | [] => by simp only [deepTs, List.any_nil]
  | t :: r => by simp only [deepTs, List.any_cons, deepTs_eq a r]
def kT (t : Ty) : Nat := 7 * t.count
theorem kT_sum : ∀ l : List Ty, sumL kT l = 7 * countL l
  | [] => by simp [sumL, countL_nil]
  | t :: r => by simp only [sumL, countL_cons, kT_sum r, kT]; omega
theorem kT_mk (k : Int) (p n : ByteArray) (la lr : List Ty) : kT (.mk k p n la lr) = 7 + sumL kT la + sumL kT lr := by rw [kT_sum, kT_sum, kT, count_mk]; omega
mutual
def deepE : Ex → Nat → Bool
  | .mk _ _ _ kids, a => decide (100 < a) || deepEs kids (a + 1)
def deepEs : List Ex → Nat → Bool
  | [], _ => false
  | t :: r, a => deepE t a || deepEs r a
end
theorem deepEs_eq (a : Nat) : ∀ l : List Ex, deepEs l a = l.any (fun t => deepE t a)
  | [] => by simp only [deepEs, List.any_nil]
  | t :: r => by simp only [deepEs, List.any_cons, deepEs_eq a r]
def kE (t : Ex) : Nat := 5 * t.cnt
theorem kE_sum : ∀ l : List Ex, sumL kE l = 5 * cntEs l
  | [] => by simp [sumL, cntEs]
  | t :: r => by simp only [sumL, cntEs, kE_sum r, kE]; omega
theorem kE_mk (op n : Int) (s : ByteArray) (kids : List Ex) : kE (.mk op n s kids) = 5 + sumL kE kids := by rw [kE_sum, kE, cnt_ex]; omega
def TypQ (N : Nat) : Prop := ∀ t : Ty, t.count ≤ N → t.mx ≤ 140737488355328 → ∀ (w : World) (lo wb : Nat) (A : Option Addr) (c : Nat) (bs : List Int) (dl : Bool) (at_ : Nat), Wq w lo wb A c bs dl at_ → at_ ≤ 101 → bs.length + 300000 * kT t ≤ 50000000000000 → lo ≤ wb → ∀ (F : Nat → Prop), (∀ k, F k → k < lo) → ∀ vs : List Value, RT w F t vs →
    Calls Try.prog 52 #[.pointer (some ⟨wb, 0, none⟩), .agg vs.toArray] w (PutQ lo wb (Value.slice A bs.length c).ownBlock bs dl at_ (encT t) (kT t) (deepT t at_) w)
set_option maxRecDepth 100000 in
set_option maxHeartbeats 4000000 in
theorem typesQ (N : Nat) (ih : TypQ N) (l : List Ty) (hl : l.length ≤ 140737488355328) (hok : ∀ t ∈ l, t.count ≤ N ∧ t.mx ≤ 140737488355328) (w : World) (lo wb : Nat) (A : Option Addr) (c : Nat) (bs : List Int) (dl : Bool) (at_ : Nat) (h : Wq w lo wb A c bs dl at_) (ha : at_ ≤ 101) (hf : bs.length + 300000 * (1 + sumL kT l) ≤ 50000000000000) (hwb : lo ≤ wb) (F : Nat → Prop) (hF : ∀ k, F k → k < lo) (B : Option Addr) (d : Nat) (hr : SlT w F B l) :
    Calls Try.prog 82 #[.pointer (some ⟨wb, 0, none⟩), .slice B l.length d] w (PutQ lo wb (Value.slice A bs.length c).ownBlock bs dl at_ (le8 l.length ++ encL encT l) (1 + sumL kT l) (l.any (fun t => deepT t at_)) w) := by
  have HR := Lib.hid (num_anyQ l.length w lo wb A c bs dl at_ h)
  have HA := Lib.hid hr
  have HO := Lib.hid h.olo
  have HOK := Lib.hid hok
  have HF := Lib.hid hF
  have HFU := Lib.hid hf
  have HAT := Lib.hid ha
  have n0 : (0 : Int) ≤ (l.length : Int) := by omega
  have n1 : (l.length : Int) ≤ 140737488355328 := by omega
  clear h hr hF hok hf ha
  go_enter Try.func82, Try.ntmps82
  go_wp2_with (go_at_call 26; ((with_reducible refine HR.out.mono ?_); rintro e w1 ⟨⟨x, rfl⟩, A1, c1, b1, dl1, hw1, hd1, hn1, hq1⟩); have HW1 := Lib.hid hw1; have HN1 := Lib.hid hn1; have HQ1 := Lib.hid hq1; have HD1 := Lib.hid hd1; clear hw1 hn1 hq1 hd1)
  go_loopg [4] l.length (fun gk v4 wr => ∃ (j : Nat) (A' : Option Addr) (c' : Nat) (b' : List Int) (dl' : Bool), j + gk = l.length ∧ v4 = .int .i64 j ∧ Wq wr lo wb A' c' b' dl' at_ ∧ dl' = (dl || (l.take j).any (fun t => deepT t at_)) ∧ WrN w wr wb (Value.slice A bs.length c).ownBlock (Value.slice A' b'.length c').ownBlock ∧ QP bs b' (le8 l.length ++ encL encT (l.take j)) (1 + sumL kT (l.take j)) ((l.take j).any (fun t => deepT t at_)))
  case atStart => exact ⟨0, A1, c1, b1, dl1, by simp, rfl, HW1.out, by simpa using HD1.out, HN1.out, by simpa [encL, sumL] using HQ1.out⟩
  case round =>
    obtain ⟨j, A', c', b', dl', hj, rfl, hw, hd, hn, hq⟩ := hrel
    have HW := Lib.hid hw
    have HN := Lib.hid hn
    have HQ := Lib.hid hq
    have HDD := Lib.hid hd
    cases gk with
    | zero =>
      obtain rfl : j = l.length := by omega
      clear hj hw hn hq hd
      go_wp2
      refine bodyPost_end (results_none rfl _ _ _) rfl ?_
      have h1 := HQ.out
      have h2 := HDD.out
      rw [List.take_length] at h1 h2
      exact ⟨⟨_, rfl⟩, A', c', b', dl', HW.out, h2, HN.out, h1⟩
    | succ f =>
      have hjl : j < l.length := by omega
      obtain ⟨u, hu⟩ : ∃ u, l[j]? = some u := ⟨_, List.getElem?_eq_getElem hjl⟩
      have hm := HOK.out u (List.mem_of_getElem? hu)
      have j1 : (j : Int) < (l.length : Int) := by omega
      have j0 : (0 : Int) ≤ (j : Int) := by omega
      have hks := sumL_take kT l j u hu
      have hkd := sumL_kid kT l j u hu
      have hfu : b'.length + 300000 * kT u ≤ 50000000000000 := by
        have h1 := HFU.out
        have h2 := hq.2.1
        omega
      obtain ⟨q, o, vs, rfl, hFq, hql, hrep, hat⟩ := (HA.out.wr hn HF.out hwb HO.out).at_ hu
      have HI := Lib.hid (ih u hm.1 hm.2 wr lo wb A' c' b' dl' at_ hw HAT.out hfu hwb F HF.out)
      have HE := Lib.hid (encL_take encT l j u hu)
      have HY := Lib.hid (any_take (fun t => deepT t at_) l j u hu)
      have HKS := Lib.hid hks
      have HI := Lib.hid (HI.out vs hrep)
      obtain ⟨k1, p1, n1', A3, m3, c3, B3, l3, d3, rfl⟩ := hrep.shape
      simp only [tyC] at HI hat
      have q0 := hat 0 _ rfl
      have q1 := hat 1 _ rfl
      have q2 := hat 2 _ rfl
      have q3 := hat 3 _ rfl
      have q4 := hat 4 _ rfl
      rw [Nat.add_zero] at q0
      clear hat hu hw hn hq hd hm hks hkd hfu
      go_wp2_with (go_at_call 52; ((with_reducible refine HI.out.mono ?_); rintro e w2 ⟨⟨x, rfl⟩, A2, c2, b2, dl2, hw2, hd2, hn2, hq2⟩); have HW2 := Lib.hid hw2; have HN2 := Lib.hid (HN.out.trans hn2); have HQ2 := Lib.hid hq2; have HD2 := Lib.hid hd2; clear hw2 hn2 hq2 hd2)
      go_roundg f
      case measure => omega
      case rel =>
        refine ⟨j + 1, A2, c2, b2, dl2, by omega, by go_num, HW2.out, by rw [HY.out, HD2.out, HDD.out, Bool.or_assoc], HN2.out, ?_⟩
        rw [HE.out, HY.out, HKS.out, ← List.append_assoc, ← Nat.add_assoc]
        exact QP.rule HQ.out HQ2.out
set_option maxRecDepth 100000 in
set_option maxHeartbeats 4000000 in
theorem typ_stepQ (N : Nat) (hN : N ≤ 2000000) (ih : TypQ N) : TypQ (N + 1) := by
  rintro ⟨k, p, n, la, lr⟩ hct hmx w lo wb A c bs dl at_ h ha hf hwb F hF vs hr
  rw [count_mk] at hct
  rw [mx_mk] at hmx
  rw [kT_mk] at hf
  have hps : p.size ≤ 140737488355328 := by omega
  have hns : n.size ≤ 140737488355328 := by omega
  have hla : la.length ≤ 140737488355328 := by have := len_countL la; omega
  have hlr : lr.length ≤ 140737488355328 := by have := len_countL lr; omega
  have HAK := Lib.hid (fun t (ht : t ∈ la) => by
    obtain ⟨i, hi⟩ := List.getElem?_of_mem ht
    have h1 := count_kid la i t hi
    have h2 := mx_kid la i t hi
    exact (⟨by omega, by omega⟩ : t.count ≤ N ∧ t.mx ≤ 140737488355328))
  have HBK := Lib.hid (fun t (ht : t ∈ lr) => by
    obtain ⟨i, hi⟩ := List.getElem?_of_mem ht
    have h1 := count_kid lr i t hi
    have h2 := mx_kid lr i t hi
    exact (⟨by omega, by omega⟩ : t.count ≤ N ∧ t.mx ≤ 140737488355328))
  obtain ⟨A1, c1, A2, c2, rfl, hra, hrb⟩ := hr.openL
  simp only [tyC, encT, encTs_eq, deepT, deepTs_eq]
  have hb0 := (Below.refl _ w).alloc (Nat.le_refl _) (.cells #[.int .i64 k, .string p, .string n, .slice A1 la.length c1, .slice A2 lr.length c2] 44)
  have HB0 := Lib.hid hb0
  have HK0 := Lib.hid (Blk.new w 44 #[.int .i64 k, .string p, .string n, .slice A1 la.length c1, .slice A2 lr.length c2])
  have HO := Lib.hid h.olo
  have HOL := Lib.hid (fun q (hq : (Value.slice A bs.length c).ownBlock = some q) => h.old hq)
  have HWB := Lib.hid h.blk.lt
  have HF := Lib.hid hF
  have HA := Lib.hid (hra.bel hb0)
  have HB := Lib.hid (hrb.bel hb0)
  have HH0 := Lib.hid (h.bel hb0)
  have a0 : (0 : Int) ≤ (at_ : Int) := by omega
  rcases Nat.lt_or_ge 100 at_ with hd | hd
  · have ha1 : at_ = 101 := by omega
    have HIN := Lib.hid (in_deep _ lo wb A c bs dl at_ HH0.out ha1)
    have HDP := Lib.hid (show (decide (100 < at_) || la.any (fun t => deepT t (at_ + 1)) || lr.any (fun t => deepT t (at_ + 1))) = true by rw [decide_eq_true hd]; simp)
    clear h hb0 hF hf hr hra hrb hct hmx
    subst ha1
    go_enter Try.func52, Try.ntmps52
    go_wp2_with (go_at_call 81; ((with_reducible refine HIN.out.mono ?_); rintro e w9 ⟨rfl, hw9, hn9⟩); have z0 := hw9.blk.cell 2; have zf := hw9.blk.frozen 2; have zl := hw9.blk.lt; have HW9 := Lib.hid hw9; have HN9 := Lib.hid hn9; clear hw9 hn9)
    refine bodyPost_end (results_none rfl _ _ _) rfl ?_
    rw [HDP.out]
    exact ⟨⟨_, rfl⟩, A, c, bs, true, by simpa using HW9.out.goto 101, by simp, (WrN.of_below wb _ HB0.out).trans (HN9.out.trans (WrN.set_ _ _ _ _ _)), Nat.le_refl _, by omega, fun h => by cases h⟩
  · have HIN := Lib.hid (in_ok _ lo wb A c bs dl at_ HH0.out hd)
    have HDP := Lib.hid (show (decide (100 < at_) || la.any (fun t => deepT t (at_ + 1)) || lr.any (fun t => deepT t (at_ + 1))) = (false || la.any (fun t => deepT t (at_ + 1)) || lr.any (fun t => deepT t (at_ + 1))) by rw [decide_eq_false (by omega)])
    have ha1 : at_ + 1 ≤ 101 := by omega
    have HA1 := Lib.hid ha1
    have HFU := Lib.hid hf
    clear h hb0 hF hf hr hra hrb hct hmx ha1
    go_enter Try.func52, Try.ntmps52
    go_wp2_with (first | (go_at_call 82; ((with_reducible refine HM5.out.mono ?_); rintro e w5 ⟨⟨x5, rfl⟩, G5, g5, b5, dl5, hw5, hd5, hn5, hq5⟩); have HN5 := Lib.hid (HN4.out.trans hn5); have HW5 := Lib.hid hw5; have HQ5 := Lib.hid hq5; have HD5 := Lib.hid hd5; have hk5 : Blk w5 w.heap.size 44 #[.int .i64 k, .string p, .string n, .slice A1 la.length c1, .slice A2 lr.length c2] := (HN5.out.fresh HK0.out.lt (fun e => by have := HWB.out; omega) (fun e => by have := HOL.out _ e; omega)).trans HK0.out; have y50 := hk5.cell 0; have y51 := hk5.cell 1; have y52 := hk5.cell 2; have y53 := hk5.cell 3; have y54 := hk5.cell 4; have yl5 := hk5.lt; have z0 := hw5.blk.cell 2; have zf := hw5.blk.frozen 2; have zl := hw5.blk.lt; clear hw5 hn5 hq5 hd5 hk5) | (go_at_call 82; ((with_reducible refine HM4.out.mono ?_); rintro e w4 ⟨⟨x4, rfl⟩, G4, g4, b4, dl4, hw4, hd4, hn4, hq4⟩); have HN4 := Lib.hid (HN3.out.trans hn4); have HW4 := Lib.hid hw4; have HQ4 := Lib.hid hq4; have HD4 := Lib.hid hd4; have hk4 : Blk w4 w.heap.size 44 #[.int .i64 k, .string p, .string n, .slice A1 la.length c1, .slice A2 lr.length c2] := (HN4.out.fresh HK0.out.lt (fun e => by have := HWB.out; omega) (fun e => by have := HOL.out _ e; omega)).trans HK0.out; have y40 := hk4.cell 0; have y41 := hk4.cell 1; have y42 := hk4.cell 2; have y43 := hk4.cell 3; have y44 := hk4.cell 4; have yl4 := hk4.lt; have HM5 := Lib.hid (typesQ N ih lr hlr HBK.out w4 lo wb G4 g4 b4 dl4 (at_ + 1) hw4 HA1.out (by have := HFU.out; have := HQ1.out.2.1; have := HQ2.out.2.1; have := HQ3.out.2.1; have := hq4.2.1; omega) hwb F HF.out A2 c2 (HB.out.wr HN4.out HF.out hwb HO.out)); clear hw4 hn4 hq4 hd4 hk4) | (go_at_call 24; ((with_reducible refine HM3.out.mono ?_); rintro e w3 ⟨⟨x3, rfl⟩, G3, g3, b3, dl3, hw3, hd3, hn3, hq3⟩); have HN3 := Lib.hid (HN2.out.trans hn3); have HW3 := Lib.hid hw3; have HQ3 := Lib.hid hq3; have HD3 := Lib.hid hd3; have hk3 : Blk w3 w.heap.size 44 #[.int .i64 k, .string p, .string n, .slice A1 la.length c1, .slice A2 lr.length c2] := (HN3.out.fresh HK0.out.lt (fun e => by have := HWB.out; omega) (fun e => by have := HOL.out _ e; omega)).trans HK0.out; have y30 := hk3.cell 0; have y31 := hk3.cell 1; have y32 := hk3.cell 2; have y33 := hk3.cell 3; have y34 := hk3.cell 4; have yl3 := hk3.lt; have HM4 := Lib.hid (typesQ N ih la hla HAK.out w3 lo wb G3 g3 b3 dl3 (at_ + 1) hw3 HA1.out (by have := HFU.out; have := HQ1.out.2.1; have := HQ2.out.2.1; have := hq3.2.1; omega) hwb F HF.out A1 c1 (HA.out.wr HN3.out HF.out hwb HO.out)); clear hw3 hn3 hq3 hd3 hk3) | (go_at_call 24; ((with_reducible refine HM2.out.mono ?_); rintro e w2 ⟨⟨x2, rfl⟩, G2, g2, b2, dl2, hw2, hd2, hn2, hq2⟩); have HN2 := Lib.hid (HN1.out.trans hn2); have HW2 := Lib.hid hw2; have HQ2 := Lib.hid hq2; have HD2 := Lib.hid hd2; have hk2 : Blk w2 w.heap.size 44 #[.int .i64 k, .string p, .string n, .slice A1 la.length c1, .slice A2 lr.length c2] := (HN2.out.fresh HK0.out.lt (fun e => by have := HWB.out; omega) (fun e => by have := HOL.out _ e; omega)).trans HK0.out; have y20 := hk2.cell 0; have y21 := hk2.cell 1; have y22 := hk2.cell 2; have y23 := hk2.cell 3; have y24 := hk2.cell 4; have yl2 := hk2.lt; have HM3 := Lib.hid (text_anyQ n hns w2 lo wb G2 g2 b2 dl2 (at_ + 1) hw2 (by have := HFU.out; have := HQ1.out.2.1; have := hq2.2.1; omega)); clear hw2 hn2 hq2 hd2 hk2) | (go_at_call 26; ((with_reducible refine HM1.out.mono ?_); rintro e w1 ⟨⟨x1, rfl⟩, G1, g1, b1, dl1, hw1, hd1, hn1, hq1⟩); have HN1 := Lib.hid (HN0.out.trans hn1); have HW1 := Lib.hid hw1; have HQ1 := Lib.hid hq1; have HD1 := Lib.hid hd1; have hk1 : Blk w1 w.heap.size 44 #[.int .i64 k, .string p, .string n, .slice A1 la.length c1, .slice A2 lr.length c2] := (HN1.out.fresh HK0.out.lt (fun e => by have := HWB.out; omega) (fun e => by have := HOL.out _ e; omega)).trans HK0.out; have y10 := hk1.cell 0; have y11 := hk1.cell 1; have y12 := hk1.cell 2; have y13 := hk1.cell 3; have y14 := hk1.cell 4; have yl1 := hk1.lt; have HM2 := Lib.hid (text_anyQ p hps w1 lo wb G1 g1 b1 dl1 (at_ + 1) hw1 (by have := HFU.out;  have := hq1.2.1; omega)); clear hw1 hn1 hq1 hd1 hk1) | (go_at_call 81; ((with_reducible refine HIN.out.mono ?_); rintro e w0 ⟨rfl, hw0, hn0⟩); have HN0 := Lib.hid hn0; have hk0 : Blk w0 w.heap.size 44 #[.int .i64 k, .string p, .string n, .slice A1 la.length c1, .slice A2 lr.length c2] := (HN0.out.fresh HK0.out.lt (fun e => by have := HWB.out; omega) (fun e => by have := HOL.out _ e; omega)).trans HK0.out; have y00 := hk0.cell 0; have y01 := hk0.cell 1; have y02 := hk0.cell 2; have y03 := hk0.cell 3; have y04 := hk0.cell 4; have yl0 := hk0.lt; have HM1 := Lib.hid (num_anyQ k w0 lo wb A c bs dl (at_ + 1) hw0); clear hw0 hn0 hk0))
    refine bodyPost_end (results_none rfl _ _ _) rfl ?_
    have r1 := HQ1.out
    have r2 := QP.rule r1 HQ2.out
    have r3 := QP.rule r2 HQ3.out
    have r4 := QP.rule r3 HQ4.out
    have r5 := QP.rule r4 HQ5.out
    refine ⟨⟨_, rfl⟩, G5, g5, b5, dl5, by simpa using HW5.out.goto at_, ?_, (WrN.of_below wb _ HB0.out).trans (HN5.out.trans (WrN.set_ _ _ _ _ _)), ?_⟩
    · rw [HDP.out, HD5.out, HD4.out, HD3.out, HD2.out, HD1.out]; simp [Bool.or_assoc]
    · have e1 : kT (.mk k p n la lr) = 1 + 2 + 2 + (1 + sumL kT la) + (1 + sumL kT lr) := by rw [kT_mk]; omega
      rw [e1, HDP.out]
      simpa [Bool.or_assoc] using r5
theorem typ_allQ : ∀ N : Nat, N ≤ 2000000 → TypQ N
  | 0, _ => fun t h => by have := count_pos t; omega
  | N + 1, h => typ_stepQ N (by omega) (typ_allQ N (by omega))
end Go.Proofs.Ytcjnpaihbebboaa
