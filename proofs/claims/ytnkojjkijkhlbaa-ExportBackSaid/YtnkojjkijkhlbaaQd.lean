/-
  Expressions and statements by the document's writer: walks.
-/
import Derived.Test.YtnkojjkijkhlbaaQa
namespace Go.Proofs.Ytnkojjkijkhlbaa
open Go.RowKit
set_option linter.unusedVariables false
set_option linter.unusedSimpArgs false

def ExQ (N : Nat) : Prop := ∀ t : Ex, t.cnt ≤ N → t.ok 140737488355328 → ∀ (w : World) (lo wb : Nat) (A : Option Addr) (c : Nat) (bs : List Int) (dl : Bool) (at_ : Nat), Wq w lo wb A c bs dl at_ → at_ ≤ 101 → bs.length + 300000 * kE t ≤ 50000000000000 → lo ≤ wb → ∀ (F : Nat → Prop), (∀ k, F k → k < lo) → ∀ vs : List Value, RE w F t vs →
    Calls Try.prog 103 #[.pointer (some ⟨wb, 0, none⟩), .agg vs.toArray] w (PutQ lo wb (Value.slice A bs.length c).ownBlock bs dl at_ (encE t) (kE t) (deepE t at_) w)
set_option maxRecDepth 100000 in
set_option maxHeartbeats 4000000 in
theorem exprsQ (N : Nat) (ih : ExQ N) (l : List Ex) (hl : l.length ≤ 140737488355328) (hok : ∀ t ∈ l, t.cnt ≤ N ∧ t.ok 140737488355328) (w : World) (lo wb : Nat) (A : Option Addr) (c : Nat) (bs : List Int) (dl : Bool) (at_ : Nat) (h : Wq w lo wb A c bs dl at_) (ha : at_ ≤ 101) (hf : bs.length + 300000 * (1 + sumL kE l) ≤ 50000000000000) (hwb : lo ≤ wb) (F : Nat → Prop) (hF : ∀ k, F k → k < lo) (B : Option Addr) (d : Nat) (hr : SlG 4 RE w F B l) :
    Calls Try.prog 83 #[.pointer (some ⟨wb, 0, none⟩), .slice B l.length d] w (PutQ lo wb (Value.slice A bs.length c).ownBlock bs dl at_ (le8 l.length ++ encL encE l) (1 + sumL kE l) (l.any (fun t => deepE t at_)) w) := by
  have HR := Lib.hid (num_anyQ l.length w lo wb A c bs dl at_ h)
  have HA := Lib.hid hr
  have HO := Lib.hid h.olo
  have HOK := Lib.hid hok
  have HF := Lib.hid hF
  have HFU := Lib.hid hf
  have HAT := Lib.hid ha
  have n0 : (0 : Int) ≤ (l.length : Int) := by omega
  have n1 : (l.length : Int) ≤ 140737488355328 := by omega
  clear h hr hF hok hf ha
  go_enter Try.func83, Try.ntmps83
  go_wp2_with (go_at_call 26; ((with_reducible refine HR.out.mono ?_); rintro e w1 ⟨⟨x, rfl⟩, A1, c1, b1, dl1, hw1, hd1, hn1, hq1⟩); have HW1 := Lib.hid hw1; have HN1 := Lib.hid hn1; have HQ1 := Lib.hid hq1; have HD1 := Lib.hid hd1; clear hw1 hn1 hq1 hd1)
  go_loopg [4] l.length (fun gk v4 wr => ∃ (j : Nat) (A' : Option Addr) (c' : Nat) (b' : List Int) (dl' : Bool), j + gk = l.length ∧ v4 = .int .i64 j ∧ Wq wr lo wb A' c' b' dl' at_ ∧ dl' = (dl || (l.take j).any (fun t => deepE t at_)) ∧ WrN w wr wb (Value.slice A bs.length c).ownBlock (Value.slice A' b'.length c').ownBlock ∧ QP bs b' (le8 l.length ++ encL encE (l.take j)) (1 + sumL kE (l.take j)) ((l.take j).any (fun t => deepE t at_)))
  case atStart => exact ⟨0, A1, c1, b1, dl1, by simp, rfl, HW1.out, by simpa using HD1.out, HN1.out, by simpa [encL, sumL] using HQ1.out⟩
  case round =>
    obtain ⟨j, A', c', b', dl', hj, rfl, hw, hd, hn, hq⟩ := hrel
    have HW := Lib.hid hw
    have HN := Lib.hid hn
    have HQ := Lib.hid hq
    have HDD := Lib.hid hd
    cases gk with
    | zero =>
      obtain rfl : j = l.length := by omega
      clear hj hw hn hq hd
      go_wp2
      refine bodyPost_end (results_none rfl _ _ _) rfl ?_
      have h1 := HQ.out
      have h2 := HDD.out
      rw [List.take_length] at h1 h2
      exact ⟨⟨_, rfl⟩, A', c', b', dl', HW.out, h2, HN.out, h1⟩
    | succ f =>
      have hjl : j < l.length := by omega
      obtain ⟨u, hu⟩ : ∃ u, l[j]? = some u := ⟨_, List.getElem?_eq_getElem hjl⟩
      have hm := HOK.out u (List.mem_of_getElem? hu)
      have j1 : (j : Int) < (l.length : Int) := by omega
      have j0 : (0 : Int) ≤ (j : Int) := by omega
      have hks := sumL_take kE l j u hu
      have hkd := sumL_kid kE l j u hu
      have hfu : b'.length + 300000 * kE u ≤ 50000000000000 := by
        have h1 := HFU.out
        have h2 := hq.2.1
        omega
      obtain ⟨q, o, vs, rfl, hFq, hql, hrep, hat⟩ := (HA.out.wr RE_keeps hn HF.out hwb HO.out).at_ RE_sized hu
      have HI := Lib.hid (ih u hm.1 hm.2 wr lo wb A' c' b' dl' at_ hw HAT.out hfu hwb F HF.out)
      have HE := Lib.hid (encL_take encE l j u hu)
      have HY := Lib.hid (any_take (fun t => deepE t at_) l j u hu)
      have HKS := Lib.hid hks
      have HI := Lib.hid (HI.out vs hrep)
      obtain ⟨op, nn, s, kids⟩ := u
      obtain ⟨A7, c7, rfl, _⟩ := hrep.openL
      have q0 := hat 0 _ rfl
      have q1 := hat 1 _ rfl
      have q2 := hat 2 _ rfl
      have q3 := hat 3 _ rfl
      rw [Nat.add_zero] at q0
      clear hat hu hw hn hq hd hm hks hkd hfu
      go_wp2_with (go_at_call 103; ((with_reducible refine HI.out.mono ?_); rintro e w2 ⟨⟨x, rfl⟩, A2, c2, b2, dl2, hw2, hd2, hn2, hq2⟩); have HW2 := Lib.hid hw2; have HN2 := Lib.hid (HN.out.trans hn2); have HQ2 := Lib.hid hq2; have HD2 := Lib.hid hd2; clear hw2 hn2 hq2 hd2)
      go_roundg f
      case measure => omega
      case rel =>
        refine ⟨j + 1, A2, c2, b2, dl2, by omega, by go_num, HW2.out, by rw [HY.out, HD2.out, HDD.out, Bool.or_assoc], HN2.out, ?_⟩
        rw [HE.out, HY.out, HKS.out, ← List.append_assoc, ← Nat.add_assoc]
        exact QP.rule HQ.out HQ2.out
set_option maxRecDepth 100000 in
set_option maxHeartbeats 4000000 in
theorem ex_stepQ (N : Nat) (ih : ExQ N) : ExQ (N + 1) := by
  rintro ⟨op, n, s, kids⟩ hct hok w lo wb A c bs dl at_ h ha hf hwb F hF vs hr
  rw [cnt_ex, cntEs_sum] at hct
  rw [kE_mk] at hf
  obtain ⟨hs1, hs2, ho⟩ := (by simpa only [Ex.ok] using hok : s.size ≤ 140737488355328 ∧ kids.length ≤ 140737488355328 ∧ okEs 140737488355328 kids)
  rw [okEs_iff] at ho
  have HEK := Lib.hid (fun t (ht : t ∈ kids) => (⟨by have := sumL_mem8 Ex.cnt kids t ht; omega, ho t ht⟩ : t.cnt ≤ N ∧ t.ok 140737488355328))
  obtain ⟨A7, c7, rfl, hk⟩ := hr.openL
  simp only [encE, encEs_eq, deepE, deepEs_eq]
  have hb0 := (Below.refl _ w).alloc (Nat.le_refl _) (.cells #[.int .i64 op, .int .i64 n, .string s, .slice A7 kids.length c7] 140)
  have HB0 := Lib.hid hb0
  have HK0 := Lib.hid (Blk.new w 140 #[.int .i64 op, .int .i64 n, .string s, .slice A7 kids.length c7])
  have HO := Lib.hid h.olo
  have HOL := Lib.hid (fun q (hq : (Value.slice A bs.length c).ownBlock = some q) => h.old hq)
  have HWB := Lib.hid h.blk.lt
  have HF := Lib.hid hF
  have HES := Lib.hid (hk.bel RE_keeps hb0)
  have HH0 := Lib.hid (h.bel hb0)
  have a0 : (0 : Int) ≤ (at_ : Int) := by omega
  rcases Nat.lt_or_ge 100 at_ with hd | hd
  · have ha1 : at_ = 101 := by omega
    have HIN := Lib.hid (in_deep _ lo wb A c bs dl at_ HH0.out ha1)
    have HDP := Lib.hid (show (decide (100 < at_) || kids.any (fun t => deepE t (at_ + 1))) = true by rw [decide_eq_true hd]; simp)
    clear h hb0 hF hf hr hk hct hok ho
    subst ha1
    go_enter Try.func103, Try.ntmps103
    go_wp2_with (go_at_call 81; ((with_reducible refine HIN.out.mono ?_); rintro e w9 ⟨rfl, hw9, hn9⟩); have z0 := hw9.blk.cell 2; have zf := hw9.blk.frozen 2; have zl := hw9.blk.lt; have HW9 := Lib.hid hw9; have HN9 := Lib.hid hn9; clear hw9 hn9)
    refine bodyPost_end (results_none rfl _ _ _) rfl ?_
    rw [HDP.out]
    exact ⟨⟨_, rfl⟩, A, c, bs, true, by simpa using HW9.out.goto 101, by simp, (WrN.of_below wb _ HB0.out).trans (HN9.out.trans (WrN.set_ _ _ _ _ _)), Nat.le_refl _, by omega, fun h => by cases h⟩
  · have HIN := Lib.hid (in_ok _ lo wb A c bs dl at_ HH0.out hd)
    have HDP := Lib.hid (show (decide (100 < at_) || kids.any (fun t => deepE t (at_ + 1))) = (false || kids.any (fun t => deepE t (at_ + 1))) by rw [decide_eq_false (by omega)])
    have ha1 : at_ + 1 ≤ 101 := by omega
    have HA1 := Lib.hid ha1
    have HFU := Lib.hid hf
    clear h hb0 hF hf hr hk hct hok ho ha1
    go_enter Try.func103, Try.ntmps103
    go_wp2_with (first | (go_at_call 83; ((with_reducible refine HM4.out.mono ?_); rintro e w4 ⟨⟨x4, rfl⟩, G4, g4, b4, dl4, hw4, hd4, hn4, hq4⟩); have HN4 := Lib.hid (HN3.out.trans hn4); have HW4 := Lib.hid hw4; have HQ4 := Lib.hid hq4; have HD4 := Lib.hid hd4; have hk4 : Blk w4 w.heap.size 140 #[.int .i64 op, .int .i64 n, .string s, .slice A7 kids.length c7] := (HN4.out.fresh HK0.out.lt (fun e => by have := HWB.out; omega) (fun e => by have := HOL.out _ e; omega)).trans HK0.out; have y40 := hk4.cell 0; have y41 := hk4.cell 1; have y42 := hk4.cell 2; have y43 := hk4.cell 3; have yl4 := hk4.lt; have z0 := hw4.blk.cell 2; have zf := hw4.blk.frozen 2; have zl := hw4.blk.lt; clear hw4 hn4 hq4 hd4 hk4) | (go_at_call 24; ((with_reducible refine HM3.out.mono ?_); rintro e w3 ⟨⟨x3, rfl⟩, G3, g3, b3, dl3, hw3, hd3, hn3, hq3⟩); have HN3 := Lib.hid (HN2.out.trans hn3); have HW3 := Lib.hid hw3; have HQ3 := Lib.hid hq3; have HD3 := Lib.hid hd3; have hk3 : Blk w3 w.heap.size 140 #[.int .i64 op, .int .i64 n, .string s, .slice A7 kids.length c7] := (HN3.out.fresh HK0.out.lt (fun e => by have := HWB.out; omega) (fun e => by have := HOL.out _ e; omega)).trans HK0.out; have y30 := hk3.cell 0; have y31 := hk3.cell 1; have y32 := hk3.cell 2; have y33 := hk3.cell 3; have yl3 := hk3.lt; have HM4 := Lib.hid (exprsQ N ih kids hs2 HEK.out w3 lo wb G3 g3 b3 dl3 (at_ + 1) hw3 HA1.out (by have := HFU.out; have := HQ1.out.2.1; have := HQ2.out.2.1; have := hq3.2.1; omega) hwb F HF.out A7 c7 (HES.out.wr RE_keeps HN3.out HF.out hwb HO.out)); clear hw3 hn3 hq3 hd3 hk3) | (go_at_call 26; ((with_reducible refine HM2.out.mono ?_); rintro e w2 ⟨⟨x2, rfl⟩, G2, g2, b2, dl2, hw2, hd2, hn2, hq2⟩); have HN2 := Lib.hid (HN1.out.trans hn2); have HW2 := Lib.hid hw2; have HQ2 := Lib.hid hq2; have HD2 := Lib.hid hd2; have hk2 : Blk w2 w.heap.size 140 #[.int .i64 op, .int .i64 n, .string s, .slice A7 kids.length c7] := (HN2.out.fresh HK0.out.lt (fun e => by have := HWB.out; omega) (fun e => by have := HOL.out _ e; omega)).trans HK0.out; have y20 := hk2.cell 0; have y21 := hk2.cell 1; have y22 := hk2.cell 2; have y23 := hk2.cell 3; have yl2 := hk2.lt; have HM3 := Lib.hid (text_anyQ s hs1 w2 lo wb G2 g2 b2 dl2 (at_ + 1) hw2 (by have := HFU.out; have := HQ1.out.2.1; have := hq2.2.1; omega)); clear hw2 hn2 hq2 hd2 hk2) | (go_at_call 26; ((with_reducible refine HM1.out.mono ?_); rintro e w1 ⟨⟨x1, rfl⟩, G1, g1, b1, dl1, hw1, hd1, hn1, hq1⟩); have HN1 := Lib.hid (HN0.out.trans hn1); have HW1 := Lib.hid hw1; have HQ1 := Lib.hid hq1; have HD1 := Lib.hid hd1; have hk1 : Blk w1 w.heap.size 140 #[.int .i64 op, .int .i64 n, .string s, .slice A7 kids.length c7] := (HN1.out.fresh HK0.out.lt (fun e => by have := HWB.out; omega) (fun e => by have := HOL.out _ e; omega)).trans HK0.out; have y10 := hk1.cell 0; have y11 := hk1.cell 1; have y12 := hk1.cell 2; have y13 := hk1.cell 3; have yl1 := hk1.lt; have HM2 := Lib.hid (num_anyQ n w1 lo wb G1 g1 b1 dl1 (at_ + 1) hw1); clear hw1 hn1 hq1 hd1 hk1) | (go_at_call 81; ((with_reducible refine HIN.out.mono ?_); rintro e w0 ⟨rfl, hw0, hn0⟩); have HN0 := Lib.hid hn0; have hk0 : Blk w0 w.heap.size 140 #[.int .i64 op, .int .i64 n, .string s, .slice A7 kids.length c7] := (HN0.out.fresh HK0.out.lt (fun e => by have := HWB.out; omega) (fun e => by have := HOL.out _ e; omega)).trans HK0.out; have y00 := hk0.cell 0; have y01 := hk0.cell 1; have y02 := hk0.cell 2; have y03 := hk0.cell 3; have yl0 := hk0.lt; have HM1 := Lib.hid (num_anyQ op w0 lo wb A c bs dl (at_ + 1) hw0); clear hw0 hn0 hk0))
    refine bodyPost_end (results_none rfl _ _ _) rfl ?_
    have r1 := HQ1.out
    have r2 := QP.rule r1 HQ2.out
    have r3 := QP.rule r2 HQ3.out
    have r4 := QP.rule r3 HQ4.out
    refine ⟨⟨_, rfl⟩, G4, g4, b4, dl4, by simpa using HW4.out.goto at_, ?_, (WrN.of_below wb _ HB0.out).trans (HN4.out.trans (WrN.set_ _ _ _ _ _)), ?_⟩
    · rw [HDP.out, HD4.out, HD3.out, HD2.out, HD1.out]; simp [Bool.or_assoc]
    · have e1 : kE (.mk op n s kids) = 1 + 1 + 2 + (1 + sumL kE kids) := by rw [kE_mk]; omega
      rw [e1, HDP.out]
      simpa [Bool.or_assoc] using r4
theorem ex_allQ : ∀ N : Nat, ExQ N
  | 0 => fun t h => by have := t.cnt_pos; omega
  | N + 1 => ex_stepQ N (ex_allQ N)
mutual
def deepS : St → Nat → Bool
  | .mk _ _ es bo el, a => decide (100 < a) || es.any (fun t => deepE t (a + 1)) || deepSs bo (a + 1) || deepSs el (a + 1)
def deepSs : List St → Nat → Bool
  | [], _ => false
  | t :: r, a => deepS t a || deepSs r a
end
theorem deepSs_eq (a : Nat) : ∀ l : List St, deepSs l a = l.any (fun t => deepS t a)
  | [] => by simp only [deepSs, List.any_nil]
  | t :: r => by simp only [deepSs, List.any_cons, deepSs_eq a r]
def kS (t : St) : Nat := 5 * t.cnt
theorem kS_sum : ∀ l : List St, sumL kS l = 5 * cntSs l
  | [] => by simp [sumL, cntSs]
  | t :: r => by simp only [sumL, cntSs, kS_sum r, kS]; omega
theorem kS_mk (op n : Int) (es : List Ex) (bo el : List St) : kS (.mk op n es bo el) = 5 + sumL kE es + sumL kS bo + sumL kS el := by rw [kE_sum, kS_sum, kS_sum, kS, cnt_st]; omega
theorem cntSs_kid8 (l : List St) (j : Nat) (t : St) (h : l[j]? = some t) : cntSs (l.take j) + t.cnt ≤ cntSs l := by rw [cntSs_sum, cntSs_sum]; exact sumL_kid _ _ _ _ h
def StQ (N : Nat) : Prop := ∀ l : List St, cntSs l ≤ N → l.length ≤ 140737488355328 → (∀ t ∈ l, t.ok 140737488355328) → ∀ (w : World) (lo wb : Nat) (A : Option Addr) (c : Nat) (bs : List Int) (dl : Bool) (at_ : Nat), Wq w lo wb A c bs dl at_ → at_ ≤ 101 → bs.length + 300000 * (1 + sumL kS l) ≤ 50000000000000 → lo ≤ wb → ∀ (F : Nat → Prop), (∀ k, F k → k < lo) → ∀ (B : Option Addr) (d : Nat), SlG 5 RS w F B l →
    Calls Try.prog 54 #[.pointer (some ⟨wb, 0, none⟩), .slice B l.length d] w (PutQ lo wb (Value.slice A bs.length c).ownBlock bs dl at_ (le8 l.length ++ encL encS l) (1 + sumL kS l) (l.any (fun t => deepS t at_)) w)
set_option maxRecDepth 100000 in
set_option maxHeartbeats 4000000 in
theorem st_stepQ (N : Nat) (ih : ∀ M, M < N → StQ M) : StQ N := by
  intro l hct hl hok w lo wb A c bs dl at_ h ha hf hwb F hF B d hr
  have HR := Lib.hid (num_anyQ l.length w lo wb A c bs dl at_ h)
  have HA := Lib.hid hr
  have HO := Lib.hid h.olo
  have HOK := Lib.hid hok
  have HF := Lib.hid hF
  have HFU := Lib.hid hf
  have HAT := Lib.hid ha
  have HCT := Lib.hid hct
  have n0 : (0 : Int) ≤ (l.length : Int) := by omega
  have n1 : (l.length : Int) ≤ 140737488355328 := by omega
  clear h hr hF hok hf ha hct
  go_enter Try.func54, Try.ntmps54
  go_wp2_with (go_at_call 26; ((with_reducible refine HR.out.mono ?_); rintro e w1 ⟨⟨x, rfl⟩, A1, c1, b1, dl1, hw1, hd1, hn1, hq1⟩); have HW1 := Lib.hid hw1; have HN1 := Lib.hid hn1; have HQ1 := Lib.hid hq1; have HD1 := Lib.hid hd1; clear hw1 hn1 hq1 hd1)
  go_loopg [4] l.length (fun gk v4 wr => ∃ (j : Nat) (A' : Option Addr) (c' : Nat) (b' : List Int) (dl' : Bool), j + gk = l.length ∧ v4 = .int .i64 j ∧ Wq wr lo wb A' c' b' dl' at_ ∧ dl' = (dl || (l.take j).any (fun t => deepS t at_)) ∧ WrN w wr wb (Value.slice A bs.length c).ownBlock (Value.slice A' b'.length c').ownBlock ∧ QP bs b' (le8 l.length ++ encL encS (l.take j)) (1 + sumL kS (l.take j)) ((l.take j).any (fun t => deepS t at_)))
  case atStart => exact ⟨0, A1, c1, b1, dl1, by simp, rfl, HW1.out, by simpa using HD1.out, HN1.out, by simpa [encL, sumL] using HQ1.out⟩
  case round =>
    obtain ⟨j, A', c', b', dl', hj, rfl, hw, hd, hn, hq⟩ := hrel
    have HW := Lib.hid hw
    have HN := Lib.hid hn
    have HQ := Lib.hid hq
    have HDD := Lib.hid hd
    cases gk with
    | zero =>
      obtain rfl : j = l.length := by omega
      clear hj hw hn hq hd
      go_wp2
      refine bodyPost_end (results_none rfl _ _ _) rfl ?_
      have h1 := HQ.out
      have h2 := HDD.out
      rw [List.take_length] at h1 h2
      exact ⟨⟨_, rfl⟩, A', c', b', dl', HW.out, h2, HN.out, h1⟩
    | succ f =>
      have hjl : j < l.length := by omega
      obtain ⟨u, hu⟩ : ∃ u, l[j]? = some u := ⟨_, List.getElem?_eq_getElem hjl⟩
      have hm := HOK.out u (List.mem_of_getElem? hu)
      have j1 : (j : Int) < (l.length : Int) := by omega
      have j0 : (0 : Int) ≤ (j : Int) := by omega
      have hks := sumL_take kS l j u hu
      have hkd := sumL_kid kS l j u hu
      have hfu : b'.length + 300000 * kS u ≤ 50000000000000 := by
        have h1 := HFU.out
        have h2 := hq.2.1
        omega
      obtain ⟨q, o, vs, rfl, hFq, hql, hrep, hat⟩ := (HA.out.wr RS_keeps hn HF.out hwb HO.out).at_ RS_sized hu
      have HE := Lib.hid (encL_take encS l j u hu)
      have HY := Lib.hid (any_take (fun t => deepS t at_) l j u hu)
      have HKS := Lib.hid hks
      have hcu : u.cnt ≤ N := by
        have h1 := HCT.out
        have h2 := cntSs_kid8 l j u hu
        omega
      have hql0 : q < wr.heap.size := hql
      have hqb : q ≠ wb := fun e => by have := HF.out q hFq; omega
      have hqo : (Value.slice A' b'.length c').ownBlock ≠ some q := fun e => by have := HF.out q hFq; have := hw.olo q e; omega
      have HO2 := Lib.hid hw.olo
      obtain ⟨op, nn, es, bo, el⟩ := u
      obtain ⟨A7, c7, A8, c8, A9, c9, rfl, k1, k2, k3⟩ := hrep.openL
      have HES := Lib.hid k1
      have HBS := Lib.hid k2
      have HLS := Lib.hid k3
      have q0 := hat 0 _ rfl
      have q1 := hat 1 _ rfl
      have q2 := hat 2 _ rfl
      have q3 := hat 3 _ rfl
      have q4 := hat 4 _ rfl
      rw [Nat.add_zero] at q0
      have hks1 := kS_mk op nn es bo el
      rw [cnt_st] at hcu
      obtain ⟨⟨hs1, ho1⟩, ⟨hs2, ho2⟩, hs3, ho3⟩ := (by simpa only [St.ok] using hm : (es.length ≤ 140737488355328 ∧ okEs 140737488355328 es) ∧ (bo.length ≤ 140737488355328 ∧ okSs 140737488355328 bo) ∧ (el.length ≤ 140737488355328 ∧ okSs 140737488355328 el))
      rw [okEs_iff] at ho1
      rw [okSs_iff] at ho2 ho3
      obtain ⟨N0, hN0⟩ : ∃ n, cntEs es = n := ⟨_, rfl⟩
      have HEK := Lib.hid (fun t (ht : t ∈ es) => (⟨by have := sumL_mem8 Ex.cnt es t ht; rw [← cntEs_sum] at this; omega, ho1 t ht⟩ : t.cnt ≤ N0 ∧ t.ok 140737488355328))
      have HBK := Lib.hid ho2
      have HLK := Lib.hid ho3
      rcases Nat.lt_or_ge 100 at_ with hdd | hdd
      · have ha1 : at_ = 101 := by have := HAT.out; omega
        have HIN := Lib.hid (in_deep wr lo wb A' c' b' dl' at_ hw ha1)
        have HDP := Lib.hid (show deepS (.mk op nn es bo el) at_ = true by simp only [deepS]; rw [decide_eq_true hdd]; simp)
        clear hat hu hw hn hq hd hm hks hkd hfu hrep k1 k2 k3 hcu ho1 ho2 ho3 hN0 hks1 hdd
        subst ha1
        go_wp2_with (go_at_call 81; ((with_reducible refine HIN.out.mono ?_); rintro e w9 ⟨rfl, hw9, hn9⟩); have z0 := hw9.blk.cell 2; have zf := hw9.blk.frozen 2; have zl := hw9.blk.lt; have HW9 := Lib.hid hw9; have HN9 := Lib.hid (HN.out.trans (hn9.trans (WrN.set_ _ wb 2 (.int .i64 101) _))); clear hw9 hn9)
        go_roundg f
        case measure => omega
        case rel =>
          refine ⟨j + 1, A', c', b', true, by omega, by go_num, by simpa using HW9.out.goto 101, by rw [HY.out, HDP.out]; simp, HN9.out, ?_⟩
          rw [HE.out, HY.out, HKS.out, HDP.out, ← List.append_assoc, ← Nat.add_assoc]
          exact QP.rule HQ.out ⟨Nat.le_refl _, by omega, fun h => by cases h⟩
      · have ha1 : at_ + 1 ≤ 101 := by omega
        have HA1 := Lib.hid ha1
        have HIN := Lib.hid (in_ok wr lo wb A' c' b' dl' at_ hw hdd)
        have HDP := Lib.hid (show deepS (.mk op nn es bo el) at_ = (false || es.any (fun t => deepE t (at_ + 1)) || bo.any (fun t => deepS t (at_ + 1)) || el.any (fun t => deepS t (at_ + 1))) by simp only [deepS, deepSs_eq]; rw [decide_eq_false (by omega)])
        have HFU2 := Lib.hid (show b'.length + 300000 * (5 + sumL kE es + sumL kS bo + sumL kS el) ≤ 50000000000000 by rw [← hks1]; exact hfu)
        have HK1 := Lib.hid (show kS (.mk op nn es bo el) = 1 + 1 + (1 + sumL kE es) + (1 + sumL kS bo) + (1 + sumL kS el) by rw [hks1]; omega)
        have ih1 := Lib.hid (fun (k : List St) (hk : cntSs k < N) => ih (cntSs k) hk k (Nat.le_refl _))
        have hbo1 : cntSs bo < N := by omega
        have hel1 : cntSs el < N := by omega
        have a0 : (0 : Int) ≤ (at_ : Int) := by omega
        have HCB := Lib.hid hbo1
        have HCL := Lib.hid hel1
        clear hat hu hw hn hq hd hm hks hkd hfu hrep k1 k2 k3 hcu ho1 ho2 ho3 hN0 hks1 ha1 hbo1 hel1 ih
        go_wp2_with (first | (go_at_call 54; ((with_reducible refine HM5.out.mono ?_); rintro e w5 ⟨⟨x5, rfl⟩, G5, g5, b5, dl5, hw5, hd5, hn5, hq5⟩); have HN5 := Lib.hid (HN4.out.trans hn5); have HW5 := Lib.hid hw5; have HQ5 := Lib.hid hq5; have HD5 := Lib.hid hd5; have y50 := (HN5.out.cell (p := ⟨q, o + j * 5, none⟩) hql0 hqb hqo).trans q0; have y51 := (HN5.out.cell (p := ⟨q, o + j * 5 + 1, none⟩) hql0 hqb hqo).trans q1; have y52 := (HN5.out.cell (p := ⟨q, o + j * 5 + 2, none⟩) hql0 hqb hqo).trans q2; have y53 := (HN5.out.cell (p := ⟨q, o + j * 5 + 3, none⟩) hql0 hqb hqo).trans q3; have y54 := (HN5.out.cell (p := ⟨q, o + j * 5 + 4, none⟩) hql0 hqb hqo).trans q4; have yl5 := Nat.lt_of_lt_of_le hql0 HN5.out.gr.size; have z0 := hw5.blk.cell 2; have zf := hw5.blk.frozen 2; have zl := hw5.blk.lt; clear hw5 hn5 hq5 hd5) | (go_at_call 54; ((with_reducible refine HM4.out.mono ?_); rintro e w4 ⟨⟨x4, rfl⟩, G4, g4, b4, dl4, hw4, hd4, hn4, hq4⟩); have HN4 := Lib.hid (HN3.out.trans hn4); have HW4 := Lib.hid hw4; have HQ4 := Lib.hid hq4; have HD4 := Lib.hid hd4; have y40 := (HN4.out.cell (p := ⟨q, o + j * 5, none⟩) hql0 hqb hqo).trans q0; have y41 := (HN4.out.cell (p := ⟨q, o + j * 5 + 1, none⟩) hql0 hqb hqo).trans q1; have y42 := (HN4.out.cell (p := ⟨q, o + j * 5 + 2, none⟩) hql0 hqb hqo).trans q2; have y43 := (HN4.out.cell (p := ⟨q, o + j * 5 + 3, none⟩) hql0 hqb hqo).trans q3; have y44 := (HN4.out.cell (p := ⟨q, o + j * 5 + 4, none⟩) hql0 hqb hqo).trans q4; have yl4 := Nat.lt_of_lt_of_le hql0 HN4.out.gr.size; have HM5 := Lib.hid (ih1.out el HCL.out hs3 HLK.out w4 lo wb G4 g4 b4 dl4 (at_ + 1) hw4 HA1.out (by have := HFU2.out; have := HQ1.out.2.1; have := HQ2.out.2.1; have := HQ3.out.2.1; have := hq4.2.1; omega) hwb F HF.out A9 c9 (HLS.out.wr RS_keeps HN4.out HF.out hwb HO2.out)); clear hw4 hn4 hq4 hd4) | (go_at_call 83; ((with_reducible refine HM3.out.mono ?_); rintro e w3 ⟨⟨x3, rfl⟩, G3, g3, b3, dl3, hw3, hd3, hn3, hq3⟩); have HN3 := Lib.hid (HN2.out.trans hn3); have HW3 := Lib.hid hw3; have HQ3 := Lib.hid hq3; have HD3 := Lib.hid hd3; have y30 := (HN3.out.cell (p := ⟨q, o + j * 5, none⟩) hql0 hqb hqo).trans q0; have y31 := (HN3.out.cell (p := ⟨q, o + j * 5 + 1, none⟩) hql0 hqb hqo).trans q1; have y32 := (HN3.out.cell (p := ⟨q, o + j * 5 + 2, none⟩) hql0 hqb hqo).trans q2; have y33 := (HN3.out.cell (p := ⟨q, o + j * 5 + 3, none⟩) hql0 hqb hqo).trans q3; have y34 := (HN3.out.cell (p := ⟨q, o + j * 5 + 4, none⟩) hql0 hqb hqo).trans q4; have yl3 := Nat.lt_of_lt_of_le hql0 HN3.out.gr.size; have HM4 := Lib.hid (ih1.out bo HCB.out hs2 HBK.out w3 lo wb G3 g3 b3 dl3 (at_ + 1) hw3 HA1.out (by have := HFU2.out; have := HQ1.out.2.1; have := HQ2.out.2.1; have := hq3.2.1; omega) hwb F HF.out A8 c8 (HBS.out.wr RS_keeps HN3.out HF.out hwb HO2.out)); clear hw3 hn3 hq3 hd3) | (go_at_call 26; ((with_reducible refine HM2.out.mono ?_); rintro e w2 ⟨⟨x2, rfl⟩, G2, g2, b2, dl2, hw2, hd2, hn2, hq2⟩); have HN2 := Lib.hid (HN1.out.trans hn2); have HW2 := Lib.hid hw2; have HQ2 := Lib.hid hq2; have HD2 := Lib.hid hd2; have y20 := (HN2.out.cell (p := ⟨q, o + j * 5, none⟩) hql0 hqb hqo).trans q0; have y21 := (HN2.out.cell (p := ⟨q, o + j * 5 + 1, none⟩) hql0 hqb hqo).trans q1; have y22 := (HN2.out.cell (p := ⟨q, o + j * 5 + 2, none⟩) hql0 hqb hqo).trans q2; have y23 := (HN2.out.cell (p := ⟨q, o + j * 5 + 3, none⟩) hql0 hqb hqo).trans q3; have y24 := (HN2.out.cell (p := ⟨q, o + j * 5 + 4, none⟩) hql0 hqb hqo).trans q4; have yl2 := Nat.lt_of_lt_of_le hql0 HN2.out.gr.size; have HM3 := Lib.hid (exprsQ N0 (ex_allQ N0) es hs1 HEK.out w2 lo wb G2 g2 b2 dl2 (at_ + 1) hw2 HA1.out (by have := HFU2.out; have := HQ1.out.2.1; have := hq2.2.1; omega) hwb F HF.out A7 c7 (HES.out.wr RE_keeps HN2.out HF.out hwb HO2.out)); clear hw2 hn2 hq2 hd2) | (go_at_call 26; ((with_reducible refine HM1.out.mono ?_); rintro e w1 ⟨⟨x1, rfl⟩, G1, g1, b1, dl1, hw1, hd1, hn1, hq1⟩); have HN1 := Lib.hid (HN0.out.trans hn1); have HW1 := Lib.hid hw1; have HQ1 := Lib.hid hq1; have HD1 := Lib.hid hd1; have y10 := (HN1.out.cell (p := ⟨q, o + j * 5, none⟩) hql0 hqb hqo).trans q0; have y11 := (HN1.out.cell (p := ⟨q, o + j * 5 + 1, none⟩) hql0 hqb hqo).trans q1; have y12 := (HN1.out.cell (p := ⟨q, o + j * 5 + 2, none⟩) hql0 hqb hqo).trans q2; have y13 := (HN1.out.cell (p := ⟨q, o + j * 5 + 3, none⟩) hql0 hqb hqo).trans q3; have y14 := (HN1.out.cell (p := ⟨q, o + j * 5 + 4, none⟩) hql0 hqb hqo).trans q4; have yl1 := Nat.lt_of_lt_of_le hql0 HN1.out.gr.size; have HM2 := Lib.hid (num_anyQ nn w1 lo wb G1 g1 b1 dl1 (at_ + 1) hw1); clear hw1 hn1 hq1 hd1) | (go_at_call 81; ((with_reducible refine HIN.out.mono ?_); rintro e w0 ⟨rfl, hw0, hn0⟩); have HN0 := Lib.hid hn0; have y00 := (HN0.out.cell (p := ⟨q, o + j * 5, none⟩) hql0 hqb hqo).trans q0; have y01 := (HN0.out.cell (p := ⟨q, o + j * 5 + 1, none⟩) hql0 hqb hqo).trans q1; have y02 := (HN0.out.cell (p := ⟨q, o + j * 5 + 2, none⟩) hql0 hqb hqo).trans q2; have y03 := (HN0.out.cell (p := ⟨q, o + j * 5 + 3, none⟩) hql0 hqb hqo).trans q3; have y04 := (HN0.out.cell (p := ⟨q, o + j * 5 + 4, none⟩) hql0 hqb hqo).trans q4; have yl0 := Nat.lt_of_lt_of_le hql0 hn0.gr.size; have HM1 := Lib.hid (num_anyQ op w0 lo wb A' c' b' dl' (at_ + 1) hw0); clear hw0 hn0))
        have HN9 := Lib.hid (HN.out.trans (HN5.out.trans (WrN.set_ w5 wb 2 (.int .i64 at_) _)))
        go_roundg f
        case measure => omega
        case rel =>
          refine ⟨j + 1, G5, g5, b5, dl5, by omega, by go_num, by simpa using HW5.out.goto at_, ?_, HN9.out, ?_⟩
          · rw [HY.out, HDP.out, HD5.out, HD4.out, HD3.out, HD2.out, HD1.out, HDD.out]; simp [Bool.or_assoc]
          · rw [HE.out, HY.out, HKS.out, HDP.out, HK1.out, ← List.append_assoc, ← Nat.add_assoc]
            have r := QP.rule (QP.rule (QP.rule (QP.rule HQ1.out HQ2.out) HQ3.out) HQ4.out) HQ5.out
            refine QP.rule HQ.out ?_
            simp only [encS, encSs_eq]
            simpa [Bool.or_assoc] using r
theorem st_allQ (N : Nat) : StQ N := by
  induction N using Nat.strongRecOn with
  | _ N ih => exact st_stepQ N ih
end Go.Proofs.Ytnkojjkijkhlbaa
