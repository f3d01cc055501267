/-
  Expressions and lists of declarations written: walks.
-/
import Derived.Test.YtnkojjkijkhlbaaWrH
namespace Go.Proofs.Ytnkojjkijkhlbaa
open Go.RowKit
set_option linter.unusedVariables false
set_option linter.unusedSimpArgs false

mutual
def encE : Ex → List Int
  | .mk op n s kids => ((le8 op ++ le8 n) ++ (le8 s.size ++ sB s)) ++ (le8 kids.length ++ encEs kids)
def encEs : List Ex → List Int
  | [] => []
  | t :: r => encE t ++ encEs r
end
theorem encEs_eq : ∀ l : List Ex, encEs l = encL encE l
  | [] => by simp only [encEs, encL]
  | t :: r => by simp only [encEs, encL, encEs_eq r]
def ExC (N : Nat) : Prop := ∀ t : Ex, t.cnt ≤ N → t.ok 140737488355328 → ∀ (w : World) (lo wb : Nat) (A : Option Addr) (c : Nat) (bs : List Int) (lg : Bool), Wr w lo wb A c bs lg → lo ≤ wb → ∀ (F : Nat → Prop), (∀ k, F k → k < lo) → ∀ vs : List Value, RE w F t vs →
    Calls Try.prog 102 #[.pointer (some ⟨wb, 0, none⟩), .agg vs.toArray] w (PutP lo wb (Value.slice A bs.length c).ownBlock bs lg (encE t) w)
set_option maxRecDepth 100000 in
set_option maxHeartbeats 4000000 in
theorem puts_ex (N : Nat) (ih : ExC N) (l : List Ex) (hl : l.length ≤ 140737488355328) (hok : ∀ t ∈ l, t.cnt ≤ N ∧ t.ok 140737488355328) (w : World) (lo wb : Nat) (A : Option Addr) (c : Nat) (bs : List Int) (lg : Bool) (h : Wr w lo wb A c bs lg) (hwb : lo ≤ wb) (F : Nat → Prop) (hF : ∀ k, F k → k < lo) (B : Option Addr) (d : Nat) (hr : SlG 4 RE w F B l) :
    Calls Try.prog 101 #[.pointer (some ⟨wb, 0, none⟩), .slice B l.length d, .func (Fn.func 102) #[] #[]] w (PutP lo wb (Value.slice A bs.length c).ownBlock bs lg (le8 l.length ++ encL encE l) w) := by
  have HR := Lib.hid (number_any l.length w lo wb A c bs lg h)
  have HA := Lib.hid hr
  have HO := Lib.hid h.olo
  have HOK := Lib.hid hok
  have HF := Lib.hid hF
  have n0 : (0 : Int) ≤ (l.length : Int) := by omega
  have n1 : (l.length : Int) ≤ 140737488355328 := by omega
  clear h hr hF hok
  go_enter Try.func101, Try.ntmps101
  go_wp2_with (go_at_call 74; ((with_reducible refine HR.out.mono ?_); rintro e w1 ⟨⟨x, rfl⟩, A1, c1, b1, l1, hw1, hn1, hp1⟩); have HW1 := Lib.hid hw1; have HN1 := Lib.hid hn1; have HP1 := Lib.hid hp1; clear hw1 hn1 hp1)
  go_loopg [14] l.length (fun gk v14 wr => ∃ (j : Nat) (A' : Option Addr) (c' : Nat) (b' : List Int) (l' : Bool), j + gk = l.length ∧ v14 = .int .i64 j ∧ Wr wr lo wb A' c' b' l' ∧ WrN w wr wb (Value.slice A bs.length c).ownBlock (Value.slice A' b'.length c').ownBlock ∧ (((lg = false ∧ bs.length + (le8 l.length ++ encL encE (l.take j)).length ≤ 262144) → b' = bs ++ (le8 l.length ++ encL encE (l.take j)) ∧ l' = false) ∧ (¬ (lg = false ∧ bs.length + (le8 l.length ++ encL encE (l.take j)).length ≤ 262144) → l' = true)))
  case atStart => exact ⟨0, A1, c1, b1, l1, by simp, rfl, HW1.out, HN1.out, by simpa [encL] using HP1.out⟩
  case round =>
    obtain ⟨j, A', c', b', l', hj, rfl, hw, hn, hp⟩ := hrel
    have HW := Lib.hid hw
    have HN := Lib.hid hn
    have HP := Lib.hid hp
    cases gk with
    | zero =>
      obtain rfl : j = l.length := by omega
      clear hj hw hn hp
      go_wp2
      refine bodyPost_end (results_none rfl _ _ _) rfl ?_
      have := HP.out
      rw [List.take_length] at this
      exact ⟨⟨_, rfl⟩, A', c', b', l', HW.out, HN.out, this⟩
    | succ f =>
      have hjl : j < l.length := by omega
      obtain ⟨u, hu⟩ : ∃ u, l[j]? = some u := ⟨_, List.getElem?_eq_getElem hjl⟩
      have hm := HOK.out u (List.mem_of_getElem? hu)
      have j1 : (j : Int) < (l.length : Int) := by omega
      have j0 : (0 : Int) ≤ (j : Int) := by omega
      obtain ⟨q, o, vs, rfl, hFq, hql, hrep, hat⟩ := (HA.out.wr RE_keeps hn HF.out hwb HO.out).at_ RE_sized hu
      have hb0 := fun vs : Array Value => (Below.refl _ wr).alloc (Nat.le_refl _) (.cells vs 140)
      have HB0 := Lib.hid hb0
      have HI := Lib.hid (fun us => ih u hm.1 hm.2 _ lo wb A' c' b' l' (hw.bel (hb0 us)) hwb F HF.out)
      have HE := Lib.hid (encL_take encE l j u hu)
      have HS := Lib.hid (show encL encE l = encL encE (l.take j) ++ encL encE (l.drop j) by rw [← encL_append, List.take_append_drop])
      have HI := Lib.hid (HI.out vs.toArray vs (RE_keeps.bel hrep (HB0.out vs.toArray)))
      obtain ⟨op, nn, s, kids⟩ := u
      obtain ⟨A3, c3, rfl, _⟩ := hrep.openL
      have q0 := hat 0 _ rfl
      have q1 := hat 1 _ rfl
      have q2 := hat 2 _ rfl
      have q3 := hat 3 _ rfl
      rw [Nat.add_zero] at q0
      have y1 := hw.blk.cell 1
      have yl := hw.blk.lt
      clear hat hu hw hn hp hb0 hm
      cases l' with
      | true =>
        go_wp2
        refine bodyPost_ret (results_none rfl _ _ _) rfl ?_
        refine ⟨⟨_, rfl⟩, A', c', b', true, HW.out.bel (HB0.out _), HN.out.trans (WrN.of_below wb _ (HB0.out _)), ?_⟩
        rw [HS.out, ← List.append_assoc]
        exact PutP.stop HP.out.1 rfl
      | false =>
        go_wp2_with (go_at_call 102; ((with_reducible refine HI.out.mono ?_); rintro e w2 ⟨⟨x, rfl⟩, A2, c2, b2, l2, hw2, hn2, hp2⟩); have HW2 := Lib.hid hw2; have HN2 := Lib.hid (HN.out.trans ((WrN.of_below wb _ (HB0.out _)).trans hn2)); have HP2 := Lib.hid hp2; clear hw2 hn2 hp2)
        go_roundg f
        case measure => omega
        case rel =>
          refine ⟨j + 1, A2, c2, b2, l2, by omega, by go_num, HW2.out, HN2.out, ?_⟩
          rw [HE.out, ← List.append_assoc]
          exact PutP.rule (bs1 := b') (lg1 := false) (fun q => ⟨(HP.out.1 q).1, rfl⟩) (fun q => absurd (HP.out.2 q) (by simp)) (fun q => HP2.out.1 (by simpa using q)) (fun q => HP2.out.2 (by simpa using q))
theorem sumL_mem8 {α : Type} (f : α → Nat) (l : List α) (a : α) (h : a ∈ l) : f a ≤ sumL f l := by
  obtain ⟨i, hi⟩ := List.getElem?_of_mem h
  have := sumL_kid f l i a hi
  omega
set_option maxRecDepth 100000 in
set_option maxHeartbeats 4000000 in
theorem ex_step (N : Nat) (ih : ExC N) : ExC (N + 1) := by
  rintro ⟨op, n, s, kids⟩ hct hok w lo wb A c bs lg h hwb F hF vs hr
  rw [cnt_ex, cntEs_sum] at hct
  obtain ⟨hs1, hs2, hs3⟩ := (by simpa only [Ex.ok] using hok : s.size ≤ 140737488355328 ∧ kids.length ≤ 140737488355328 ∧ okEs 140737488355328 kids)
  rw [okEs_iff] at hs3
  have HKK := Lib.hid (fun t (ht : t ∈ kids) => (⟨by have := sumL_mem8 Ex.cnt kids t ht; omega, hs3 t ht⟩ : t.cnt ≤ N ∧ t.ok 140737488355328))
  obtain ⟨A3, c3, rfl, hks⟩ := hr.openL
  simp only [encE, encEs_eq]
  have hb0 := (Below.refl _ w).alloc (Nat.le_refl _) (.cells #[.int .i64 op, .int .i64 n, .string s, .slice A3 kids.length c3] 140)
  have HM1 := Lib.hid (number_any op _ lo wb A c bs lg (h.bel hb0))
  have HKS := Lib.hid (hks.bel RE_keeps hb0)
  have HB0 := Lib.hid hb0
  have HK0 := Lib.hid (Blk.new w 140 #[.int .i64 op, .int .i64 n, .string s, .slice A3 kids.length c3])
  have HO := Lib.hid h.olo
  have HOL := Lib.hid (fun q (hq : (Value.slice A bs.length c).ownBlock = some q) => h.old hq)
  have HWB := Lib.hid h.blk.lt
  have HF := Lib.hid hF
  clear h hb0 hF hr hks hs3 hct hok
  go_enter Try.func102, Try.ntmps102
  go_wp2_with (first | (go_at_call 101; ((with_reducible refine HM4.out.mono ?_); rintro e w4 ⟨⟨x4, rfl⟩, G4, g4, b4, lb4, hw4, hn4, hp4⟩); have HN4 := Lib.hid (HN3.out.trans hn4); have HW4 := Lib.hid hw4; have HP4 := Lib.hid hp4; have hk4 : Blk w4 w.heap.size 140 #[.int .i64 op, .int .i64 n, .string s, .slice A3 kids.length c3] := (HN4.out.fresh HK0.out.lt (fun e => by have := HWB.out; omega) (fun e => by have := HOL.out _ e; omega)).trans HK0.out; have y40 := hk4.cell 0; have y41 := hk4.cell 1; have y42 := hk4.cell 2; have y43 := hk4.cell 3; have yl4 := hk4.lt; clear hw4 hn4 hp4 hk4) | (go_at_call 44; ((with_reducible refine HM3.out.mono ?_); rintro e w3 ⟨⟨x3, rfl⟩, G3, g3, b3, lb3, hw3, hn3, hp3⟩); have HN3 := Lib.hid (HN2.out.trans hn3); have HW3 := Lib.hid hw3; have HP3 := Lib.hid hp3; have hk3 : Blk w3 w.heap.size 140 #[.int .i64 op, .int .i64 n, .string s, .slice A3 kids.length c3] := (HN3.out.fresh HK0.out.lt (fun e => by have := HWB.out; omega) (fun e => by have := HOL.out _ e; omega)).trans HK0.out; have y30 := hk3.cell 0; have y31 := hk3.cell 1; have y32 := hk3.cell 2; have y33 := hk3.cell 3; have yl3 := hk3.lt; have HM4 := Lib.hid (puts_ex N ih kids hs2 HKK.out w3 lo wb G3 g3 b3 lb3 hw3 hwb F HF.out A3 c3 (HKS.out.wr RE_keeps HN3.out HF.out hwb HO.out)); clear hw3 hn3 hp3 hk3) | (go_at_call 23; ((with_reducible refine HM2.out.mono ?_); rintro e w2 ⟨⟨x2, rfl⟩, G2, g2, b2, lb2, hw2, hn2, hp2⟩); have HN2 := Lib.hid (HN1.out.trans hn2); have HW2 := Lib.hid hw2; have HP2 := Lib.hid hp2; have hk2 : Blk w2 w.heap.size 140 #[.int .i64 op, .int .i64 n, .string s, .slice A3 kids.length c3] := (HN2.out.fresh HK0.out.lt (fun e => by have := HWB.out; omega) (fun e => by have := HOL.out _ e; omega)).trans HK0.out; have y20 := hk2.cell 0; have y21 := hk2.cell 1; have y22 := hk2.cell 2; have y23 := hk2.cell 3; have yl2 := hk2.lt; have HM3 := Lib.hid (text_any s hs1 w2 lo wb G2 g2 b2 lb2 hw2); clear hw2 hn2 hp2 hk2) | (go_at_call 74; ((with_reducible refine HM1.out.mono ?_); rintro e w1 ⟨⟨x1, rfl⟩, G1, g1, b1, lb1, hw1, hn1, hp1⟩); have HN1 := Lib.hid (hn1); have HW1 := Lib.hid hw1; have HP1 := Lib.hid hp1; have hk1 : Blk w1 w.heap.size 140 #[.int .i64 op, .int .i64 n, .string s, .slice A3 kids.length c3] := (HN1.out.fresh HK0.out.lt (fun e => by have := HWB.out; omega) (fun e => by have := HOL.out _ e; omega)).trans HK0.out; have y10 := hk1.cell 0; have y11 := hk1.cell 1; have y12 := hk1.cell 2; have y13 := hk1.cell 3; have yl1 := hk1.lt; have HM2 := Lib.hid (word_any n w1 lo wb G1 g1 b1 lb1 hw1); clear hw1 hn1 hp1 hk1))
  refine bodyPost_end (results_none rfl _ _ _) rfl ?_
  have r2 := PutP.rule HP1.out.1 HP1.out.2 HP2.out.1 HP2.out.2
  have r3 := PutP.rule r2.1 r2.2 HP3.out.1 HP3.out.2
  have r4 := PutP.rule r3.1 r3.2 HP4.out.1 HP4.out.2
  exact ⟨⟨_, rfl⟩, G4, g4, b4, lb4, HW4.out, (WrN.of_below wb _ HB0.out).trans HN4.out, r4⟩
theorem Ex.cnt_pos (t : Ex) : 0 < t.cnt := by
  obtain ⟨op, n, s, kids⟩ := t
  rw [cnt_ex]; omega
theorem ex_all : ∀ N : Nat, ExC N
  | 0 => fun t h => by have := t.cnt_pos; omega
  | N + 1 => ex_step N (ex_all N)
set_option maxRecDepth 100000 in
set_option maxHeartbeats 4000000 in
theorem puts_dl (l : List Dl) (hl : l.length ≤ 140737488355328) (hok : ∀ d ∈ l, d.cnt ≤ 2000000 ∧ d.ok 140737488355328) (w : World) (lo wb : Nat) (A : Option Addr) (c : Nat) (bs : List Int) (lg : Bool) (h : Wr w lo wb A c bs lg) (hwb : lo ≤ wb) (F : Nat → Prop) (hF : ∀ k, F k → k < lo) (B : Option Addr) (d : Nat) (hr : SlG 10 RDl w F B l) :
    Calls Try.prog 47 #[.pointer (some ⟨wb, 0, none⟩), .slice B l.length d, .func (Fn.func 48) #[] #[]] w (PutP lo wb (Value.slice A bs.length c).ownBlock bs lg (le8 l.length ++ encL encD l) w) := by
  have HR := Lib.hid (number_any l.length w lo wb A c bs lg h)
  have HA := Lib.hid hr
  have HO := Lib.hid h.olo
  have HOK := Lib.hid hok
  have HF := Lib.hid hF
  have n0 : (0 : Int) ≤ (l.length : Int) := by omega
  have n1 : (l.length : Int) ≤ 140737488355328 := by omega
  clear h hr hF hok
  go_enter Try.func47, Try.ntmps47
  go_wp2_with (go_at_call 74; ((with_reducible refine HR.out.mono ?_); rintro e w1 ⟨⟨x, rfl⟩, A1, c1, b1, l1, hw1, hn1, hp1⟩); have HW1 := Lib.hid hw1; have HN1 := Lib.hid hn1; have HP1 := Lib.hid hp1; clear hw1 hn1 hp1)
  go_loopg [14] l.length (fun gk v14 wr => ∃ (j : Nat) (A' : Option Addr) (c' : Nat) (b' : List Int) (l' : Bool), j + gk = l.length ∧ v14 = .int .i64 j ∧ Wr wr lo wb A' c' b' l' ∧ WrN w wr wb (Value.slice A bs.length c).ownBlock (Value.slice A' b'.length c').ownBlock ∧ (((lg = false ∧ bs.length + (le8 l.length ++ encL encD (l.take j)).length ≤ 262144) → b' = bs ++ (le8 l.length ++ encL encD (l.take j)) ∧ l' = false) ∧ (¬ (lg = false ∧ bs.length + (le8 l.length ++ encL encD (l.take j)).length ≤ 262144) → l' = true)))
  case atStart => exact ⟨0, A1, c1, b1, l1, by simp, rfl, HW1.out, HN1.out, by simpa [encL] using HP1.out⟩
  case round =>
    obtain ⟨j, A', c', b', l', hj, rfl, hw, hn, hp⟩ := hrel
    have HW := Lib.hid hw
    have HN := Lib.hid hn
    have HP := Lib.hid hp
    cases gk with
    | zero =>
      obtain rfl : j = l.length := by omega
      clear hj hw hn hp
      go_wp2
      refine bodyPost_end (results_none rfl _ _ _) rfl ?_
      have := HP.out
      rw [List.take_length] at this
      exact ⟨⟨_, rfl⟩, A', c', b', l', HW.out, HN.out, this⟩
    | succ f =>
      have hjl : j < l.length := by omega
      obtain ⟨u, hu⟩ : ∃ u, l[j]? = some u := ⟨_, List.getElem?_eq_getElem hjl⟩
      have hm := HOK.out u (List.mem_of_getElem? hu)
      have j1 : (j : Int) < (l.length : Int) := by omega
      have j0 : (0 : Int) ≤ (j : Int) := by omega
      obtain ⟨q, o, vs, rfl, hFq, hql, hrep, hat⟩ := (HA.out.wr RDl_keeps hn HF.out hwb HO.out).at_ RDl_sized hu
      have hb0 := fun vs : Array Value => (Below.refl _ wr).alloc (Nat.le_refl _) (.cells vs 47)
      have HB0 := Lib.hid hb0
      have HI := Lib.hid (fun us => dcl_any u (by have h1 := hm.1; unfold Dl.cnt at h1; omega) (fun f hf => by have h1 := hm.1; unfold Dl.cnt at h1; have := sumL_mem8 (fun f : Fi => f.ty.count) u.fields f hf; omega) hm.2 _ lo wb A' c' b' l' (hw.bel (hb0 us)) hwb F HF.out)
      have HE := Lib.hid (encL_take encD l j u hu)
      have HS := Lib.hid (show encL encD l = encL encD (l.take j) ++ encL encD (l.drop j) by rw [← encL_append, List.take_append_drop])
      have HI := Lib.hid (HI.out vs.toArray vs (RDl_keeps.bel hrep (HB0.out vs.toArray)))
      obtain ⟨dk, dn, dof, dv, dt, fs⟩ := u
      obtain ⟨tv, Af, cf, rfl, hrt, _⟩ := hrep
      dsimp only at hrt
      obtain ⟨k1, p1, n1', A3, m3, c3, B3, l3, d3, rfl⟩ := hrt.shape
      simp only [tyC, List.cons_append, List.nil_append] at HI hat
      have q0 := hat 0 _ rfl
      have q1 := hat 1 _ rfl
      have q2 := hat 2 _ rfl
      have q3 := hat 3 _ rfl
      have q4 := hat 4 _ rfl
      have q5 := hat 5 _ rfl
      have q6 := hat 6 _ rfl
      have q7 := hat 7 _ rfl
      have q8 := hat 8 _ rfl
      have q9 := hat 9 _ rfl
      rw [Nat.add_zero] at q0
      have y1 := hw.blk.cell 1
      have yl := hw.blk.lt
      clear hat hu hw hn hp hb0 hm
      cases l' with
      | true =>
        go_wp2
        refine bodyPost_ret (results_none rfl _ _ _) rfl ?_
        refine ⟨⟨_, rfl⟩, A', c', b', true, HW.out.bel (HB0.out _), HN.out.trans (WrN.of_below wb _ (HB0.out _)), ?_⟩
        rw [HS.out, ← List.append_assoc]
        exact PutP.stop HP.out.1 rfl
      | false =>
        go_wp2_with (go_at_call 48; ((with_reducible refine HI.out.mono ?_); rintro e w2 ⟨⟨x, rfl⟩, A2, c2, b2, l2, hw2, hn2, hp2⟩); have HW2 := Lib.hid hw2; have HN2 := Lib.hid (HN.out.trans ((WrN.of_below wb _ (HB0.out _)).trans hn2)); have HP2 := Lib.hid hp2; clear hw2 hn2 hp2)
        go_roundg f
        case measure => omega
        case rel =>
          refine ⟨j + 1, A2, c2, b2, l2, by omega, by go_num, HW2.out, HN2.out, ?_⟩
          rw [HE.out, ← List.append_assoc]
          exact PutP.rule (bs1 := b') (lg1 := false) (fun q => ⟨(HP.out.1 q).1, rfl⟩) (fun q => absurd (HP.out.2 q) (by simp)) (fun q => HP2.out.1 (by simpa using q)) (fun q => HP2.out.2 (by simpa using q))
end Go.Proofs.Ytnkojjkijkhlbaa
