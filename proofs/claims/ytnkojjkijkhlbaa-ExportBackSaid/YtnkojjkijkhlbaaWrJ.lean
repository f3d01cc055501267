/-
  Statements, bodies, units written: walks.
-/
import Derived.Test.YtnkojjkijkhlbaaWrI
namespace Go.Proofs.Ytnkojjkijkhlbaa
open Go.RowKit
set_option linter.unusedVariables false
set_option linter.unusedSimpArgs false

mutual
def encS : St → List Int
  | .mk op n es bo el => (((le8 op ++ le8 n) ++ (le8 es.length ++ encL encE es)) ++ (le8 bo.length ++ encSs bo)) ++ (le8 el.length ++ encSs el)
def encSs : List St → List Int
  | [] => []
  | t :: r => encS t ++ encSs r
end
theorem encSs_eq : ∀ l : List St, encSs l = encL encS l
  | [] => by simp only [encSs, encL]
  | t :: r => by simp only [encSs, encL, encSs_eq r]
def StC (N : Nat) : Prop := ∀ t : St, t.cnt ≤ N → t.ok 140737488355328 → ∀ (w : World) (lo wb : Nat) (A : Option Addr) (c : Nat) (bs : List Int) (lg : Bool), Wr w lo wb A c bs lg → lo ≤ wb → ∀ (F : Nat → Prop), (∀ k, F k → k < lo) → ∀ vs : List Value, RS w F t vs →
    Calls Try.prog 80 #[.pointer (some ⟨wb, 0, none⟩), .agg vs.toArray] w (PutP lo wb (Value.slice A bs.length c).ownBlock bs lg (encS t) w)
set_option maxRecDepth 100000 in
set_option maxHeartbeats 4000000 in
theorem puts_st (N : Nat) (ih : StC N) (l : List St) (hl : l.length ≤ 140737488355328) (hok : ∀ t ∈ l, t.cnt ≤ N ∧ t.ok 140737488355328) (w : World) (lo wb : Nat) (A : Option Addr) (c : Nat) (bs : List Int) (lg : Bool) (h : Wr w lo wb A c bs lg) (hwb : lo ≤ wb) (F : Nat → Prop) (hF : ∀ k, F k → k < lo) (B : Option Addr) (d : Nat) (hr : SlG 5 RS w F B l) :
    Calls Try.prog 79 #[.pointer (some ⟨wb, 0, none⟩), .slice B l.length d, .func (Fn.func 80) #[] #[]] w (PutP lo wb (Value.slice A bs.length c).ownBlock bs lg (le8 l.length ++ encL encS l) w) := by
  have HR := Lib.hid (number_any l.length w lo wb A c bs lg h)
  have HA := Lib.hid hr
  have HO := Lib.hid h.olo
  have HOK := Lib.hid hok
  have HF := Lib.hid hF
  have n0 : (0 : Int) ≤ (l.length : Int) := by omega
  have n1 : (l.length : Int) ≤ 140737488355328 := by omega
  clear h hr hF hok
  go_enter Try.func79, Try.ntmps79
  go_wp2_with (go_at_call 74; ((with_reducible refine HR.out.mono ?_); rintro e w1 ⟨⟨x, rfl⟩, A1, c1, b1, l1, hw1, hn1, hp1⟩); have HW1 := Lib.hid hw1; have HN1 := Lib.hid hn1; have HP1 := Lib.hid hp1; clear hw1 hn1 hp1)
  go_loopg [14] l.length (fun gk v14 wr => ∃ (j : Nat) (A' : Option Addr) (c' : Nat) (b' : List Int) (l' : Bool), j + gk = l.length ∧ v14 = .int .i64 j ∧ Wr wr lo wb A' c' b' l' ∧ WrN w wr wb (Value.slice A bs.length c).ownBlock (Value.slice A' b'.length c').ownBlock ∧ (((lg = false ∧ bs.length + (le8 l.length ++ encL encS (l.take j)).length ≤ 262144) → b' = bs ++ (le8 l.length ++ encL encS (l.take j)) ∧ l' = false) ∧ (¬ (lg = false ∧ bs.length + (le8 l.length ++ encL encS (l.take j)).length ≤ 262144) → l' = true)))
  case atStart => exact ⟨0, A1, c1, b1, l1, by simp, rfl, HW1.out, HN1.out, by simpa [encL] using HP1.out⟩
  case round =>
    obtain ⟨j, A', c', b', l', hj, rfl, hw, hn, hp⟩ := hrel
    have HW := Lib.hid hw
    have HN := Lib.hid hn
    have HP := Lib.hid hp
    cases gk with
    | zero =>
      obtain rfl : j = l.length := by omega
      clear hj hw hn hp
      go_wp2
      refine bodyPost_end (results_none rfl _ _ _) rfl ?_
      have := HP.out
      rw [List.take_length] at this
      exact ⟨⟨_, rfl⟩, A', c', b', l', HW.out, HN.out, this⟩
    | succ f =>
      have hjl : j < l.length := by omega
      obtain ⟨u, hu⟩ : ∃ u, l[j]? = some u := ⟨_, List.getElem?_eq_getElem hjl⟩
      have hm := HOK.out u (List.mem_of_getElem? hu)
      have j1 : (j : Int) < (l.length : Int) := by omega
      have j0 : (0 : Int) ≤ (j : Int) := by omega
      obtain ⟨q, o, vs, rfl, hFq, hql, hrep, hat⟩ := (HA.out.wr RS_keeps hn HF.out hwb HO.out).at_ RS_sized hu
      have hb0 := fun vs : Array Value => (Below.refl _ wr).alloc (Nat.le_refl _) (.cells vs 111)
      have HB0 := Lib.hid hb0
      have HI := Lib.hid (fun us => ih u hm.1 hm.2 _ lo wb A' c' b' l' (hw.bel (hb0 us)) hwb F HF.out)
      have HE := Lib.hid (encL_take encS l j u hu)
      have HS := Lib.hid (show encL encS l = encL encS (l.take j) ++ encL encS (l.drop j) by rw [← encL_append, List.take_append_drop])
      have HI := Lib.hid (HI.out vs.toArray vs (RS_keeps.bel hrep (HB0.out vs.toArray)))
      obtain ⟨op, nn, es, bo, el⟩ := u
      obtain ⟨A7, c7, A8, c8, A9, c9, rfl, _⟩ := hrep.openL
      have q0 := hat 0 _ rfl
      have q1 := hat 1 _ rfl
      have q2 := hat 2 _ rfl
      have q3 := hat 3 _ rfl
      have q4 := hat 4 _ rfl
      rw [Nat.add_zero] at q0
      have y1 := hw.blk.cell 1
      have yl := hw.blk.lt
      clear hat hu hw hn hp hb0 hm
      cases l' with
      | true =>
        go_wp2
        refine bodyPost_ret (results_none rfl _ _ _) rfl ?_
        refine ⟨⟨_, rfl⟩, A', c', b', true, HW.out.bel (HB0.out _), HN.out.trans (WrN.of_below wb _ (HB0.out _)), ?_⟩
        rw [HS.out, ← List.append_assoc]
        exact PutP.stop HP.out.1 rfl
      | false =>
        go_wp2_with (go_at_call 80; ((with_reducible refine HI.out.mono ?_); rintro e w2 ⟨⟨x, rfl⟩, A2, c2, b2, l2, hw2, hn2, hp2⟩); have HW2 := Lib.hid hw2; have HN2 := Lib.hid (HN.out.trans ((WrN.of_below wb _ (HB0.out _)).trans hn2)); have HP2 := Lib.hid hp2; clear hw2 hn2 hp2)
        go_roundg f
        case measure => omega
        case rel =>
          refine ⟨j + 1, A2, c2, b2, l2, by omega, by go_num, HW2.out, HN2.out, ?_⟩
          rw [HE.out, ← List.append_assoc]
          exact PutP.rule (bs1 := b') (lg1 := false) (fun q => ⟨(HP.out.1 q).1, rfl⟩) (fun q => absurd (HP.out.2 q) (by simp)) (fun q => HP2.out.1 (by simpa using q)) (fun q => HP2.out.2 (by simpa using q))
set_option maxRecDepth 100000 in
set_option maxHeartbeats 4000000 in
theorem st_step (N : Nat) (ih : StC N) : StC (N + 1) := by
  rintro ⟨op, n, es, bo, el⟩ hct hok w lo wb A c bs lg h hwb F hF vs hr
  rw [cnt_st, cntEs_sum, cntSs_sum, cntSs_sum] at hct
  obtain ⟨⟨hs1, ho1⟩, ⟨hs2, ho2⟩, hs3, ho3⟩ := (by simpa only [St.ok] using hok : (es.length ≤ 140737488355328 ∧ okEs 140737488355328 es) ∧ (bo.length ≤ 140737488355328 ∧ okSs 140737488355328 bo) ∧ (el.length ≤ 140737488355328 ∧ okSs 140737488355328 el))
  rw [okEs_iff] at ho1
  rw [okSs_iff] at ho2 ho3
  have HEK := Lib.hid (fun t (ht : t ∈ es) => (⟨by have := sumL_mem8 Ex.cnt es t ht; omega, ho1 t ht⟩ : t.cnt ≤ N ∧ t.ok 140737488355328))
  have HBK := Lib.hid (fun t (ht : t ∈ bo) => (⟨by have := sumL_mem8 St.cnt bo t ht; omega, ho2 t ht⟩ : t.cnt ≤ N ∧ t.ok 140737488355328))
  have HLK := Lib.hid (fun t (ht : t ∈ el) => (⟨by have := sumL_mem8 St.cnt el t ht; omega, ho3 t ht⟩ : t.cnt ≤ N ∧ t.ok 140737488355328))
  obtain ⟨A7, c7, A8, c8, A9, c9, rfl, k1, k2, k3⟩ := hr.openL
  simp only [encS, encSs_eq]
  have hb0 := (Below.refl _ w).alloc (Nat.le_refl _) (.cells #[.int .i64 op, .int .i64 n, .slice A7 es.length c7, .slice A8 bo.length c8, .slice A9 el.length c9] 111)
  have HM1 := Lib.hid (number_any op _ lo wb A c bs lg (h.bel hb0))
  have HES := Lib.hid (k1.bel RE_keeps hb0)
  have HBS := Lib.hid (k2.bel RS_keeps hb0)
  have HLS := Lib.hid (k3.bel RS_keeps hb0)
  have HB0 := Lib.hid hb0
  have HK0 := Lib.hid (Blk.new w 111 #[.int .i64 op, .int .i64 n, .slice A7 es.length c7, .slice A8 bo.length c8, .slice A9 el.length c9])
  have HO := Lib.hid h.olo
  have HOL := Lib.hid (fun q (hq : (Value.slice A bs.length c).ownBlock = some q) => h.old hq)
  have HWB := Lib.hid h.blk.lt
  have HF := Lib.hid hF
  clear h hb0 hF hr k1 k2 k3 ho1 ho2 ho3 hct hok
  go_enter Try.func80, Try.ntmps80
  go_wp2_with (first | (go_at_call 79; ((with_reducible refine HM5.out.mono ?_); rintro e w5 ⟨⟨x5, rfl⟩, G5, g5, b5, lb5, hw5, hn5, hp5⟩); have HN5 := Lib.hid (HN4.out.trans hn5); have HW5 := Lib.hid hw5; have HP5 := Lib.hid hp5; have hk5 : Blk w5 w.heap.size 111 #[.int .i64 op, .int .i64 n, .slice A7 es.length c7, .slice A8 bo.length c8, .slice A9 el.length c9] := (HN5.out.fresh HK0.out.lt (fun e => by have := HWB.out; omega) (fun e => by have := HOL.out _ e; omega)).trans HK0.out; have y50 := hk5.cell 0; have y51 := hk5.cell 1; have y52 := hk5.cell 2; have y53 := hk5.cell 3; have y54 := hk5.cell 4; have yl5 := hk5.lt; clear hw5 hn5 hp5 hk5) | (go_at_call 79; ((with_reducible refine HM4.out.mono ?_); rintro e w4 ⟨⟨x4, rfl⟩, G4, g4, b4, lb4, hw4, hn4, hp4⟩); have HN4 := Lib.hid (HN3.out.trans hn4); have HW4 := Lib.hid hw4; have HP4 := Lib.hid hp4; have hk4 : Blk w4 w.heap.size 111 #[.int .i64 op, .int .i64 n, .slice A7 es.length c7, .slice A8 bo.length c8, .slice A9 el.length c9] := (HN4.out.fresh HK0.out.lt (fun e => by have := HWB.out; omega) (fun e => by have := HOL.out _ e; omega)).trans HK0.out; have y40 := hk4.cell 0; have y41 := hk4.cell 1; have y42 := hk4.cell 2; have y43 := hk4.cell 3; have y44 := hk4.cell 4; have yl4 := hk4.lt; have HM5 := Lib.hid (puts_st N ih el hs3 HLK.out w4 lo wb G4 g4 b4 lb4 hw4 hwb F HF.out A9 c9 (HLS.out.wr RS_keeps HN4.out HF.out hwb HO.out)); clear hw4 hn4 hp4 hk4) | (go_at_call 101; ((with_reducible refine HM3.out.mono ?_); rintro e w3 ⟨⟨x3, rfl⟩, G3, g3, b3, lb3, hw3, hn3, hp3⟩); have HN3 := Lib.hid (HN2.out.trans hn3); have HW3 := Lib.hid hw3; have HP3 := Lib.hid hp3; have hk3 : Blk w3 w.heap.size 111 #[.int .i64 op, .int .i64 n, .slice A7 es.length c7, .slice A8 bo.length c8, .slice A9 el.length c9] := (HN3.out.fresh HK0.out.lt (fun e => by have := HWB.out; omega) (fun e => by have := HOL.out _ e; omega)).trans HK0.out; have y30 := hk3.cell 0; have y31 := hk3.cell 1; have y32 := hk3.cell 2; have y33 := hk3.cell 3; have y34 := hk3.cell 4; have yl3 := hk3.lt; have HM4 := Lib.hid (puts_st N ih bo hs2 HBK.out w3 lo wb G3 g3 b3 lb3 hw3 hwb F HF.out A8 c8 (HBS.out.wr RS_keeps HN3.out HF.out hwb HO.out)); clear hw3 hn3 hp3 hk3) | (go_at_call 23; ((with_reducible refine HM2.out.mono ?_); rintro e w2 ⟨⟨x2, rfl⟩, G2, g2, b2, lb2, hw2, hn2, hp2⟩); have HN2 := Lib.hid (HN1.out.trans hn2); have HW2 := Lib.hid hw2; have HP2 := Lib.hid hp2; have hk2 : Blk w2 w.heap.size 111 #[.int .i64 op, .int .i64 n, .slice A7 es.length c7, .slice A8 bo.length c8, .slice A9 el.length c9] := (HN2.out.fresh HK0.out.lt (fun e => by have := HWB.out; omega) (fun e => by have := HOL.out _ e; omega)).trans HK0.out; have y20 := hk2.cell 0; have y21 := hk2.cell 1; have y22 := hk2.cell 2; have y23 := hk2.cell 3; have y24 := hk2.cell 4; have yl2 := hk2.lt; have HM3 := Lib.hid (puts_ex N (ex_all N) es hs1 HEK.out w2 lo wb G2 g2 b2 lb2 hw2 hwb F HF.out A7 c7 (HES.out.wr RE_keeps HN2.out HF.out hwb HO.out)); clear hw2 hn2 hp2 hk2) | (go_at_call 74; ((with_reducible refine HM1.out.mono ?_); rintro e w1 ⟨⟨x1, rfl⟩, G1, g1, b1, lb1, hw1, hn1, hp1⟩); have HN1 := Lib.hid (hn1); have HW1 := Lib.hid hw1; have HP1 := Lib.hid hp1; have hk1 : Blk w1 w.heap.size 111 #[.int .i64 op, .int .i64 n, .slice A7 es.length c7, .slice A8 bo.length c8, .slice A9 el.length c9] := (HN1.out.fresh HK0.out.lt (fun e => by have := HWB.out; omega) (fun e => by have := HOL.out _ e; omega)).trans HK0.out; have y10 := hk1.cell 0; have y11 := hk1.cell 1; have y12 := hk1.cell 2; have y13 := hk1.cell 3; have y14 := hk1.cell 4; have yl1 := hk1.lt; have HM2 := Lib.hid (word_any n w1 lo wb G1 g1 b1 lb1 hw1); clear hw1 hn1 hp1 hk1))
  refine bodyPost_end (results_none rfl _ _ _) rfl ?_
  have r2 := PutP.rule HP1.out.1 HP1.out.2 HP2.out.1 HP2.out.2
  have r3 := PutP.rule r2.1 r2.2 HP3.out.1 HP3.out.2
  have r4 := PutP.rule r3.1 r3.2 HP4.out.1 HP4.out.2
  have r5 := PutP.rule r4.1 r4.2 HP5.out.1 HP5.out.2
  exact ⟨⟨_, rfl⟩, G5, g5, b5, lb5, HW5.out, (WrN.of_below wb _ HB0.out).trans HN5.out, r5⟩
theorem St.cnt_pos (t : St) : 0 < t.cnt := by
  obtain ⟨op, n, es, bo, el⟩ := t
  rw [cnt_st]; omega
theorem st_all : ∀ N : Nat, StC N
  | 0 => fun t h => by have := t.cnt_pos; omega
  | N + 1 => st_step N (st_all N)
def flagN (b : Bool) : Int := if b then 1 else 0
theorem flag_anyN (v : Bool) (w : World) (lo wb : Nat) (A : Option Addr) (c : Nat) (bs : List Int) (lg : Bool) (h : Wr w lo wb A c bs lg) :
    Calls Try.prog 78 #[.pointer (some ⟨wb, 0, none⟩), .bool v] w (PutP lo wb (Value.slice A bs.length c).ownBlock bs lg (le8 (flagN v)) w) := flag_any v w lo wb A c bs lg h
def encFn (f : Fn8) : List Int := ((((le8 f.name.size ++ sB f.name) ++ le8 (flagN f.weak)) ++ le8 f.params) ++ le8 f.locals) ++ (le8 f.body.length ++ encL encS f.body)
def encU (u : Un) : List Int := (((le8 u.pkg.size ++ sB u.pkg) ++ (le8 u.imps.length ++ encL encIm u.imps)) ++ (le8 u.decls.length ++ encL encD u.decls)) ++ (le8 u.funs.length ++ encL encFn u.funs)
set_option maxRecDepth 100000 in
set_option maxHeartbeats 4000000 in
theorem fun_any (N : Nat) (f : Fn8) (hc : ∀ t ∈ f.body, t.cnt ≤ N) (hok : f.ok 140737488355328) (w : World) (lo wb : Nat) (A : Option Addr) (c : Nat) (bs : List Int) (lg : Bool) (h : Wr w lo wb A c bs lg) (hwb : lo ≤ wb) (F : Nat → Prop) (hF : ∀ k, F k → k < lo) (vs : List Value) (hr : RFn w F f vs) :
    Calls Try.prog 50 #[.pointer (some ⟨wb, 0, none⟩), .agg vs.toArray] w (PutP lo wb (Value.slice A bs.length c).ownBlock bs lg (encFn f) w) := by
  obtain ⟨s, wk, ps, ls, bo⟩ := f
  obtain ⟨hs1, hs2, hs3⟩ := hok
  obtain ⟨A7, c7, rfl, k1⟩ := hr
  dsimp only at hs1 hs2 hs3 hc k1
  simp only [encFn]
  have HBK := Lib.hid (fun t (ht : t ∈ bo) => (⟨hc t ht, hs3 t ht⟩ : t.cnt ≤ N ∧ t.ok 140737488355328))
  have hb0 := (Below.refl _ w).alloc (Nat.le_refl _) (.cells #[.string s, .bool wk, .int .i64 ps, .int .i64 ls, .slice A7 bo.length c7] 64)
  have HM1 := Lib.hid (text_any s hs1 _ lo wb A c bs lg (h.bel hb0))
  have HBS := Lib.hid (k1.bel RS_keeps hb0)
  have HB0 := Lib.hid hb0
  have HK0 := Lib.hid (Blk.new w 64 #[.string s, .bool wk, .int .i64 ps, .int .i64 ls, .slice A7 bo.length c7])
  have HO := Lib.hid h.olo
  have HOL := Lib.hid (fun q (hq : (Value.slice A bs.length c).ownBlock = some q) => h.old hq)
  have HWB := Lib.hid h.blk.lt
  have HF := Lib.hid hF
  clear h hb0 hF k1 hs3 hc
  go_enter Try.func50, Try.ntmps50
  go_wp2_with (first | (go_at_call 79; ((with_reducible refine HM5.out.mono ?_); rintro e w5 ⟨⟨x5, rfl⟩, G5, g5, b5, lb5, hw5, hn5, hp5⟩); have HN5 := Lib.hid (HN4.out.trans hn5); have HW5 := Lib.hid hw5; have HP5 := Lib.hid hp5; have hk5 : Blk w5 w.heap.size 64 #[.string s, .bool wk, .int .i64 ps, .int .i64 ls, .slice A7 bo.length c7] := (HN5.out.fresh HK0.out.lt (fun e => by have := HWB.out; omega) (fun e => by have := HOL.out _ e; omega)).trans HK0.out; have y50 := hk5.cell 0; have y51 := hk5.cell 1; have y52 := hk5.cell 2; have y53 := hk5.cell 3; have y54 := hk5.cell 4; have yl5 := hk5.lt; clear hw5 hn5 hp5 hk5) | (go_at_call 74; ((with_reducible refine HM4.out.mono ?_); rintro e w4 ⟨⟨x4, rfl⟩, G4, g4, b4, lb4, hw4, hn4, hp4⟩); have HN4 := Lib.hid (HN3.out.trans hn4); have HW4 := Lib.hid hw4; have HP4 := Lib.hid hp4; have hk4 : Blk w4 w.heap.size 64 #[.string s, .bool wk, .int .i64 ps, .int .i64 ls, .slice A7 bo.length c7] := (HN4.out.fresh HK0.out.lt (fun e => by have := HWB.out; omega) (fun e => by have := HOL.out _ e; omega)).trans HK0.out; have y40 := hk4.cell 0; have y41 := hk4.cell 1; have y42 := hk4.cell 2; have y43 := hk4.cell 3; have y44 := hk4.cell 4; have yl4 := hk4.lt; have HM5 := Lib.hid (puts_st N (st_all N) bo hs2 HBK.out w4 lo wb G4 g4 b4 lb4 hw4 hwb F HF.out A7 c7 (HBS.out.wr RS_keeps HN4.out HF.out hwb HO.out)); clear hw4 hn4 hp4 hk4) | (go_at_call 74; ((with_reducible refine HM3.out.mono ?_); rintro e w3 ⟨⟨x3, rfl⟩, G3, g3, b3, lb3, hw3, hn3, hp3⟩); have HN3 := Lib.hid (HN2.out.trans hn3); have HW3 := Lib.hid hw3; have HP3 := Lib.hid hp3; have hk3 : Blk w3 w.heap.size 64 #[.string s, .bool wk, .int .i64 ps, .int .i64 ls, .slice A7 bo.length c7] := (HN3.out.fresh HK0.out.lt (fun e => by have := HWB.out; omega) (fun e => by have := HOL.out _ e; omega)).trans HK0.out; have y30 := hk3.cell 0; have y31 := hk3.cell 1; have y32 := hk3.cell 2; have y33 := hk3.cell 3; have y34 := hk3.cell 4; have yl3 := hk3.lt; have HM4 := Lib.hid (number_any ls w3 lo wb G3 g3 b3 lb3 hw3); clear hw3 hn3 hp3 hk3) | (go_at_call 78; ((with_reducible refine HM2.out.mono ?_); rintro e w2 ⟨⟨x2, rfl⟩, G2, g2, b2, lb2, hw2, hn2, hp2⟩); have HN2 := Lib.hid (HN1.out.trans hn2); have HW2 := Lib.hid hw2; have HP2 := Lib.hid hp2; have hk2 : Blk w2 w.heap.size 64 #[.string s, .bool wk, .int .i64 ps, .int .i64 ls, .slice A7 bo.length c7] := (HN2.out.fresh HK0.out.lt (fun e => by have := HWB.out; omega) (fun e => by have := HOL.out _ e; omega)).trans HK0.out; have y20 := hk2.cell 0; have y21 := hk2.cell 1; have y22 := hk2.cell 2; have y23 := hk2.cell 3; have y24 := hk2.cell 4; have yl2 := hk2.lt; have HM3 := Lib.hid (number_any ps w2 lo wb G2 g2 b2 lb2 hw2); clear hw2 hn2 hp2 hk2) | (go_at_call 44; ((with_reducible refine HM1.out.mono ?_); rintro e w1 ⟨⟨x1, rfl⟩, G1, g1, b1, lb1, hw1, hn1, hp1⟩); have HN1 := Lib.hid (hn1); have HW1 := Lib.hid hw1; have HP1 := Lib.hid hp1; have hk1 : Blk w1 w.heap.size 64 #[.string s, .bool wk, .int .i64 ps, .int .i64 ls, .slice A7 bo.length c7] := (HN1.out.fresh HK0.out.lt (fun e => by have := HWB.out; omega) (fun e => by have := HOL.out _ e; omega)).trans HK0.out; have y10 := hk1.cell 0; have y11 := hk1.cell 1; have y12 := hk1.cell 2; have y13 := hk1.cell 3; have y14 := hk1.cell 4; have yl1 := hk1.lt; have HM2 := Lib.hid (flag_anyN wk w1 lo wb G1 g1 b1 lb1 hw1); clear hw1 hn1 hp1 hk1))
  refine bodyPost_end (results_none rfl _ _ _) rfl ?_
  have r2 := PutP.rule HP1.out.1 HP1.out.2 HP2.out.1 HP2.out.2
  have r3 := PutP.rule r2.1 r2.2 HP3.out.1 HP3.out.2
  have r4 := PutP.rule r3.1 r3.2 HP4.out.1 HP4.out.2
  have r5 := PutP.rule r4.1 r4.2 HP5.out.1 HP5.out.2
  exact ⟨⟨_, rfl⟩, G5, g5, b5, lb5, HW5.out, (WrN.of_below wb _ HB0.out).trans HN5.out, r5⟩
set_option maxRecDepth 100000 in
set_option maxHeartbeats 4000000 in
theorem puts_fn (N : Nat) (l : List Fn8) (hl : l.length ≤ 140737488355328) (hok : ∀ f ∈ l, (∀ t ∈ f.body, t.cnt ≤ N) ∧ f.ok 140737488355328) (w : World) (lo wb : Nat) (A : Option Addr) (c : Nat) (bs : List Int) (lg : Bool) (h : Wr w lo wb A c bs lg) (hwb : lo ≤ wb) (F : Nat → Prop) (hF : ∀ k, F k → k < lo) (B : Option Addr) (d : Nat) (hr : SlG 5 RFn w F B l) :
    Calls Try.prog 49 #[.pointer (some ⟨wb, 0, none⟩), .slice B l.length d, .func (Fn.func 50) #[] #[]] w (PutP lo wb (Value.slice A bs.length c).ownBlock bs lg (le8 l.length ++ encL encFn l) w) := by
  have HR := Lib.hid (number_any l.length w lo wb A c bs lg h)
  have HA := Lib.hid hr
  have HO := Lib.hid h.olo
  have HOK := Lib.hid hok
  have HF := Lib.hid hF
  have n0 : (0 : Int) ≤ (l.length : Int) := by omega
  have n1 : (l.length : Int) ≤ 140737488355328 := by omega
  clear h hr hF hok
  go_enter Try.func49, Try.ntmps49
  go_wp2_with (go_at_call 74; ((with_reducible refine HR.out.mono ?_); rintro e w1 ⟨⟨x, rfl⟩, A1, c1, b1, l1, hw1, hn1, hp1⟩); have HW1 := Lib.hid hw1; have HN1 := Lib.hid hn1; have HP1 := Lib.hid hp1; clear hw1 hn1 hp1)
  go_loopg [14] l.length (fun gk v14 wr => ∃ (j : Nat) (A' : Option Addr) (c' : Nat) (b' : List Int) (l' : Bool), j + gk = l.length ∧ v14 = .int .i64 j ∧ Wr wr lo wb A' c' b' l' ∧ WrN w wr wb (Value.slice A bs.length c).ownBlock (Value.slice A' b'.length c').ownBlock ∧ (((lg = false ∧ bs.length + (le8 l.length ++ encL encFn (l.take j)).length ≤ 262144) → b' = bs ++ (le8 l.length ++ encL encFn (l.take j)) ∧ l' = false) ∧ (¬ (lg = false ∧ bs.length + (le8 l.length ++ encL encFn (l.take j)).length ≤ 262144) → l' = true)))
  case atStart => exact ⟨0, A1, c1, b1, l1, by simp, rfl, HW1.out, HN1.out, by simpa [encL] using HP1.out⟩
  case round =>
    obtain ⟨j, A', c', b', l', hj, rfl, hw, hn, hp⟩ := hrel
    have HW := Lib.hid hw
    have HN := Lib.hid hn
    have HP := Lib.hid hp
    cases gk with
    | zero =>
      obtain rfl : j = l.length := by omega
      clear hj hw hn hp
      go_wp2
      refine bodyPost_end (results_none rfl _ _ _) rfl ?_
      have := HP.out
      rw [List.take_length] at this
      exact ⟨⟨_, rfl⟩, A', c', b', l', HW.out, HN.out, this⟩
    | succ f =>
      have hjl : j < l.length := by omega
      obtain ⟨u, hu⟩ : ∃ u, l[j]? = some u := ⟨_, List.getElem?_eq_getElem hjl⟩
      have hm := HOK.out u (List.mem_of_getElem? hu)
      have j1 : (j : Int) < (l.length : Int) := by omega
      have j0 : (0 : Int) ≤ (j : Int) := by omega
      obtain ⟨q, o, vs, rfl, hFq, hql, hrep, hat⟩ := (HA.out.wr RFn_keeps hn HF.out hwb HO.out).at_ RFn_sized hu
      have hb0 := fun vs : Array Value => (Below.refl _ wr).alloc (Nat.le_refl _) (.cells vs 64)
      have HB0 := Lib.hid hb0
      have HI := Lib.hid (fun us => fun_any N u hm.1 hm.2 _ lo wb A' c' b' l' (hw.bel (hb0 us)) hwb F HF.out)
      have HE := Lib.hid (encL_take encFn l j u hu)
      have HS := Lib.hid (show encL encFn l = encL encFn (l.take j) ++ encL encFn (l.drop j) by rw [← encL_append, List.take_append_drop])
      have HI := Lib.hid (HI.out vs.toArray vs (RFn_keeps.bel hrep (HB0.out vs.toArray)))
      obtain ⟨s, wk, ps, ls, bo⟩ := u
      obtain ⟨A7, c7, rfl, _⟩ := hrep
      have q0 := hat 0 _ rfl
      have q1 := hat 1 _ rfl
      have q2 := hat 2 _ rfl
      have q3 := hat 3 _ rfl
      have q4 := hat 4 _ rfl
      rw [Nat.add_zero] at q0
      have y1 := hw.blk.cell 1
      have yl := hw.blk.lt
      clear hat hu hw hn hp hb0 hm
      cases l' with
      | true =>
        go_wp2
        refine bodyPost_ret (results_none rfl _ _ _) rfl ?_
        refine ⟨⟨_, rfl⟩, A', c', b', true, HW.out.bel (HB0.out _), HN.out.trans (WrN.of_below wb _ (HB0.out _)), ?_⟩
        rw [HS.out, ← List.append_assoc]
        exact PutP.stop HP.out.1 rfl
      | false =>
        go_wp2_with (go_at_call 50; ((with_reducible refine HI.out.mono ?_); rintro e w2 ⟨⟨x, rfl⟩, A2, c2, b2, l2, hw2, hn2, hp2⟩); have HW2 := Lib.hid hw2; have HN2 := Lib.hid (HN.out.trans ((WrN.of_below wb _ (HB0.out _)).trans hn2)); have HP2 := Lib.hid hp2; clear hw2 hn2 hp2)
        go_roundg f
        case measure => omega
        case rel =>
          refine ⟨j + 1, A2, c2, b2, l2, by omega, by go_num, HW2.out, HN2.out, ?_⟩
          rw [HE.out, ← List.append_assoc]
          exact PutP.rule (bs1 := b') (lg1 := false) (fun q => ⟨(HP.out.1 q).1, rfl⟩) (fun q => absurd (HP.out.2 q) (by simp)) (fun q => HP2.out.1 (by simpa using q)) (fun q => HP2.out.2 (by simpa using q))
set_option maxRecDepth 100000 in
set_option maxHeartbeats 4000000 in
theorem uni_any (u : Un) (hc : u.cnt ≤ 2000000) (hok : u.ok 140737488355328) (w : World) (lo wb : Nat) (A : Option Addr) (c : Nat) (bs : List Int) (lg : Bool) (h : Wr w lo wb A c bs lg) (hwb : lo ≤ wb) (F : Nat → Prop) (hF : ∀ k, F k → k < lo) (vs : List Value) (hr : RUn w F u vs) :
    Calls Try.prog 22 #[.pointer (some ⟨wb, 0, none⟩), .agg vs.toArray] w (PutP lo wb (Value.slice A bs.length c).ownBlock bs lg (encU u) w) := by
  obtain ⟨s, im, dc, fn⟩ := u
  obtain ⟨hs1, ⟨hi1, hi2⟩, ⟨hd1, hd2⟩, hf1, hf2⟩ := hok
  obtain ⟨A7, c7, A8, c8, A9, c9, rfl, k1, k2, k3⟩ := hr
  unfold Un.cnt at hc
  dsimp only at hs1 hi1 hi2 hd1 hd2 hf1 hf2 hc k1 k2 k3
  simp only [encU]
  have HDK := Lib.hid (fun d (hd : d ∈ dc) => (⟨by have := sumL_mem8 Dl.cnt dc d hd; omega, hd2 d hd⟩ : d.cnt ≤ 2000000 ∧ d.ok 140737488355328))
  have HFK := Lib.hid (fun f (hf : f ∈ fn) => (⟨fun t ht => by
    have h1 := sumL_mem8 (fun f : Fn8 => cntSs f.body) fn f hf
    have h2 := sumL_mem8 St.cnt f.body t ht
    rw [← cntSs_sum] at h2
    omega, hf2 f hf⟩ : (∀ t ∈ f.body, t.cnt ≤ 2000000) ∧ f.ok 140737488355328))
  have hb0 := (Below.refl _ w).alloc (Nat.le_refl _) (.cells #[.string s, .slice A7 im.length c7, .slice A8 dc.length c8, .slice A9 fn.length c9] 26)
  have HM1 := Lib.hid (text_any s hs1 _ lo wb A c bs lg (h.bel hb0))
  have HIS := Lib.hid (k1.bel RIm_keeps hb0)
  have HDS := Lib.hid (k2.bel RDl_keeps hb0)
  have HFS := Lib.hid (k3.bel RFn_keeps hb0)
  have HB0 := Lib.hid hb0
  have HK0 := Lib.hid (Blk.new w 26 #[.string s, .slice A7 im.length c7, .slice A8 dc.length c8, .slice A9 fn.length c9])
  have HO := Lib.hid h.olo
  have HOL := Lib.hid (fun q (hq : (Value.slice A bs.length c).ownBlock = some q) => h.old hq)
  have HWB := Lib.hid h.blk.lt
  have HF := Lib.hid hF
  clear h hb0 hF k1 k2 k3 hd2 hf2 hc
  go_enter Try.func22, Try.ntmps22
  go_wp2_with (first | (go_at_call 49; ((with_reducible refine HM4.out.mono ?_); rintro e w4 ⟨⟨x4, rfl⟩, G4, g4, b4, lb4, hw4, hn4, hp4⟩); have HN4 := Lib.hid (HN3.out.trans hn4); have HW4 := Lib.hid hw4; have HP4 := Lib.hid hp4; have hk4 : Blk w4 w.heap.size 26 #[.string s, .slice A7 im.length c7, .slice A8 dc.length c8, .slice A9 fn.length c9] := (HN4.out.fresh HK0.out.lt (fun e => by have := HWB.out; omega) (fun e => by have := HOL.out _ e; omega)).trans HK0.out; have y40 := hk4.cell 0; have y41 := hk4.cell 1; have y42 := hk4.cell 2; have y43 := hk4.cell 3; have yl4 := hk4.lt; clear hw4 hn4 hp4 hk4) | (go_at_call 47; ((with_reducible refine HM3.out.mono ?_); rintro e w3 ⟨⟨x3, rfl⟩, G3, g3, b3, lb3, hw3, hn3, hp3⟩); have HN3 := Lib.hid (HN2.out.trans hn3); have HW3 := Lib.hid hw3; have HP3 := Lib.hid hp3; have hk3 : Blk w3 w.heap.size 26 #[.string s, .slice A7 im.length c7, .slice A8 dc.length c8, .slice A9 fn.length c9] := (HN3.out.fresh HK0.out.lt (fun e => by have := HWB.out; omega) (fun e => by have := HOL.out _ e; omega)).trans HK0.out; have y30 := hk3.cell 0; have y31 := hk3.cell 1; have y32 := hk3.cell 2; have y33 := hk3.cell 3; have yl3 := hk3.lt; have HM4 := Lib.hid (puts_fn 2000000 fn hf1 HFK.out w3 lo wb G3 g3 b3 lb3 hw3 hwb F HF.out A9 c9 (HFS.out.wr RFn_keeps HN3.out HF.out hwb HO.out)); clear hw3 hn3 hp3 hk3) | (go_at_call 45; ((with_reducible refine HM2.out.mono ?_); rintro e w2 ⟨⟨x2, rfl⟩, G2, g2, b2, lb2, hw2, hn2, hp2⟩); have HN2 := Lib.hid (HN1.out.trans hn2); have HW2 := Lib.hid hw2; have HP2 := Lib.hid hp2; have hk2 : Blk w2 w.heap.size 26 #[.string s, .slice A7 im.length c7, .slice A8 dc.length c8, .slice A9 fn.length c9] := (HN2.out.fresh HK0.out.lt (fun e => by have := HWB.out; omega) (fun e => by have := HOL.out _ e; omega)).trans HK0.out; have y20 := hk2.cell 0; have y21 := hk2.cell 1; have y22 := hk2.cell 2; have y23 := hk2.cell 3; have yl2 := hk2.lt; have HM3 := Lib.hid (puts_dl dc hd1 HDK.out w2 lo wb G2 g2 b2 lb2 hw2 hwb F HF.out A8 c8 (HDS.out.wr RDl_keeps HN2.out HF.out hwb HO.out)); clear hw2 hn2 hp2 hk2) | (go_at_call 44; ((with_reducible refine HM1.out.mono ?_); rintro e w1 ⟨⟨x1, rfl⟩, G1, g1, b1, lb1, hw1, hn1, hp1⟩); have HN1 := Lib.hid (hn1); have HW1 := Lib.hid hw1; have HP1 := Lib.hid hp1; have hk1 : Blk w1 w.heap.size 26 #[.string s, .slice A7 im.length c7, .slice A8 dc.length c8, .slice A9 fn.length c9] := (HN1.out.fresh HK0.out.lt (fun e => by have := HWB.out; omega) (fun e => by have := HOL.out _ e; omega)).trans HK0.out; have y10 := hk1.cell 0; have y11 := hk1.cell 1; have y12 := hk1.cell 2; have y13 := hk1.cell 3; have yl1 := hk1.lt; have HM2 := Lib.hid (puts_im im hi1 hi2 w1 lo wb G1 g1 b1 lb1 hw1 hwb F HF.out A7 c7 (HIS.out.wr RIm_keeps HN1.out HF.out hwb HO.out)); clear hw1 hn1 hp1 hk1))
  refine bodyPost_end (results_none rfl _ _ _) rfl ?_
  have r2 := PutP.rule HP1.out.1 HP1.out.2 HP2.out.1 HP2.out.2
  have r3 := PutP.rule r2.1 r2.2 HP3.out.1 HP3.out.2
  have r4 := PutP.rule r3.1 r3.2 HP4.out.1 HP4.out.2
  exact ⟨⟨_, rfl⟩, G4, g4, b4, lb4, HW4.out, (WrN.of_below wb _ HB0.out).trans HN4.out, r4⟩
end Go.Proofs.Ytnkojjkijkhlbaa
