/-
  Types written: walks.
-/
import Derived.Test.YtnkojjkijkhlbaaWrF
namespace Go.Proofs.Ytnkojjkijkhlbaa
open Go.RowKit
set_option linter.unusedVariables false
set_option linter.unusedSimpArgs false

mutual
def encT : Ty → List Int
  | .mk k p n la lr => ((((le8 k ++ (le8 p.size ++ sB p)) ++ (le8 n.size ++ sB n)) ++ (le8 la.length ++ encTs la)) ++ (le8 lr.length ++ encTs lr))
def encTs : List Ty → List Int
  | [] => []
  | t :: r => encT t ++ encTs r
end
theorem encTs_eq : ∀ l : List Ty, encTs l = encL encT l
  | [] => by simp only [encTs, encL]
  | t :: r => by simp only [encTs, encL, encTs_eq r]
theorem SlT.wr {w w' : World} {F : Nat → Prop} {A : Option Addr} {l : List Ty} {wb lo : Nat} {o o' : Option Nat} (h : SlT w F A l) (hn : WrN w w' wb o o') (hF : ∀ k, F k → k < lo) (hwb : lo ≤ wb) (ho : ∀ q, o = some q → lo ≤ q) : SlT w' F A l :=
  SlT.keep h (fun k hk hl => hn.fresh hl (fun e => by have := hF k hk; omega) (fun e => by have := hF k hk; have := ho k e; omega)) hn.gr.size (fun _ _ h => h)
def TypC (N : Nat) : Prop := ∀ t : Ty, t.count ≤ N → t.mx ≤ 140737488355328 → ∀ (w : World) (lo wb : Nat) (A : Option Addr) (c : Nat) (bs : List Int) (lg : Bool), Wr w lo wb A c bs lg → lo ≤ wb → ∀ (F : Nat → Prop), (∀ k, F k → k < lo) → ∀ vs : List Value, RT w F t vs →
    Calls Try.prog 75 #[.pointer (some ⟨wb, 0, none⟩), .agg vs.toArray] w (PutP lo wb (Value.slice A bs.length c).ownBlock bs lg (encT t) w)
set_option maxRecDepth 100000 in
set_option maxHeartbeats 4000000 in
theorem puts_ty (N : Nat) (ih : TypC N) (l : List Ty) (hl : l.length ≤ 140737488355328) (hok : ∀ t ∈ l, t.count ≤ N ∧ t.mx ≤ 140737488355328) (w : World) (lo wb : Nat) (A : Option Addr) (c : Nat) (bs : List Int) (lg : Bool) (h : Wr w lo wb A c bs lg) (hwb : lo ≤ wb) (F : Nat → Prop) (hF : ∀ k, F k → k < lo) (B : Option Addr) (d : Nat) (hr : SlT w F B l) :
    Calls Try.prog 100 #[.pointer (some ⟨wb, 0, none⟩), .slice B l.length d, .func (Fn.func 75) #[] #[]] w (PutP lo wb (Value.slice A bs.length c).ownBlock bs lg (le8 l.length ++ encL encT l) w) := by
  have HR := Lib.hid (number_any l.length w lo wb A c bs lg h)
  have HA := Lib.hid hr
  have HO := Lib.hid h.olo
  have HOK := Lib.hid hok
  have HF := Lib.hid hF
  have n0 : (0 : Int) ≤ (l.length : Int) := by omega
  have n1 : (l.length : Int) ≤ 140737488355328 := by omega
  clear h hr hF hok
  go_enter Try.func100, Try.ntmps100
  go_wp2_with (go_at_call 74; ((with_reducible refine HR.out.mono ?_); rintro e w1 ⟨⟨x, rfl⟩, A1, c1, b1, l1, hw1, hn1, hp1⟩); have HW1 := Lib.hid hw1; have HN1 := Lib.hid hn1; have HP1 := Lib.hid hp1; clear hw1 hn1 hp1)
  go_loopg [14] l.length (fun gk v14 wr => ∃ (j : Nat) (A' : Option Addr) (c' : Nat) (b' : List Int) (l' : Bool), j + gk = l.length ∧ v14 = .int .i64 j ∧ Wr wr lo wb A' c' b' l' ∧ WrN w wr wb (Value.slice A bs.length c).ownBlock (Value.slice A' b'.length c').ownBlock ∧ (((lg = false ∧ bs.length + (le8 l.length ++ encL encT (l.take j)).length ≤ 262144) → b' = bs ++ (le8 l.length ++ encL encT (l.take j)) ∧ l' = false) ∧ (¬ (lg = false ∧ bs.length + (le8 l.length ++ encL encT (l.take j)).length ≤ 262144) → l' = true)))
  case atStart => exact ⟨0, A1, c1, b1, l1, by simp, rfl, HW1.out, HN1.out, by simpa [encL] using HP1.out⟩
  case round =>
    obtain ⟨j, A', c', b', l', hj, rfl, hw, hn, hp⟩ := hrel
    have HW := Lib.hid hw
    have HN := Lib.hid hn
    have HP := Lib.hid hp
    cases gk with
    | zero =>
      obtain rfl : j = l.length := by omega
      clear hj hw hn hp
      go_wp2
      refine bodyPost_end (results_none rfl _ _ _) rfl ?_
      have := HP.out
      rw [List.take_length] at this
      exact ⟨⟨_, rfl⟩, A', c', b', l', HW.out, HN.out, this⟩
    | succ f =>
      have hjl : j < l.length := by omega
      obtain ⟨u, hu⟩ : ∃ u, l[j]? = some u := ⟨_, List.getElem?_eq_getElem hjl⟩
      have hm := HOK.out u (List.mem_of_getElem? hu)
      have j1 : (j : Int) < (l.length : Int) := by omega
      have j0 : (0 : Int) ≤ (j : Int) := by omega
      obtain ⟨q, o, vs, rfl, hFq, hql, hrep, hat⟩ := (HA.out.wr hn HF.out hwb HO.out).at_ hu
      have hb0 := fun vs : Array Value => (Below.refl _ wr).alloc (Nat.le_refl _) (.cells vs 44)
      have HB0 := Lib.hid hb0
      have HI := Lib.hid (fun us => ih u hm.1 hm.2 _ lo wb A' c' b' l' (hw.bel (hb0 us)) hwb F HF.out)
      have HI := Lib.hid (HI.out vs.toArray vs (hrep.bel (HB0.out vs.toArray)))
      obtain ⟨k1, p1, n1', A3, m3, c3, B3, l3, d3, rfl⟩ := hrep.shape
      simp only [tyC] at HI hat
      have q0 := hat 0 _ rfl
      have q1 := hat 1 _ rfl
      have q2 := hat 2 _ rfl
      have q3 := hat 3 _ rfl
      have q4 := hat 4 _ rfl
      rw [Nat.add_zero] at q0
      have y1 := hw.blk.cell 1
      have yl := hw.blk.lt
      have HE := Lib.hid (encL_take encT l j u hu)
      have HS := Lib.hid (show encL encT l = encL encT (l.take j) ++ encL encT (l.drop j) by rw [← encL_append, List.take_append_drop])
      clear hat hu hw hn hp hb0 hm
      cases l' with
      | true =>
        go_wp2
        refine bodyPost_ret (results_none rfl _ _ _) rfl ?_
        refine ⟨⟨_, rfl⟩, A', c', b', true, HW.out.bel (HB0.out _), HN.out.trans (WrN.of_below wb _ (HB0.out _)), ?_⟩
        rw [HS.out, ← List.append_assoc]
        exact PutP.stop HP.out.1 rfl
      | false =>
        go_wp2_with (go_at_call 75; ((with_reducible refine HI.out.mono ?_); rintro e w2 ⟨⟨x, rfl⟩, A2, c2, b2, l2, hw2, hn2, hp2⟩); have HW2 := Lib.hid hw2; have HN2 := Lib.hid (HN.out.trans ((WrN.of_below wb _ (HB0.out _)).trans hn2)); have HP2 := Lib.hid hp2; clear hw2 hn2 hp2)
        go_roundg f
        case measure => omega
        case rel =>
          refine ⟨j + 1, A2, c2, b2, l2, by omega, by go_num, HW2.out, HN2.out, ?_⟩
          rw [HE.out, ← List.append_assoc]
          exact PutP.rule (bs1 := b') (lg1 := false) (fun q => ⟨(HP.out.1 q).1, rfl⟩) (fun q => absurd (HP.out.2 q) (by simp)) (fun q => HP2.out.1 (by simpa using q)) (fun q => HP2.out.2 (by simpa using q))
set_option maxRecDepth 100000 in
set_option maxHeartbeats 4000000 in
theorem typ_step (N : Nat) (hN : N ≤ 2000000) (ih : TypC N) : TypC (N + 1) := by
  rintro ⟨k, p, n, la, lr⟩ hct hmx w lo wb A c bs lg h hwb F hF vs hr
  rw [count_mk] at hct
  rw [mx_mk] at hmx
  have hps : p.size ≤ 140737488355328 := by omega
  have hns : n.size ≤ 140737488355328 := by omega
  have hla : la.length ≤ 140737488355328 := by have := len_countL la; omega
  have hlr : lr.length ≤ 140737488355328 := by have := len_countL lr; omega
  have HAK := Lib.hid (fun t (ht : t ∈ la) => by
    obtain ⟨i, hi⟩ := List.getElem?_of_mem ht
    have h1 := count_kid la i t hi
    have h2 := mx_kid la i t hi
    exact (⟨by omega, by omega⟩ : t.count ≤ N ∧ t.mx ≤ 140737488355328))
  have HBK := Lib.hid (fun t (ht : t ∈ lr) => by
    obtain ⟨i, hi⟩ := List.getElem?_of_mem ht
    have h1 := count_kid lr i t hi
    have h2 := mx_kid lr i t hi
    exact (⟨by omega, by omega⟩ : t.count ≤ N ∧ t.mx ≤ 140737488355328))
  obtain ⟨A1, c1, A2, c2, rfl, ha, hb⟩ := hr.openL
  simp only [tyC, encT, encTs_eq]
  have hb0 := (Below.refl _ w).alloc (Nat.le_refl _) (.cells #[.int .i64 k, .string p, .string n, .slice A1 la.length c1, .slice A2 lr.length c2] 44)
  have HM1 := Lib.hid (number_any k _ lo wb A c bs lg (h.bel hb0))
  have HA := Lib.hid (ha.bel hb0)
  have HB := Lib.hid (hb.bel hb0)
  have HB0 := Lib.hid hb0
  have HK0 := Lib.hid (Blk.new w 44 #[.int .i64 k, .string p, .string n, .slice A1 la.length c1, .slice A2 lr.length c2])
  have HO := Lib.hid h.olo
  have HOL := Lib.hid (fun q (hq : (Value.slice A bs.length c).ownBlock = some q) => h.old hq)
  have HWB := Lib.hid h.blk.lt
  have HF := Lib.hid hF
  clear h hr ha hb hb0 hF hct hmx
  go_enter Try.func75, Try.ntmps75
  go_wp2_with (first | (go_at_call 100; ((with_reducible refine HM5.out.mono ?_); rintro e w5 ⟨⟨x5, rfl⟩, G5, g5, b5, l5, hw5, hn5, hp5⟩); have HN5 := Lib.hid (HN4.out.trans hn5); have HW5 := Lib.hid hw5; have HP5 := Lib.hid hp5; have hk5 : Blk w5 w.heap.size 44 #[.int .i64 k, .string p, .string n, .slice A1 la.length c1, .slice A2 lr.length c2] := (HN5.out.fresh HK0.out.lt (fun e => by have := HWB.out; omega) (fun e => by have := HOL.out _ e; omega)).trans HK0.out; have y50 := hk5.cell 0; have y51 := hk5.cell 1; have y52 := hk5.cell 2; have y53 := hk5.cell 3; have y54 := hk5.cell 4; have yl5 := hk5.lt; clear hw5 hn5 hp5 hk5) | (go_at_call 100; ((with_reducible refine HM4.out.mono ?_); rintro e w4 ⟨⟨x4, rfl⟩, G4, g4, b4, l4, hw4, hn4, hp4⟩); have HN4 := Lib.hid (HN3.out.trans hn4); have HW4 := Lib.hid hw4; have HP4 := Lib.hid hp4; have hk4 : Blk w4 w.heap.size 44 #[.int .i64 k, .string p, .string n, .slice A1 la.length c1, .slice A2 lr.length c2] := (HN4.out.fresh HK0.out.lt (fun e => by have := HWB.out; omega) (fun e => by have := HOL.out _ e; omega)).trans HK0.out; have y40 := hk4.cell 0; have y41 := hk4.cell 1; have y42 := hk4.cell 2; have y43 := hk4.cell 3; have y44 := hk4.cell 4; have yl4 := hk4.lt; have HM5 := Lib.hid (puts_ty N ih lr hlr HBK.out w4 lo wb G4 g4 b4 l4 hw4 hwb F HF.out A2 c2 (HB.out.wr HN4.out HF.out hwb HO.out)); clear hw4 hn4 hp4 hk4) | (go_at_call 44; ((with_reducible refine HM3.out.mono ?_); rintro e w3 ⟨⟨x3, rfl⟩, G3, g3, b3, l3, hw3, hn3, hp3⟩); have HN3 := Lib.hid (HN2.out.trans hn3); have HW3 := Lib.hid hw3; have HP3 := Lib.hid hp3; have hk3 : Blk w3 w.heap.size 44 #[.int .i64 k, .string p, .string n, .slice A1 la.length c1, .slice A2 lr.length c2] := (HN3.out.fresh HK0.out.lt (fun e => by have := HWB.out; omega) (fun e => by have := HOL.out _ e; omega)).trans HK0.out; have y30 := hk3.cell 0; have y31 := hk3.cell 1; have y32 := hk3.cell 2; have y33 := hk3.cell 3; have y34 := hk3.cell 4; have yl3 := hk3.lt; have HM4 := Lib.hid (puts_ty N ih la hla HAK.out w3 lo wb G3 g3 b3 l3 hw3 hwb F HF.out A1 c1 (HA.out.wr HN3.out HF.out hwb HO.out)); clear hw3 hn3 hp3 hk3) | (go_at_call 44; ((with_reducible refine HM2.out.mono ?_); rintro e w2 ⟨⟨x2, rfl⟩, G2, g2, b2, l2, hw2, hn2, hp2⟩); have HN2 := Lib.hid (HN1.out.trans hn2); have HW2 := Lib.hid hw2; have HP2 := Lib.hid hp2; have hk2 : Blk w2 w.heap.size 44 #[.int .i64 k, .string p, .string n, .slice A1 la.length c1, .slice A2 lr.length c2] := (HN2.out.fresh HK0.out.lt (fun e => by have := HWB.out; omega) (fun e => by have := HOL.out _ e; omega)).trans HK0.out; have y20 := hk2.cell 0; have y21 := hk2.cell 1; have y22 := hk2.cell 2; have y23 := hk2.cell 3; have y24 := hk2.cell 4; have yl2 := hk2.lt; have HM3 := Lib.hid (text_any n hns w2 lo wb G2 g2 b2 l2 hw2); clear hw2 hn2 hp2 hk2) | (go_at_call 74; ((with_reducible refine HM1.out.mono ?_); rintro e w1 ⟨⟨x1, rfl⟩, G1, g1, b1, l1, hw1, hn1, hp1⟩); have HN1 := Lib.hid (hn1); have HW1 := Lib.hid hw1; have HP1 := Lib.hid hp1; have hk1 : Blk w1 w.heap.size 44 #[.int .i64 k, .string p, .string n, .slice A1 la.length c1, .slice A2 lr.length c2] := (HN1.out.fresh HK0.out.lt (fun e => by have := HWB.out; omega) (fun e => by have := HOL.out _ e; omega)).trans HK0.out; have y10 := hk1.cell 0; have y11 := hk1.cell 1; have y12 := hk1.cell 2; have y13 := hk1.cell 3; have y14 := hk1.cell 4; have yl1 := hk1.lt; have HM2 := Lib.hid (text_any p hps w1 lo wb G1 g1 b1 l1 hw1); clear hw1 hn1 hp1 hk1))
  refine bodyPost_end (results_none rfl _ _ _) rfl ?_
  have r1 := PutP.rule HP1.out.1 HP1.out.2 HP2.out.1 HP2.out.2
  have r2 := PutP.rule r1.1 r1.2 HP3.out.1 HP3.out.2
  have r3 := PutP.rule r2.1 r2.2 HP4.out.1 HP4.out.2
  have r4 := PutP.rule r3.1 r3.2 HP5.out.1 HP5.out.2
  exact ⟨⟨_, rfl⟩, G5, g5, b5, l5, HW5.out, (WrN.of_below wb _ HB0.out).trans HN5.out, r4⟩
theorem typ_all : ∀ N : Nat, N ≤ 2000000 → TypC N
  | 0, _ => fun t h => by have := count_pos t; omega
  | N + 1, h => typ_step N (by omega) (typ_all N (by omega))
end Go.Proofs.Ytnkojjkijkhlbaa
