/-
  Imports, declarations and functions by the document's writer: walks.
-/
import Derived.Test.YtnkojjkijkhlbaaQd
namespace Go.Proofs.Ytnkojjkijkhlbaa
open Go.RowKit
set_option linter.unusedVariables false
set_option linter.unusedSimpArgs false

theorem QP.stop {bs b' o1 o2 : List Int} {k k' : Nat} (h : QP bs b' o1 k false) (hf : 262144 < b'.length) (hk : k ≤ k') : QP bs b' (o1 ++ o2) k' false := by
  obtain ⟨a0, a1, a2⟩ := h
  obtain ⟨c1, c2⟩ := a2 rfl
  refine ⟨a0, by omega, fun _ => ⟨fun h => ?_, fun _ => hf⟩⟩
  rw [List.length_append] at h
  have e := c1 (by omega)
  rw [e, List.length_append] at hf
  omega
theorem QP.up {bs b' o : List Int} {k : Nat} {d : Bool} (h : QP bs b' o k d) : b'.length ≤ bs.length + 300000 * k := h.2.1
theorem QP.as {bs b' o o' : List Int} {k k' : Nat} {d d' : Bool} (h : QP bs b' o k d) (e1 : o = o') (e2 : k = k') (e3 : d = d') : QP bs b' o' k' d' := by subst e1; subst e2; subst e3; exact h
theorem sumL_le {α : Type} (f : α → Nat) (l : List α) (i : Nat) : sumL f (l.take i) ≤ sumL f l := by
  have : sumL f l = sumL f (l.take i) + sumL f (l.drop i) := by rw [← sumL_append, List.take_append_drop]
  omega
def kI (a : Im) : Nat := 3
def kF (f : Fi) : Nat := 2 + kT f.ty
def kD (d : Dl) : Nat := 1 + 2 + 2 + 1 + kT d.ty + (1 + sumL kF d.fields)
def kN (f : Fn8) : Nat := 2 + 1 + 1 + 1 + (1 + sumL kS f.body)
def deepF (a : Nat) (f : Fi) : Bool := deepT f.ty a
def deepD (a : Nat) (d : Dl) : Bool := deepT d.ty a || d.fields.any (deepF a)
def deepN (a : Nat) (f : Fn8) : Bool := f.body.any (fun t => deepS t a)
set_option maxRecDepth 100000 in
set_option maxHeartbeats 4000000 in
theorem impsQ (l : List Im) (hl : l.length ≤ 140737488355328) (hok : ∀ a ∈ l, a.name.size ≤ 140737488355328) (w : World) (lo wb : Nat) (A : Option Addr) (c : Nat) (bs : List Int) (dl : Bool) (at_ : Nat) (h : Wq w lo wb A c bs dl at_) (ha : at_ ≤ 101) (hf : bs.length + 300000 * (1 + sumL kI l) ≤ 50000000000000) (hwb : lo ≤ wb) (F : Nat → Prop) (hF : ∀ k, F k → k < lo) (B : Option Addr) (d : Nat) (hr : SlG 2 RIm w F B l) :
    Calls Try.prog 25 #[.pointer (some ⟨wb, 0, none⟩), .slice B l.length d] w (PutQ lo wb (Value.slice A bs.length c).ownBlock bs dl at_ (le8 l.length ++ encL encIm l) (1 + sumL kI l) (l.any (fun _ => false)) w) := by
  have HAF := Lib.hid (show ∀ m : List Im, m.any (fun _ => false) = false from fun m => by simp)
  have HR := Lib.hid (num_anyQ l.length w lo wb A c bs dl at_ h)
  have HA := Lib.hid hr
  have HO := Lib.hid h.olo
  have HOK := Lib.hid hok
  have HF := Lib.hid hF
  have HFU := Lib.hid hf
  have HAT := Lib.hid ha
  have n0 : (0 : Int) ≤ (l.length : Int) := by omega
  have n1 : (l.length : Int) ≤ 140737488355328 := by omega
  clear h hr hF hok hf ha
  go_enter Try.func25, Try.ntmps25
  go_wp2_with (go_at_call 26; ((with_reducible refine HR.out.mono ?_); rintro e w1 ⟨⟨x, rfl⟩, A1, c1, b1, dl1, hw1, hd1, hn1, hq1⟩); have HW1 := Lib.hid hw1; have HN1 := Lib.hid hn1; have HQ1 := Lib.hid hq1; have HD1 := Lib.hid hd1; clear hw1 hn1 hq1 hd1)
  go_loopg [4] l.length (fun gk v4 wr => ∃ (j : Nat) (A' : Option Addr) (c' : Nat) (b' : List Int) (dl' : Bool), j + gk = l.length ∧ v4 = .int .i64 j ∧ Wq wr lo wb A' c' b' dl' at_ ∧ dl' = (dl || (l.take j).any (fun _ => false)) ∧ WrN w wr wb (Value.slice A bs.length c).ownBlock (Value.slice A' b'.length c').ownBlock ∧ QP bs b' (le8 l.length ++ encL encIm (l.take j)) (1 + sumL kI (l.take j)) ((l.take j).any (fun _ => false)))
  case atStart => exact ⟨0, A1, c1, b1, dl1, by simp, rfl, HW1.out, by simpa using HD1.out, HN1.out, by simpa [encL, sumL] using HQ1.out⟩
  case round =>
    obtain ⟨j, A', c', b', dl', hj, rfl, hw, hd, hn, hq⟩ := hrel
    have HW := Lib.hid hw
    have HN := Lib.hid hn
    have HQ := Lib.hid hq
    have HDD := Lib.hid hd
    have HH := Lib.hid hw
    cases gk with
    | zero =>
      obtain rfl : j = l.length := by omega
      clear hj hw hn hq hd
      go_wp2
      refine bodyPost_end (results_none rfl _ _ _) rfl ?_
      have h1 := HQ.out
      have h2 := HDD.out
      rw [List.take_length] at h1 h2
      exact ⟨⟨_, rfl⟩, A', c', b', dl', HW.out, h2, HN.out, h1⟩
    | succ f =>
      have hjl : j < l.length := by omega
      obtain ⟨u, hu⟩ : ∃ u, l[j]? = some u := ⟨_, List.getElem?_eq_getElem hjl⟩
      have hm := HOK.out u (List.mem_of_getElem? hu)
      have j1 : (j : Int) < (l.length : Int) := by omega
      have j0 : (0 : Int) ≤ (j : Int) := by omega
      have hks := sumL_take kI l j u hu
      have hkd := sumL_kid kI l j u hu
      have hfu : b'.length + 300000 * 3 ≤ 50000000000000 := by
        have h1 := HFU.out
        have h2 := hq.2.1
        have h3 : kI u = 3 := rfl
        omega
      obtain ⟨q, o, vs, rfl, hFq, hql, hrep, hat⟩ := (HA.out.wr RIm_keeps hn HF.out hwb HO.out).at_ RIm_sized hu
      obtain rfl : vs = [.string u.name, .int .i64 u.hash] := hrep
      have q0 := hat 0 _ rfl
      have q1 := hat 1 _ rfl
      rw [Nat.add_zero] at q0
      have HE := Lib.hid (encL_take encIm l j u hu)
      have HY := Lib.hid (any_take (fun _ => false) l j u hu)
      have HKS := Lib.hid hks
      have hqb : q ≠ wb := fun e => by have := HF.out q hFq; omega
      have hqo : (Value.slice A' b'.length c').ownBlock ≠ some q := fun e => by have := HF.out q hFq; have := hw.olo q e; omega
      by_cases hfull : 262144 < b'.length
      · have HFF := Lib.hid (full_any wr lo wb A' c' b' dl' at_ hw true (decide_eq_true hfull))
        have HFL := Lib.hid hfull
        have HS := Lib.hid (show encL encIm l = encL encIm (l.take j) ++ encL encIm (l.drop j) by rw [← encL_append, List.take_append_drop])
        clear hat hu hw hn hq hd hm hks hkd hfu hfull
        go_wp2_with (go_at_call 29; ((with_reducible refine HFF.out.mono ?_); rintro e w2 ⟨rfl, rfl⟩))
        refine bodyPost_end (results_none rfl _ _ _) rfl ?_
        have h1 := HQ.out
        have h2 := HDD.out
        rw [HAF.out] at h1 h2
        refine ⟨⟨_, rfl⟩, A', c', b', dl', HW.out, by rw [HAF.out]; exact h2, HN.out, ?_⟩
        rw [HS.out, HAF.out, ← List.append_assoc]
        exact QP.stop h1 HFL.out (by have := sumL_le kI l j; omega)
      · have HFF := Lib.hid (full_any wr lo wb A' c' b' dl' at_ hw false (decide_eq_false hfull))
        have HM1 := Lib.hid (text_anyQ u.name hm wr lo wb A' c' b' dl' at_ hw (by omega))
        clear hat hu hw hn hq hd hm hks hkd hfu hfull
        go_wp2_with (first
          | (go_at_call 29; ((with_reducible refine HFF.out.mono ?_); rintro e w2 ⟨rfl, rfl⟩))
          | (go_at_call 24; ((with_reducible refine HM1.out.mono ?_); rintro e w1 ⟨⟨x1, rfl⟩, G1, g1, b1, dl1, hw1, hd1, hn1, hq1⟩); have HN1 := Lib.hid hn1; have HW1 := Lib.hid hw1; have HQ1 := Lib.hid hq1; have HD1 := Lib.hid hd1; have y0 := (HN1.out.cell (p := ⟨q, o + j * 2, none⟩) hql hqb hqo).trans q0; have y1 := (HN1.out.cell (p := ⟨q, o + j * 2 + 1, none⟩) hql hqb hqo).trans q1; have yl := Nat.lt_of_lt_of_le hql HN1.out.gr.size; have HM2 := Lib.hid (num_anyQ u.hash w1 lo wb G1 g1 b1 dl1 at_ hw1); clear hw1 hn1 hq1 hd1)
          | (go_at_call 26; ((with_reducible refine HM2.out.mono ?_); rintro e w2 ⟨⟨x2, rfl⟩, G2, g2, b2, dl2, hw2, hd2, hn2, hq2⟩); have HN2 := Lib.hid (HN.out.trans (HN1.out.trans hn2)); have HW2 := Lib.hid hw2; have HQ2 := Lib.hid hq2; have HD2 := Lib.hid hd2; clear hw2 hn2 hq2 hd2))
        go_roundg f
        case measure => omega
        case rel =>
          refine ⟨j + 1, G2, g2, b2, dl2, by omega, by go_num, HW2.out, by rw [HY.out, HD2.out, HD1.out, HDD.out]; simp, HN2.out, ?_⟩
          rw [HE.out, HY.out, HKS.out, ← List.append_assoc, ← Nat.add_assoc]
          exact QP.rule HQ.out (QP.rule HQ1.out HQ2.out)
set_option maxRecDepth 100000 in
set_option maxHeartbeats 4000000 in
theorem funQ (u : Fn8) (hok : u.ok 140737488355328) (w : World) (lo wb : Nat) (A : Option Addr) (c : Nat) (bs : List Int) (dl : Bool) (at_ : Nat) (h : Wq w lo wb A c bs dl at_) (ha : at_ ≤ 101) (hf : bs.length + 300000 * kN u ≤ 50000000000000) (hwb : lo ≤ wb) (F : Nat → Prop) (hF : ∀ k, F k → k < lo) (vs : List Value) (hr : RFn w F u vs) :
    Calls Try.prog 28 #[.pointer (some ⟨wb, 0, none⟩), .agg vs.toArray] w (PutQ lo wb (Value.slice A bs.length c).ownBlock bs dl at_ (encFn u) (kN u) (deepN at_ u) w) := by
  obtain ⟨s, wk, ps, ls, bo⟩ := u
  obtain ⟨hs1, hs2, hs3⟩ := hok
  obtain ⟨A7, c7, rfl, hk⟩ := hr
  dsimp only at hs1 hs2 hs3 hk
  unfold kN at hf ⊢
  unfold deepN
  simp only [encFn] at hf ⊢
  have HBK := Lib.hid hs3
  have hb0 := (Below.refl _ w).alloc (Nat.le_refl _) (.cells #[.string s, .bool wk, .int .i64 ps, .int .i64 ls, .slice A7 bo.length c7] 64)
  have HB0 := Lib.hid hb0
  have HK0 := Lib.hid (Blk.new w 64 #[.string s, .bool wk, .int .i64 ps, .int .i64 ls, .slice A7 bo.length c7])
  have HO := Lib.hid h.olo
  have HOL := Lib.hid (fun q (hq : (Value.slice A bs.length c).ownBlock = some q) => h.old hq)
  have HWB := Lib.hid h.blk.lt
  have HF := Lib.hid hF
  have HAT := Lib.hid ha
  have HFU := Lib.hid hf
  have HM1 := Lib.hid (text_anyQ s hs1 _ lo wb A c bs dl at_ (h.bel hb0) (by omega))
  have HBS := Lib.hid (hk.bel RS_keeps hb0)
  clear h hb0 hF hf ha hk hs3
  go_enter Try.func28, Try.ntmps28
  go_wp2_with (first | (go_at_call 54; ((with_reducible refine HM5.out.mono ?_); rintro e w5 ⟨⟨x5, rfl⟩, G5, g5, b5, dl5, hw5, hd5, hn5, hq5⟩); have HN5 := Lib.hid (HN4.out.trans hn5); have HW5 := Lib.hid hw5; have HQ5 := Lib.hid hq5; have HD5 := Lib.hid hd5; have hk5 : Blk w5 w.heap.size 64 #[.string s, .bool wk, .int .i64 ps, .int .i64 ls, .slice A7 bo.length c7] := (HN5.out.fresh HK0.out.lt (fun e => by have := HWB.out; omega) (fun e => by have := HOL.out _ e; omega)).trans HK0.out; have y50 := hk5.cell 0; have y51 := hk5.cell 1; have y52 := hk5.cell 2; have y53 := hk5.cell 3; have y54 := hk5.cell 4; have yl5 := hk5.lt; clear hw5 hn5 hq5 hd5 hk5) | (go_at_call 26; ((with_reducible refine HM4.out.mono ?_); rintro e w4 ⟨⟨x4, rfl⟩, G4, g4, b4, dl4, hw4, hd4, hn4, hq4⟩); have HN4 := Lib.hid (HN3.out.trans hn4); have HW4 := Lib.hid hw4; have HQ4 := Lib.hid hq4; have HD4 := Lib.hid hd4; have hk4 : Blk w4 w.heap.size 64 #[.string s, .bool wk, .int .i64 ps, .int .i64 ls, .slice A7 bo.length c7] := (HN4.out.fresh HK0.out.lt (fun e => by have := HWB.out; omega) (fun e => by have := HOL.out _ e; omega)).trans HK0.out; have y40 := hk4.cell 0; have y41 := hk4.cell 1; have y42 := hk4.cell 2; have y43 := hk4.cell 3; have y44 := hk4.cell 4; have yl4 := hk4.lt; have HM5 := Lib.hid (st_allQ (cntSs bo) bo (Nat.le_refl _) hs2 HBK.out w4 lo wb G4 g4 b4 dl4 at_ hw4 HAT.out (by have := HFU.out; have := HQ1.out.2.1; have := HQ2.out.2.1; have := HQ3.out.2.1; have := hq4.2.1; omega) hwb F HF.out A7 c7 (HBS.out.wr RS_keeps HN4.out HF.out hwb HO.out)); clear hw4 hn4 hq4 hd4 hk4) | (go_at_call 26; ((with_reducible refine HM3.out.mono ?_); rintro e w3 ⟨⟨x3, rfl⟩, G3, g3, b3, dl3, hw3, hd3, hn3, hq3⟩); have HN3 := Lib.hid (HN2.out.trans hn3); have HW3 := Lib.hid hw3; have HQ3 := Lib.hid hq3; have HD3 := Lib.hid hd3; have hk3 : Blk w3 w.heap.size 64 #[.string s, .bool wk, .int .i64 ps, .int .i64 ls, .slice A7 bo.length c7] := (HN3.out.fresh HK0.out.lt (fun e => by have := HWB.out; omega) (fun e => by have := HOL.out _ e; omega)).trans HK0.out; have y30 := hk3.cell 0; have y31 := hk3.cell 1; have y32 := hk3.cell 2; have y33 := hk3.cell 3; have y34 := hk3.cell 4; have yl3 := hk3.lt; have HM4 := Lib.hid (num_anyQ ls w3 lo wb G3 g3 b3 dl3 at_ hw3); clear hw3 hn3 hq3 hd3 hk3) | (go_at_call 53; ((with_reducible refine HM2.out.mono ?_); rintro e w2 ⟨⟨x2, rfl⟩, G2, g2, b2, dl2, hw2, hd2, hn2, hq2⟩); have HN2 := Lib.hid (HN1.out.trans hn2); have HW2 := Lib.hid hw2; have HQ2 := Lib.hid hq2; have HD2 := Lib.hid hd2; have hk2 : Blk w2 w.heap.size 64 #[.string s, .bool wk, .int .i64 ps, .int .i64 ls, .slice A7 bo.length c7] := (HN2.out.fresh HK0.out.lt (fun e => by have := HWB.out; omega) (fun e => by have := HOL.out _ e; omega)).trans HK0.out; have y20 := hk2.cell 0; have y21 := hk2.cell 1; have y22 := hk2.cell 2; have y23 := hk2.cell 3; have y24 := hk2.cell 4; have yl2 := hk2.lt; have HM3 := Lib.hid (num_anyQ ps w2 lo wb G2 g2 b2 dl2 at_ hw2); clear hw2 hn2 hq2 hd2 hk2) | (go_at_call 24; ((with_reducible refine HM1.out.mono ?_); rintro e w1 ⟨⟨x1, rfl⟩, G1, g1, b1, dl1, hw1, hd1, hn1, hq1⟩); have HN1 := Lib.hid (hn1); have HW1 := Lib.hid hw1; have HQ1 := Lib.hid hq1; have HD1 := Lib.hid hd1; have hk1 : Blk w1 w.heap.size 64 #[.string s, .bool wk, .int .i64 ps, .int .i64 ls, .slice A7 bo.length c7] := (HN1.out.fresh HK0.out.lt (fun e => by have := HWB.out; omega) (fun e => by have := HOL.out _ e; omega)).trans HK0.out; have y10 := hk1.cell 0; have y11 := hk1.cell 1; have y12 := hk1.cell 2; have y13 := hk1.cell 3; have y14 := hk1.cell 4; have yl1 := hk1.lt; have HM2 := Lib.hid (bool_anyQ wk w1 lo wb G1 g1 b1 dl1 at_ hw1); clear hw1 hn1 hq1 hd1 hk1))
  refine bodyPost_end (results_none rfl _ _ _) rfl ?_
  refine ⟨⟨_, rfl⟩, G5, g5, b5, dl5, HW5.out, by rw [HD5.out, HD4.out, HD3.out, HD2.out, HD1.out]; simp, (WrN.of_below wb _ HB0.out).trans HN5.out, ?_⟩
  exact (QP.rule (QP.rule (QP.rule (QP.rule HQ1.out HQ2.out) HQ3.out) HQ4.out) HQ5.out).as rfl rfl (by simp)
set_option maxRecDepth 100000 in
set_option maxHeartbeats 4000000 in
theorem dclQ (d : Dl) (hc : d.ty.count ≤ 2000000) (hcf : ∀ f ∈ d.fields, f.ty.count ≤ 2000000) (hok : d.ok 140737488355328) (w : World) (lo wb : Nat) (A : Option Addr) (c : Nat) (bs : List Int) (dl : Bool) (at_ : Nat) (h : Wq w lo wb A c bs dl at_) (ha : at_ ≤ 101) (hf : bs.length + 300000 * kD d ≤ 50000000000000) (hwb : lo ≤ wb) (F : Nat → Prop) (hF : ∀ k, F k → k < lo) (vs : List Value) (hr : RDl w F d vs) :
    Calls Try.prog 27 #[.pointer (some ⟨wb, 0, none⟩), .agg vs.toArray] w (PutQ lo wb (Value.slice A bs.length c).ownBlock bs dl at_ (encD d) (kD d) (deepD at_ d) w) := by
  obtain ⟨dk, dn, dof, dv, t, fs⟩ := d
  obtain ⟨hs1, hs2, hs3, hs4, hs5⟩ := hok
  obtain ⟨tv, Af, cf, rfl, hrt, hfs⟩ := hr
  dsimp only at hrt hfs hs1 hs2 hs3 hs4 hs5 hc hcf
  unfold kD at hf ⊢
  unfold deepD
  simp only [encD] at hf ⊢
  have HFO := Lib.hid (fun f hf => (⟨hcf f hf, hs5 f hf⟩ : f.ty.count ≤ 2000000 ∧ f.ok 140737488355328))
  obtain ⟨k1, p1, n1', A3, m3, c3, B3, l3, d3, rfl⟩ := hrt.shape
  simp only [tyC] at hrt
  simp only [tyC, List.cons_append, List.nil_append]
  have hb0 := (Below.refl _ w).alloc (Nat.le_refl _) (.cells #[.int .i64 dk, .string dn, .string dof, .int .i64 dv, .int .i64 k1, .string p1, .string n1', .slice A3 m3 c3, .slice B3 l3 d3, .slice Af fs.length cf] 47)
  have HB0 := Lib.hid hb0
  have HK0 := Lib.hid (Blk.new w 47 #[.int .i64 dk, .string dn, .string dof, .int .i64 dv, .int .i64 k1, .string p1, .string n1', .slice A3 m3 c3, .slice B3 l3 d3, .slice Af fs.length cf])
  have HO := Lib.hid h.olo
  have HOL := Lib.hid (fun q (hq : (Value.slice A bs.length c).ownBlock = some q) => h.old hq)
  have HWB := Lib.hid h.blk.lt
  have HF := Lib.hid hF
  have HAT := Lib.hid ha
  have HFU := Lib.hid hf
  have HM1 := Lib.hid (num_anyQ dk _ lo wb A c bs dl at_ (h.bel hb0))
  have HRT := Lib.hid (hrt.bel hb0)
  have HFS := Lib.hid (hfs.bel RFi_keeps hb0)
  have n0 : (0 : Int) ≤ (fs.length : Int) := by omega
  have n1 : (fs.length : Int) ≤ 140737488355328 := by omega
  clear h hb0 hF hf ha hrt hfs hs5 hcf
  go_enter Try.func27, Try.ntmps27
  go_wp2_with (first | (go_at_call 26; ((with_reducible refine HM6.out.mono ?_); rintro e w6 ⟨⟨x6, rfl⟩, G6, g6, b6, dl6, hw6, hd6, hn6, hq6⟩); have HN6 := Lib.hid (HN5.out.trans hn6); have HW6 := Lib.hid hw6; have HQ6 := Lib.hid hq6; have HD6 := Lib.hid hd6; have hk6 : Blk w6 w.heap.size 47 #[.int .i64 dk, .string dn, .string dof, .int .i64 dv, .int .i64 k1, .string p1, .string n1', .slice A3 m3 c3, .slice B3 l3 d3, .slice Af fs.length cf] := (HN6.out.fresh HK0.out.lt (fun e => by have := HWB.out; omega) (fun e => by have := HOL.out _ e; omega)).trans HK0.out; have y60 := hk6.cell 0; have y61 := hk6.cell 1; have y62 := hk6.cell 2; have y63 := hk6.cell 3; have y64 := hk6.cell 4; have y65 := hk6.cell 5; have y66 := hk6.cell 6; have y67 := hk6.cell 7; have y68 := hk6.cell 8; have y69 := hk6.cell 9; have yl6 := hk6.lt; clear hw6 hn6 hq6 hd6 hk6) | (go_at_call 52; ((with_reducible refine HM5.out.mono ?_); rintro e w5 ⟨⟨x5, rfl⟩, G5, g5, b5, dl5, hw5, hd5, hn5, hq5⟩); have HN5 := Lib.hid (HN4.out.trans hn5); have HW5 := Lib.hid hw5; have HQ5 := Lib.hid hq5; have HD5 := Lib.hid hd5; have hk5 : Blk w5 w.heap.size 47 #[.int .i64 dk, .string dn, .string dof, .int .i64 dv, .int .i64 k1, .string p1, .string n1', .slice A3 m3 c3, .slice B3 l3 d3, .slice Af fs.length cf] := (HN5.out.fresh HK0.out.lt (fun e => by have := HWB.out; omega) (fun e => by have := HOL.out _ e; omega)).trans HK0.out; have y50 := hk5.cell 0; have y51 := hk5.cell 1; have y52 := hk5.cell 2; have y53 := hk5.cell 3; have y54 := hk5.cell 4; have y55 := hk5.cell 5; have y56 := hk5.cell 6; have y57 := hk5.cell 7; have y58 := hk5.cell 8; have y59 := hk5.cell 9; have yl5 := hk5.lt; have HM6 := Lib.hid (num_anyQ fs.length w5 lo wb G5 g5 b5 dl5 at_ hw5); clear hw5 hn5 hq5 hd5 hk5) | (go_at_call 26; ((with_reducible refine HM4.out.mono ?_); rintro e w4 ⟨⟨x4, rfl⟩, G4, g4, b4, dl4, hw4, hd4, hn4, hq4⟩); have HN4 := Lib.hid (HN3.out.trans hn4); have HW4 := Lib.hid hw4; have HQ4 := Lib.hid hq4; have HD4 := Lib.hid hd4; have hk4 : Blk w4 w.heap.size 47 #[.int .i64 dk, .string dn, .string dof, .int .i64 dv, .int .i64 k1, .string p1, .string n1', .slice A3 m3 c3, .slice B3 l3 d3, .slice Af fs.length cf] := (HN4.out.fresh HK0.out.lt (fun e => by have := HWB.out; omega) (fun e => by have := HOL.out _ e; omega)).trans HK0.out; have y40 := hk4.cell 0; have y41 := hk4.cell 1; have y42 := hk4.cell 2; have y43 := hk4.cell 3; have y44 := hk4.cell 4; have y45 := hk4.cell 5; have y46 := hk4.cell 6; have y47 := hk4.cell 7; have y48 := hk4.cell 8; have y49 := hk4.cell 9; have yl4 := hk4.lt; have HM5 := Lib.hid (typ_allQ 2000000 (Nat.le_refl _) t hc hs3 w4 lo wb G4 g4 b4 dl4 at_ hw4 HAT.out (by have := HFU.out; have := HQ1.out.2.1; have := HQ2.out.2.1; have := HQ3.out.2.1; have := hq4.2.1; omega) hwb F HF.out _ (HRT.out.wr HN4.out HF.out hwb HO.out)); clear hw4 hn4 hq4 hd4 hk4) | (go_at_call 24; ((with_reducible refine HM3.out.mono ?_); rintro e w3 ⟨⟨x3, rfl⟩, G3, g3, b3, dl3, hw3, hd3, hn3, hq3⟩); have HN3 := Lib.hid (HN2.out.trans hn3); have HW3 := Lib.hid hw3; have HQ3 := Lib.hid hq3; have HD3 := Lib.hid hd3; have hk3 : Blk w3 w.heap.size 47 #[.int .i64 dk, .string dn, .string dof, .int .i64 dv, .int .i64 k1, .string p1, .string n1', .slice A3 m3 c3, .slice B3 l3 d3, .slice Af fs.length cf] := (HN3.out.fresh HK0.out.lt (fun e => by have := HWB.out; omega) (fun e => by have := HOL.out _ e; omega)).trans HK0.out; have y30 := hk3.cell 0; have y31 := hk3.cell 1; have y32 := hk3.cell 2; have y33 := hk3.cell 3; have y34 := hk3.cell 4; have y35 := hk3.cell 5; have y36 := hk3.cell 6; have y37 := hk3.cell 7; have y38 := hk3.cell 8; have y39 := hk3.cell 9; have yl3 := hk3.lt; have HM4 := Lib.hid (num_anyQ dv w3 lo wb G3 g3 b3 dl3 at_ hw3); clear hw3 hn3 hq3 hd3 hk3) | (go_at_call 24; ((with_reducible refine HM2.out.mono ?_); rintro e w2 ⟨⟨x2, rfl⟩, G2, g2, b2, dl2, hw2, hd2, hn2, hq2⟩); have HN2 := Lib.hid (HN1.out.trans hn2); have HW2 := Lib.hid hw2; have HQ2 := Lib.hid hq2; have HD2 := Lib.hid hd2; have hk2 : Blk w2 w.heap.size 47 #[.int .i64 dk, .string dn, .string dof, .int .i64 dv, .int .i64 k1, .string p1, .string n1', .slice A3 m3 c3, .slice B3 l3 d3, .slice Af fs.length cf] := (HN2.out.fresh HK0.out.lt (fun e => by have := HWB.out; omega) (fun e => by have := HOL.out _ e; omega)).trans HK0.out; have y20 := hk2.cell 0; have y21 := hk2.cell 1; have y22 := hk2.cell 2; have y23 := hk2.cell 3; have y24 := hk2.cell 4; have y25 := hk2.cell 5; have y26 := hk2.cell 6; have y27 := hk2.cell 7; have y28 := hk2.cell 8; have y29 := hk2.cell 9; have yl2 := hk2.lt; have HM3 := Lib.hid (text_anyQ dof hs2 w2 lo wb G2 g2 b2 dl2 at_ hw2 (by have := HFU.out; have := HQ1.out.2.1; have := hq2.2.1; omega)); clear hw2 hn2 hq2 hd2 hk2) | (go_at_call 26; ((with_reducible refine HM1.out.mono ?_); rintro e w1 ⟨⟨x1, rfl⟩, G1, g1, b1, dl1, hw1, hd1, hn1, hq1⟩); have HN1 := Lib.hid (hn1); have HW1 := Lib.hid hw1; have HQ1 := Lib.hid hq1; have HD1 := Lib.hid hd1; have hk1 : Blk w1 w.heap.size 47 #[.int .i64 dk, .string dn, .string dof, .int .i64 dv, .int .i64 k1, .string p1, .string n1', .slice A3 m3 c3, .slice B3 l3 d3, .slice Af fs.length cf] := (HN1.out.fresh HK0.out.lt (fun e => by have := HWB.out; omega) (fun e => by have := HOL.out _ e; omega)).trans HK0.out; have y10 := hk1.cell 0; have y11 := hk1.cell 1; have y12 := hk1.cell 2; have y13 := hk1.cell 3; have y14 := hk1.cell 4; have y15 := hk1.cell 5; have y16 := hk1.cell 6; have y17 := hk1.cell 7; have y18 := hk1.cell 8; have y19 := hk1.cell 9; have yl1 := hk1.lt; have HM2 := Lib.hid (text_anyQ dn hs1 w1 lo wb G1 g1 b1 dl1 at_ hw1 (by have := HFU.out;  have := hq1.2.1; omega)); clear hw1 hn1 hq1 hd1 hk1))
  have HQP := Lib.hid (QP.rule (QP.rule (QP.rule (QP.rule (QP.rule HQ1.out HQ2.out) HQ3.out) HQ4.out) HQ5.out) HQ6.out)
  have HDP := Lib.hid (show dl6 = (dl || deepT t at_) by rw [HD6.out, HD5.out, HD4.out, HD3.out, HD2.out, HD1.out]; simp)
  obtain ⟨pr, hpr⟩ : ∃ p, le8 dk ++ (le8 dn.size ++ sB dn) ++ (le8 dof.size ++ sB dof) ++ le8 dv ++ encT t = p := ⟨_, rfl⟩
  have HPR := Lib.hid hpr
  rw [hpr] at HQP
  clear hpr
  go_loopg [4] fs.length (fun gk v4 wr => ∃ (j : Nat) (A' : Option Addr) (c' : Nat) (b' : List Int) (dl' : Bool), j + gk = fs.length ∧ v4 = .int .i64 j ∧ Wq wr lo wb A' c' b' dl' at_ ∧ dl' = (dl || (deepT t at_ || (fs.take j).any (deepF at_))) ∧ WrN (w.alloc (.cells #[.int .i64 dk, .string dn, .string dof, .int .i64 dv, .int .i64 k1, .string p1, .string n1', .slice A3 m3 c3, .slice B3 l3 d3, .slice Af fs.length cf] 47)) wr wb (Value.slice A bs.length c).ownBlock (Value.slice A' b'.length c').ownBlock ∧ QP bs b' (pr ++ (le8 fs.length ++ encL encF (fs.take j))) (6 + kT t + (1 + sumL kF (fs.take j))) (deepT t at_ || (fs.take j).any (deepF at_)))
  case atStart => exact ⟨0, G6, g6, b6, dl6, by simp, rfl, HW6.out, by simpa using HDP.out, HN6.out, HQP.out.as (by simp [encL]) (by simp [sumL]) (by simp)⟩
  case round =>
    obtain ⟨j, A', c', b', dl', hj, rfl, hw, hd, hn, hq⟩ := hrel
    have HW := Lib.hid hw
    have HN := Lib.hid hn
    have HQ := Lib.hid hq
    have HDD := Lib.hid hd
    have hkr : Blk wr w.heap.size 47 #[.int .i64 dk, .string dn, .string dof, .int .i64 dv, .int .i64 k1, .string p1, .string n1', .slice A3 m3 c3, .slice B3 l3 d3, .slice Af fs.length cf] := (hn.fresh HK0.out.lt (fun e => by have := HWB.out; omega) (fun e => by have := HOL.out _ e; omega)).trans HK0.out
    have c9 := hkr.cell 9
    have cl9 := hkr.lt
    cases gk with
    | zero =>
      obtain rfl : j = fs.length := by omega
      clear hj hw hn hq hd hkr
      go_wp2
      refine bodyPost_end (results_none rfl _ _ _) rfl ?_
      have h1 := HQ.out
      have h2 := HDD.out
      rw [List.take_length] at h1 h2
      exact ⟨⟨_, rfl⟩, A', c', b', dl', HW.out, h2, (WrN.of_below wb _ HB0.out).trans HN.out, h1.as (by rw [HPR.out]) (by omega) rfl⟩
    | succ f =>
      have hjl : j < fs.length := by omega
      obtain ⟨u, hu⟩ : ∃ u, fs[j]? = some u := ⟨_, List.getElem?_eq_getElem hjl⟩
      have hm := HFO.out u (List.mem_of_getElem? hu)
      have j1 : (j : Int) < (fs.length : Int) := by omega
      have j0 : (0 : Int) ≤ (j : Int) := by omega
      have hks := sumL_take kF fs j u hu
      have hkd := sumL_kid kF fs j u hu
      have hfu : b'.length + 300000 * (2 + kT u.ty) ≤ 50000000000000 := by
        have h1 := HFU.out
        have h2 := hq.2.1
        have h3 : kF u = 2 + kT u.ty := rfl
        omega
      have hS := HFS.out.wr RFi_keeps hn HF.out hwb HO.out
      obtain ⟨q, o, vs, rfl, hFq, hql, hrep, hat⟩ := hS.at_ RFi_sized hu
      have HE := Lib.hid (encL_take encF fs j u hu)
      have HY := Lib.hid (any_take (deepF at_) fs j u hu)
      have HKS := Lib.hid hks
      have hqb : q ≠ wb := fun e => by have := HF.out q hFq; omega
      have hqo : (Value.slice A' b'.length c').ownBlock ≠ some q := fun e => by have := HF.out q hFq; have := hw.olo q e; omega
      have HM1' := Lib.hid (text_anyQ u.name hm.2.1 wr lo wb A' c' b' dl' at_ hw (by omega))
      have HO2 := Lib.hid hw.olo
      obtain ⟨tv2, rfl, hrt2⟩ := hrep
      have HM2' := Lib.hid (fun w7 G7 g7 b7 dl7 (h7 : Wq w7 lo wb G7 g7 b7 dl7 at_) (hf7 : b7.length + 300000 * kT u.ty ≤ 50000000000000) hn7 => typ_allQ 2000000 (Nat.le_refl _) u.ty hm.1 hm.2.2 w7 lo wb G7 g7 b7 dl7 at_ h7 HAT.out hf7 hwb F HF.out _ (hrt2.wr (wb := wb) (lo := lo) (o := (Value.slice A' b'.length c').ownBlock) (o' := (Value.slice G7 b7.length g7).ownBlock) hn7 HF.out hwb HO2.out))
      obtain ⟨k2, p2, n2, A4, m4, c4, B4, l4, d4, rfl⟩ := hrt2.shape
      obtain ⟨nm, hnm⟩ : ∃ nm, u.name = nm := ⟨_, rfl⟩
      simp only [tyC, hnm] at HM1' HM2' hat
      have q0 := hat 0 _ rfl
      have q1 := hat 1 _ rfl
      have q2 := hat 2 _ rfl
      have q3 := hat 3 _ rfl
      have q4 := hat 4 _ rfl
      have q5 := hat 5 _ rfl
      rw [Nat.add_zero] at q0
      have HFU2 := Lib.hid hfu
      have HNM := Lib.hid hnm
      have HKR := Lib.hid hkr
      have HB9 := Lib.hid (show w.heap.size ≠ wb ∧ (Value.slice A' b'.length c').ownBlock ≠ some w.heap.size from ⟨fun e => by have := HWB.out; omega, fun e => by
        rcases HN.out.nx _ e with e1 | e1
        · have := HOL.out _ e1; omega
        · simp at e1; omega⟩)
      clear hat hu hw hn hq hd hm hks hkd hfu hrt2 hS hnm hkr
      go_wp2_with (first
        | (go_at_call 52; ((with_reducible refine (HM2'.out w7 G7 g7 b7 dl7 HW7.out (by have := HFU2.out; have := QP.up HQ7.out; omega) HN7.out).mono ?_); rintro e w8 ⟨⟨x8, rfl⟩, G8, g8, b8, dl8, hw8, hd8, hn8, hq8⟩); have HN8 := Lib.hid (HN.out.trans (HN7.out.trans hn8)); have HW8 := Lib.hid hw8; have HQ8 := Lib.hid hq8; have HD8 := Lib.hid hd8; clear hw8 hn8 hq8 hd8)
        | (go_at_call 24; ((with_reducible refine HM1'.out.mono ?_); rintro e w7 ⟨⟨x7, rfl⟩, G7, g7, b7, dl7, hw7, hd7, hn7, hq7⟩); have HN7 := Lib.hid hn7; have HW7 := Lib.hid hw7; have HQ7 := Lib.hid hq7; have HD7 := Lib.hid hd7; have z0 := (HN7.out.cell (p := ⟨q, o + j * 6, none⟩) hql hqb hqo).trans q0; have z1 := (HN7.out.cell (p := ⟨q, o + j * 6 + 1, none⟩) hql hqb hqo).trans q1; have z2 := (HN7.out.cell (p := ⟨q, o + j * 6 + 2, none⟩) hql hqb hqo).trans q2; have z3 := (HN7.out.cell (p := ⟨q, o + j * 6 + 3, none⟩) hql hqb hqo).trans q3; have z4 := (HN7.out.cell (p := ⟨q, o + j * 6 + 4, none⟩) hql hqb hqo).trans q4; have z5 := (HN7.out.cell (p := ⟨q, o + j * 6 + 5, none⟩) hql hqb hqo).trans q5; have zl := Nat.lt_of_lt_of_le hql HN7.out.gr.size; have zk := (HN7.out.cell (p := ⟨w.heap.size, 9, none⟩) cl9 HB9.out.1 HB9.out.2).trans c9; have zkl := Nat.lt_of_lt_of_le cl9 HN7.out.gr.size; clear hw7 hn7 hq7 hd7))
      go_roundg f
      case measure => omega
      case rel =>
        refine ⟨j + 1, G8, g8, b8, dl8, by omega, by go_num, HW8.out, by rw [HY.out, HD8.out, HD7.out, HDD.out]; simp [Bool.or_assoc, deepF], HN8.out, ?_⟩
        rw [HE.out, HY.out, HKS.out]
        exact (QP.rule HQ.out (QP.rule HQ7.out HQ8.out)).as (by simp only [encF, HNM.out, List.append_assoc]) (by simp only [kF]; omega) (by simp [Bool.or_assoc, deepF])
end Go.Proofs.Ytnkojjkijkhlbaa
