/-
  Fields and declarations written: walks.
-/
import Derived.Test.YtnkojjkijkhlbaaWrG
namespace Go.Proofs.Ytnkojjkijkhlbaa
open Go.RowKit
set_option linter.unusedVariables false
set_option linter.unusedSimpArgs false

theorem RT.wr {w w' : World} {F : Nat → Prop} {t : Ty} {vs : List Value} {wb lo : Nat} {o o' : Option Nat} (h : RT w F t vs) (hn : WrN w w' wb o o') (hF : ∀ k, F k → k < lo) (hwb : lo ≤ wb) (ho : ∀ q, o = some q → lo ≤ q) : RT w' F t vs :=
  RT.keep (fun k hk hl => hn.fresh hl (fun e => by have := hF k hk; omega) (fun e => by have := hF k hk; have := ho k e; omega)) hn.gr.size (fun _ _ h => h) _ _ h
theorem Keeps.bel {α : Type} {R : Rel α} (hR : Keeps R) {w w' : World} {F : Nat → Prop} {a : α} {vs : List Value} (h : R w F a vs) (hb : Below w.heap.size w w') : R w' F a vs := hR _ _ _ _ _ _ (fun k _ hl => hb.block k hl) hb.size (fun _ _ h => h) h
def encF (f : Fi) : List Int := (le8 f.name.size ++ sB f.name) ++ encT f.ty
def encD (d : Dl) : List Int := ((((le8 d.kind ++ (le8 d.name.size ++ sB d.name)) ++ (le8 d.of.size ++ sB d.of)) ++ le8 d.value) ++ encT d.ty) ++ (le8 d.fields.length ++ encL encF d.fields)
set_option maxRecDepth 100000 in
set_option maxHeartbeats 4000000 in
theorem fld_any (f : Fi) (hc : f.ty.count ≤ 2000000) (hok : f.ok 140737488355328) (w : World) (lo wb : Nat) (A : Option Addr) (c : Nat) (bs : List Int) (lg : Bool) (h : Wr w lo wb A c bs lg) (hwb : lo ≤ wb) (F : Nat → Prop) (hF : ∀ k, F k → k < lo) (vs : List Value) (hr : RFi w F f vs) :
    Calls Try.prog 77 #[.pointer (some ⟨wb, 0, none⟩), .agg vs.toArray] w (PutP lo wb (Value.slice A bs.length c).ownBlock bs lg (encF f) w) := by
  obtain ⟨s, t⟩ := f
  obtain ⟨hs1, hs2⟩ := hok
  obtain ⟨tv, rfl, hrt⟩ := hr
  dsimp only at hrt hs1 hs2 hc
  simp only [encF]
  obtain ⟨k1, p1, n1', A3, m3, c3, B3, l3, d3, rfl⟩ := hrt.shape
  simp only [tyC] at hrt ⊢
  have hb0 := (Below.refl _ w).alloc (Nat.le_refl _) (.cells #[.string s, .int .i64 k1, .string p1, .string n1', .slice A3 m3 c3, .slice B3 l3 d3] 74)
  have HM1 := Lib.hid (text_any s hs1 _ lo wb A c bs lg (h.bel hb0))
  have HRT := Lib.hid (hrt.bel hb0)
  have HB0 := Lib.hid hb0
  have HK0 := Lib.hid (Blk.new w 74 #[.string s, .int .i64 k1, .string p1, .string n1', .slice A3 m3 c3, .slice B3 l3 d3])
  have HO := Lib.hid h.olo
  have HOL := Lib.hid (fun q (hq : (Value.slice A bs.length c).ownBlock = some q) => h.old hq)
  have HWB := Lib.hid h.blk.lt
  have HF := Lib.hid hF
  clear h hb0 hF hrt
  go_enter Try.func77, Try.ntmps77
  go_wp2_with (first | (go_at_call 75; ((with_reducible refine HM2.out.mono ?_); rintro e w2 ⟨⟨x2, rfl⟩, G2, g2, b2, lb2, hw2, hn2, hp2⟩); have HN2 := Lib.hid (HN1.out.trans hn2); have HW2 := Lib.hid hw2; have HP2 := Lib.hid hp2; have hk2 : Blk w2 w.heap.size 74 #[.string s, .int .i64 k1, .string p1, .string n1', .slice A3 m3 c3, .slice B3 l3 d3] := (HN2.out.fresh HK0.out.lt (fun e => by have := HWB.out; omega) (fun e => by have := HOL.out _ e; omega)).trans HK0.out; have y20 := hk2.cell 0; have y21 := hk2.cell 1; have y22 := hk2.cell 2; have y23 := hk2.cell 3; have y24 := hk2.cell 4; have y25 := hk2.cell 5; have yl2 := hk2.lt; clear hw2 hn2 hp2 hk2) | (go_at_call 44; ((with_reducible refine HM1.out.mono ?_); rintro e w1 ⟨⟨x1, rfl⟩, G1, g1, b1, lb1, hw1, hn1, hp1⟩); have HN1 := Lib.hid (hn1); have HW1 := Lib.hid hw1; have HP1 := Lib.hid hp1; have hk1 : Blk w1 w.heap.size 74 #[.string s, .int .i64 k1, .string p1, .string n1', .slice A3 m3 c3, .slice B3 l3 d3] := (HN1.out.fresh HK0.out.lt (fun e => by have := HWB.out; omega) (fun e => by have := HOL.out _ e; omega)).trans HK0.out; have y10 := hk1.cell 0; have y11 := hk1.cell 1; have y12 := hk1.cell 2; have y13 := hk1.cell 3; have y14 := hk1.cell 4; have y15 := hk1.cell 5; have yl1 := hk1.lt; have HM2 := Lib.hid (typ_all 2000000 (Nat.le_refl _) t hc hs2 w1 lo wb G1 g1 b1 lb1 hw1 hwb F HF.out _ (HRT.out.wr HN1.out HF.out hwb HO.out)); clear hw1 hn1 hp1 hk1))
  refine bodyPost_end (results_none rfl _ _ _) rfl ?_
  have r2 := PutP.rule HP1.out.1 HP1.out.2 HP2.out.1 HP2.out.2
  exact ⟨⟨_, rfl⟩, G2, g2, b2, lb2, HW2.out, (WrN.of_below wb _ HB0.out).trans HN2.out, r2⟩
set_option maxRecDepth 100000 in
set_option maxHeartbeats 4000000 in
theorem puts_fi (l : List Fi) (hl : l.length ≤ 140737488355328) (hok : ∀ f ∈ l, f.ty.count ≤ 2000000 ∧ f.ok 140737488355328) (w : World) (lo wb : Nat) (A : Option Addr) (c : Nat) (bs : List Int) (lg : Bool) (h : Wr w lo wb A c bs lg) (hwb : lo ≤ wb) (F : Nat → Prop) (hF : ∀ k, F k → k < lo) (B : Option Addr) (d : Nat) (hr : SlG 6 RFi w F B l) :
    Calls Try.prog 76 #[.pointer (some ⟨wb, 0, none⟩), .slice B l.length d, .func (Fn.func 77) #[] #[]] w (PutP lo wb (Value.slice A bs.length c).ownBlock bs lg (le8 l.length ++ encL encF l) w) := by
  have HR := Lib.hid (number_any l.length w lo wb A c bs lg h)
  have HA := Lib.hid hr
  have HO := Lib.hid h.olo
  have HOK := Lib.hid hok
  have HF := Lib.hid hF
  have n0 : (0 : Int) ≤ (l.length : Int) := by omega
  have n1 : (l.length : Int) ≤ 140737488355328 := by omega
  clear h hr hF hok
  go_enter Try.func76, Try.ntmps76
  go_wp2_with (go_at_call 74; ((with_reducible refine HR.out.mono ?_); rintro e w1 ⟨⟨x, rfl⟩, A1, c1, b1, l1, hw1, hn1, hp1⟩); have HW1 := Lib.hid hw1; have HN1 := Lib.hid hn1; have HP1 := Lib.hid hp1; clear hw1 hn1 hp1)
  go_loopg [14] l.length (fun gk v14 wr => ∃ (j : Nat) (A' : Option Addr) (c' : Nat) (b' : List Int) (l' : Bool), j + gk = l.length ∧ v14 = .int .i64 j ∧ Wr wr lo wb A' c' b' l' ∧ WrN w wr wb (Value.slice A bs.length c).ownBlock (Value.slice A' b'.length c').ownBlock ∧ (((lg = false ∧ bs.length + (le8 l.length ++ encL encF (l.take j)).length ≤ 262144) → b' = bs ++ (le8 l.length ++ encL encF (l.take j)) ∧ l' = false) ∧ (¬ (lg = false ∧ bs.length + (le8 l.length ++ encL encF (l.take j)).length ≤ 262144) → l' = true)))
  case atStart => exact ⟨0, A1, c1, b1, l1, by simp, rfl, HW1.out, HN1.out, by simpa [encL] using HP1.out⟩
  case round =>
    obtain ⟨j, A', c', b', l', hj, rfl, hw, hn, hp⟩ := hrel
    have HW := Lib.hid hw
    have HN := Lib.hid hn
    have HP := Lib.hid hp
    cases gk with
    | zero =>
      obtain rfl : j = l.length := by omega
      clear hj hw hn hp
      go_wp2
      refine bodyPost_end (results_none rfl _ _ _) rfl ?_
      have := HP.out
      rw [List.take_length] at this
      exact ⟨⟨_, rfl⟩, A', c', b', l', HW.out, HN.out, this⟩
    | succ f =>
      have hjl : j < l.length := by omega
      obtain ⟨u, hu⟩ : ∃ u, l[j]? = some u := ⟨_, List.getElem?_eq_getElem hjl⟩
      have hm := HOK.out u (List.mem_of_getElem? hu)
      have j1 : (j : Int) < (l.length : Int) := by omega
      have j0 : (0 : Int) ≤ (j : Int) := by omega
      obtain ⟨q, o, vs, rfl, hFq, hql, hrep, hat⟩ := (HA.out.wr RFi_keeps hn HF.out hwb HO.out).at_ RFi_sized hu
      have hb0 := fun vs : Array Value => (Below.refl _ wr).alloc (Nat.le_refl _) (.cells vs 74)
      have HB0 := Lib.hid hb0
      have HI := Lib.hid (fun us => fld_any u hm.1 hm.2 _ lo wb A' c' b' l' (hw.bel (hb0 us)) hwb F HF.out)
      have HI := Lib.hid (HI.out vs.toArray vs (RFi_keeps.bel hrep (HB0.out vs.toArray)))
      obtain ⟨tv, rfl, hrt⟩ := hrep
      obtain ⟨k1, p1, n1', A3, m3, c3, B3, l3, d3, rfl⟩ := hrt.shape
      obtain ⟨nm, hnm⟩ : ∃ nm, u.name = nm := ⟨_, rfl⟩
      simp only [tyC, hnm] at HI hat
      have q0 := hat 0 _ rfl
      have q1 := hat 1 _ rfl
      have q2 := hat 2 _ rfl
      have q3 := hat 3 _ rfl
      have q4 := hat 4 _ rfl
      have q5 := hat 5 _ rfl
      rw [Nat.add_zero] at q0
      have y1 := hw.blk.cell 1
      have yl := hw.blk.lt
      have HE := Lib.hid (encL_take encF l j u hu)
      have HS := Lib.hid (show encL encF l = encL encF (l.take j) ++ encL encF (l.drop j) by rw [← encL_append, List.take_append_drop])
      clear hat hu hw hn hp hb0 hm
      cases l' with
      | true =>
        go_wp2
        refine bodyPost_ret (results_none rfl _ _ _) rfl ?_
        refine ⟨⟨_, rfl⟩, A', c', b', true, HW.out.bel (HB0.out _), HN.out.trans (WrN.of_below wb _ (HB0.out _)), ?_⟩
        rw [HS.out, ← List.append_assoc]
        exact PutP.stop HP.out.1 rfl
      | false =>
        go_wp2_with (go_at_call 77; ((with_reducible refine HI.out.mono ?_); rintro e w2 ⟨⟨x, rfl⟩, A2, c2, b2, l2, hw2, hn2, hp2⟩); have HW2 := Lib.hid hw2; have HN2 := Lib.hid (HN.out.trans ((WrN.of_below wb _ (HB0.out _)).trans hn2)); have HP2 := Lib.hid hp2; clear hw2 hn2 hp2)
        go_roundg f
        case measure => omega
        case rel =>
          refine ⟨j + 1, A2, c2, b2, l2, by omega, by go_num, HW2.out, HN2.out, ?_⟩
          rw [HE.out, ← List.append_assoc]
          exact PutP.rule (bs1 := b') (lg1 := false) (fun q => ⟨(HP.out.1 q).1, rfl⟩) (fun q => absurd (HP.out.2 q) (by simp)) (fun q => HP2.out.1 (by simpa using q)) (fun q => HP2.out.2 (by simpa using q))
set_option maxRecDepth 100000 in
set_option maxHeartbeats 4000000 in
theorem dcl_any (d : Dl) (hc : d.ty.count ≤ 2000000) (hcf : ∀ f ∈ d.fields, f.ty.count ≤ 2000000) (hok : d.ok 140737488355328) (w : World) (lo wb : Nat) (A : Option Addr) (c : Nat) (bs : List Int) (lg : Bool) (h : Wr w lo wb A c bs lg) (hwb : lo ≤ wb) (F : Nat → Prop) (hF : ∀ k, F k → k < lo) (vs : List Value) (hr : RDl w F d vs) :
    Calls Try.prog 48 #[.pointer (some ⟨wb, 0, none⟩), .agg vs.toArray] w (PutP lo wb (Value.slice A bs.length c).ownBlock bs lg (encD d) w) := by
  obtain ⟨dk, dn, dof, dv, t, fs⟩ := d
  obtain ⟨hs1, hs2, hs3, hs4, hs5⟩ := hok
  obtain ⟨tv, Af, cf, rfl, hrt, hfs⟩ := hr
  dsimp only at hrt hfs hs1 hs2 hs3 hs4 hs5 hc hcf
  simp only [encD]
  have HFO := Lib.hid (fun f hf => (⟨hcf f hf, hs5 f hf⟩ : f.ty.count ≤ 2000000 ∧ f.ok 140737488355328))
  obtain ⟨k1, p1, n1', A3, m3, c3, B3, l3, d3, rfl⟩ := hrt.shape
  simp only [tyC] at hrt
  simp only [tyC, List.cons_append, List.nil_append]
  have hb0 := (Below.refl _ w).alloc (Nat.le_refl _) (.cells #[.int .i64 dk, .string dn, .string dof, .int .i64 dv, .int .i64 k1, .string p1, .string n1', .slice A3 m3 c3, .slice B3 l3 d3, .slice Af fs.length cf] 47)
  have HM1 := Lib.hid (number_any dk _ lo wb A c bs lg (h.bel hb0))
  have HRT := Lib.hid (hrt.bel hb0)
  have HFS := Lib.hid (hfs.bel RFi_keeps hb0)
  have HB0 := Lib.hid hb0
  have HK0 := Lib.hid (Blk.new w 47 #[.int .i64 dk, .string dn, .string dof, .int .i64 dv, .int .i64 k1, .string p1, .string n1', .slice A3 m3 c3, .slice B3 l3 d3, .slice Af fs.length cf])
  have HO := Lib.hid h.olo
  have HOL := Lib.hid (fun q (hq : (Value.slice A bs.length c).ownBlock = some q) => h.old hq)
  have HWB := Lib.hid h.blk.lt
  have HF := Lib.hid hF
  clear h hb0 hF hrt hfs hs5 hcf
  go_enter Try.func48, Try.ntmps48
  go_wp2_with (first | (go_at_call 76; ((with_reducible refine HM6.out.mono ?_); rintro e w6 ⟨⟨x6, rfl⟩, G6, g6, b6, lb6, hw6, hn6, hp6⟩); have HN6 := Lib.hid (HN5.out.trans hn6); have HW6 := Lib.hid hw6; have HP6 := Lib.hid hp6; have hk6 : Blk w6 w.heap.size 47 #[.int .i64 dk, .string dn, .string dof, .int .i64 dv, .int .i64 k1, .string p1, .string n1', .slice A3 m3 c3, .slice B3 l3 d3, .slice Af fs.length cf] := (HN6.out.fresh HK0.out.lt (fun e => by have := HWB.out; omega) (fun e => by have := HOL.out _ e; omega)).trans HK0.out; have y60 := hk6.cell 0; have y61 := hk6.cell 1; have y62 := hk6.cell 2; have y63 := hk6.cell 3; have y64 := hk6.cell 4; have y65 := hk6.cell 5; have y66 := hk6.cell 6; have y67 := hk6.cell 7; have y68 := hk6.cell 8; have y69 := hk6.cell 9; have yl6 := hk6.lt; clear hw6 hn6 hp6 hk6) | (go_at_call 75; ((with_reducible refine HM5.out.mono ?_); rintro e w5 ⟨⟨x5, rfl⟩, G5, g5, b5, lb5, hw5, hn5, hp5⟩); have HN5 := Lib.hid (HN4.out.trans hn5); have HW5 := Lib.hid hw5; have HP5 := Lib.hid hp5; have hk5 : Blk w5 w.heap.size 47 #[.int .i64 dk, .string dn, .string dof, .int .i64 dv, .int .i64 k1, .string p1, .string n1', .slice A3 m3 c3, .slice B3 l3 d3, .slice Af fs.length cf] := (HN5.out.fresh HK0.out.lt (fun e => by have := HWB.out; omega) (fun e => by have := HOL.out _ e; omega)).trans HK0.out; have y50 := hk5.cell 0; have y51 := hk5.cell 1; have y52 := hk5.cell 2; have y53 := hk5.cell 3; have y54 := hk5.cell 4; have y55 := hk5.cell 5; have y56 := hk5.cell 6; have y57 := hk5.cell 7; have y58 := hk5.cell 8; have y59 := hk5.cell 9; have yl5 := hk5.lt; have HM6 := Lib.hid (puts_fi fs hs4 HFO.out w5 lo wb G5 g5 b5 lb5 hw5 hwb F HF.out Af cf (HFS.out.wr RFi_keeps HN5.out HF.out hwb HO.out)); clear hw5 hn5 hp5 hk5) | (go_at_call 23; ((with_reducible refine HM4.out.mono ?_); rintro e w4 ⟨⟨x4, rfl⟩, G4, g4, b4, lb4, hw4, hn4, hp4⟩); have HN4 := Lib.hid (HN3.out.trans hn4); have HW4 := Lib.hid hw4; have HP4 := Lib.hid hp4; have hk4 : Blk w4 w.heap.size 47 #[.int .i64 dk, .string dn, .string dof, .int .i64 dv, .int .i64 k1, .string p1, .string n1', .slice A3 m3 c3, .slice B3 l3 d3, .slice Af fs.length cf] := (HN4.out.fresh HK0.out.lt (fun e => by have := HWB.out; omega) (fun e => by have := HOL.out _ e; omega)).trans HK0.out; have y40 := hk4.cell 0; have y41 := hk4.cell 1; have y42 := hk4.cell 2; have y43 := hk4.cell 3; have y44 := hk4.cell 4; have y45 := hk4.cell 5; have y46 := hk4.cell 6; have y47 := hk4.cell 7; have y48 := hk4.cell 8; have y49 := hk4.cell 9; have yl4 := hk4.lt; have HM5 := Lib.hid (typ_all 2000000 (Nat.le_refl _) t hc hs3 w4 lo wb G4 g4 b4 lb4 hw4 hwb F HF.out _ (HRT.out.wr HN4.out HF.out hwb HO.out)); clear hw4 hn4 hp4 hk4) | (go_at_call 44; ((with_reducible refine HM3.out.mono ?_); rintro e w3 ⟨⟨x3, rfl⟩, G3, g3, b3, lb3, hw3, hn3, hp3⟩); have HN3 := Lib.hid (HN2.out.trans hn3); have HW3 := Lib.hid hw3; have HP3 := Lib.hid hp3; have hk3 : Blk w3 w.heap.size 47 #[.int .i64 dk, .string dn, .string dof, .int .i64 dv, .int .i64 k1, .string p1, .string n1', .slice A3 m3 c3, .slice B3 l3 d3, .slice Af fs.length cf] := (HN3.out.fresh HK0.out.lt (fun e => by have := HWB.out; omega) (fun e => by have := HOL.out _ e; omega)).trans HK0.out; have y30 := hk3.cell 0; have y31 := hk3.cell 1; have y32 := hk3.cell 2; have y33 := hk3.cell 3; have y34 := hk3.cell 4; have y35 := hk3.cell 5; have y36 := hk3.cell 6; have y37 := hk3.cell 7; have y38 := hk3.cell 8; have y39 := hk3.cell 9; have yl3 := hk3.lt; have HM4 := Lib.hid (word_any dv w3 lo wb G3 g3 b3 lb3 hw3); clear hw3 hn3 hp3 hk3) | (go_at_call 44; ((with_reducible refine HM2.out.mono ?_); rintro e w2 ⟨⟨x2, rfl⟩, G2, g2, b2, lb2, hw2, hn2, hp2⟩); have HN2 := Lib.hid (HN1.out.trans hn2); have HW2 := Lib.hid hw2; have HP2 := Lib.hid hp2; have hk2 : Blk w2 w.heap.size 47 #[.int .i64 dk, .string dn, .string dof, .int .i64 dv, .int .i64 k1, .string p1, .string n1', .slice A3 m3 c3, .slice B3 l3 d3, .slice Af fs.length cf] := (HN2.out.fresh HK0.out.lt (fun e => by have := HWB.out; omega) (fun e => by have := HOL.out _ e; omega)).trans HK0.out; have y20 := hk2.cell 0; have y21 := hk2.cell 1; have y22 := hk2.cell 2; have y23 := hk2.cell 3; have y24 := hk2.cell 4; have y25 := hk2.cell 5; have y26 := hk2.cell 6; have y27 := hk2.cell 7; have y28 := hk2.cell 8; have y29 := hk2.cell 9; have yl2 := hk2.lt; have HM3 := Lib.hid (text_any dof hs2 w2 lo wb G2 g2 b2 lb2 hw2); clear hw2 hn2 hp2 hk2) | (go_at_call 74; ((with_reducible refine HM1.out.mono ?_); rintro e w1 ⟨⟨x1, rfl⟩, G1, g1, b1, lb1, hw1, hn1, hp1⟩); have HN1 := Lib.hid (hn1); have HW1 := Lib.hid hw1; have HP1 := Lib.hid hp1; have hk1 : Blk w1 w.heap.size 47 #[.int .i64 dk, .string dn, .string dof, .int .i64 dv, .int .i64 k1, .string p1, .string n1', .slice A3 m3 c3, .slice B3 l3 d3, .slice Af fs.length cf] := (HN1.out.fresh HK0.out.lt (fun e => by have := HWB.out; omega) (fun e => by have := HOL.out _ e; omega)).trans HK0.out; have y10 := hk1.cell 0; have y11 := hk1.cell 1; have y12 := hk1.cell 2; have y13 := hk1.cell 3; have y14 := hk1.cell 4; have y15 := hk1.cell 5; have y16 := hk1.cell 6; have y17 := hk1.cell 7; have y18 := hk1.cell 8; have y19 := hk1.cell 9; have yl1 := hk1.lt; have HM2 := Lib.hid (text_any dn hs1 w1 lo wb G1 g1 b1 lb1 hw1); clear hw1 hn1 hp1 hk1))
  refine bodyPost_end (results_none rfl _ _ _) rfl ?_
  have r2 := PutP.rule HP1.out.1 HP1.out.2 HP2.out.1 HP2.out.2
  have r3 := PutP.rule r2.1 r2.2 HP3.out.1 HP3.out.2
  have r4 := PutP.rule r3.1 r3.2 HP4.out.1 HP4.out.2
  have r5 := PutP.rule r4.1 r4.2 HP5.out.1 HP5.out.2
  have r6 := PutP.rule r5.1 r5.2 HP6.out.1 HP6.out.2
  exact ⟨⟨_, rfl⟩, G6, g6, b6, lb6, HW6.out, (WrN.of_below wb _ HB0.out).trans HN6.out, r6⟩
end Go.Proofs.Ytnkojjkijkhlbaa
