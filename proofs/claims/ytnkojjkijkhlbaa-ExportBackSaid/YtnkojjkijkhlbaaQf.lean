/-
  A unit encoded by the document: walks.
-/
import Derived.Test.YtnkojjkijkhlbaaEn
namespace Go.Proofs.Ytnkojjkijkhlbaa
open Go.RowKit
set_option linter.unusedVariables false
set_option linter.unusedSimpArgs false

theorem sumL_mono {α : Type} (f g : α → Nat) : ∀ l : List α, (∀ a ∈ l, f a ≤ g a) → sumL f l ≤ sumL g l
  | [], _ => Nat.le_refl _
  | a :: r, h => by
    have h1 := h a (List.mem_cons_self)
    have h2 := sumL_mono f g r (fun b hb => h b (List.mem_cons_of_mem _ hb))
    simp only [sumL]; omega
theorem sumL_kF (l : List Fi) : sumL kF l ≤ 2 * l.length + 7 * sumL (fun f => f.ty.count) l := by
  induction l with
  | nil => simp [sumL]
  | cons a r ih => simp only [sumL, List.length_cons, kF, kT] at ih ⊢; omega
theorem sumL_kD (l : List Dl) : sumL kD l ≤ 7 * l.length + 7 * sumL Dl.cnt l := by
  induction l with
  | nil => simp [sumL]
  | cons a r ih =>
    have h := sumL_kF a.fields
    have h2 : a.cnt = a.ty.count + a.fields.length + sumL (fun f => f.ty.count) a.fields := rfl
    simp only [sumL, List.length_cons, kD, kT] at ih ⊢; omega
theorem sumL_kN (l : List Fn8) : sumL kN l ≤ 6 * l.length + 5 * sumL (fun f => cntSs f.body) l := by
  induction l with
  | nil => simp [sumL]
  | cons a r ih =>
    have h := kS_sum a.body
    simp only [sumL, List.length_cons, kN] at ih ⊢; omega
theorem sumL_kI (l : List Im) : sumL kI l = 3 * l.length := by
  induction l with
  | nil => simp [sumL]
  | cons a r ih => simp only [sumL, List.length_cons, kI] at ih ⊢; omega
theorem mark_sB : sB ⟨#[77, 85, 49, 10]⟩ = markB := rfl
theorem app_mark (w : World) (ty : TypeId) :
    ∃ v' w', (Builtin.append_ #[29, 9] ty #[.slice none 0 0, .string ⟨#[77, 85, 49, 10]⟩]).run Try.prog w = .ok v' w' ∧ ∃ A c, v' = .slice A 4 c ∧ w'.ownsRow w.heap.size 5 1 (.slice A 4 c) 4 (markB.map (Value.int .u8)) ∧ Below w.heap.size w w' := by
  obtain ⟨v', w', h1, h2, h3, h4⟩ := app_text (w := w) (lo := w.heap.size) (v := .slice none 0 0) (bs := []) (World.ownsRow_nil _ _ _ _) ty ⟨#[77, 85, 49, 10]⟩ (by decide) (Nat.le_refl _)
  obtain ⟨A, c, rfl⟩ := own_shape h2
  rw [mark_sB] at h1 h2
  exact ⟨_, w', h1, A, c, rfl, h2, ⟨h3.os, h3.tape, h3.output, h3.size, fun k hk => h3.block k hk (by simp [Value.ownBlock])⟩⟩
/-- The document's writer as it begins. -/
theorem wq_start {w2 w3 : World} {wb : Nat} (hk : Blk w2 wb 57 #[.slice none 0 0, .bool false, .int .i64 0]) (hb : Below w2.heap.size w2 w3) {lo : Nat} (hlo : lo ≤ w2.heap.size) {A : Option Addr} {c : Nat} (ho : w3.ownsRow w2.heap.size 5 1 (.slice A 4 c) 4 (markB.map (Value.int .u8))) :
    Wq (w3.setCell ⟨wb, 0, none⟩ (.slice A 4 c)) lo wb A c markB false 0 ∧ WrN w2 (w3.setCell ⟨wb, 0, none⟩ (.slice A 4 c)) wb none (Value.slice A 4 c).ownBlock := by
  have hk3 := hk.bel2 hb
  have hne : (Value.slice A 4 c).ownBlock ≠ some wb := own_blk_ne ho hk3 wqt_ne
  refine ⟨⟨hk3.set_ 0 _, own_mono (ho.kept (row := some wb) ⟨rfl, rfl, rfl, by simp, fun k hk hn => Below.heap_setCell w3 ⟨wb, 0, none⟩ _ k (fun e => hn (by rw [e]))⟩ (Or.inr hne)) hlo, by have := hb.size; simp; omega, fun x hx => ?_⟩, ⟨(Gr.of_below hb).setCell (p := ⟨wb, 0, none⟩) (Or.inr (Or.inl (show wb = wb from rfl))) _, fun q hq => .inr (ho.lt q hq).1⟩⟩
  simp only [markB, List.mem_cons, List.not_mem_nil, or_false] at hx
  rcases hx with rfl | rfl | rfl | rfl <;> omega
theorem Wq.slB {w : World} {lo wb : Nat} {A : Option Addr} {c : Nat} {bs : List Int} {dl : Bool} {at_ : Nat} (h : Wq w lo wb A c bs dl at_) : SlB w w.heap.size A bs := ⟨h.by_, Reads.of_own h.own⟩
set_option maxRecDepth 100000 in
set_option maxHeartbeats 8000000 in
theorem rencode_any (u : Un) (hc : u.cnt ≤ 2000000) (hok : u.ok 140737488355328) (w : World) (F : Nat → Prop) (hF : ∀ k, F k → k < w.heap.size) (vs : List Value) (hr : RUn w F u vs) :
    Calls Try.prog 12 #[.agg vs.toArray] w (EncP (encR u) w) := by
  obtain ⟨s, im, dc, fn⟩ := u
  have hdk := unOk hc
  obtain ⟨hs1, ⟨hi1, hi2⟩, ⟨hd1, hd2⟩, hf1, hf2⟩ := hok
  obtain ⟨A7, c7, A8, c8, A9, c9, rfl, k1, k2, k3⟩ := hr
  dsimp only at hs1 hi1 hi2 hd1 hd2 hf1 hf2 k1 k2 k3
  have htot : markB.length + 300000 * (2 + (1 + sumL kI im) + (1 + sumL kD dc) + (1 + sumL kN fn)) ≤ 50000000000000 := by
    have h1 := sumL_kI im
    have h2 := sumL_kD dc
    have h3 := sumL_kN fn
    unfold Un.cnt at hc
    dsimp only at hc
    rw [markB_len]
    omega
  have hdeep : deepU ⟨s, im, dc, fn⟩ = (dc.any (deepD 0) || fn.any (deepN 0)) := rfl
  have hencU : encU ⟨s, im, dc, fn⟩ = (le8 s.size ++ sB s) ++ (le8 im.length ++ encL encIm im) ++ (le8 dc.length ++ encL encD dc) ++ (le8 fn.length ++ encL encFn fn) := rfl
  obtain ⟨R, hR⟩ : ∃ R, encR ⟨s, im, dc, fn⟩ = R := ⟨_, rfl⟩
  rw [hR]
  have hb0 : Below w.heap.size w (((w.alloc (.cells #[.string s, .slice A7 im.length c7, .slice A8 dc.length c8, .slice A9 fn.length c9] 26)).alloc (.cells #[.slice none 0 0, .bool false, .int .i64 0] 57))) := ((Below.refl _ w).alloc (Nat.le_refl _) _).alloc (by simp) _
  have HB0 := Lib.hid hb0
  have hk0 : Blk (((w.alloc (.cells #[.string s, .slice A7 im.length c7, .slice A8 dc.length c8, .slice A9 fn.length c9] 26)).alloc (.cells #[.slice none 0 0, .bool false, .int .i64 0] 57))) w.heap.size 26 #[.string s, .slice A7 im.length c7, .slice A8 dc.length c8, .slice A9 fn.length c9] := (Blk.new w 26 #[.string s, .slice A7 im.length c7, .slice A8 dc.length c8, .slice A9 fn.length c9]).alloc _
  have hkw := Blk.new (w.alloc (.cells #[.string s, .slice A7 im.length c7, .slice A8 dc.length c8, .slice A9 fn.length c9] 26)) 57 #[.slice none 0 0, .bool false, .int .i64 0]
  rw [show (w.alloc (.cells #[.string s, .slice A7 im.length c7, .slice A8 dc.length c8, .slice A9 fn.length c9] 26)).heap.size = w.heap.size + 1 by simp] at hkw
  have HK0 := Lib.hid (show Blk (((w.alloc (.cells #[.string s, .slice A7 im.length c7, .slice A8 dc.length c8, .slice A9 fn.length c9] 26)).alloc (.cells #[.slice none 0 0, .bool false, .int .i64 0] 57))) w.heap.size 26 #[.string s, .slice A7 im.length c7, .slice A8 dc.length c8, .slice A9 fn.length c9] from hk0)
  have HKW := Lib.hid hkw
  have kw0 := hkw.cell 0
  have kwl := hkw.lt
  have HLO := Lib.hid (show w.heap.size ≤ (((w.alloc (.cells #[.string s, .slice A7 im.length c7, .slice A8 dc.length c8, .slice A9 fn.length c9] 26)).alloc (.cells #[.slice none 0 0, .bool false, .int .i64 0] 57))).heap.size by simp; omega)
  have HIS := Lib.hid (k1.bel RIm_keeps hb0)
  have HDS := Lib.hid (k2.bel RDl_keeps hb0)
  have HFS := Lib.hid (k3.bel RFn_keeps hb0)
  have HF := Lib.hid hF
  have HTOT := Lib.hid htot
  have HDEEP := Lib.hid hdeep
  have HENC := Lib.hid hencU
  have HR := Lib.hid hR
  have HI2 := Lib.hid hi2
  have HDO := Lib.hid (fun d (hd : d ∈ dc) => (⟨hdk d hd, hd2 d hd⟩ : (d.ty.count ≤ 2000000 ∧ ∀ f ∈ d.fields, f.ty.count ≤ 2000000) ∧ d.ok 140737488355328))
  have HFO := Lib.hid hf2
  have n0 : (0 : Int) ≤ (dc.length : Int) := by omega
  have n1 : (dc.length : Int) ≤ 140737488355328 := by omega
  have m0 : (0 : Int) ≤ (fn.length : Int) := by omega
  have m1 : (fn.length : Int) ≤ 140737488355328 := by omega
  clear hb0 hk0 hkw k1 k2 k3 hF htot hdeep hencU hR hi2 hdk hd2 hf2 hc
  go_enter Try.func12, Try.ntmps12
  go_wp2_with (first
    | (at_builtin; refine wpList_app rfl _ _ _ _ rfl _ _ rfl rfl _ (app_mark _ 29) ?_; rintro v3 w3 ⟨A3, c3, rfl, ho3, hb3⟩; have hst := wq_start HKW.out hb3 HLO.out ho3; have hk3 := HKW.out.bel2 hb3; have v0 := hk3.cell 0; have vl := hk3.lt; have vf := hk3.frozen 0; have HW0 := Lib.hid hst.1; have HN0 := Lib.hid hst.2; have hkx := (hst.2.fresh HK0.out.lt (fun e => by omega) (fun e => by cases e)).trans HK0.out; have HKX := Lib.hid hkx; have u0 := Blk.cell hkx 0; have u1 := Blk.cell hkx 1; have u2 := Blk.cell hkx 2; have u3 := Blk.cell hkx 3; have ul := Blk.lt hkx; have HM1 := Lib.hid (text_anyQ s hs1 _ w.heap.size (w.heap.size + 1) A3 c3 markB false 0 hst.1 (by rw [markB_len]; omega)); clear hst hk3 hkx ho3 hb3)
    | (go_at_call 26; ((with_reducible refine HM3.out.mono ?_); rintro e w3 ⟨⟨x3, rfl⟩, G3, g3, b3, dl3, hw3, hd3, hn3, hq3⟩); have HN3 := Lib.hid (HN2.out.trans hn3); have HW3 := Lib.hid hw3; have HQ3 := Lib.hid hq3; have HD3 := Lib.hid hd3; have hk3 : Blk w3 w.heap.size 26 #[.string s, .slice A7 im.length c7, .slice A8 dc.length c8, .slice A9 fn.length c9] := (HN3.out.fresh HK0.out.lt (fun e => by omega) (fun e => by cases e)).trans HK0.out; have y30 := hk3.cell 0; have y31 := hk3.cell 1; have y32 := hk3.cell 2; have y33 := hk3.cell 3; have yl3 := hk3.lt; clear hw3 hn3 hq3 hd3 hk3)
    | (go_at_call 25; ((with_reducible refine HM2.out.mono ?_); rintro e w2 ⟨⟨x2, rfl⟩, G2, g2, b2, dl2, hw2, hd2, hn2, hq2⟩); have HN2 := Lib.hid (HN1.out.trans hn2); have HW2 := Lib.hid hw2; have HQ2 := Lib.hid hq2; have HD2 := Lib.hid hd2; have hk2 : Blk w2 w.heap.size 26 #[.string s, .slice A7 im.length c7, .slice A8 dc.length c8, .slice A9 fn.length c9] := (HN2.out.fresh HK0.out.lt (fun e => by omega) (fun e => by cases e)).trans HK0.out; have y20 := hk2.cell 0; have y21 := hk2.cell 1; have y22 := hk2.cell 2; have y23 := hk2.cell 3; have yl2 := hk2.lt; have HM3 := Lib.hid (num_anyQ dc.length w2 w.heap.size (w.heap.size + 1) G2 g2 b2 dl2 0 hw2); clear hw2 hn2 hq2 hd2 hk2)
    | (go_at_call 24; ((with_reducible refine HM1.out.mono ?_); rintro e w1 ⟨⟨x1, rfl⟩, G1, g1, b1, dl1, hw1, hd1, hn1, hq1⟩); have HN1 := Lib.hid (HN0.out.trans hn1); have HW1 := Lib.hid hw1; have HQ1 := Lib.hid hq1; have HD1 := Lib.hid hd1; have hk1 : Blk w1 w.heap.size 26 #[.string s, .slice A7 im.length c7, .slice A8 dc.length c8, .slice A9 fn.length c9] := (HN1.out.fresh HK0.out.lt (fun e => by omega) (fun e => by cases e)).trans HK0.out; have y10 := hk1.cell 0; have y11 := hk1.cell 1; have y12 := hk1.cell 2; have y13 := hk1.cell 3; have yl1 := hk1.lt; have HM2 := Lib.hid (impsQ im hi1 HI2.out w1 w.heap.size (w.heap.size + 1) G1 g1 b1 dl1 0 hw1 (by omega) (by have := HTOT.out; have := markB_len; have := QP.up hq1; omega) (by omega) F HF.out A7 c7 (HIS.out.wr RIm_keeps HN1.out HF.out (by omega) (fun q e => by cases e))); clear hw1 hn1 hq1 hd1 hk1))
  obtain ⟨pr, hpr⟩ : ∃ p, (le8 s.size ++ sB s) ++ (le8 im.length ++ encL encIm im) = p := ⟨_, rfl⟩
  have HAF := Lib.hid (show ∀ m : List Im, m.any (fun _ => false) = false from fun m => by simp)
  have HQA := Lib.hid ((QP.rule (QP.rule HQ1.out HQ2.out) HQ3.out).as (o' := pr ++ (le8 dc.length ++ encL encD (dc.take 0))) (k' := (2 + (1 + sumL kI im)) + (1 + sumL kD (dc.take 0))) (d' := (dc.take 0).any (deepD 0)) (by rw [hpr]; simp [encL]) (by simp [sumL]) (by rw [HAF.out]; rfl))
  have HDA := Lib.hid (show dl3 = (dc.take 0).any (deepD 0) by rw [HD3.out, HD2.out, HD1.out, HAF.out]; simp)
  have HPR := Lib.hid hpr
  clear hpr
  go_loopg [5] dc.length (fun gk v5 wr => ∃ (j : Nat) (A' : Option Addr) (c' : Nat) (b' : List Int) (dl' : Bool), j + gk = dc.length ∧ v5 = .int .i64 j ∧ Wq wr w.heap.size (w.heap.size + 1) A' c' b' dl' 0 ∧ dl' = ((dc.take j).any (deepD 0)) ∧ WrN (((w.alloc (.cells #[.string s, .slice A7 im.length c7, .slice A8 dc.length c8, .slice A9 fn.length c9] 26)).alloc (.cells #[.slice none 0 0, .bool false, .int .i64 0] 57))) wr (w.heap.size + 1) none (Value.slice A' b'.length c').ownBlock ∧ QP markB b' (pr ++ (le8 dc.length ++ encL encD (dc.take j))) ((2 + (1 + sumL kI im)) + (1 + sumL kD (dc.take j))) ((dc.take j).any (deepD 0)))
  case atStart => exact ⟨0, G3, g3, b3, dl3, by simp, rfl, HW3.out, HDA.out, HN3.out, HQA.out⟩
  case round =>
    obtain ⟨j, A', c', b', dl', hj, rfl, hw, hd, hn, hq⟩ := hrel
    have HW := Lib.hid hw
    have HN := Lib.hid hn
    have HQ := Lib.hid hq
    have HDD := Lib.hid hd
    have hkr : Blk wr w.heap.size 26 #[.string s, .slice A7 im.length c7, .slice A8 dc.length c8, .slice A9 fn.length c9] := (hn.fresh HK0.out.lt (fun e => by omega) (fun e => by cases e)).trans HK0.out
    have cc := hkr.cell 2
    have ccl := hkr.lt
    have cw := hw.blk.cell 1
    have cw0 := hw.blk.cell 0
    have cwl := hw.blk.lt
    cases gk with
    | succ f =>
      have hjl : j < dc.length := by omega
      obtain ⟨u, hu⟩ : ∃ u, dc[j]? = some u := ⟨_, List.getElem?_eq_getElem hjl⟩
      have j1 : (j : Int) < (dc.length : Int) := by omega
      have j0 : (0 : Int) ≤ (j : Int) := by omega
      have hks := sumL_take kD dc j u hu
      have hkd := sumL_kid kD dc j u hu
      have hfu : b'.length + 300000 * kD u ≤ 50000000000000 := by
        have h1 := HTOT.out
        have h2 := QP.up hq
        have h3 := markB_len
        omega
      obtain ⟨q, o, vs, rfl, hFq, hql, hrep, hat⟩ := (HDS.out.wr RDl_keeps hn HF.out (by omega) (fun q e => by cases e)).at_ RDl_sized hu
      have HI := Lib.hid (dclQ u (HDO.out u (List.mem_of_getElem? hu)).1.1 (HDO.out u (List.mem_of_getElem? hu)).1.2 (HDO.out u (List.mem_of_getElem? hu)).2 wr w.heap.size (w.heap.size + 1) A' c' b' dl' 0 hw (by omega) hfu (by omega) F HF.out vs hrep)
      have HE := Lib.hid (encL_take encD dc j u hu)
      have HY := Lib.hid (any_take (deepD 0) dc j u hu)
      have HKS := Lib.hid hks
      obtain ⟨dk, dn, dof, dv, tt, fs⟩ := u
      obtain ⟨tv, Af, cf, rfl, hrt, hfs⟩ := hrep
      dsimp only at hrt
      obtain ⟨k1, p1, n1', A3, m3, c3, B3, l3, d3, rfl⟩ := hrt.shape
      simp only [tyC, List.cons_append, List.nil_append] at HI hat
      clear hrt hfs
      have q0 := hat 0 _ rfl
      have q1 := hat 1 _ rfl
      have q2 := hat 2 _ rfl
      have q3 := hat 3 _ rfl
      have q4 := hat 4 _ rfl
      have q5 := hat 5 _ rfl
      have q6 := hat 6 _ rfl
      have q7 := hat 7 _ rfl
      have q8 := hat 8 _ rfl
      have q9 := hat 9 _ rfl
      rw [Nat.add_zero] at q0
      clear hat hu hw hn hq hd hks hkd hfu hkr
      go_wp2_with (go_at_call 27; ((with_reducible refine HI.out.mono ?_); rintro e w2 ⟨⟨x, rfl⟩, A2, c2, b2, dl2, hw2, hd2, hn2, hq2⟩); have HW2 := Lib.hid hw2; have HN2 := Lib.hid (HN.out.trans hn2); have HQ2 := Lib.hid hq2; have HD2 := Lib.hid hd2; clear hw2 hn2 hq2 hd2)
      go_roundg f
      case measure => omega
      case rel =>
        refine ⟨j + 1, A2, c2, b2, dl2, by omega, by go_num, HW2.out, (by rw [HY.out, HD2.out, HDD.out]; try simp [Bool.or_assoc]), HN2.out, ?_⟩
        rw [HE.out, HY.out, HKS.out]
        exact (QP.rule HQ.out HQ2.out).as (by simp only [List.append_assoc]) (by omega) (by simp [Bool.or_assoc])
    | zero =>
      obtain rfl : j = dc.length := by omega
      have HQB := Lib.hid (show QP markB b' (pr ++ (le8 dc.length ++ encL encD dc)) ((2 + (1 + sumL kI im)) + (1 + sumL kD dc)) (dc.any (deepD 0)) by have h := HQ.out; rw [List.take_length] at h; exact h)
      have HDB := Lib.hid (show dl' = dc.any (deepD 0) by have h := HDD.out; rw [List.take_length] at h; exact h)
      have HM4 := Lib.hid (num_anyQ fn.length wr w.heap.size (w.heap.size + 1) A' c' b' dl' 0 hw)
      have c3' := hkr.cell 3
      have HKR := Lib.hid hkr
      clear hj hw hn hq hd HQ HDD hkr
      go_wp2_with (go_at_call 26; ((with_reducible refine HM4.out.mono ?_); rintro e w4 ⟨⟨x4, rfl⟩, G4, g4, b4, dl4, hw4, hd4, hn4, hq4⟩); have HN4 := Lib.hid (HN.out.trans hn4); have HW4 := Lib.hid hw4; have HQ4 := Lib.hid hq4; have HD4 := Lib.hid hd4; have hk4 : Blk w4 w.heap.size 26 #[.string s, .slice A7 im.length c7, .slice A8 dc.length c8, .slice A9 fn.length c9] := (HN4.out.fresh HK0.out.lt (fun e => by omega) (fun e => by cases e)).trans HK0.out; have y40 := hk4.cell 0; have y41 := hk4.cell 1; have y42 := hk4.cell 2; have y43 := hk4.cell 3; have yl4 := hk4.lt; clear hw4 hn4 hq4 hd4 hk4)
      obtain ⟨pr2, hpr2⟩ : ∃ p, pr ++ (le8 dc.length ++ encL encD dc) = p := ⟨_, rfl⟩
      have HPR2 := Lib.hid hpr2
      obtain ⟨kk, hkk⟩ : ∃ k, (2 + (1 + sumL kI im)) + (1 + sumL kD dc) = k := ⟨_, rfl⟩
      have HKK := Lib.hid hkk
      have HQC := Lib.hid ((QP.rule HQB.out HQ4.out).as (o' := pr2 ++ (le8 fn.length ++ encL encFn (fn.take 0))) (k' := kk + (1 + sumL kN (fn.take 0))) (d' := (dc.any (deepD 0) || (fn.take 0).any (deepN 0))) (by rw [hpr2]; simp [encL]) (by rw [hkk]; simp [sumL]) (by simp))
      have HDC := Lib.hid (show dl4 = (dc.any (deepD 0) || (fn.take 0).any (deepN 0)) by rw [HD4.out, HDB.out]; simp)
      have HTOT2 := Lib.hid (show markB.length + 300000 * (kk + (1 + sumL kN fn)) ≤ 50000000000000 by have := HTOT.out; rw [← hkk]; omega)
      clear hpr2 hkk HTOT HN
      have HTOT := HTOT2
      go_loopg [6] fn.length (fun gk v6 wr => ∃ (j : Nat) (A' : Option Addr) (c' : Nat) (b' : List Int) (dl' : Bool), j + gk = fn.length ∧ v6 = .int .i64 j ∧ Wq wr w.heap.size (w.heap.size + 1) A' c' b' dl' 0 ∧ dl' = (dc.any (deepD 0) || (fn.take j).any (deepN 0)) ∧ WrN (((w.alloc (.cells #[.string s, .slice A7 im.length c7, .slice A8 dc.length c8, .slice A9 fn.length c9] 26)).alloc (.cells #[.slice none 0 0, .bool false, .int .i64 0] 57))) wr (w.heap.size + 1) none (Value.slice A' b'.length c').ownBlock ∧ QP markB b' (pr2 ++ (le8 fn.length ++ encL encFn (fn.take j))) (kk + (1 + sumL kN (fn.take j))) (dc.any (deepD 0) || (fn.take j).any (deepN 0)))
      case atStart => exact ⟨0, G4, g4, b4, dl4, by simp, rfl, HW4.out, HDC.out, HN4.out, HQC.out⟩
      case round =>
        obtain ⟨j, A', c', b', dl', hj, rfl, hw, hd, hn, hq⟩ := hrel
        have HW := Lib.hid hw
        have HN := Lib.hid hn
        have HQ := Lib.hid hq
        have HDD := Lib.hid hd
        have hkr : Blk wr w.heap.size 26 #[.string s, .slice A7 im.length c7, .slice A8 dc.length c8, .slice A9 fn.length c9] := (hn.fresh HK0.out.lt (fun e => by omega) (fun e => by cases e)).trans HK0.out
        have cc := hkr.cell 3
        have ccl := hkr.lt
        have cw := hw.blk.cell 1
        have cw0 := hw.blk.cell 0
        have cwl := hw.blk.lt
        cases gk with
        | succ f =>
          have hjl : j < fn.length := by omega
          obtain ⟨u, hu⟩ : ∃ u, fn[j]? = some u := ⟨_, List.getElem?_eq_getElem hjl⟩
          have j1 : (j : Int) < (fn.length : Int) := by omega
          have j0 : (0 : Int) ≤ (j : Int) := by omega
          have hks := sumL_take kN fn j u hu
          have hkd := sumL_kid kN fn j u hu
          have hfu : b'.length + 300000 * kN u ≤ 50000000000000 := by
            have h1 := HTOT.out
            have h2 := QP.up hq
            have h3 := markB_len
            omega
          obtain ⟨q, o, vs, rfl, hFq, hql, hrep, hat⟩ := (HFS.out.wr RFn_keeps hn HF.out (by omega) (fun q e => by cases e)).at_ RFn_sized hu
          have HI := Lib.hid (funQ u (HFO.out u (List.mem_of_getElem? hu)) wr w.heap.size (w.heap.size + 1) A' c' b' dl' 0 hw (by omega) hfu (by omega) F HF.out vs hrep)
          have HE := Lib.hid (encL_take encFn fn j u hu)
          have HY := Lib.hid (any_take (deepN 0) fn j u hu)
          have HKS := Lib.hid hks
          obtain ⟨s2, wk, ps, ls, bo⟩ := u
          obtain ⟨A5, c5, rfl, hrb⟩ := hrep
          clear hrb
          have q0 := hat 0 _ rfl
          have q1 := hat 1 _ rfl
          have q2 := hat 2 _ rfl
          have q3 := hat 3 _ rfl
          have q4 := hat 4 _ rfl
          rw [Nat.add_zero] at q0
          clear hat hu hw hn hq hd hks hkd hfu hkr
          go_wp2_with (go_at_call 28; ((with_reducible refine HI.out.mono ?_); rintro e w2 ⟨⟨x, rfl⟩, A2, c2, b2, dl2, hw2, hd2, hn2, hq2⟩); have HW2 := Lib.hid hw2; have HN2 := Lib.hid (HN.out.trans hn2); have HQ2 := Lib.hid hq2; have HD2 := Lib.hid hd2; clear hw2 hn2 hq2 hd2)
          go_roundg f
          case measure => omega
          case rel =>
            refine ⟨j + 1, A2, c2, b2, dl2, by omega, by go_num, HW2.out, (by rw [HY.out, HD2.out, HDD.out]; try simp [Bool.or_assoc]), HN2.out, ?_⟩
            rw [HE.out, HY.out, HKS.out]
            exact (QP.rule HQ.out HQ2.out).as (by simp only [List.append_assoc]) (by omega) (by simp [Bool.or_assoc])
        | zero =>
          obtain rfl : j = fn.length := by omega
          have HQB2 := Lib.hid (show QP markB b' (encU ⟨s, im, dc, fn⟩) (kk + (1 + sumL kN fn)) (deepU ⟨s, im, dc, fn⟩) by have h := HQ.out; rw [List.take_length] at h; rw [HENC.out, HDEEP.out, HPR.out, HPR2.out]; exact h)
          have HDB2 := Lib.hid (show dl' = deepU ⟨s, im, dc, fn⟩ by have h := HDD.out; rw [List.take_length] at h; rw [HDEEP.out]; exact h)
          have hR2 := HR.out
          unfold encR encM at hR2
          obtain ⟨M, hM⟩ : ∃ M, markB ++ encU ⟨s, im, dc, fn⟩ = M := ⟨_, rfl⟩
          rw [hM] at hR2
          have hb1 : Below w.heap.size w wr := HB0.out.trans (hn.gr.belowN HLO.out (fun q hq e => by
            rcases e with e | e
            · have e2 : q = w.heap.size + 1 := e
              omega
            · cases e))
          have HB1 := Lib.hid hb1
          have hhs := hb1.size
          cases hdp : deepU ⟨s, im, dc, fn⟩ with
          | true =>
            rw [hdp] at hR2
            have hdl := HDB2.out
            rw [hdp] at hdl
            subst hdl
            have HR2 := Lib.hid (show ([], 3) = R by simpa using hR2)
            clear hj hw hn hq hd HQ HDD hkr hR2 hM hdp hb1 hhs
            go_wp2
            go_ret2
            rw [← HR2.out]
            exact ⟨⟨none, 0, rfl, World.ownsRow_nil _ _ _ _, fun x hx => by cases hx⟩, HB1.out⟩
          | false =>
            rw [hdp] at hR2
            have hdl := HDB2.out
            rw [hdp] at hdl
            subst hdl
            have hq2 := HQB2.out
            rw [hdp] at hq2
            obtain ⟨_, hq3, hq4⟩ := hq2
            obtain ⟨hq5, hq6⟩ := hq4 rfl
            have hml : M.length = 4 + (encU ⟨s, im, dc, fn⟩).length := by rw [← hM, List.length_append, markB_len]
            rw [markB_len] at hq5 hq6
            have hbl : b'.length ≤ 50000000000000 := by have := HTOT.out; omega
            have HS := Lib.hid (rsum_any wr _ A' c' b' hw.slB (by omega))
            by_cases hfit : (encU ⟨s, im, dc, fn⟩).length + 4 ≤ 262144
            · have hbM : b' = M := by rw [← hM]; exact hq5 (by omega)
              subst hbM
              have HNM := Lib.hid (num_go (sumP b') wr w.heap.size (w.heap.size + 1) A' c' b' false 0 hw (by omega))
              obtain ⟨b9, hb9⟩ : ∃ b, b' ++ le8 (sumP b') = b := ⟨_, rfl⟩
              have hl9 : b9.length = b'.length + 8 := by rw [← hb9, List.length_append, le8_len]
              rw [hb9] at HNM
              have HFL := Lib.hid (fun w9 A9 c9 (h9 : Wq w9 w.heap.size (w.heap.size + 1) A9 c9 b9 false 0) => full_any w9 w.heap.size (w.heap.size + 1) A9 c9 b9 false 0 h9 (decide (262144 < b9.length)) rfl)
              by_cases hf8 : b'.length + 8 ≤ 262144
              · have HR2 := Lib.hid (show (b9, 0) = R by rw [← hb9]; simpa [hf8] using hR2)
                rw [decide_eq_false (show ¬ 262144 < b9.length by omega)] at HFL
                clear hj hw hn hq hd HQ HDD hkr hR2 hM hdp hb1 hhs hq3 hq4 hq5 hq6 hml hbl hfit hb9 hl9 hf8
                go_wp2_with (first
                  | (go_at_call 17; ((with_reducible refine HS.out.mono ?_); rintro e w8 ⟨rfl, rfl⟩))
                  | (go_at_call 26; ((with_reducible refine HNM.out.mono ?_); rintro e w9 ⟨⟨x9, rfl⟩, A5, c5, hw9, hn9⟩); have z0 := hw9.blk.cell 0; have zl := hw9.blk.lt; have HW9 := Lib.hid hw9; have HB9 := Lib.hid (HB0.out.trans ((HN.out.trans hn9).gr.belowN HLO.out (fun q hq e => by
                    rcases e with e | e
                    · have e2 : q = w.heap.size + 1 := e
                      omega
                    · cases e))); clear hw9 hn9)
                  | (go_at_call 29; ((with_reducible refine (HFL.out _ _ _ HW9.out).mono ?_); rintro e w8 ⟨rfl, rfl⟩)))
                go_ret2
                rw [← HR2.out]
                exact ⟨⟨A5, c5, rfl, HW9.out.own, HW9.out.by_⟩, HB9.out⟩
              · have HR2 := Lib.hid (show ([], 2) = R by simpa [hf8] using hR2)
                rw [decide_eq_true (show 262144 < b9.length by omega)] at HFL
                clear hj hw hn hq hd HQ HDD hkr hR2 hM hdp hb1 hhs hq3 hq4 hq5 hq6 hml hbl hfit hb9 hl9 hf8
                go_wp2_with (first
                  | (go_at_call 17; ((with_reducible refine HS.out.mono ?_); rintro e w8 ⟨rfl, rfl⟩))
                  | (go_at_call 26; ((with_reducible refine HNM.out.mono ?_); rintro e w9 ⟨⟨x9, rfl⟩, A5, c5, hw9, hn9⟩); have z0 := hw9.blk.cell 0; have zl := hw9.blk.lt; have HW9 := Lib.hid hw9; have HB9 := Lib.hid (HB0.out.trans ((HN.out.trans hn9).gr.belowN HLO.out (fun q hq e => by
                    rcases e with e | e
                    · have e2 : q = w.heap.size + 1 := e
                      omega
                    · cases e))); clear hw9 hn9)
                  | (go_at_call 29; ((with_reducible refine (HFL.out _ _ _ HW9.out).mono ?_); rintro e w8 ⟨rfl, rfl⟩)))
                go_ret2
                rw [← HR2.out]
                exact ⟨⟨none, 0, rfl, World.ownsRow_nil _ _ _ _, fun x hx => by cases hx⟩, HB9.out⟩
            · have hbf : 262144 < b'.length := hq6 (by omega)
              have HNM := Lib.hid (num_full (sumP b') wr w.heap.size (w.heap.size + 1) A' c' b' false 0 hw hbf)
              have HFL := Lib.hid (full_any wr w.heap.size (w.heap.size + 1) A' c' b' false 0 hw true (decide_eq_true hbf))
              have HR2 := Lib.hid (show ([], 2) = R by (have h8 : ¬ M.length + 8 ≤ 262144 := (by omega)); simpa [h8] using hR2)
              clear hj hw hn hq hd HQ HDD hkr hR2 hM hdp hb1 hhs hq3 hq4 hq5 hq6 hml hbl hfit hbf
              go_wp2_with (first
                | (go_at_call 17; ((with_reducible refine HS.out.mono ?_); rintro e w8 ⟨rfl, rfl⟩))
                | (go_at_call 26; ((with_reducible refine HNM.out.mono ?_); rintro e w9 ⟨⟨x9, rfl⟩, rfl⟩))
                | (go_at_call 29; ((with_reducible refine HFL.out.mono ?_); rintro e w8 ⟨rfl, rfl⟩)))
              go_ret2
              rw [← HR2.out]
              exact ⟨⟨none, 0, rfl, World.ownsRow_nil _ _ _ _, fun x hx => by cases hx⟩, HB1.out⟩
end Go.Proofs.Ytnkojjkijkhlbaa
