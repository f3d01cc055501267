/-
  What is read of bytes lies in memory that may be written.
-/
import Derived.Test.YtnkojjkijkhlbaaRl
namespace Go.Proofs.Ytnkojjkijkhlbaa
open Go.RowKit
set_option linter.unusedVariables false
set_option linter.unusedSimpArgs false

def Bk (w : World) (g : Nat) : Prop := ∃ t cs, Blk w g t cs
theorem own_thaw {w : World} {lo n m : Nat} {T : TypeId} {A : Option Addr} {c : Nat} {xs : List Value} (h : w.ownsRow lo T m (.slice A n c) n xs) : ∀ a, A = some a → a = ⟨a.block, 0, none⟩ ∧ lo ≤ a.block ∧ a.block < w.heap.size ∧ Bk w a.block := by
  intro a ha
  subst ha
  rcases h.2 with ⟨e, _⟩ | ⟨g, cap, cur, e, h1, h2, _⟩
  · cases e
  · injection e with e1
    injection e1 with e1
    subst e1
    exact ⟨rfl, h1, Blk.lt (t := T) (cs := cur) h2, T, cur, h2⟩
def VLstT {α : Type} (n : Nat) (R : Rel α) (w w' : World) (l : List α) (v : Value) : Prop := ∃ A c, v = .slice A l.length c ∧ SlG n R w' (fun k => w.heap.size ≤ k) A l ∧ ∀ a, A = some a → a = ⟨a.block, 0, none⟩ ∧ w.heap.size ≤ a.block ∧ a.block < w'.heap.size ∧ Bk w' a.block
def RUnT : Rel Un := fun w F u vs => RUn w F u vs ∧ ∃ A c B d C e, vs = [.string u.pkg, .slice A u.imps.length c, .slice B u.decls.length d, .slice C u.funs.length e] ∧ ∀ a, B = some a → a = ⟨a.block, 0, none⟩ ∧ F a.block ∧ a.block < w.heap.size ∧ Bk w a.block
theorem RUnT.run {w : World} {F : Nat → Prop} {u : Un} {vs : List Value} (h : RUnT w F u vs) : RUn w F u vs := h.1
theorem RUnT_keeps : Keeps RUnT := by
  intro w w' F F' u vs hk hs hF h
  obtain ⟨h1, A, c, B, d, C, e, hv, h2⟩ := h
  refine ⟨RUn_keeps _ _ _ _ _ _ hk hs hF h1, A, c, B, d, C, e, hv, fun a ha => ?_⟩
  obtain ⟨h0, h3, h4, t, cs, h5⟩ := h2 a ha
  exact ⟨h0, hF _ h4 h3, Nat.lt_of_lt_of_le h4 hs, t, cs, (hk _ h3 h4).trans h5⟩
theorem thaw_fin {wi wm wx w : World} {g q : Nat} {a : Addr} (h : a = ⟨a.block, 0, none⟩ ∧ wx.heap.size ≤ a.block ∧ a.block < wi.heap.size ∧ Bk wi a.block) (hg : Gr (fun x => x = g) wi wm) (h1 : g < wx.heap.size) (h2 : q < wx.heap.size) (h3 : w.heap.size ≤ wx.heap.size) {i : Nat} {vs : List Value} : a = ⟨a.block, 0, none⟩ ∧ w.heap.size ≤ a.block ∧ a.block < (putQ wm q i vs).heap.size ∧ Bk (putQ wm q i vs) a.block := by
  obtain ⟨h0, k1, k2, t, cs, k3⟩ := h
  have e1 : (putQ wm q i vs).heap.size = wm.heap.size := putQ_os q vs i wm
  refine ⟨h0, by omega, by have := hg.size; omega, t, cs, ?_⟩
  exact ((putQ_gr q vs i wm).block a.block (by have := hg.size; omega) (fun e => by have e2 : a.block = q := e; omega)).trans ((hg.block a.block k2 (fun e => by have e2 : a.block = g := e; omega)).trans k3)
theorem RUnT.keep4 {w : World} {b lo : Nat} {u : Un} {vs : List Value} (x0 x1 x2 x3 : Value) (h : RUnT w (fun k => lo ≤ k) u vs) (hb : b < lo) : RUnT ((((w.setCell ⟨b, 0, none⟩ x0).setCell ⟨b, 1, none⟩ x1).setCell ⟨b, 2, none⟩ x2).setCell ⟨b, 3, none⟩ x3) (fun k => lo ≤ k) u vs :=
  RUnT_keeps _ _ _ _ _ _ (fun g hg _ => Go.Proofs.Ytnkojjkijkhlbaa.keep4 x0 x1 x2 x3 (fun e => by have h2 : lo ≤ g := hg; omega)) (by simp) (fun _ _ h => h) h
def DecT (u : Un) (w : World) (e : Ending) (w' : World) : Prop := Below w.heap.size w w' ∧ ∃ vs : List Value, e = .returned (.tuple #[.agg vs.toArray, .int .i64 0]) ∧ RUnT w' (fun k => w.heap.size ≤ k) u vs
theorem DecT.good {w w' : World} {e : Ending} {u : Un} (hb : Below w.heap.size w w') (he : ∃ vs : List Value, e = .returned (.tuple #[.agg vs.toArray, .int .i64 0]) ∧ RUnT w' (fun k => w.heap.size ≤ k) u vs) : DecT u w e w' := ⟨hb, he⟩
set_option maxRecDepth 100000 in
set_option maxHeartbeats 8000000 in
theorem rlist_dlT (p : Rd Dl) (lo g : Nat) (LIM : Nat) (hp : ∀ (w : World) (A : Option Addr) (c : Nat) (bs : List Int), Rdr w lo g A c bs → bs.length ≤ LIM → Calls Try.prog 61 #[.pointer (some ⟨g, 0, none⟩)] w (RdP lo g (p bs) (VRec RDl) w)) (hle : Less p) (w : World) (A : Option Addr) (c : Nat) (bs : List Int) (h : Rdr w lo g A c bs) (hlim : bs.length ≤ LIM) :
    Calls Try.prog 60 #[.pointer (some ⟨g, 0, none⟩), .func (Fn.func 61) #[] #[]] w (RdP lo g (listR p bs) (VLstT 10 RDl) w) := by
  have HM := Lib.hid (rnumber_any w lo g A c bs h)
  have HPA := Lib.hid hp
  have HLE := Lib.hid hle
  have HLM := Lib.hid hlim
  have HB0 := Lib.hid h.sl.1
  have HGB := Lib.hid h.blk.lt
  have HL0 := Lib.hid h.len
  clear h hp hle hlim
  go_enter Try.func60, Try.ntmps60
  go_wp2_with (first
    | (go_at_call 35; ((with_reducible refine (refuse_any _).mono ?_); rintro e w2 ⟨rfl, rfl⟩))
    | (go_at_call 84; ((with_reducible refine HM.out.mono ?_); rintro e w1 h1); rcases h1.cases with ⟨ho, rfl, hg⟩ | ⟨x, b1, v, A1, c1, ho, rfl, ⟨rfl, hx0, hx1⟩, hr, hg⟩; (· exact post_bad rfl ((RdP.bad (bindR_none ho)).2 ⟨rfl, hg⟩)); have HR := Lib.hid hr; have HG1 := Lib.hid hg; have HO := Lib.hid (show listR p bs = (if x < 0 then none else repR p x.toNat b1) from bindR_of ho); have HBL := Lib.hid (show b1.length ≤ bs.length by (obtain ⟨rfl, _⟩ := wordR_bwd _ _ _ HB0.out ho); rw [List.length_append]; omega); clear h1 ho hr hg))
  · have hx : x < 0 := by assumption
    have ho : listR p bs = none := by rw [HO.out, if_pos hx]
    exact post_bad rfl ((RdP.bad ho).2 ⟨rfl, HG1.out⟩)
  · have hx : ¬ x < 0 := by first | assumption | omega
    obtain ⟨N, rfl⟩ : ∃ N : Nat, x = (N : Int) := ⟨x.toNat, by omega⟩
    have HO2 := Lib.hid (show listR p bs = bindR (repR p N) (fun r => retR ([] ++ r)) b1 by rw [HO.out, if_neg hx, ← bindR_ret]; simp)
    clear hx
    go_loopg [13, 6] N (fun gk v13 v6 wr => ∃ (j : Nat) (B : Option Addr) (d : Nat) (l : List Dl) (xs : List Value) (A' : Option Addr) (c' : Nat) (b' : List Int), j + gk = N ∧ v13 = .int .i64 j ∧ v6 = .slice B l.length d ∧ Pts 10 47 RDl wr w.heap.size B d l xs ∧ Rdr wr lo g A' c' b' ∧ Gr (fun x => x = g) w wr ∧ l.length + b'.length ≤ b1.length ∧ listR p bs = bindR (repR p gk) (fun r => retR (l ++ r)) b')
    case atStart => exact ⟨0, none, 0, [], [], A1, c1, b1, by omega, rfl, rfl, ⟨World.ownsRow_nil _ _ _ _, rfl, HG1.out.size⟩, HR.out, HG1.out, by simp, HO2.out⟩
    case round =>
      obtain ⟨j, B, d, l, xs, A', c', b', hj, rfl, rfl, hpt, hrd, hg, hln, heq⟩ := hrel
      have HP := Lib.hid hpt
      have HRD := Lib.hid hrd
      have HG := Lib.hid hg
      have HLN := Lib.hid (show l.length ≤ 262144 by have := HBL.out; have := HL0.out; omega)
      have HLL := Lib.hid hln
      have HEQ := Lib.hid heq
      cases gk with
      | zero =>
        obtain rfl : j = N := by omega
        have HF := Lib.hid (hpt.fin RDl_keeps RDl_sized (by omega))
        have HTH := Lib.hid (own_thaw hpt.own)
        clear hj hpt hrd hg hln heq
        go_wp2
        go_ret
        exact (RdP.good (HEQ.out.trans rep_end)).2 ⟨_, A', c', rfl, ⟨B, d, rfl, HF.out, HTH.out⟩, HRD.out, HG.out⟩
      | succ f =>
        have j1 : (j : Int) < (N : Int) := by omega
        have j0 : (0 : Int) ≤ (j : Int) := by omega
        have HPT := Lib.hid (HPA.out wr A' c' b' hrd (by have := HLM.out; have := HBL.out; omega))
        have HOLD := Lib.hid (fun q (hq : (Value.slice B l.length d).ownBlock = some q) => (hpt.own.lt q hq).2)
        have HSB := Lib.hid hpt.size
        clear hpt hrd hg hln heq
        go_wp2_with ((first
      | (at_builtin; refine wpList_app rfl _ _ _ _ rfl _ _ rfl rfl _ (app_rec (T := 47) Try.underlying23 (z := .agg #[.int .i64 0, .string ⟨#[]⟩, .string ⟨#[]⟩, .int .i64 0, .int .i64 0, .string ⟨#[]⟩, .string ⟨#[]⟩, .slice none 0 0, .slice none 0 0, .slice none 0 0]) (n := 10) (bytes := 160) (by kernel_rfl) rfl (by omega) (HP2.out.own.kept (row := none) HB3.out (by cases hv : (Value.slice B l.length d).ownBlock <;> simp)) 23 (vs := [.int .i64 dk9, .string dn9, .string do9, .int .i64 dv9, .int .i64 k9, .string p9, .string n9, .slice A9 m9 c9, .slice B9 l9 d9, .slice Af9 fs9.length cf9]) (Blk.new _ _ _) rfl (by intro u hu; simp at hu; rcases hu with rfl | rfl | rfl | rfl | rfl | rfl | rfl | rfl | rfl | rfl <;> rfl) (by have := HLN.out; omega) (by omega) (by have := HP2.out.size; simp; omega)) ?_; rintro v3 w3 ⟨ho3, hg3, hn3⟩; obtain ⟨B3, d3', rfl⟩ := own_shape ho3; have HO3 := Lib.hid ho3; have HG3 := Lib.hid hg3; have HN3 := Lib.hid hn3; clear ho3 hg3 hn3)
      | (go_at_call 61; ((with_reducible refine HPT.out.mono ?_); rintro e w2 h2); rcases h2.cases with ⟨ho, rfl, hg⟩ | ⟨x, b2, v, A2, c2, ho, rfl, ⟨vs, rfl, hs⟩, hr, hg⟩; (· exact post_bad rfl ((RdP.bad (HEQ.out.trans (rep_none ho))).2 ⟨rfl, HG.out.trans hg⟩)); obtain ⟨dk9, dn9, do9, dv9, dt9, fs9⟩ := x; have hsh := hs; obtain ⟨tv9, Af9, cf9, e9, ht9, hf9⟩ := hsh; obtain ⟨k9, p9, n9, A9, m9, c9, B9, l9, d9, e8⟩ := RT.shape ht9; subst e8; subst e9; clear ht9 hf9; simp only [tyC, List.cons_append, List.nil_append] at hs ⊢; have HS := Lib.hid hs; have HP2 := Lib.hid (HP.out.gr RDl_keeps hg HGB.out); have HR2 := Lib.hid hr; have HG2 := Lib.hid (HG.out.trans hg); have HE2 := Lib.hid (HEQ.out.trans (rep_some ho)); have HLS := Lib.hid (HLE.out _ _ _ HRD.out.sl.1 ho); have HB3 := Lib.hid (show w2.grownBy (w2.alloc (.cells #[.int .i64 dk9, .string dn9, .string do9, .int .i64 dv9, .int .i64 k9, .string p9, .string n9, .slice A9 m9 c9, .slice B9 l9 d9, .slice Af9 fs9.length cf9] 47)) none from ⟨rfl, rfl, rfl, by simp, fun k hk _ => Below.heap_alloc w2 _ k hk⟩); have HSZ := Lib.hid hg.size; clear h2 ho hs hr hg)))
        have HPN := Lib.hid (HP2.out.more RDl_keeps rfl HS.out HSB.out HOLD.out HO3.out HG3.out HN3.out)
        have HGW := Lib.hid (show Gr (fun x => x = g) w w3 from (HG2.out.alloc (.cells #[.int .i64 dk9, .string dn9, .string do9, .int .i64 dv9, .int .i64 k9, .string p9, .string n9, .slice A9 m9 c9, .slice B9 l9 d9, .slice Af9 fs9.length cf9] 47)).wide (Gr.of_grown (S := fun x => (Value.slice B l.length d).ownBlock = some x) HG3.out (fun k e _ => e)) (fun n hn e => absurd (HP2.out.own.lt n e).1 (by omega)))
        have HR3 := Lib.hid ((HR2.out.bel ((Below.refl _ _).alloc (Nat.le_refl _) (.cells #[.int .i64 dk9, .string dn9, .string do9, .int .i64 dv9, .int .i64 k9, .string p9, .string n9, .slice A9 m9 c9, .slice B9 l9 d9, .slice Af9 fs9.length cf9] 47))).grown HG3.out (fun k e => Nat.lt_of_lt_of_le HGB.out (HP2.out.own.lt k e).1))
        go_roundg f
        case measure => omega
        case rel => exact ⟨j + 1, B3, d3', _, _, A2, c2, b2, by omega, by go_num, by rw [List.length_append]; rfl, HPN.out, HR3.out, HGW.out, by have := HLL.out; have := HLS.out; rw [List.length_append]; simp only [List.length_cons, List.length_nil]; omega, HE2.out⟩
set_option maxRecDepth 100000 in
set_option maxHeartbeats 8000000 in
theorem run_anyT (f : Nat) (w : World) (lo g : Nat) (A : Option Addr) (c : Nat) (bs : List Int) (h : Rdr w lo g A c bs) (hlim : bs.length < f) :
    Calls Try.prog 33 #[.pointer (some ⟨g, 0, none⟩)] w (RdP lo g (unR f bs) (VRec RUnT) w) := by
  have hb0 : Below w.heap.size w (w.alloc (.cells #[.string ⟨#[]⟩, .slice none 0 0, .slice none 0 0, .slice none 0 0] 26)) := (Below.refl _ w).alloc (Nat.le_refl _) _
  have HK0 := Lib.hid (Blk.new w 26 #[.string ⟨#[]⟩, .slice none 0 0, .slice none 0 0, .slice none 0 0])
  have HG0 := Lib.hid (Gr.refl (S := fun x => x = g) (w.alloc (.cells #[.string ⟨#[]⟩, .slice none 0 0, .slice none 0 0, .slice none 0 0] 26)))
  have HGX := Lib.hid (Gr.of_below (S := fun x => x = g) hb0)
  have HNE := Lib.hid (show g ≠ w.heap.size by have := h.blk.lt; omega)
  have HLT := Lib.hid h.blk.lt
  have HE1 := Lib.hid (show unR f bs = _ from rfl)
  have HM1 := Lib.hid (rtext_any _ lo g A c bs (h.bel hb0))
  have HBY := Lib.hid h.sl.1
  have HBS := Lib.hid hlim
  have HPI := Lib.hid (fun w A c bs (h : Rdr w lo g A c bs) (hl : bs.length ≤ f) => rim_any w lo g A c bs h)
  have HPD := Lib.hid (fun w A c bs (h : Rdr w lo g A c bs) (hl : bs.length ≤ f - 1) => rdl_any f w lo g A c bs h (by omega))
  have HPF := Lib.hid (fun w A c bs (h : Rdr w lo g A c bs) (hl : bs.length ≤ f - 1) => rfn_any f w lo g A c bs h (by omega))
  clear h hb0
  go_enter Try.func33, Try.ntmps33
  go_wp2_with (first | (go_at_call 62; ((with_reducible refine HM4.out.mono ?_); rintro e w4 h4); rcases h4.cases with ⟨ho, rfl, hg⟩ | ⟨x4, b4, v4, A4, c4, ho, rfl, hv, hr, hg⟩; (· exact post_bad rfl ((RdP.bad (HE4.out.trans (bindR_none ho))).2 ⟨rfl, HGX.out.trans (HG3.out.trans hg)⟩)); obtain ⟨B4, d4, rfl, hs4⟩ := hv; have HS4 := Lib.hid hs4; have HE5 := Lib.hid (HE4.out.trans (bindR_of ho)); have HR4 := Lib.hid hr; have hg4 := HG3.out.trans hg; have HG4 := Lib.hid hg4; have HH4 := Lib.hid hg; have hk4 := Gr.blk hg4 HK0.out (fun e => HNE.out e.symm); have y40 := Blk.cell hk4 0; have f40 := Blk.frozen hk4 0; have y41 := Blk.cell hk4 1; have f41 := Blk.frozen hk4 1; have y42 := Blk.cell hk4 2; have f42 := Blk.frozen hk4 2; have y43 := Blk.cell hk4 3; have f43 := Blk.frozen hk4 3; have yl4 := Blk.lt hk4; have HZ4 := Lib.hid hg4.size; have HLn4 := Lib.hid (show b4.length < bs.length by (have p := (listR_less (fnR_bwd f)) _ _ _ (HR3.out.sl.1) ho; have q := HLn3.out; omega)); clear h4 ho hr hg hg4 hk4 hs4) | (go_at_call 60; ((with_reducible refine HM3.out.mono ?_); rintro e w3 h3); rcases h3.cases with ⟨ho, rfl, hg⟩ | ⟨x3, b3, v3, A3, c3, ho, rfl, hv, hr, hg⟩; (· exact post_bad rfl ((RdP.bad (HE3.out.trans (bindR_none ho))).2 ⟨rfl, HGX.out.trans (HG2.out.trans hg)⟩)); obtain ⟨B3, d3, rfl, hs3, ht3⟩ := hv; have HT3 := Lib.hid ht3; have HS3 := Lib.hid hs3; have HE4 := Lib.hid (HE3.out.trans (bindR_of ho)); have HR3 := Lib.hid hr; have hg3 := HG2.out.trans hg; have HG3 := Lib.hid hg3; have HH3 := Lib.hid hg; have hk3 := Gr.blk hg3 HK0.out (fun e => HNE.out e.symm); have y30 := Blk.cell hk3 0; have f30 := Blk.frozen hk3 0; have y31 := Blk.cell hk3 1; have f31 := Blk.frozen hk3 1; have y32 := Blk.cell hk3 2; have f32 := Blk.frozen hk3 2; have y33 := Blk.cell hk3 3; have f33 := Blk.frozen hk3 3; have yl3 := Blk.lt hk3; have HZ3 := Lib.hid hg3.size; have HLn3 := Lib.hid (show b3.length < bs.length by (have p := (listR_less (dlR_bwd f)) _ _ _ (HR2.out.sl.1) ho; have q := HLn2.out; omega)); have HM4 := Lib.hid (rlist_fn (fnR f) lo g (f - 1) HPF.out (Bwd.less (fnR_bwd f) encFn_pos) w3 A3 c3 b3 hr (by have := HLn3.out; have := HBS.out; omega)); clear h3 ho hr hg hg3 hk3 hs3) | (go_at_call 58; ((with_reducible refine HM2.out.mono ?_); rintro e w2 h2); rcases h2.cases with ⟨ho, rfl, hg⟩ | ⟨x2, b2, v2, A2, c2, ho, rfl, hv, hr, hg⟩; (· exact post_bad rfl ((RdP.bad (HE2.out.trans (bindR_none ho))).2 ⟨rfl, HGX.out.trans (HG1.out.trans hg)⟩)); obtain ⟨B2, d2, rfl, hs2⟩ := hv; have HS2 := Lib.hid hs2; have HE3 := Lib.hid (HE2.out.trans (bindR_of ho)); have HR2 := Lib.hid hr; have hg2 := HG1.out.trans hg; have HG2 := Lib.hid hg2; have HH2 := Lib.hid hg; have hk2 := Gr.blk hg2 HK0.out (fun e => HNE.out e.symm); have y20 := Blk.cell hk2 0; have f20 := Blk.frozen hk2 0; have y21 := Blk.cell hk2 1; have f21 := Blk.frozen hk2 1; have y22 := Blk.cell hk2 2; have f22 := Blk.frozen hk2 2; have y23 := Blk.cell hk2 3; have f23 := Blk.frozen hk2 3; have yl2 := Blk.lt hk2; have HZ2 := Lib.hid hg2.size; have HLn2 := Lib.hid (show b2.length < bs.length by (have p := (listR_less imR_bwd) _ _ _ (HR1.out.sl.1) ho; have q := HLn1.out; omega)); have HM3 := Lib.hid (rlist_dlT (dlR f) lo g (f - 1) HPD.out (Bwd.less (dlR_bwd f) encD_pos) w2 A2 c2 b2 hr (by have := HLn2.out; have := HBS.out; omega)); clear h2 ho hr hg hg2 hk2 hs2) | (go_at_call 57; ((with_reducible refine HM1.out.mono ?_); rintro e w1 h1); rcases h1.cases with ⟨ho, rfl, hg⟩ | ⟨x1, b1, v1, A1, c1, ho, rfl, hv, hr, hg⟩; (· exact post_bad rfl ((RdP.bad (HE1.out.trans (bindR_none ho))).2 ⟨rfl, HGX.out.trans (HG0.out.trans hg)⟩)); obtain rfl := (show _ = _ from hv); have HE2 := Lib.hid (HE1.out.trans (bindR_of ho)); have HR1 := Lib.hid hr; have hg1 := HG0.out.trans hg; have HG1 := Lib.hid hg1; have HH1 := Lib.hid hg; have hk1 := Gr.blk hg1 HK0.out (fun e => HNE.out e.symm); have y10 := Blk.cell hk1 0; have f10 := Blk.frozen hk1 0; have y11 := Blk.cell hk1 1; have f11 := Blk.frozen hk1 1; have y12 := Blk.cell hk1 2; have f12 := Blk.frozen hk1 2; have y13 := Blk.cell hk1 3; have f13 := Blk.frozen hk1 3; have yl1 := Blk.lt hk1; have HZ1 := Lib.hid hg1.size; have HLn1 := Lib.hid (show b1.length < bs.length by (have p := textR_less _ _ _ (HBY.out) ho; omega)); have HM2 := Lib.hid (rlist_im imR lo g f HPI.out (Bwd.less imR_bwd encIm_pos) w1 A1 c1 b1 hr (by have := HLn1.out; have := HBS.out; omega)); clear h1 ho hr hg hg1 hk1 ))
  have hlt := Nat.lt_of_lt_of_le (show w.heap.size < (w.alloc (.cells #[.string ⟨#[]⟩, .slice none 0 0, .slice none 0 0, .slice none 0 0] 26)).heap.size by simp) HZ4.out
  refine bodyPost_ret (v := .agg #[.string x1, .slice B2 x2.length d2, .slice B3 x3.length d3, .slice B4 x4.length d4]) (by simp [results, Try.results33, go_sem, y40, y41, y42, y43, yl4]) rfl ?_
  clear y40 y41 y42 y43 yl4
  have hw0 : (w.alloc (.cells #[.string ⟨#[]⟩, .slice none 0 0, .slice none 0 0, .slice none 0 0] 26)).heap.size = w.heap.size + 1 := by simp
  have hgl := HLT.out
  have z1 := HZ1.out
  have z2 := HZ2.out
  have z3 := HZ3.out
  have z4 := HZ4.out
  have HF2 := SlG.fin RIm_keeps (w := w) (q := w.heap.size) HS2.out (HH3.out.trans HH4.out) (by omega) (by omega) (by omega) 0 [.string x1, .slice B2 x2.length d2, .slice B3 x3.length d3, .slice B4 x4.length d4]
  have HF3 := SlG.fin RDl_keeps (w := w) (q := w.heap.size) HS3.out HH4.out (by omega) (by omega) (by omega) 0 [.string x1, .slice B2 x2.length d2, .slice B3 x3.length d3, .slice B4 x4.length d4]
  have HF4 := SlG.fin RFn_keeps (w := w) (q := w.heap.size) HS4.out (Gr.refl _) (by omega) (by omega) (by omega) 0 [.string x1, .slice B2 x2.length d2, .slice B3 x3.length d3, .slice B4 x4.length d4]
  have HG9 := Gr.fin rfl HG4.out 0 [.string x1, .slice B2 x2.length d2, .slice B3 x3.length d3, .slice B4 x4.length d4]
  have HR9 := HR4.out.putQ HLT.out 0 [.string x1, .slice B2 x2.length d2, .slice B3 x3.length d3, .slice B4 x4.length d4]
  have HT9 := fun (a : Addr) (ha : B3 = some a) => thaw_fin (w := w) (q := w.heap.size) (i := 0) (vs := [.string x1, .slice B2 x2.length d2, .slice B3 x3.length d3, .slice B4 x4.length d4]) (HT3.out a ha) HH4.out (by omega) (by omega) (by omega)
  exact (RdP.good (HE5.out.trans rfl)).2 ⟨_, A4, c4, rfl, ⟨[.string x1, .slice B2 x2.length d2, .slice B3 x3.length d3, .slice B4 x4.length d4], rfl, ⟨⟨B2, d2, B3, d3, B4, d4, rfl, HF2, HF3, HF4⟩, ⟨_, _, _, _, _, _, rfl, HT9⟩⟩⟩, HR9, HG9⟩
set_option maxRecDepth 100000 in
set_option maxHeartbeats 4000000 in
theorem dec_okT (w : World) (B : Nat) (A : Option Addr) (c : Nat) (l : List Int) (hs : SlB w B A l) (hB : B ≤ w.heap.size) (hc : l.length ≤ c) (hA : A = none → c = 0) (hl : l.length ≤ 262144) {a r rest : List Int} {u : Un} (ho : unsP l = some a) (hw : wantR ⟨#[77, 85, 49, 10]⟩ a = some ((), r)) (hn : unR 262145 r = some (u, rest)) (hr : rest.length = 0) (hd : deepU u = false) :
    Calls Try.prog 18 #[.slice A l.length c] w (DecT u w) := by
  have hmf : ∀ (fn : Fn) (first cap : Array Value) (w : World), (Instr.makeFunc fn first cap).run Try.prog w = .ok (.func fn first cap) w := fun _ _ _ _ => rfl
  have k2 : Blk ((w.alloc (.cells #[.string ⟨#[]⟩, .slice none 0 0, .slice none 0 0, .slice none 0 0] 26)).alloc (.cells #[.int .i64 0] 30)) w.heap.size 26 Z4u := (Blk.new w 26 Z4u).alloc _
  have k3 : Blk ((w.alloc (.cells #[.string ⟨#[]⟩, .slice none 0 0, .slice none 0 0, .slice none 0 0] 26)).alloc (.cells #[.int .i64 0] 30)) (w.heap.size + 1) 30 #[.int .i64 0] := by
    have h := Blk.new (w.alloc (.cells #[.string ⟨#[]⟩, .slice none 0 0, .slice none 0 0, .slice none 0 0] 26)) 30 #[.int .i64 0]
    have e : (w.alloc (.cells #[.string ⟨#[]⟩, .slice none 0 0, .slice none 0 0, .slice none 0 0] 26)).heap.size = w.heap.size + 1 := by simp
    rw [e] at h
    exact h
  have hb0 : Below w.heap.size w ((w.alloc (.cells #[.string ⟨#[]⟩, .slice none 0 0, .slice none 0 0, .slice none 0 0] 26)).alloc (.cells #[.int .i64 0] 30)) := ((Below.refl _ w).alloc (Nat.le_refl _) _).alloc (by simp) _
  have hsz0 : ((w.alloc (.cells #[.string ⟨#[]⟩, .slice none 0 0, .slice none 0 0, .slice none 0 0] 26)).alloc (.cells #[.int .i64 0] 30)).heap.size = w.heap.size + 2 := by simp
  have n1 : (l.length : Int) ≤ 262144 := by omega
  have K2 := Lib.hid k2
  have K3 := Lib.hid k3
  have HB0 := Lib.hid hb0
  have HZ0 := Lib.hid hsz0
  obtain ⟨k, hak, hkl⟩ := unsP_le ho
  have hal : a.length ≤ l.length := by rw [hak, List.length_take]; omega
  have HU := Lib.hid (uns_any ((w.alloc (.cells #[.string ⟨#[]⟩, .slice none 0 0, .slice none 0 0, .slice none 0 0] 26)).alloc (.cells #[.int .i64 0] 30)) w.heap.size A c l ⟨hs.1, (hs.2.below (hb0.mono hB)).more hB⟩ (by rw [hsz0]; omega) hc hA hl)
  have HR0 := Lib.hid (fun w1 (hb1 : Below ((w.alloc (.cells #[.string ⟨#[]⟩, .slice none 0 0, .slice none 0 0, .slice none 0 0] 26)).alloc (.cells #[.int .i64 0] 30)).heap.size ((w.alloc (.cells #[.string ⟨#[]⟩, .slice none 0 0, .slice none 0 0, .slice none 0 0] 26)).alloc (.cells #[.int .i64 0] 30)) w1) => (show Rdr (w1.alloc (.cells #[.slice A a.length c] 69)) w.heap.size w1.heap.size A c a from
    ⟨Blk.new _ _ _, by rw [hak]; exact SlB.take_ ⟨hs.1, (hs.2.below (((hb0.mono hB).trans (hb1.mono (by rw [hsz0]; omega))).alloc (Nat.le_trans hB (by have := hb1.size; rw [hsz0] at this; omega)) _)).more hB⟩ k hkl, by omega, hA, by omega, by have := hb1.size; rw [hsz0] at this; omega⟩))
  have HAL := Lib.hid hal
  have hbr : Byt r := by rw [(want_rest hw).2, hak]; exact Byt.drop (Byt.take hs.1 k) _
  have hrl : r.length ≤ a.length := by rw [(want_rest hw).2, List.length_drop]; omega
  have hru := (unR_bwd 262145 _ _ _ hbr hn).1
  have hul : (encU u).length ≤ 262144 := by have := congrArg List.length hru; rw [List.length_append] at this; omega
  have HUK := Lib.hid (szU 140737488355328 u (by omega))
  have HUL := Lib.hid hul
  rw [ho] at HU
  have HX := Lib.hid (show (if rest.length = 0 then Ending.returned (.tuple #[]) else (Ending.panicked [{ v := .iface 30 (.int .i64 4), recovered := false }])) = Ending.returned (.tuple #[]) from if_pos hr)
  have HD := Lib.hid hd
  have HW := Lib.hid hw
  have HN := Lib.hid hn
  clear hs hB hc hA hl ho k2 k3 hb0 hsz0 hak hkl hal hw hn hbr hrl hru hul hr hd
  go_enter_defers Try.func18, Try.ntmps18
  go_wp2_with (first
    | (go_at_call 21; ((with_reducible refine (show Calls Try.prog 21 #[.agg #[.string u.pkg, .slice A5 u.imps.length c5, .slice A6 u.decls.length c6, .slice A7 u.funs.length c7]] w4 (TruthP w4 false) from HD.out ▸ tooDeep_any u (by have := HUK.out.1; have := HUL.out; omega) HUK.out.2 w4 _ (fun k hk => hk.2) _ HR4.out.run.slim).mono ?_); rintro e w5 ⟨rfl, hb5⟩); have KU5 := Lib.hid (KU4.out.bel2 hb5); have KE5 := Lib.hid (KE4.out.bel2 hb5); have HB5 := Lib.hid (HB4.out.trans (hb5.mono HB4.out.size)); have HR5 := Lib.hid (RUnT_keeps.bel HR4.out hb5); have x0 : w5.cell? ⟨w.heap.size, 0, none⟩ = some (.string u.pkg) := KU5.out.cell 0; have x1 : w5.cell? ⟨w.heap.size, 1, none⟩ = some (.slice A5 u.imps.length c5) := KU5.out.cell 1; have x2 : w5.cell? ⟨w.heap.size, 2, none⟩ = some (.slice A6 u.decls.length c6) := KU5.out.cell 2; have x3 : w5.cell? ⟨w.heap.size, 3, none⟩ = some (.slice A7 u.funs.length c7) := KU5.out.cell 3; have xf := KU5.out.frozen; have xl := KU5.out.lt; have xe := KE5.out.cell 0; have xef := KE5.out.frozen; have xel := KE5.out.lt; clear hb5 z0 z1 z2 z3 zl)
    | (go_at_call 34; ((with_reducible refine HE4.out.mono ?_); rintro e w4 ⟨h9, hku4, hke4, hb4, hr4⟩); rw [HX.out] at h9; subst h9; have KU4 := Lib.hid hku4; have KE4 := Lib.hid hke4; have HB4 := Lib.hid hb4; have HR4 := Lib.hid hr4; have z0 : w4.cell? ⟨w.heap.size, 0, none⟩ = some (.string u.pkg) := hku4.cell 0; have z1 : w4.cell? ⟨w.heap.size, 1, none⟩ = some (.slice A5 u.imps.length c5) := hku4.cell 1; have z2 : w4.cell? ⟨w.heap.size, 2, none⟩ = some (.slice A6 u.decls.length c6) := hku4.cell 2; have z3 : w4.cell? ⟨w.heap.size, 3, none⟩ = some (.slice A7 u.funs.length c7) := hku4.cell 3; have zl := hku4.lt; clear hku4 hke4 hb4 hr4 y0 y1 y2 y3 yf yl)
    | (go_at_call 33; ((with_reducible refine (run_anyT 262145 w2 w.heap.size w1.heap.size A2 c2 r HR2.out (by have := HR2.out.len; omega)).mono ?_); rintro e w3 h2); obtain ⟨v, A3, c3, rfl, ⟨vs, rfl, hs3⟩, hr3, hg⟩ := (RdP.good HN.out).1 h2; have hs4 := RUnT_keeps _ _ _ (fun k => w.heap.size + 2 ≤ k) _ _ (fun g _ _ => rfl) (Nat.le_refl _) (fun g _ h => (show w.heap.size + 2 ≤ g from by have h : w2.heap.size ≤ g := h; have := KE2.out.lt; omega)) hs3; clear hs3; obtain ⟨A5, c5, A6, c6, A7, c7, rfl, hs5⟩ := hs4.run; clear hs5; have HS3 := Lib.hid hs4; clear hs4; have HR3 := Lib.hid hr3; have KU3 := Lib.hid (Gr.blk hg KU2.out (show w.heap.size ≠ w1.heap.size by have := HZ1.out; omega)); have KE3 := Lib.hid (Gr.blk hg KE2.out (show w.heap.size + 1 ≠ w1.heap.size by have := HZ1.out; omega)); have HB3 := Lib.hid (HB2.out.trans (Gr.belowN hg HB2.out.size (by intro q h1 h2; have h2 : q = w1.heap.size := h2; have := HZ1.out; omega))); have HE4 := Lib.hid ((end_any ((((w3.setCell ⟨w.heap.size, 0, none⟩ (.string u.pkg)).setCell ⟨w.heap.size, 1, none⟩ (.slice A5 u.imps.length c5)).setCell ⟨w.heap.size, 2, none⟩ (.slice A6 u.decls.length c6)).setCell ⟨w.heap.size, 3, none⟩ (.slice A7 u.funs.length c7)) w1.heap.size A3 c3 rest.length (Blk.far4 _ _ _ _ HR3.out.blk (by have := HZ1.out; omega)) HR3.out.len).mono (fun e w' (h9 : ((((w3.setCell ⟨w.heap.size, 0, none⟩ (.string u.pkg)).setCell ⟨w.heap.size, 1, none⟩ (.slice A5 u.imps.length c5)).setCell ⟨w.heap.size, 2, none⟩ (.slice A6 u.decls.length c6)).setCell ⟨w.heap.size, 3, none⟩ (.slice A7 u.funs.length c7)) = w' ∧ e = if rest.length = 0 then .returned (.tuple #[]) else (Ending.panicked [{ v := .iface 30 (.int .i64 4), recovered := false }])) => (show (e = if rest.length = 0 then .returned (.tuple #[]) else (Ending.panicked [{ v := .iface 30 (.int .i64 4), recovered := false }])) ∧ Blk w' w.heap.size 26 #[.string u.pkg, .slice A5 u.imps.length c5, .slice A6 u.decls.length c6, .slice A7 u.funs.length c7] ∧ Blk w' (w.heap.size + 1) 30 #[.int .i64 0] ∧ Below w.heap.size w w' ∧ RUnT w' (fun k => w.heap.size + 2 ≤ k) u [.string u.pkg, .slice A5 u.imps.length c5, .slice A6 u.decls.length c6, .slice A7 u.funs.length c7] from by (obtain ⟨h8, h7⟩ := h9; subst h8; exact ⟨h7, KU3.out.four _ _ _ _, Blk.far4 _ _ _ _ KE3.out (by omega), below4 _ _ _ _ HB3.out, RUnT.keep4 _ _ _ _ HS3.out (by omega)⟩)))); have y0 : w3.cell? ⟨w.heap.size, 0, none⟩ = some (.string ⟨#[]⟩) := KU3.out.cell 0; have y1 : w3.cell? ⟨w.heap.size, 1, none⟩ = some (.slice none 0 0) := KU3.out.cell 1; have y2 : w3.cell? ⟨w.heap.size, 2, none⟩ = some (.slice none 0 0) := KU3.out.cell 2; have y3 : w3.cell? ⟨w.heap.size, 3, none⟩ = some (.slice none 0 0) := KU3.out.cell 3; have yf := KU3.out.frozen; have yl := KU3.out.lt; clear h2 hr3 hg)
    | (go_at_call 32; ((with_reducible refine (want_any _ _ w.heap.size w1.heap.size A c a HR1.out (by decide)).mono ?_); rintro e w2 h2); obtain ⟨v, A2, c2, rfl, h2v, hr2, hg⟩ := (RdP.good HW.out).1 h2; obtain rfl := (show _ = _ from h2v); have HR2 := Lib.hid hr2; have KU2 := Lib.hid (Gr.blk hg KU1.out (show w.heap.size ≠ w1.heap.size by have := HZ1.out; omega)); have KE2 := Lib.hid (Gr.blk hg KE1.out (show w.heap.size + 1 ≠ w1.heap.size by have := HZ1.out; omega)); have HB2 := Lib.hid (HB1.out.trans (Gr.belowN hg HB1.out.size (by intro q h1 h2; have h2 : q = w1.heap.size := h2; have := HZ1.out; omega))); clear h2 hr2 hg)
    | (go_at_call 31; ((with_reducible refine HU.out.mono ?_); rintro e w1 ⟨hb1, rfl⟩); have HR1 := Lib.hid (HR0.out w1 hb1); have HB1 := Lib.hid ((HB0.out.trans (hb1.mono (by rw [HZ0.out]; omega))).alloc (show w.heap.size ≤ w1.heap.size by have := hb1.size; rw [HZ0.out] at this; omega) (.cells #[.slice A a.length c] 69)); have KU1 := Lib.hid ((K2.out.bel2 hb1).alloc (.cells #[.slice A a.length c] 69)); have KE1 := Lib.hid ((K3.out.bel2 hb1).alloc (.cells #[.slice A a.length c] 69)); have HZ1 := Lib.hid (show w.heap.size + 2 ≤ w1.heap.size by have := hb1.size; rw [HZ0.out] at this; omega); clear hb1))
  refine leave_back _ w.heap.size (w.heap.size + 1) _ _ _ _ _ _ rfl rfl (Blk.far (KU5.out.four _ _ _ _) (show w.heap.size ≠ w.heap.size + 1 by omega) _) ((Blk.far4 _ _ _ _ KE5.out (by omega)).set_ 0 _) (DecT.good ((below4 _ _ _ _ HB5.out).setCell (show w.heap.size ≤ w.heap.size + 1 by omega) _) ⟨_, rfl, ?_⟩)
  exact RUnT_keeps _ _ _ _ _ _ (fun g hg _ => Below.heap_setCell _ ⟨w.heap.size + 1, 0, none⟩ _ g (by have hg : w.heap.size + 2 ≤ g := hg; show g ≠ w.heap.size + 1; omega)) (by simp) (fun g _ h => by have h : w.heap.size + 2 ≤ g := h; show w.heap.size ≤ g; omega) (RUnT.keep4 _ _ _ _ HR5.out (by omega))
/-- What was written is read, into memory that may be written. -/
theorem dec_encT {u : Un} {l : List Int} (hok : u.ok 140737488355328) (hru : u.rng) (hcn : u.cnt ≤ 262145) (h : encR u = (l, 0)) (w : World) (B : Nat) (A : Option Addr) (c : Nat) (hs : SlB w B A l) (hB : B ≤ w.heap.size) (hc : l.length ≤ c) (hA : A = none → c = 0) :
    Calls Try.prog 18 #[.slice A l.length c] w (DecT u w) := by
  obtain ⟨e, hd, hf⟩ := encR_ok h
  have h1 : unsP l = some (encM u) := by rw [e]; exact unsP_enc _
  have h2 : wantR ⟨#[77, 85, 49, 10]⟩ (encM u) = some ((), encU u) := wantR_enc _
  have h3 := unR_fwd 262145 u [] ⟨hok, hru, hcn, by omega⟩
  rw [List.append_nil] at h3
  exact dec_okT w B A c l hs hB hc hA (by rw [e, List.length_append, le8_len]; omega) h1 h2 h3 rfl hd
end Go.Proofs.Ytnkojjkijkhlbaa
