/-
  Fields and declarations read: walks.
-/
import Derived.Test.YtnkojjkijkhlbaaRd
namespace Go.Proofs.Ytnkojjkijkhlbaa
open Go.RowKit
set_option linter.unusedVariables false
set_option linter.unusedSimpArgs false

set_option maxRecDepth 100000 in
set_option maxHeartbeats 8000000 in
theorem rfi_any (f : Nat) (w : World) (lo g : Nat) (A : Option Addr) (c : Nat) (bs : List Int) (h : Rdr w lo g A c bs) (hlim : bs.length < f) :
    Calls Try.prog 87 #[.pointer (some ⟨g, 0, none⟩)] w (RdP lo g (fiR f bs) (VRec RFi) w) := by
  have hb0 : Below w.heap.size w (w.alloc (.cells #[.string ⟨#[]⟩, .int .i64 0, .string ⟨#[]⟩, .string ⟨#[]⟩, .slice none 0 0, .slice none 0 0] 74)) := (Below.refl _ w).alloc (Nat.le_refl _) _
  have HK0 := Lib.hid (Blk.new w 74 #[.string ⟨#[]⟩, .int .i64 0, .string ⟨#[]⟩, .string ⟨#[]⟩, .slice none 0 0, .slice none 0 0])
  have HG0 := Lib.hid (Gr.refl (S := fun x => x = g) (w.alloc (.cells #[.string ⟨#[]⟩, .int .i64 0, .string ⟨#[]⟩, .string ⟨#[]⟩, .slice none 0 0, .slice none 0 0] 74)))
  have HGX := Lib.hid (Gr.of_below (S := fun x => x = g) hb0)
  have HNE := Lib.hid (show g ≠ w.heap.size by have := h.blk.lt; omega)
  have HLT := Lib.hid h.blk.lt
  have HE1 := Lib.hid (show fiR f bs = _ from rfl)
  have HM1 := Lib.hid (rtext_any _ lo g A c bs (h.bel hb0))
  have HBY := Lib.hid h.sl.1
  have HBS := Lib.hid hlim
  clear h hb0
  go_enter Try.func87, Try.ntmps87
  go_wp2_with (first | (go_at_call 85; ((with_reducible refine HM2.out.mono ?_); rintro e w2 h2); rcases h2.cases with ⟨ho, rfl, hg⟩ | ⟨x2, b2, v2, A2, c2, ho, rfl, hv, hr, hg⟩; (· exact post_bad rfl ((RdP.bad (HE2.out.trans (bindR_none ho))).2 ⟨rfl, HGX.out.trans (HG1.out.trans hg)⟩)); obtain ⟨us2, rfl, hs2⟩ := hv; have HS2 := Lib.hid hs2; obtain ⟨k9, p9, n9, A9, m9, c9, B9, l9, d9, rfl⟩ := RT.shape hs2; simp only [tyC] at HS2 ⊢; have HE3 := Lib.hid (HE2.out.trans (bindR_of ho)); have HR2 := Lib.hid hr; have hg2 := HG1.out.trans hg; have HG2 := Lib.hid hg2; have HH2 := Lib.hid hg; have hk2 := Gr.blk hg2 HK0.out (fun e => HNE.out e.symm); have y20 := Blk.cell hk2 0; have f20 := Blk.frozen hk2 0; have y21 := Blk.cell hk2 1; have f21 := Blk.frozen hk2 1; have y22 := Blk.cell hk2 2; have f22 := Blk.frozen hk2 2; have y23 := Blk.cell hk2 3; have f23 := Blk.frozen hk2 3; have y24 := Blk.cell hk2 4; have f24 := Blk.frozen hk2 4; have y25 := Blk.cell hk2 5; have f25 := Blk.frozen hk2 5; have yl2 := Blk.lt hk2; have HZ2 := Lib.hid hg2.size; have HLn2 := Lib.hid (show b2.length < bs.length by (have p := (Bwd.less (typR_bwd f) encT_pos) _ _ _ (HR1.out.sl.1) ho; have q := HLn1.out; omega)); clear h2 ho hr hg hg2 hk2 hs2) | (go_at_call 57; ((with_reducible refine HM1.out.mono ?_); rintro e w1 h1); rcases h1.cases with ⟨ho, rfl, hg⟩ | ⟨x1, b1, v1, A1, c1, ho, rfl, hv, hr, hg⟩; (· exact post_bad rfl ((RdP.bad (HE1.out.trans (bindR_none ho))).2 ⟨rfl, HGX.out.trans (HG0.out.trans hg)⟩)); obtain rfl := (show _ = _ from hv); have HE2 := Lib.hid (HE1.out.trans (bindR_of ho)); have HR1 := Lib.hid hr; have hg1 := HG0.out.trans hg; have HG1 := Lib.hid hg1; have HH1 := Lib.hid hg; have hk1 := Gr.blk hg1 HK0.out (fun e => HNE.out e.symm); have y10 := Blk.cell hk1 0; have f10 := Blk.frozen hk1 0; have y11 := Blk.cell hk1 1; have f11 := Blk.frozen hk1 1; have y12 := Blk.cell hk1 2; have f12 := Blk.frozen hk1 2; have y13 := Blk.cell hk1 3; have f13 := Blk.frozen hk1 3; have y14 := Blk.cell hk1 4; have f14 := Blk.frozen hk1 4; have y15 := Blk.cell hk1 5; have f15 := Blk.frozen hk1 5; have yl1 := Blk.lt hk1; have HZ1 := Lib.hid hg1.size; have HLn1 := Lib.hid (show b1.length < bs.length by (have p := textR_less _ _ _ (HBY.out) ho; omega)); have HM2 := Lib.hid (rtyp_any lo g f w1 A1 c1 b1 hr (by have := HLn1.out; have := HBS.out; omega)); clear h1 ho hr hg hg1 hk1 ))
  have hlt := Nat.lt_of_lt_of_le (show w.heap.size < (w.alloc (.cells #[.string ⟨#[]⟩, .int .i64 0, .string ⟨#[]⟩, .string ⟨#[]⟩, .slice none 0 0, .slice none 0 0] 74)).heap.size by simp) HZ2.out
  refine bodyPost_ret (v := .agg #[.string x1, .int .i64 k9, .string p9, .string n9, .slice A9 m9 c9, .slice B9 l9 d9]) (by simp [results, Try.results87, go_sem, y20, y21, y22, y23, y24, y25, yl2]) rfl ?_
  clear y20 y21 y22 y23 y24 y25 yl2
  have hw0 : (w.alloc (.cells #[.string ⟨#[]⟩, .int .i64 0, .string ⟨#[]⟩, .string ⟨#[]⟩, .slice none 0 0, .slice none 0 0] 74)).heap.size = w.heap.size + 1 := by simp
  have hgl := HLT.out
  have z1 := HZ1.out
  have z2 := HZ2.out
  have HF2 := Keeps.fin2 RT_keeps (w := w) (q := w.heap.size) HS2.out (Gr.refl _) (by omega) (by omega) (by omega) 0 [.string x1, .int .i64 k9, .string p9, .string n9, .slice A9 m9 c9, .slice B9 l9 d9]
  have HG9 := Gr.fin rfl HG2.out 0 [.string x1, .int .i64 k9, .string p9, .string n9, .slice A9 m9 c9, .slice B9 l9 d9]
  have HR9 := HR2.out.putQ HLT.out 0 [.string x1, .int .i64 k9, .string p9, .string n9, .slice A9 m9 c9, .slice B9 l9 d9]
  exact (RdP.good (HE3.out.trans rfl)).2 ⟨_, A2, c2, rfl, ⟨[.string x1, .int .i64 k9, .string p9, .string n9, .slice A9 m9 c9, .slice B9 l9 d9], rfl, ⟨_, rfl, HF2⟩⟩, HR9, HG9⟩
set_option maxRecDepth 100000 in
set_option maxHeartbeats 8000000 in
theorem rlist_fi (p : Rd Fi) (lo g : Nat) (LIM : Nat) (hp : ∀ (w : World) (A : Option Addr) (c : Nat) (bs : List Int), Rdr w lo g A c bs → bs.length ≤ LIM → Calls Try.prog 87 #[.pointer (some ⟨g, 0, none⟩)] w (RdP lo g (p bs) (VRec RFi) w)) (hle : Less p) (w : World) (A : Option Addr) (c : Nat) (bs : List Int) (h : Rdr w lo g A c bs) (hlim : bs.length ≤ LIM) :
    Calls Try.prog 86 #[.pointer (some ⟨g, 0, none⟩), .func (Fn.func 87) #[] #[]] w (RdP lo g (listR p bs) (VLst 6 RFi) w) := by
  have HM := Lib.hid (rnumber_any w lo g A c bs h)
  have HPA := Lib.hid hp
  have HLE := Lib.hid hle
  have HLM := Lib.hid hlim
  have HB0 := Lib.hid h.sl.1
  have HGB := Lib.hid h.blk.lt
  have HL0 := Lib.hid h.len
  clear h hp hle hlim
  go_enter Try.func86, Try.ntmps86
  go_wp2_with (first
    | (go_at_call 35; ((with_reducible refine (refuse_any _).mono ?_); rintro e w2 ⟨rfl, rfl⟩))
    | (go_at_call 84; ((with_reducible refine HM.out.mono ?_); rintro e w1 h1); rcases h1.cases with ⟨ho, rfl, hg⟩ | ⟨x, b1, v, A1, c1, ho, rfl, ⟨rfl, hx0, hx1⟩, hr, hg⟩; (· exact post_bad rfl ((RdP.bad (bindR_none ho)).2 ⟨rfl, hg⟩)); have HR := Lib.hid hr; have HG1 := Lib.hid hg; have HO := Lib.hid (show listR p bs = (if x < 0 then none else repR p x.toNat b1) from bindR_of ho); have HBL := Lib.hid (show b1.length ≤ bs.length by (obtain ⟨rfl, _⟩ := wordR_bwd _ _ _ HB0.out ho); rw [List.length_append]; omega); clear h1 ho hr hg))
  · have hx : x < 0 := by assumption
    have ho : listR p bs = none := by rw [HO.out, if_pos hx]
    exact post_bad rfl ((RdP.bad ho).2 ⟨rfl, HG1.out⟩)
  · have hx : ¬ x < 0 := by first | assumption | omega
    obtain ⟨N, rfl⟩ : ∃ N : Nat, x = (N : Int) := ⟨x.toNat, by omega⟩
    have HO2 := Lib.hid (show listR p bs = bindR (repR p N) (fun r => retR ([] ++ r)) b1 by rw [HO.out, if_neg hx, ← bindR_ret]; simp)
    clear hx
    go_loopg [13, 6] N (fun gk v13 v6 wr => ∃ (j : Nat) (B : Option Addr) (d : Nat) (l : List Fi) (xs : List Value) (A' : Option Addr) (c' : Nat) (b' : List Int), j + gk = N ∧ v13 = .int .i64 j ∧ v6 = .slice B l.length d ∧ Pts 6 74 RFi wr w.heap.size B d l xs ∧ Rdr wr lo g A' c' b' ∧ Gr (fun x => x = g) w wr ∧ l.length + b'.length ≤ b1.length ∧ listR p bs = bindR (repR p gk) (fun r => retR (l ++ r)) b')
    case atStart => exact ⟨0, none, 0, [], [], A1, c1, b1, by omega, rfl, rfl, ⟨World.ownsRow_nil _ _ _ _, rfl, HG1.out.size⟩, HR.out, HG1.out, by simp, HO2.out⟩
    case round =>
      obtain ⟨j, B, d, l, xs, A', c', b', hj, rfl, rfl, hpt, hrd, hg, hln, heq⟩ := hrel
      have HP := Lib.hid hpt
      have HRD := Lib.hid hrd
      have HG := Lib.hid hg
      have HLN := Lib.hid (show l.length ≤ 262144 by have := HBL.out; have := HL0.out; omega)
      have HLL := Lib.hid hln
      have HEQ := Lib.hid heq
      cases gk with
      | zero =>
        obtain rfl : j = N := by omega
        have HF := Lib.hid (hpt.fin RFi_keeps RFi_sized (by omega))
        clear hj hpt hrd hg hln heq
        go_wp2
        go_ret
        exact (RdP.good (HEQ.out.trans rep_end)).2 ⟨_, A', c', rfl, ⟨B, d, rfl, HF.out⟩, HRD.out, HG.out⟩
      | succ f =>
        have j1 : (j : Int) < (N : Int) := by omega
        have j0 : (0 : Int) ≤ (j : Int) := by omega
        have HPT := Lib.hid (HPA.out wr A' c' b' hrd (by have := HLM.out; have := HBL.out; omega))
        have HOLD := Lib.hid (fun q (hq : (Value.slice B l.length d).ownBlock = some q) => (hpt.own.lt q hq).2)
        have HSB := Lib.hid hpt.size
        clear hpt hrd hg hln heq
        go_wp2_with ((first
      | (at_builtin; refine wpList_app rfl _ _ _ _ rfl _ _ rfl rfl _ (app_rec (T := 74) Try.underlying45 (z := .agg #[.string ⟨#[]⟩, .int .i64 0, .string ⟨#[]⟩, .string ⟨#[]⟩, .slice none 0 0, .slice none 0 0]) (n := 6) (bytes := 104) (by kernel_rfl) rfl (by omega) (HP2.out.own.kept (row := none) HB3.out (by cases hv : (Value.slice B l.length d).ownBlock <;> simp)) 45 (vs := [.string nm, .int .i64 k9, .string p9, .string n9, .slice A9 m9 c9, .slice B9 l9 d9]) (Blk.new _ _ _) rfl (by intro u hu; simp at hu; rcases hu with rfl | rfl | rfl | rfl | rfl | rfl <;> rfl) (by have := HLN.out; omega) (by omega) (by have := HP2.out.size; simp; omega)) ?_; rintro v3 w3 ⟨ho3, hg3, hn3⟩; obtain ⟨B3, d3', rfl⟩ := own_shape ho3; have HO3 := Lib.hid ho3; have HG3 := Lib.hid hg3; have HN3 := Lib.hid hn3; clear ho3 hg3 hn3)
      | (go_at_call 87; ((with_reducible refine HPT.out.mono ?_); rintro e w2 h2); rcases h2.cases with ⟨ho, rfl, hg⟩ | ⟨x, b2, v, A2, c2, ho, rfl, ⟨vs, rfl, hs⟩, hr, hg⟩; (· exact post_bad rfl ((RdP.bad (HEQ.out.trans (rep_none ho))).2 ⟨rfl, HG.out.trans hg⟩)); obtain ⟨nm, tt⟩ := x; have hsh := hs; obtain ⟨tv9, e9, ht9⟩ := hsh; obtain ⟨k9, p9, n9, A9, m9, c9, B9, l9, d9, e8⟩ := RT.shape ht9; subst e8; subst e9; clear ht9; simp only [tyC] at hs ⊢; have HS := Lib.hid hs; have HP2 := Lib.hid (HP.out.gr RFi_keeps hg HGB.out); have HR2 := Lib.hid hr; have HG2 := Lib.hid (HG.out.trans hg); have HE2 := Lib.hid (HEQ.out.trans (rep_some ho)); have HLS := Lib.hid (HLE.out _ _ _ HRD.out.sl.1 ho); have HB3 := Lib.hid (show w2.grownBy (w2.alloc (.cells #[.string nm, .int .i64 k9, .string p9, .string n9, .slice A9 m9 c9, .slice B9 l9 d9] 74)) none from ⟨rfl, rfl, rfl, by simp, fun k hk _ => Below.heap_alloc w2 _ k hk⟩); have HSZ := Lib.hid hg.size; clear h2 ho hs hr hg)))
        have HPN := Lib.hid (HP2.out.more RFi_keeps rfl HS.out HSB.out HOLD.out HO3.out HG3.out HN3.out)
        have HGW := Lib.hid (show Gr (fun x => x = g) w w3 from (HG2.out.alloc (.cells #[.string nm, .int .i64 k9, .string p9, .string n9, .slice A9 m9 c9, .slice B9 l9 d9] 74)).wide (Gr.of_grown (S := fun x => (Value.slice B l.length d).ownBlock = some x) HG3.out (fun k e _ => e)) (fun n hn e => absurd (HP2.out.own.lt n e).1 (by omega)))
        have HR3 := Lib.hid ((HR2.out.bel ((Below.refl _ _).alloc (Nat.le_refl _) (.cells #[.string nm, .int .i64 k9, .string p9, .string n9, .slice A9 m9 c9, .slice B9 l9 d9] 74))).grown HG3.out (fun k e => Nat.lt_of_lt_of_le HGB.out (HP2.out.own.lt k e).1))
        go_roundg f
        case measure => omega
        case rel => exact ⟨j + 1, B3, d3', _, _, A2, c2, b2, by omega, by go_num, by rw [List.length_append]; rfl, HPN.out, HR3.out, HGW.out, by have := HLL.out; have := HLS.out; rw [List.length_append]; simp only [List.length_cons, List.length_nil]; omega, HE2.out⟩
set_option maxRecDepth 100000 in
set_option maxHeartbeats 8000000 in
theorem rdl_any (f : Nat) (w : World) (lo g : Nat) (A : Option Addr) (c : Nat) (bs : List Int) (h : Rdr w lo g A c bs) (hlim : bs.length < f) :
    Calls Try.prog 61 #[.pointer (some ⟨g, 0, none⟩)] w (RdP lo g (dlR f bs) (VRec RDl) w) := by
  have hb0 : Below w.heap.size w (w.alloc (.cells #[.int .i64 0, .string ⟨#[]⟩, .string ⟨#[]⟩, .int .i64 0, .int .i64 0, .string ⟨#[]⟩, .string ⟨#[]⟩, .slice none 0 0, .slice none 0 0, .slice none 0 0] 47)) := (Below.refl _ w).alloc (Nat.le_refl _) _
  have HK0 := Lib.hid (Blk.new w 47 #[.int .i64 0, .string ⟨#[]⟩, .string ⟨#[]⟩, .int .i64 0, .int .i64 0, .string ⟨#[]⟩, .string ⟨#[]⟩, .slice none 0 0, .slice none 0 0, .slice none 0 0])
  have HG0 := Lib.hid (Gr.refl (S := fun x => x = g) (w.alloc (.cells #[.int .i64 0, .string ⟨#[]⟩, .string ⟨#[]⟩, .int .i64 0, .int .i64 0, .string ⟨#[]⟩, .string ⟨#[]⟩, .slice none 0 0, .slice none 0 0, .slice none 0 0] 47)))
  have HGX := Lib.hid (Gr.of_below (S := fun x => x = g) hb0)
  have HNE := Lib.hid (show g ≠ w.heap.size by have := h.blk.lt; omega)
  have HLT := Lib.hid h.blk.lt
  have HE1 := Lib.hid (show dlR f bs = _ from rfl)
  have HM1 := Lib.hid (rnumber_any _ lo g A c bs (h.bel hb0))
  have HBY := Lib.hid h.sl.1
  have HBS := Lib.hid hlim
  have HPA := Lib.hid (fun w A c bs (h : Rdr w lo g A c bs) (hl : bs.length ≤ f - 1) => rfi_any f w lo g A c bs h (by omega))
  clear h hb0
  go_enter Try.func61, Try.ntmps61
  go_wp2_with (first | (go_at_call 86; ((with_reducible refine HM6.out.mono ?_); rintro e w6 h6); rcases h6.cases with ⟨ho, rfl, hg⟩ | ⟨x6, b6, v6, A6, c6, ho, rfl, hv, hr, hg⟩; (· exact post_bad rfl ((RdP.bad (HE6.out.trans (bindR_none ho))).2 ⟨rfl, HGX.out.trans (HG5.out.trans hg)⟩)); obtain ⟨B6, d6, rfl, hs6⟩ := hv; have HS6 := Lib.hid hs6; have HE7 := Lib.hid (HE6.out.trans (bindR_of ho)); have HR6 := Lib.hid hr; have hg6 := HG5.out.trans hg; have HG6 := Lib.hid hg6; have HH6 := Lib.hid hg; have hk6 := Gr.blk hg6 HK0.out (fun e => HNE.out e.symm); have y60 := Blk.cell hk6 0; have f60 := Blk.frozen hk6 0; have y61 := Blk.cell hk6 1; have f61 := Blk.frozen hk6 1; have y62 := Blk.cell hk6 2; have f62 := Blk.frozen hk6 2; have y63 := Blk.cell hk6 3; have f63 := Blk.frozen hk6 3; have y64 := Blk.cell hk6 4; have f64 := Blk.frozen hk6 4; have y65 := Blk.cell hk6 5; have f65 := Blk.frozen hk6 5; have y66 := Blk.cell hk6 6; have f66 := Blk.frozen hk6 6; have y67 := Blk.cell hk6 7; have f67 := Blk.frozen hk6 7; have y68 := Blk.cell hk6 8; have f68 := Blk.frozen hk6 8; have y69 := Blk.cell hk6 9; have f69 := Blk.frozen hk6 9; have yl6 := Blk.lt hk6; have HZ6 := Lib.hid hg6.size; have HLn6 := Lib.hid (show b6.length < bs.length by (have p := (listR_less (fiR_bwd f)) _ _ _ (HR5.out.sl.1) ho; have q := HLn5.out; omega)); clear h6 ho hr hg hg6 hk6 hs6) | (go_at_call 85; ((with_reducible refine HM5.out.mono ?_); rintro e w5 h5); rcases h5.cases with ⟨ho, rfl, hg⟩ | ⟨x5, b5, v5, A5, c5, ho, rfl, hv, hr, hg⟩; (· exact post_bad rfl ((RdP.bad (HE5.out.trans (bindR_none ho))).2 ⟨rfl, HGX.out.trans (HG4.out.trans hg)⟩)); obtain ⟨us5, rfl, hs5⟩ := hv; have HS5 := Lib.hid hs5; obtain ⟨k9, p9, n9, A9, m9, c9, B9, l9, d9, rfl⟩ := RT.shape hs5; simp only [tyC] at HS5 ⊢; have HE6 := Lib.hid (HE5.out.trans (bindR_of ho)); have HR5 := Lib.hid hr; have hg5 := HG4.out.trans hg; have HG5 := Lib.hid hg5; have HH5 := Lib.hid hg; have hk5 := Gr.blk hg5 HK0.out (fun e => HNE.out e.symm); have y50 := Blk.cell hk5 0; have f50 := Blk.frozen hk5 0; have y51 := Blk.cell hk5 1; have f51 := Blk.frozen hk5 1; have y52 := Blk.cell hk5 2; have f52 := Blk.frozen hk5 2; have y53 := Blk.cell hk5 3; have f53 := Blk.frozen hk5 3; have y54 := Blk.cell hk5 4; have f54 := Blk.frozen hk5 4; have y55 := Blk.cell hk5 5; have f55 := Blk.frozen hk5 5; have y56 := Blk.cell hk5 6; have f56 := Blk.frozen hk5 6; have y57 := Blk.cell hk5 7; have f57 := Blk.frozen hk5 7; have y58 := Blk.cell hk5 8; have f58 := Blk.frozen hk5 8; have y59 := Blk.cell hk5 9; have f59 := Blk.frozen hk5 9; have yl5 := Blk.lt hk5; have HZ5 := Lib.hid hg5.size; have HLn5 := Lib.hid (show b5.length < bs.length by (have p := (Bwd.less (typR_bwd f) encT_pos) _ _ _ (HR4.out.sl.1) ho; have q := HLn4.out; omega)); have HM6 := Lib.hid (rlist_fi (fiR f) lo g (f - 1) HPA.out (Bwd.less (fiR_bwd f) encF_pos) w5 A5 c5 b5 hr (by have := HLn5.out; have := HBS.out; omega)); clear h5 ho hr hg hg5 hk5 hs5) | (go_at_call 56; ((with_reducible refine HM4.out.mono ?_); rintro e w4 h4); rcases h4.cases with ⟨ho, rfl, hg⟩ | ⟨x4, b4, v4, A4, c4, ho, rfl, hv, hr, hg⟩; (· exact post_bad rfl ((RdP.bad (HE4.out.trans (bindR_none ho))).2 ⟨rfl, HGX.out.trans (HG3.out.trans hg)⟩)); obtain ⟨rfl, hi0, hi1⟩ := hv; have HE5 := Lib.hid (HE4.out.trans (bindR_of ho)); have HR4 := Lib.hid hr; have hg4 := HG3.out.trans hg; have HG4 := Lib.hid hg4; have HH4 := Lib.hid hg; have hk4 := Gr.blk hg4 HK0.out (fun e => HNE.out e.symm); have y40 := Blk.cell hk4 0; have f40 := Blk.frozen hk4 0; have y41 := Blk.cell hk4 1; have f41 := Blk.frozen hk4 1; have y42 := Blk.cell hk4 2; have f42 := Blk.frozen hk4 2; have y43 := Blk.cell hk4 3; have f43 := Blk.frozen hk4 3; have y44 := Blk.cell hk4 4; have f44 := Blk.frozen hk4 4; have y45 := Blk.cell hk4 5; have f45 := Blk.frozen hk4 5; have y46 := Blk.cell hk4 6; have f46 := Blk.frozen hk4 6; have y47 := Blk.cell hk4 7; have f47 := Blk.frozen hk4 7; have y48 := Blk.cell hk4 8; have f48 := Blk.frozen hk4 8; have y49 := Blk.cell hk4 9; have f49 := Blk.frozen hk4 9; have yl4 := Blk.lt hk4; have HZ4 := Lib.hid hg4.size; have HLn4 := Lib.hid (show b4.length < bs.length by (have p := wordR_less _ _ _ (HR3.out.sl.1) ho; have q := HLn3.out; omega)); have HM5 := Lib.hid (rtyp_any lo g f w4 A4 c4 b4 hr (by have := HLn4.out; have := HBS.out; omega)); clear h4 ho hr hg hg4 hk4 ) | (go_at_call 57; ((with_reducible refine HM3.out.mono ?_); rintro e w3 h3); rcases h3.cases with ⟨ho, rfl, hg⟩ | ⟨x3, b3, v3, A3, c3, ho, rfl, hv, hr, hg⟩; (· exact post_bad rfl ((RdP.bad (HE3.out.trans (bindR_none ho))).2 ⟨rfl, HGX.out.trans (HG2.out.trans hg)⟩)); obtain rfl := (show _ = _ from hv); have HE4 := Lib.hid (HE3.out.trans (bindR_of ho)); have HR3 := Lib.hid hr; have hg3 := HG2.out.trans hg; have HG3 := Lib.hid hg3; have HH3 := Lib.hid hg; have hk3 := Gr.blk hg3 HK0.out (fun e => HNE.out e.symm); have y30 := Blk.cell hk3 0; have f30 := Blk.frozen hk3 0; have y31 := Blk.cell hk3 1; have f31 := Blk.frozen hk3 1; have y32 := Blk.cell hk3 2; have f32 := Blk.frozen hk3 2; have y33 := Blk.cell hk3 3; have f33 := Blk.frozen hk3 3; have y34 := Blk.cell hk3 4; have f34 := Blk.frozen hk3 4; have y35 := Blk.cell hk3 5; have f35 := Blk.frozen hk3 5; have y36 := Blk.cell hk3 6; have f36 := Blk.frozen hk3 6; have y37 := Blk.cell hk3 7; have f37 := Blk.frozen hk3 7; have y38 := Blk.cell hk3 8; have f38 := Blk.frozen hk3 8; have y39 := Blk.cell hk3 9; have f39 := Blk.frozen hk3 9; have yl3 := Blk.lt hk3; have HZ3 := Lib.hid hg3.size; have HLn3 := Lib.hid (show b3.length < bs.length by (have p := textR_less _ _ _ (HR2.out.sl.1) ho; have q := HLn2.out; omega)); have HM4 := Lib.hid (rword_any w3 lo g A3 c3 b3 hr); clear h3 ho hr hg hg3 hk3 ) | (go_at_call 57; ((with_reducible refine HM2.out.mono ?_); rintro e w2 h2); rcases h2.cases with ⟨ho, rfl, hg⟩ | ⟨x2, b2, v2, A2, c2, ho, rfl, hv, hr, hg⟩; (· exact post_bad rfl ((RdP.bad (HE2.out.trans (bindR_none ho))).2 ⟨rfl, HGX.out.trans (HG1.out.trans hg)⟩)); obtain rfl := (show _ = _ from hv); have HE3 := Lib.hid (HE2.out.trans (bindR_of ho)); have HR2 := Lib.hid hr; have hg2 := HG1.out.trans hg; have HG2 := Lib.hid hg2; have HH2 := Lib.hid hg; have hk2 := Gr.blk hg2 HK0.out (fun e => HNE.out e.symm); have y20 := Blk.cell hk2 0; have f20 := Blk.frozen hk2 0; have y21 := Blk.cell hk2 1; have f21 := Blk.frozen hk2 1; have y22 := Blk.cell hk2 2; have f22 := Blk.frozen hk2 2; have y23 := Blk.cell hk2 3; have f23 := Blk.frozen hk2 3; have y24 := Blk.cell hk2 4; have f24 := Blk.frozen hk2 4; have y25 := Blk.cell hk2 5; have f25 := Blk.frozen hk2 5; have y26 := Blk.cell hk2 6; have f26 := Blk.frozen hk2 6; have y27 := Blk.cell hk2 7; have f27 := Blk.frozen hk2 7; have y28 := Blk.cell hk2 8; have f28 := Blk.frozen hk2 8; have y29 := Blk.cell hk2 9; have f29 := Blk.frozen hk2 9; have yl2 := Blk.lt hk2; have HZ2 := Lib.hid hg2.size; have HLn2 := Lib.hid (show b2.length < bs.length by (have p := textR_less _ _ _ (HR1.out.sl.1) ho; have q := HLn1.out; omega)); have HM3 := Lib.hid (rtext_any w2 lo g A2 c2 b2 hr); clear h2 ho hr hg hg2 hk2 ) | (go_at_call 84; ((with_reducible refine HM1.out.mono ?_); rintro e w1 h1); rcases h1.cases with ⟨ho, rfl, hg⟩ | ⟨x1, b1, v1, A1, c1, ho, rfl, hv, hr, hg⟩; (· exact post_bad rfl ((RdP.bad (HE1.out.trans (bindR_none ho))).2 ⟨rfl, HGX.out.trans (HG0.out.trans hg)⟩)); obtain ⟨rfl, hi0, hi1⟩ := hv; have HE2 := Lib.hid (HE1.out.trans (bindR_of ho)); have HR1 := Lib.hid hr; have hg1 := HG0.out.trans hg; have HG1 := Lib.hid hg1; have HH1 := Lib.hid hg; have hk1 := Gr.blk hg1 HK0.out (fun e => HNE.out e.symm); have y10 := Blk.cell hk1 0; have f10 := Blk.frozen hk1 0; have y11 := Blk.cell hk1 1; have f11 := Blk.frozen hk1 1; have y12 := Blk.cell hk1 2; have f12 := Blk.frozen hk1 2; have y13 := Blk.cell hk1 3; have f13 := Blk.frozen hk1 3; have y14 := Blk.cell hk1 4; have f14 := Blk.frozen hk1 4; have y15 := Blk.cell hk1 5; have f15 := Blk.frozen hk1 5; have y16 := Blk.cell hk1 6; have f16 := Blk.frozen hk1 6; have y17 := Blk.cell hk1 7; have f17 := Blk.frozen hk1 7; have y18 := Blk.cell hk1 8; have f18 := Blk.frozen hk1 8; have y19 := Blk.cell hk1 9; have f19 := Blk.frozen hk1 9; have yl1 := Blk.lt hk1; have HZ1 := Lib.hid hg1.size; have HLn1 := Lib.hid (show b1.length < bs.length by (have p := wordR_less _ _ _ (HBY.out) ho; omega)); have HM2 := Lib.hid (rtext_any w1 lo g A1 c1 b1 hr); clear h1 ho hr hg hg1 hk1 ))
  have hlt := Nat.lt_of_lt_of_le (show w.heap.size < (w.alloc (.cells #[.int .i64 0, .string ⟨#[]⟩, .string ⟨#[]⟩, .int .i64 0, .int .i64 0, .string ⟨#[]⟩, .string ⟨#[]⟩, .slice none 0 0, .slice none 0 0, .slice none 0 0] 47)).heap.size by simp) HZ6.out
  refine bodyPost_ret (v := .agg #[.int .i64 x1, .string x2, .string x3, .int .i64 x4, .int .i64 k9, .string p9, .string n9, .slice A9 m9 c9, .slice B9 l9 d9, .slice B6 x6.length d6]) (by simp [results, Try.results61, go_sem, y60, y61, y62, y63, y64, y65, y66, y67, y68, y69, yl6]) rfl ?_
  clear y60 y61 y62 y63 y64 y65 y66 y67 y68 y69 yl6
  have hw0 : (w.alloc (.cells #[.int .i64 0, .string ⟨#[]⟩, .string ⟨#[]⟩, .int .i64 0, .int .i64 0, .string ⟨#[]⟩, .string ⟨#[]⟩, .slice none 0 0, .slice none 0 0, .slice none 0 0] 47)).heap.size = w.heap.size + 1 := by simp
  have hgl := HLT.out
  have z1 := HZ1.out
  have z2 := HZ2.out
  have z3 := HZ3.out
  have z4 := HZ4.out
  have z5 := HZ5.out
  have z6 := HZ6.out
  have HF5 := Keeps.fin2 RT_keeps (w := w) (q := w.heap.size) HS5.out HH6.out (by omega) (by omega) (by omega) 0 [.int .i64 x1, .string x2, .string x3, .int .i64 x4, .int .i64 k9, .string p9, .string n9, .slice A9 m9 c9, .slice B9 l9 d9, .slice B6 x6.length d6]
  have HF6 := SlG.fin RFi_keeps (w := w) (q := w.heap.size) HS6.out (Gr.refl _) (by omega) (by omega) (by omega) 0 [.int .i64 x1, .string x2, .string x3, .int .i64 x4, .int .i64 k9, .string p9, .string n9, .slice A9 m9 c9, .slice B9 l9 d9, .slice B6 x6.length d6]
  have HG9 := Gr.fin rfl HG6.out 0 [.int .i64 x1, .string x2, .string x3, .int .i64 x4, .int .i64 k9, .string p9, .string n9, .slice A9 m9 c9, .slice B9 l9 d9, .slice B6 x6.length d6]
  have HR9 := HR6.out.putQ HLT.out 0 [.int .i64 x1, .string x2, .string x3, .int .i64 x4, .int .i64 k9, .string p9, .string n9, .slice A9 m9 c9, .slice B9 l9 d9, .slice B6 x6.length d6]
  exact (RdP.good (HE7.out.trans rfl)).2 ⟨_, A6, c6, rfl, ⟨[.int .i64 x1, .string x2, .string x3, .int .i64 x4, .int .i64 k9, .string p9, .string n9, .slice A9 m9 c9, .slice B9 l9 d9, .slice B6 x6.length d6], rfl, ⟨[.int .i64 k9, .string p9, .string n9, .slice A9 m9 c9, .slice B9 l9 d9], B6, d6, rfl, HF5, HF6⟩⟩, HR9, HG9⟩
set_option maxRecDepth 100000 in
set_option maxHeartbeats 8000000 in
theorem rlist_dl (p : Rd Dl) (lo g : Nat) (LIM : Nat) (hp : ∀ (w : World) (A : Option Addr) (c : Nat) (bs : List Int), Rdr w lo g A c bs → bs.length ≤ LIM → Calls Try.prog 61 #[.pointer (some ⟨g, 0, none⟩)] w (RdP lo g (p bs) (VRec RDl) w)) (hle : Less p) (w : World) (A : Option Addr) (c : Nat) (bs : List Int) (h : Rdr w lo g A c bs) (hlim : bs.length ≤ LIM) :
    Calls Try.prog 60 #[.pointer (some ⟨g, 0, none⟩), .func (Fn.func 61) #[] #[]] w (RdP lo g (listR p bs) (VLst 10 RDl) w) := by
  have HM := Lib.hid (rnumber_any w lo g A c bs h)
  have HPA := Lib.hid hp
  have HLE := Lib.hid hle
  have HLM := Lib.hid hlim
  have HB0 := Lib.hid h.sl.1
  have HGB := Lib.hid h.blk.lt
  have HL0 := Lib.hid h.len
  clear h hp hle hlim
  go_enter Try.func60, Try.ntmps60
  go_wp2_with (first
    | (go_at_call 35; ((with_reducible refine (refuse_any _).mono ?_); rintro e w2 ⟨rfl, rfl⟩))
    | (go_at_call 84; ((with_reducible refine HM.out.mono ?_); rintro e w1 h1); rcases h1.cases with ⟨ho, rfl, hg⟩ | ⟨x, b1, v, A1, c1, ho, rfl, ⟨rfl, hx0, hx1⟩, hr, hg⟩; (· exact post_bad rfl ((RdP.bad (bindR_none ho)).2 ⟨rfl, hg⟩)); have HR := Lib.hid hr; have HG1 := Lib.hid hg; have HO := Lib.hid (show listR p bs = (if x < 0 then none else repR p x.toNat b1) from bindR_of ho); have HBL := Lib.hid (show b1.length ≤ bs.length by (obtain ⟨rfl, _⟩ := wordR_bwd _ _ _ HB0.out ho); rw [List.length_append]; omega); clear h1 ho hr hg))
  · have hx : x < 0 := by assumption
    have ho : listR p bs = none := by rw [HO.out, if_pos hx]
    exact post_bad rfl ((RdP.bad ho).2 ⟨rfl, HG1.out⟩)
  · have hx : ¬ x < 0 := by first | assumption | omega
    obtain ⟨N, rfl⟩ : ∃ N : Nat, x = (N : Int) := ⟨x.toNat, by omega⟩
    have HO2 := Lib.hid (show listR p bs = bindR (repR p N) (fun r => retR ([] ++ r)) b1 by rw [HO.out, if_neg hx, ← bindR_ret]; simp)
    clear hx
    go_loopg [13, 6] N (fun gk v13 v6 wr => ∃ (j : Nat) (B : Option Addr) (d : Nat) (l : List Dl) (xs : List Value) (A' : Option Addr) (c' : Nat) (b' : List Int), j + gk = N ∧ v13 = .int .i64 j ∧ v6 = .slice B l.length d ∧ Pts 10 47 RDl wr w.heap.size B d l xs ∧ Rdr wr lo g A' c' b' ∧ Gr (fun x => x = g) w wr ∧ l.length + b'.length ≤ b1.length ∧ listR p bs = bindR (repR p gk) (fun r => retR (l ++ r)) b')
    case atStart => exact ⟨0, none, 0, [], [], A1, c1, b1, by omega, rfl, rfl, ⟨World.ownsRow_nil _ _ _ _, rfl, HG1.out.size⟩, HR.out, HG1.out, by simp, HO2.out⟩
    case round =>
      obtain ⟨j, B, d, l, xs, A', c', b', hj, rfl, rfl, hpt, hrd, hg, hln, heq⟩ := hrel
      have HP := Lib.hid hpt
      have HRD := Lib.hid hrd
      have HG := Lib.hid hg
      have HLN := Lib.hid (show l.length ≤ 262144 by have := HBL.out; have := HL0.out; omega)
      have HLL := Lib.hid hln
      have HEQ := Lib.hid heq
      cases gk with
      | zero =>
        obtain rfl : j = N := by omega
        have HF := Lib.hid (hpt.fin RDl_keeps RDl_sized (by omega))
        clear hj hpt hrd hg hln heq
        go_wp2
        go_ret
        exact (RdP.good (HEQ.out.trans rep_end)).2 ⟨_, A', c', rfl, ⟨B, d, rfl, HF.out⟩, HRD.out, HG.out⟩
      | succ f =>
        have j1 : (j : Int) < (N : Int) := by omega
        have j0 : (0 : Int) ≤ (j : Int) := by omega
        have HPT := Lib.hid (HPA.out wr A' c' b' hrd (by have := HLM.out; have := HBL.out; omega))
        have HOLD := Lib.hid (fun q (hq : (Value.slice B l.length d).ownBlock = some q) => (hpt.own.lt q hq).2)
        have HSB := Lib.hid hpt.size
        clear hpt hrd hg hln heq
        go_wp2_with ((first
      | (at_builtin; refine wpList_app rfl _ _ _ _ rfl _ _ rfl rfl _ (app_rec (T := 47) Try.underlying23 (z := .agg #[.int .i64 0, .string ⟨#[]⟩, .string ⟨#[]⟩, .int .i64 0, .int .i64 0, .string ⟨#[]⟩, .string ⟨#[]⟩, .slice none 0 0, .slice none 0 0, .slice none 0 0]) (n := 10) (bytes := 160) (by kernel_rfl) rfl (by omega) (HP2.out.own.kept (row := none) HB3.out (by cases hv : (Value.slice B l.length d).ownBlock <;> simp)) 23 (vs := [.int .i64 dk9, .string dn9, .string do9, .int .i64 dv9, .int .i64 k9, .string p9, .string n9, .slice A9 m9 c9, .slice B9 l9 d9, .slice Af9 fs9.length cf9]) (Blk.new _ _ _) rfl (by intro u hu; simp at hu; rcases hu with rfl | rfl | rfl | rfl | rfl | rfl | rfl | rfl | rfl | rfl <;> rfl) (by have := HLN.out; omega) (by omega) (by have := HP2.out.size; simp; omega)) ?_; rintro v3 w3 ⟨ho3, hg3, hn3⟩; obtain ⟨B3, d3', rfl⟩ := own_shape ho3; have HO3 := Lib.hid ho3; have HG3 := Lib.hid hg3; have HN3 := Lib.hid hn3; clear ho3 hg3 hn3)
      | (go_at_call 61; ((with_reducible refine HPT.out.mono ?_); rintro e w2 h2); rcases h2.cases with ⟨ho, rfl, hg⟩ | ⟨x, b2, v, A2, c2, ho, rfl, ⟨vs, rfl, hs⟩, hr, hg⟩; (· exact post_bad rfl ((RdP.bad (HEQ.out.trans (rep_none ho))).2 ⟨rfl, HG.out.trans hg⟩)); obtain ⟨dk9, dn9, do9, dv9, dt9, fs9⟩ := x; have hsh := hs; obtain ⟨tv9, Af9, cf9, e9, ht9, hf9⟩ := hsh; obtain ⟨k9, p9, n9, A9, m9, c9, B9, l9, d9, e8⟩ := RT.shape ht9; subst e8; subst e9; clear ht9 hf9; simp only [tyC, List.cons_append, List.nil_append] at hs ⊢; have HS := Lib.hid hs; have HP2 := Lib.hid (HP.out.gr RDl_keeps hg HGB.out); have HR2 := Lib.hid hr; have HG2 := Lib.hid (HG.out.trans hg); have HE2 := Lib.hid (HEQ.out.trans (rep_some ho)); have HLS := Lib.hid (HLE.out _ _ _ HRD.out.sl.1 ho); have HB3 := Lib.hid (show w2.grownBy (w2.alloc (.cells #[.int .i64 dk9, .string dn9, .string do9, .int .i64 dv9, .int .i64 k9, .string p9, .string n9, .slice A9 m9 c9, .slice B9 l9 d9, .slice Af9 fs9.length cf9] 47)) none from ⟨rfl, rfl, rfl, by simp, fun k hk _ => Below.heap_alloc w2 _ k hk⟩); have HSZ := Lib.hid hg.size; clear h2 ho hs hr hg)))
        have HPN := Lib.hid (HP2.out.more RDl_keeps rfl HS.out HSB.out HOLD.out HO3.out HG3.out HN3.out)
        have HGW := Lib.hid (show Gr (fun x => x = g) w w3 from (HG2.out.alloc (.cells #[.int .i64 dk9, .string dn9, .string do9, .int .i64 dv9, .int .i64 k9, .string p9, .string n9, .slice A9 m9 c9, .slice B9 l9 d9, .slice Af9 fs9.length cf9] 47)).wide (Gr.of_grown (S := fun x => (Value.slice B l.length d).ownBlock = some x) HG3.out (fun k e _ => e)) (fun n hn e => absurd (HP2.out.own.lt n e).1 (by omega)))
        have HR3 := Lib.hid ((HR2.out.bel ((Below.refl _ _).alloc (Nat.le_refl _) (.cells #[.int .i64 dk9, .string dn9, .string do9, .int .i64 dv9, .int .i64 k9, .string p9, .string n9, .slice A9 m9 c9, .slice B9 l9 d9, .slice Af9 fs9.length cf9] 47))).grown HG3.out (fun k e => Nat.lt_of_lt_of_le HGB.out (HP2.out.own.lt k e).1))
        go_roundg f
        case measure => omega
        case rel => exact ⟨j + 1, B3, d3', _, _, A2, c2, b2, by omega, by go_num, by rw [List.length_append]; rfl, HPN.out, HR3.out, HGW.out, by have := HLL.out; have := HLS.out; rw [List.length_append]; simp only [List.length_cons, List.length_nil]; omega, HE2.out⟩
end Go.Proofs.Ytnkojjkijkhlbaa
