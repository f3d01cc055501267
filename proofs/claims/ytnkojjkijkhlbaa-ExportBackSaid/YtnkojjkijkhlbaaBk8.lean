/-
  ExportBack: what has bytes is read back from them, though what was read, and the bytes, are spoilt: walk.
-/
import Derived.Test.YtnkojjkijkhlbaaRt
import Derived.Test.YtnkojjkijkhlbaaRo
namespace Go.Proofs.Ytnkojjkijkhlbaa
open Go.RowKit
set_option linter.unusedVariables false
set_option linter.unusedSimpArgs false

theorem own_size {cur : Array Value} {l : List Int} (h : ∀ (j : Nat) (a : Int), l[j]? = some a → cur[j]? = some (.int .u8 a)) : l.length ≤ cur.size := by
  rcases Nat.eq_zero_or_pos l.length with h0 | h0
  · omega
  · have h1 := h (l.length - 1) _ (List.getElem?_eq_getElem (by omega))
    obtain ⟨h2, _⟩ := Array.getElem?_eq_some_iff.1 h1
    omega
theorem encR_bad {u : Un} {l : List Int} {r : Int} (h : encR u = (l, r)) (hr : r ≠ 0) : l = [] ∧ (r = 2 ∨ r = 3) := by
  unfold encR at h
  split at h
  · cases h; exact ⟨rfl, .inr rfl⟩
  · split at h
    · cases h; exact absurd rfl hr
    · cases h; exact ⟨rfl, .inl rfl⟩
/-- A row of declarations that may be written. -/
theorem thaw_size {w : World} {F : Nat → Prop} {A : Option Addr} {l : List Dl} (h : SlG 10 RDl w F A l) (hth : ∀ a, A = some a → a = ⟨a.block, 0, none⟩ ∧ F a.block ∧ a.block < w.heap.size ∧ Bk w a.block) : ∃ g, (0 < l.length → A = some ⟨g, 0, none⟩ ∧ F g ∧ g < w.heap.size ∧ ∃ t cs, Blk w g t cs ∧ l.length * 10 ≤ cs.size) := by
  cases A with
  | none =>
    refine ⟨0, fun h0 => ?_⟩
    obtain ⟨xs, h1, _⟩ := h
    obtain ⟨g, o, e, _⟩ := h1.2 h0
    cases e
  | some a =>
    obtain ⟨e0, h1, h2, t, cs, h3⟩ := hth a rfl
    refine ⟨a.block, fun h0 => ⟨by rw [← e0], h1, h2, t, cs, h3, ?_⟩⟩
    obtain ⟨xs, k1, _⟩ := h
    obtain ⟨g, o, e, _, _, k2⟩ := k1.2 h0
    have hx : xs.length = l.length * 10 := k1.1
    injection e with e
    have e3 : a.block = g := by rw [e]
    have e4 : o = 0 := by rw [e] at e0; injection e0
    subst e3
    subst e4
    have h4 := k2 (l.length * 10 - 1) _ (List.getElem?_eq_getElem (by omega))
    rw [Nat.zero_add, h3.cell] at h4
    obtain ⟨h5, _⟩ := Array.getElem?_eq_some_iff.1 h4
    omega
set_option maxRecDepth 100000 in
set_option maxHeartbeats 8000000 in
theorem eback_any (u : Un) (hou : u.ok 140737488355328) (hru : u.rng) (w : World) (F : Nat → Prop) (hF : ∀ k, F k → k < w.heap.size) (vs : List Value) (ha : RUn w F u vs) :
    Calls Try.prog 6 #[.agg vs.toArray] w (TruthP w true) := by
  have ha' := ha
  obtain ⟨A7, c7, A8, c8, A9, c9, rfl, _, _, _⟩ := ha
  have hb1 := ((Below.refl _ w).alloc (Nat.le_refl _) (.cells #[.string u.pkg, .slice A7 u.imps.length c7, .slice A8 u.decls.length c8, .slice A9 u.funs.length c9] 26))
  have HX0 := Lib.hid (Blk.new w 26 #[.string u.pkg, .slice A7 u.imps.length c7, .slice A8 u.decls.length c8, .slice A9 u.funs.length c9])
  have HB0 := Lib.hid hb1
  have HG := Lib.hid (fun w1 (h1 : Below w.heap.size w w1) => great8_any u hou w1 F (fun k hk => Nat.lt_of_lt_of_le (hF k hk) h1.size) _ (RUn_keeps.bel ha' h1))
  have HE := Lib.hid (fun (hc : u.cnt ≤ 3000) w1 (h1 : Below w.heap.size w w1) => encode_any u (by omega) hou w1 F (fun k hk => Nat.lt_of_lt_of_le (hF k hk) h1.size) _ (RUn_keeps.bel ha' h1))
  have HUU := Lib.hid (fun w1 (h1 : Below w.heap.size w w1) => RUn_keeps.bel ha' h1)
  have HSM := Lib.hid (fun (hc : u.cnt ≤ 3000) W F1 F2 vs1 vs2 (h1 : RUn W F1 u vs1) (h2 : RUn W F2 u vs2) => sam8_any u u (by omega) hou hou W F1 F2 vs1 vs2 h1 h2 true (by simp))
  obtain ⟨⟨l, r⟩, hR⟩ : ∃ R, encR u = R := ⟨_, rfl⟩
  rw [hR] at HE
  have HOU := Lib.hid hou
  have HRU := Lib.hid hru
  by_cases hr : r = 0
  case neg =>
    obtain ⟨hl0, hr2⟩ := encR_bad hR hr
    subst hl0
    have e1 : (r == 0) = false := by simpa using hr
    have e2 : (r != 0) = true := by simpa using hr
    clear hb1 hR hou hru hF ha' hr
    rcases hr2 with rfl | rfl
    all_goals
      go_enter Try.func6, Try.ntmps6
      go_wp2_with (first | (go_at_call 11; ((with_reducible refine (HE.out (HBC.out (by first | assumption | exact Bool.eq_false_iff.2 (by assumption))) _ HB1.out).mono ?_); rintro e w2 ⟨⟨P, pc, rfl, ho, hy⟩, hb2⟩); have HB2 := Lib.hid (HB1.out.trans (hb2.mono HB1.out.size)); clear hb2 ho hy ax0 ax1 ax2 ax3 axl) | (go_at_call 9; ((with_reducible refine (HG.out _ HB0.out).mono ?_); rintro e w1 ⟨bb, rfl, hbc, hb1⟩); have HBC := Lib.hid hbc; have HB1 := Lib.hid (HB0.out.trans (hb1.mono HB0.out.size)); have HW1 := Lib.hid (show w.heap.size < w1.heap.size by have := hb1.size; simp at this; omega); have hx1 := HX0.out.bel2 hb1; have HX1 := Lib.hid hx1; have ax0 := hx1.cell 0; have ax1 := hx1.cell 1; have ax2 := hx1.cell 2; have ax3 := hx1.cell 3; have axl := hx1.lt; clear hb1 hx1 hbc) | (go_at_call 13; ((with_reducible refine (num_any _ _).mono ?_); rintro e w8 ⟨rfl, rfl⟩)) | (go_at_call 10; have _g := HB2; ((with_reducible refine (awake_any _).mono ?_); rintro e w9 ⟨rfl, hb9⟩); have HBZ := Lib.hid (HB2.out.trans (hb9.mono HB2.out.size)); clear hb9) | (go_at_call 10; have _g := HB1; ((with_reducible refine (awake_any _).mono ?_); rintro e w9 ⟨rfl, hb9⟩); have HBZ := Lib.hid (HB1.out.trans (hb9.mono HB1.out.size)); clear hb9))
      all_goals (go_ret; exact ⟨rfl, HBZ.out⟩)
  subst hr
  obtain ⟨hle, hdp, hfit⟩ := encR_ok hR
  have hlen : l.length = (encM u).length + 8 := by rw [hle, List.length_append, le8_len]
  have HR := Lib.hid hR
  have HLN := Lib.hid (show 8 ≤ l.length ∧ l.length ≤ 262144 by omega)
  clear hb1 hR hou hru hF ha' hle hdp hfit hlen
  go_enter Try.func6, Try.ntmps6
  go_wp2_with (first | (go_at_call 19; have _g := HV3; ((with_reducible refine (HSM.out HCN.out _ _ _ _ _ (HUU.out _ (HB2.out.trans ((HB3.out.alloc HB3.out.size (.cells #[.string u.pkg, .slice A5 u.imps.length c5, .slice B5 u.decls.length d5, .slice C5 u.funs.length e5] 26)).mono HB2.out.size))) (RUn_keeps.bel HR3.out.run ((Below.refl _ w3).alloc (Nat.le_refl _) (.cells #[.string u.pkg, .slice A5 u.imps.length c5, .slice B5 u.decls.length d5, .slice C5 u.funs.length e5] 26)))).mono ?_); rintro e w4 ⟨rfl, hb4⟩); have HV4 := Lib.hid (HV3.out.bel2 hb4); have HX4 := Lib.hid ((HX3.out.alloc (.cells #[.string u.pkg, .slice A5 u.imps.length c5, .slice B5 u.decls.length d5, .slice C5 u.funs.length e5] 26)).bel2 hb4); have HB4 := Lib.hid ((HB3.out.alloc HB3.out.size (.cells #[.string u.pkg, .slice A5 u.imps.length c5, .slice B5 u.decls.length d5, .slice C5 u.funs.length e5] 26)).trans (hb4.mono (by have := HB3.out.size; simp; omega))); have HW4 := Lib.hid (((Below.refl _ w3).alloc (Nat.le_refl _) (.cells #[.string u.pkg, .slice A5 u.imps.length c5, .slice B5 u.decls.length d5, .slice C5 u.funs.length e5] 26)).trans (hb4.mono (by simp))); clear hb4 ax0 ax1 ax2 ax3 axl) | (go_at_call 18; have _g := HD; ((with_reducible refine HD.out.mono ?_); rintro e w3 ⟨hb3, vs, rfl, hr3⟩); have hrt := hr3; obtain ⟨_, A5, c5, B5, d5, C5, e5, rfl, hth⟩ := hrt; have HR3 := Lib.hid hr3; have HTH := Lib.hid hth; have HB3 := Lib.hid hb3; have hx3 := HX2.out.bel2 hb3; have HX3 := Lib.hid hx3; have ax0 := hx3.cell 0; have ax1 := hx3.cell 1; have ax2 := hx3.cell 2; have ax3 := hx3.cell 3; have axl := hx3.lt; have HV3 := Lib.hid (Blk.new w3 26 #[.string u.pkg, .slice A5 u.imps.length c5, .slice B5 u.decls.length d5, .slice C5 u.funs.length e5]); have HVZ := Lib.hid (show w2.heap.size ≤ w3.heap.size from hb3.size); clear hb3 hx3 hr3 hth) | (go_at_call 11; ((with_reducible refine (HE.out (HBC.out (by first | assumption | exact Bool.eq_false_iff.2 (by assumption))) _ HB1.out).mono ?_); rintro e w2 ⟨⟨P, pc, rfl, ho, hy⟩, hb2⟩); have hs2 := EncP.slB (r := (l, 0)) ho hy; obtain ⟨g2, cap2, cur2, e2, hlo2, hk2, hcp2, hcu2⟩ := own_blk ho (show 0 < l.length by have := HLN.out; omega); have hp2 := (Value.slice.inj e2).1; have hq2 := (Value.slice.inj e2).2.2.symm; subst hp2; subst hq2; have HS2 := Lib.hid (show SlB w2 w2.heap.size (some ⟨g2, 0, none⟩) l from hs2); have HB2 := Lib.hid (HB1.out.trans (hb2.mono HB1.out.size)); have HCN := Lib.hid (HBC.out (by first | assumption | exact Bool.eq_false_iff.2 (by assumption))); have HX2 := Lib.hid (HX1.out.bel2 hb2); have HLO2 := Lib.hid (show w.heap.size < g2 by have := HW1.out; omega); have HK2 := Lib.hid (show Blk w2 g2 5 cur2 ∧ l.length ≤ cur2.size from ⟨hk2, own_size hcu2⟩); have hcp2' : l.length ≤ cap2 := hcp2; have HD := Lib.hid (dec_encT HOU.out HRU.out (by have := HCN.out; omega) HR.out w2 w2.heap.size (some ⟨g2, 0, none⟩) cap2 hs2 (Nat.le_refl _) hcp2 (fun h => by cases h)); clear hb2 ho hy hs2 hk2 hcu2 hlo2 hcp2 e2 ax0 ax1 ax2 ax3 axl) | (go_at_call 9; ((with_reducible refine (HG.out _ HB0.out).mono ?_); rintro e w1 ⟨bb, rfl, hbc, hb1⟩); have HBC := Lib.hid hbc; have HB1 := Lib.hid (HB0.out.trans (hb1.mono HB0.out.size)); have HW1 := Lib.hid (show w.heap.size < w1.heap.size by have := hb1.size; simp at this; omega); have hx1 := HX0.out.bel2 hb1; have HX1 := Lib.hid hx1; have ax0 := hx1.cell 0; have ax1 := hx1.cell 1; have ax2 := hx1.cell 2; have ax3 := hx1.cell 3; have axl := hx1.lt; clear hb1 hx1 hbc) | (go_at_call 13; ((with_reducible refine (num_any _ _).mono ?_); rintro e w8 ⟨rfl, rfl⟩)) | (go_at_call 10; have _g := HB1; ((with_reducible refine (awake_any _).mono ?_); rintro e w9 ⟨rfl, hb9⟩); have HBZ := Lib.hid (HB1.out.trans (hb9.mono HB1.out.size)); clear hb9))
  · go_ret; exact ⟨rfl, HBZ.out⟩
  obtain ⟨Aq, cq, Bq, dq, Cq, eq', hvq, _, hds, _⟩ := HR3.out.run
  have hBq : B5 = Bq := by simp at hvq; exact hvq.2.1.1
  subst hBq
  obtain ⟨gB, hgB⟩ := thaw_size hds HTH.out
  have HGB := Lib.hid hgB
  obtain ⟨n, hn⟩ : ∃ n, u.decls.length = n := ⟨_, rfl⟩
  have hnb : n ≤ 140737488355328 := by rw [← hn]; exact HOU.out.2.2.1.1
  rw [hn] at HGB HV4 ⊢
  have HNN := Lib.hid hn
  have n0 : (0 : Int) ≤ (n : Int) := by omega
  have n1 : (n : Int) ≤ 140737488355328 := by omega
  have HNB := Lib.hid hnb
  clear hvq hds hgB hn hnb
  go_loopg [7] n (fun gk v7 wr => ∃ j : Nat, j + gk = n ∧ v7 = .int .i64 j ∧ Below w2.heap.size w2 wr ∧ Blk wr w3.heap.size 26 #[.string u.pkg, .slice A5 u.imps.length c5, .slice B5 n d5, .slice C5 u.funs.length e5] ∧ (0 < n → ∃ t cs, Blk wr gB t cs ∧ n * 10 ≤ cs.size))
  case atStart => exact ⟨0, by omega, rfl, HB4.out, HV4.out, fun h0 => by
    obtain ⟨_, _, _, t, cs, h1, h2⟩ := HGB.out h0
    exact ⟨t, cs, h1.bel2 HW4.out, h2⟩⟩
  case round =>
    obtain ⟨j, hj, rfl, hb, hv, hg⟩ := hrel
    have HBL := Lib.hid hb
    have HVL := Lib.hid hv
    have v0 := hv.cell 0
    have v1 := hv.cell 1
    have v2 := hv.cell 2
    have v3 := hv.cell 3
    have vl := hv.lt
    have j0 : (0 : Int) ≤ (j : Int) := by omega
    cases gk with
    | succ f =>
      obtain ⟨hBe, hg1, hg2, _⟩ := HGB.out (by omega)
      obtain ⟨t, cs, hk, hcs⟩ := hg (by omega)
      subst hBe
      have j1 : (j : Int) < (n : Int) := by omega
      have j2 : decide (j < n) = true := decide_eq_true (by omega)
      obtain ⟨z, hz⟩ : ∃ z, cs[j * 10 + 1]? = some z := ⟨_, Array.getElem?_eq_getElem (by omega)⟩
      have zc : wr.cell? ⟨gB, j * 10 + 1, none⟩ = some z := (hk.cell _).trans hz
      have zf := hk.frozen (j * 10 + 1)
      have zl := hk.lt
      obtain ⟨j', hj'⟩ : ∃ k, j + 1 = k := ⟨_, rfl⟩
      have ej : (j : Int) + 1 = (j' : Int) := by omega
      have wj : IntKind.i64.wrap (j' : Int) = (j' : Int) := by rw [IntKind.wrap_i64]; have := HNB.out; omega
      have HNX := Lib.hid (show j' + f = n ∧ Below w2.heap.size w2 (wr.setCell ⟨gB, j * 10 + 1, none⟩ (.string ⟨#[63]⟩)) ∧ Blk (wr.setCell ⟨gB, j * 10 + 1, none⟩ (.string ⟨#[63]⟩)) w3.heap.size 26 _ ∧ (0 < n → ∃ t cs, Blk (wr.setCell ⟨gB, j * 10 + 1, none⟩ (.string ⟨#[63]⟩)) gB t cs ∧ n * 10 ≤ cs.size) from ⟨by omega, hb.setCell (p := ⟨gB, j * 10 + 1, none⟩) hg1 _, hv.far (p := ⟨gB, j * 10 + 1, none⟩) (show w3.heap.size ≠ gB by omega) _, fun _ => ⟨t, _, hk.set_ _ _, by simpa using hcs⟩⟩)
      clear hj hb hv hg hk hcs hz hj' hg1 hg2
      go_wp2
      go_roundg f
      case measure => omega
      case rel => exact ⟨j', HNX.out.1, rfl, HNX.out.2.1, HNX.out.2.2.1, HNX.out.2.2.2⟩
    | zero =>
      have j1 : ¬ (j : Int) < (n : Int) := by omega
      have j2 : decide (j < n) = false := decide_eq_false (by omega)
      have HS5 := Lib.hid (show Below w.heap.size w wr ∧ Blk wr w.heap.size 26 #[.string u.pkg, .slice A7 u.imps.length c7, .slice A8 u.decls.length c8, .slice A9 u.funs.length c9] ∧ ∃ cur, Blk wr g2 5 cur ∧ l.length ≤ cur.size from ⟨HB2.out.trans (hb.mono HB2.out.size), HX2.out.bel2 hb, cur2, HK2.out.1.bel2 hb, HK2.out.2⟩)
      clear hj hb hv hg HVL
      have l0 : (0 : Int) ≤ (l.length : Int) := by omega
      have l1 : (l.length : Int) ≤ 262144 := by have := HLN.out; omega
      go_wp2
      go_loopg [8] l.length (fun gk v8 wr => ∃ j : Nat, j + gk = l.length ∧ v8 = .int .i64 j ∧ Below w.heap.size w wr ∧ Blk wr w.heap.size 26 #[.string u.pkg, .slice A7 u.imps.length c7, .slice A8 u.decls.length c8, .slice A9 u.funs.length c9] ∧ ∃ cur, Blk wr g2 5 cur ∧ l.length ≤ cur.size)
      case atStart => exact ⟨0, by omega, rfl, HS5.out.1, HS5.out.2.1, HS5.out.2.2⟩
      case round =>
        obtain ⟨i, hi, rfl, hb, hx, cur, hk, hcs⟩ := hrel
        have HBL2 := Lib.hid hb
        have i0 : (0 : Int) ≤ (i : Int) := by omega
        clear j0 j1 j2 v0 v1 v2 v3 vl
        cases gk with
        | succ f =>
          have i1 : (i : Int) < (l.length : Int) := by omega
          have i2 : decide (i < l.length) = true := decide_eq_true (by omega)
          obtain ⟨z, hz⟩ : ∃ z, cur[i]? = some z := ⟨_, Array.getElem?_eq_getElem (by omega)⟩
          have zc : wr.cell? ⟨g2, i, none⟩ = some z := (hk.cell _).trans hz
          have zf := hk.frozen i
          have zl := hk.lt
          obtain ⟨i', hi'⟩ : ∃ k, i + 1 = k := ⟨_, rfl⟩
          have ei : (i : Int) + 1 = (i' : Int) := by omega
          have wi : IntKind.i64.wrap (i' : Int) = (i' : Int) := by rw [IntKind.wrap_i64]; have := HLN.out; omega
          have HNX := Lib.hid (show i' + f = l.length ∧ Below w.heap.size w (wr.setCell ⟨g2, i, none⟩ (.int .u8 0)) ∧ Blk (wr.setCell ⟨g2, i, none⟩ (.int .u8 0)) w.heap.size 26 #[.string u.pkg, .slice A7 u.imps.length c7, .slice A8 u.decls.length c8, .slice A9 u.funs.length c9] ∧ ∃ cur, Blk (wr.setCell ⟨g2, i, none⟩ (.int .u8 0)) g2 5 cur ∧ l.length ≤ cur.size from ⟨by omega, hb.setCell (p := ⟨g2, i, none⟩) (Nat.le_of_lt HLO2.out) _, hx.far (p := ⟨g2, i, none⟩) (show w.heap.size ≠ g2 by have := HLO2.out; omega) _, _, hk.set_ _ _, by simpa using hcs⟩)
          clear hi hb hx hk hcs hz hi'
          go_wp2
          go_roundg f
          case measure => omega
          case rel => exact ⟨i', HNX.out.1, rfl, HNX.out.2.1, HNX.out.2.2.1, HNX.out.2.2.2⟩
        | zero =>
          have i1 : ¬ (i : Int) < (l.length : Int) := by omega
          have i2 : decide (i < l.length) = false := decide_eq_false (by omega)
          have HX5 := Lib.hid hx
          have ax0 := hx.cell 0
          have ax1 := hx.cell 1
          have ax2 := hx.cell 2
          have ax3 := hx.cell 3
          have axl := hx.lt
          clear hi hb hx hk hcs
          go_wp2_with (first | (go_at_call 19; have _g := HB6; ((with_reducible refine (HSM.out HCN.out _ _ _ _ _ (HUU.out _ (HB6.out.alloc HB6.out.size (.cells #[.string u.pkg, .slice A6 u.imps.length c6, .slice B6 u.decls.length d6, .slice C6 u.funs.length e6] 26))) (RUn_keeps.bel HR6.out.run ((Below.refl _ w6).alloc (Nat.le_refl _) (.cells #[.string u.pkg, .slice A6 u.imps.length c6, .slice B6 u.decls.length d6, .slice C6 u.funs.length e6] 26)))).mono ?_); rintro e w7 ⟨rfl, hb7⟩); have HB7 := Lib.hid ((HB6.out.alloc HB6.out.size (.cells #[.string u.pkg, .slice A6 u.imps.length c6, .slice B6 u.decls.length d6, .slice C6 u.funs.length e6] 26)).trans (hb7.mono (by have := HB6.out.size; simp; omega))); clear hb7) | (go_at_call 18; have _g := HD5; ((with_reducible refine HD5.out.mono ?_); rintro e w6 ⟨hb6, vs, rfl, hr6⟩); have hrt := hr6; obtain ⟨_, A6, c6, B6, d6, C6, e6, rfl, hth⟩ := hrt; have HR6 := Lib.hid hr6; have HB6 := Lib.hid (HB5.out.trans (hb6.mono HB5.out.size)); have hx6 := HX6.out.bel2 hb6; have ax0 := hx6.cell 0; have ax1 := hx6.cell 1; have ax2 := hx6.cell 2; have ax3 := hx6.cell 3; have axl := hx6.lt; clear hb6 hx6 hr6 hth) | (go_at_call 11; have _g := HBL2; ((with_reducible refine (HE.out HCN.out _ HBL2.out).mono ?_); rintro e w5 ⟨⟨P5, pc5, rfl, ho, hy⟩, hb5⟩); have hs5 := EncP.slB (r := (l, 0)) ho hy; obtain ⟨g5, cap5, cur5, e5', hlo5, hk5, hcp5, hcu5⟩ := own_blk ho (show 0 < l.length by have := HLN.out; omega); have hp5 := (Value.slice.inj e5').1; have hq5 := (Value.slice.inj e5').2.2.symm; subst hp5; subst hq5; have HB5 := Lib.hid (HBL2.out.trans (hb5.mono HBL2.out.size)); have HX6 := Lib.hid (HX5.out.bel2 hb5); have HD5 := Lib.hid (dec_encT HOU.out HRU.out (by have := HCN.out; omega) HR.out w5 w5.heap.size (some ⟨g5, 0, none⟩) cap5 hs5 (Nat.le_refl _) hcp5 (fun h => by cases h)); clear hb5 ho hy hs5 hk5 hcu5 hlo5 e5' ax0 ax1 ax2 ax3 axl) | (go_at_call 13; ((with_reducible refine (num_any _ _).mono ?_); rintro e w8 ⟨rfl, rfl⟩)) | (go_at_call 10; have _g := HB7; ((with_reducible refine (awake_any _).mono ?_); rintro e w9 ⟨rfl, hb9⟩); have HBZ := Lib.hid (HB7.out.trans (hb9.mono HB7.out.size)); clear hb9))
          go_ret
          exact ⟨rfl, HBZ.out⟩
end Go.Proofs.Ytnkojjkijkhlbaa
