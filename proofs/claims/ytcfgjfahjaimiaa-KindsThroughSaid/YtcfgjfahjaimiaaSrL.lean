/-
  What a type variable must be; the interface that a type names.
-/
import Derived.Test.YtcfgjfahjaimiaaSrI
namespace Go.Proofs.Ytcfgjfahjaimiaa
open Go.RowKit
set_option linter.unusedVariables false
set_option linter.unusedSimpArgs false

def varP : List Fi → ByteArray → Option Fi
  | [], _ => none
  | d :: r, s => if d.name = s then some d else varP r s
theorem varP_drop {l : List Fi} {s : ByteArray} {j : Nat} {d : Fi} (h : l[j]? = some d) : varP (l.drop j) s = if d.name = s then some d else varP (l.drop (j + 1)) s := by
  obtain ⟨h1, h2⟩ := List.getElem?_eq_some_iff.1 h
  rw [List.drop_eq_getElem_cons h1, h2, varP]
theorem varP_mem {l : List Fi} {n : ByteArray} {d : Fi} (h : varP l n = some d) : d ∈ l := by
  induction l with
  | nil => cases h
  | cons a r ih =>
    rw [varP] at h
    split at h
    · cases h; exact List.mem_cons_self
    · exact List.mem_cons_of_mem _ (ih h)
def FiV (F : Nat → Prop) (d : Fi) (w : World) (vs : List Value) : Prop := RFi w F d vs
theorem RFi.bel {w w' : World} {F : Nat → Prop} {d : Fi} {vs : List Value} (h : RFi w F d vs) (hb : Below w.heap.size w w') : RFi w' F d vs :=
  RFi_keeps _ _ _ _ _ _ (fun k _ hl => hb.block k hl) hb.size (fun _ _ h => h) h
theorem RFi.clear {w w' : World} {F : Nat → Prop} {g : Nat} {d : Fi} {vs : List Value} (h : RFi w F d vs) (hg : Gr (fun x => x = g) w w') (hB : ∀ k, F k → k < g) : RFi w' F d vs :=
  RFi_keeps _ _ _ _ _ _ (fun k hk hl => hg.block k hl (fun e => by have e2 : k = g := e; have := hB k hk; omega)) hg.size (fun _ _ h => h) h
theorem RT.clear {w w' : World} {F : Nat → Prop} {g : Nat} {d : Ty} {vs : List Value} (h : RT w F d vs) (hg : Gr (fun x => x = g) w w') (hB : ∀ k, F k → k < g) : RT w' F d vs :=
  RT_keeps _ _ _ _ _ _ (fun k hk hl => hg.block k hl (fun e => by have e2 : k = g := e; have := hB k hk; omega)) hg.size (fun _ _ h => h) h
set_option maxRecDepth 100000 in
set_option maxHeartbeats 2000000 in
theorem mustbe1_any (x : ByteArray) (tk : Int) (tp tn y : ByteArray) (A B : Option Addr) (l a m b g : Nat) (w : World) (hg : w.cell? ⟨g, 0, none⟩ = some (.string y)) (hgl : g < w.heap.size) : Calls Try.prog 59 #[.agg #[.string x, .int .i64 tk, .string tp, .string tn, .slice A l a, .slice B m b], .pointer (some ⟨g, 0, none⟩)] w (TruthP w (decide (x = y))) := by
  by_cases e : x = y
  · subst e
    go_enter Try.func59, Try.ntmps59
    go_wp2
    go_ret
    exact ⟨by simp, (Below.refl _ _).alloc (Nat.le_refl _) _⟩
  · have eb : (x.toList == y.toList) = false := by simpa [toList_inj] using e
    have ed : decide (x = y) = false := decide_eq_false e
    rw [ed]
    clear e ed
    go_enter Try.func59, Try.ntmps59
    go_wp2
    go_ret
    exact ⟨rfl, (Below.refl _ _).alloc (Nat.le_refl _) _⟩
set_option maxRecDepth 100000 in
set_option maxHeartbeats 4000000 in
theorem firstf_any (us : List Fi) (p : ByteArray) (hlen : us.length ≤ 140737488355328) (w : World) (F : Nat → Prop) (A : Option Addr) (c g : Nat) (hr : SlG 6 RFi w F A us) (hg : w.cell? ⟨g, 0, none⟩ = some (.string p)) (hgl : g < w.heap.size) (hF : ∀ k, F k → k < w.heap.size) :
    Calls Try.prog 56 #[.slice A us.length c, .func (Fn.func 59) #[] #[.pointer (some ⟨g, 0, none⟩)]] w fun e w' => (∃ vs : List Value, e = .returned (.tuple #[.agg vs.toArray, .bool (varP us p).isSome]) ∧ FiV F ((varP us p).getD fiZ) w' vs) ∧ Below w.heap.size w w' := by
  have HA := Lib.hid hr
  have HLT := Lib.hid hF
  have HG := Lib.hid hg
  have n0 : (0 : Int) ≤ (us.length : Int) := by omega
  have n1 : (us.length : Int) ≤ 140737488355328 := by omega
  obtain ⟨res, hres⟩ : ∃ r, varP us p = r := ⟨_, rfl⟩
  have HR := Lib.hid hres
  rw [hres]
  have HGL := Lib.hid hgl
  clear hr hg hres hF
  go_enter Try.func56, Try.ntmps56
  go_wp2
  go_loopg [11] us.length (fun gk v11 wr => ∃ (j : Nat), j + gk = us.length ∧ v11 = .int .i64 j ∧ Below w.heap.size w wr ∧ Blk wr w.heap.size 40 #[.string ⟨#[]⟩, .int .i64 0, .string ⟨#[]⟩, .string ⟨#[]⟩, .slice none 0 0, .slice none 0 0] ∧ res = varP (us.drop j) p)
  case atStart => exact ⟨0, by simp, rfl, (Below.refl _ _).alloc (Nat.le_refl _) _, Blk.new _ _ _, by rw [← HR.out]; rfl⟩
  case round =>
    obtain ⟨j, hj, rfl, hb, hk, hsm⟩ := hrel
    have HB := Lib.hid hb
    have HK := Lib.hid hk
    cases gk with
    | zero =>
      obtain rfl : j = us.length := by omega
      rw [List.drop_length] at hsm
      subst hsm
      have z0 := hk.cell 0
      have f0 := hk.frozen 0
      have z1 := hk.cell 1
      have f1 := hk.frozen 1
      have z2 := hk.cell 2
      have f2 := hk.frozen 2
      have z3 := hk.cell 3
      have f3 := hk.frozen 3
      have z4 := hk.cell 4
      have f4 := hk.frozen 4
      have z5 := hk.cell 5
      have f5 := hk.frozen 5
      have zl := hk.lt
      clear hj hb hk
      go_wp2
      have hw6 := HB.out.alloc HB.out.size (.cells #[.string ⟨#[]⟩, .int .i64 0, .string ⟨#[]⟩, .string ⟨#[]⟩, .slice none 0 0, .slice none 0 0] 40)
      have hk6 := HK.out.alloc (.cells #[.string ⟨#[]⟩, .int .i64 0, .string ⟨#[]⟩, .string ⟨#[]⟩, .slice none 0 0, .slice none 0 0] 40)
      have e6 : (putCs wr w.heap.size 0 [.string ⟨#[]⟩, .int .i64 0, .string ⟨#[]⟩, .string ⟨#[]⟩, .slice none 0 0, .slice none 0 0]).alloc (.cells #[.string ⟨#[]⟩, .int .i64 0, .string ⟨#[]⟩, .string ⟨#[]⟩, .slice none 0 0, .slice none 0 0] 40) = (putCs wr w.heap.size 0 [.string ⟨#[]⟩, .int .i64 0, .string ⟨#[]⟩, .string ⟨#[]⟩, .slice none 0 0, .slice none 0 0]).alloc (.cells #[.string ⟨#[]⟩, .int .i64 0, .string ⟨#[]⟩, .string ⟨#[]⟩, .slice none 0 0, .slice none 0 0] 40) := rfl
      have hV := (putCs_blk0 (vs := [.string ⟨#[]⟩, .int .i64 0, .string ⟨#[]⟩, .string ⟨#[]⟩, .slice none 0 0, .slice none 0 0]) HK.out rfl).alloc (.cells #[.string ⟨#[]⟩, .int .i64 0, .string ⟨#[]⟩, .string ⟨#[]⟩, .slice none 0 0, .slice none 0 0] 40)
      have hVb := putCs_bel HB.out (Nat.le_refl _) [.string ⟨#[]⟩, .int .i64 0, .string ⟨#[]⟩, .string ⟨#[]⟩, .slice none 0 0, .slice none 0 0]
      have HV := Lib.hid (hVb.alloc hVb.size (.cells #[.string ⟨#[]⟩, .int .i64 0, .string ⟨#[]⟩, .string ⟨#[]⟩, .slice none 0 0, .slice none 0 0] 40))
      have y0 := hV.cell 0
      have y1 := hV.cell 1
      have y2 := hV.cell 2
      have y3 := hV.cell 3
      have y4 := hV.cell 4
      have y5 := hV.cell 5
      clear hV hw6 hk6 e6 hVb z0 f0 z1 f1 z2 f2 z3 f3 z4 f4 z5 f5
      show bodyPost _ _ _ _ _ ((putCs wr w.heap.size 0 [.string ⟨#[]⟩, .int .i64 0, .string ⟨#[]⟩, .string ⟨#[]⟩, .slice none 0 0, .slice none 0 0]).alloc (.cells #[.string ⟨#[]⟩, .int .i64 0, .string ⟨#[]⟩, .string ⟨#[]⟩, .slice none 0 0, .slice none 0 0] 40))
      generalize (putCs wr w.heap.size 0 [.string ⟨#[]⟩, .int .i64 0, .string ⟨#[]⟩, .string ⟨#[]⟩, .slice none 0 0, .slice none 0 0]).alloc (.cells #[.string ⟨#[]⟩, .int .i64 0, .string ⟨#[]⟩, .string ⟨#[]⟩, .slice none 0 0, .slice none 0 0] 40) = V at HV y0 y1 y2 y3 y4 y5 ⊢
      exact bodyPost_ret (v := .tuple #[.agg #[.string ⟨#[]⟩, .int .i64 0, .string ⟨#[]⟩, .string ⟨#[]⟩, .slice none 0 0, .slice none 0 0], .bool false]) (by simp [results, Try.results56, go_sem, y0, y1, y2, y3, y4, y5]) rfl ⟨⟨[.string ⟨#[]⟩, .int .i64 0, .string ⟨#[]⟩, .string ⟨#[]⟩, .slice none 0 0, .slice none 0 0], rfl, RFi.zero _ _⟩, HV.out⟩
    | succ f =>
      have hjl : j < us.length := by omega
      obtain ⟨u, hu⟩ : ∃ u, us[j]? = some u := ⟨_, List.getElem?_eq_getElem hjl⟩
      have j1 : (j : Int) < (us.length : Int) := by omega
      have j0 : (0 : Int) ≤ (j : Int) := by omega
      have j2 : (j : Int) ≤ 140737488355328 := by omega
      obtain ⟨q, o, vs, rfl, hFq, hql, hrep, hat⟩ := (HA.out.bel RFi_keeps hb).at_ RFi_sized hu
      rw [varP_drop hu] at hsm
      obtain ⟨fn, ft⟩ := u
      have hds := hrep
      obtain ⟨tv, rfl, hrt⟩ := hrep
      dsimp only at hrt
      obtain ⟨tk, tp, tn, A1, a1', a1, B1, b1', b1, rfl⟩ := hrt.shape
      have HDS := Lib.hid hds
      dsimp only at hsm
      have q0 := hat 0 _ rfl
      have q1 := hat 1 _ rfl
      have q2 := hat 2 _ rfl
      have q3 := hat 3 _ rfl
      have q4 := hat 4 _ rfl
      have q5 := hat 5 _ rfl
      rw [Nat.add_zero] at q0
      have z0 := hk.cell 0
      have f0 := hk.frozen 0
      have z1 := hk.cell 1
      have f1 := hk.frozen 1
      have z2 := hk.cell 2
      have f2 := hk.frozen 2
      have z3 := hk.cell 3
      have f3 := hk.frozen 3
      have z4 := hk.cell 4
      have f4 := hk.frozen 4
      have z5 := hk.cell 5
      have f5 := hk.frozen 5
      have zl := hk.lt
      have HC := Lib.hid (fun w' (h' : Below wr.heap.size wr w') => mustbe1_any fn tk tp tn p A1 B1 a1' a1 b1' b1 g w' ((h'.cell (p := ⟨g, 0, none⟩) (Nat.lt_of_lt_of_le HGL.out HB.out.size)).trans ((HB.out.cell (p := ⟨g, 0, none⟩) HGL.out).trans HG.out)) (Nat.lt_of_lt_of_le (Nat.lt_of_lt_of_le HGL.out HB.out.size) h'.size))
      by_cases e : fn = p
      · have ed : decide (fn = p) = true := decide_eq_true e
        rw [ed] at HC
        rw [if_pos e] at hsm
        subst hsm
        clear hat hu hb hk e ed
        go_wp2_with (go_at_call 59; refine (HC.out _ ((Below.refl _ _).alloc (Nat.le_refl _) _)).mono ?_; rintro e w5 ⟨rfl, hb5⟩; have hw5 := ((Below.refl _ wr).alloc (Nat.le_refl _) (.cells #[.string fn, .int .i64 tk, .string tp, .string tn, .slice A1 a1' a1, .slice B1 b1' b1] 40)).trans (hb5.mono (by simp)); have hx5 := (Blk.new wr 40 #[.string fn, .int .i64 tk, .string tp, .string tn, .slice A1 a1' a1, .slice B1 b1' b1]).bel2 hb5; have HW5 := Lib.hid hw5; have x0 := hx5.cell 0; have x1 := hx5.cell 1; have x2 := hx5.cell 2; have x3 := hx5.cell 3; have x4 := hx5.cell 4; have x5 := hx5.cell 5; have xl := hx5.lt; have hk5 := HK.out.bel2 hw5; have m0 := hk5.cell 0; have mf0 := hk5.frozen 0; have m1 := hk5.cell 1; have mf1 := hk5.frozen 1; have m2 := hk5.cell 2; have mf2 := hk5.frozen 2; have m3 := hk5.cell 3; have mf3 := hk5.frozen 3; have m4 := hk5.cell 4; have mf4 := hk5.frozen 4; have m5 := hk5.cell 5; have mf5 := hk5.frozen 5; have ml := hk5.lt; have HK5 := Lib.hid hk5; clear hb5 hw5 hx5 hk5)
        have hV := putCs_blk0 (vs := [.string fn, .int .i64 tk, .string tp, .string tn, .slice A1 a1' a1, .slice B1 b1' b1]) HK5.out rfl
        have HV := Lib.hid (putCs_bel (HB.out.trans (HW5.out.mono HB.out.size)) (Nat.le_refl _) [.string fn, .int .i64 tk, .string tp, .string tn, .slice A1 a1' a1, .slice B1 b1' b1])
        have HVR := Lib.hid (show FiV F ⟨fn, ft⟩ (putCs w5 w.heap.size 0 [.string fn, .int .i64 tk, .string tp, .string tn, .slice A1 a1' a1, .slice B1 b1' b1]) [.string fn, .int .i64 tk, .string tp, .string tn, .slice A1 a1' a1, .slice B1 b1' b1] from (HDS.out.bel HW5.out).clear (putCs_gr _ _ 0 w5) HLT.out)
        have y0 := hV.cell 0
        have y1 := hV.cell 1
        have y2 := hV.cell 2
        have y3 := hV.cell 3
        have y4 := hV.cell 4
        have y5 := hV.cell 5
        clear hV x0 m0 mf0 z0 f0 q0 x1 m1 mf1 z1 f1 q1 x2 m2 mf2 z2 f2 q2 x3 m3 mf3 z3 f3 q3 x4 m4 mf4 z4 f4 q4 x5 m5 mf5 z5 f5 q5
        show bodyPost _ _ _ _ _ (putCs w5 w.heap.size 0 [.string fn, .int .i64 tk, .string tp, .string tn, .slice A1 a1' a1, .slice B1 b1' b1])
        generalize putCs w5 w.heap.size 0 [.string fn, .int .i64 tk, .string tp, .string tn, .slice A1 a1' a1, .slice B1 b1' b1] = V at HV HVR y0 y1 y2 y3 y4 y5 ⊢
        exact bodyPost_ret (v := .tuple #[.agg #[.string fn, .int .i64 tk, .string tp, .string tn, .slice A1 a1' a1, .slice B1 b1' b1], .bool true]) (by simp [results, Try.results56, go_sem, y0, y1, y2, y3, y4, y5]) rfl ⟨⟨_, rfl, HVR.out⟩, HV.out⟩
      · have ed : decide (fn = p) = false := decide_eq_false e
        rw [ed] at HC
        rw [if_neg e] at hsm
        have HSM := Lib.hid hsm
        clear hat hu hb hk hsm e ed hds
        go_wp2_with (go_at_call 59; refine (HC.out _ ((Below.refl _ _).alloc (Nat.le_refl _) _)).mono ?_; rintro e w5 ⟨rfl, hb5⟩; have HB5 := Lib.hid (((Below.refl _ wr).alloc (Nat.le_refl _) (.cells #[.string fn, .int .i64 tk, .string tp, .string tn, .slice A1 a1' a1, .slice B1 b1' b1] 40)).trans (hb5.mono (by simp))); clear hb5)
        go_roundg f
        case measure => omega
        case rel => exact ⟨j + 1, by omega, by go_num, HB.out.trans (HB5.out.mono HB.out.size), HK.out.bel2 HB5.out, HSM.out⟩
end Go.Proofs.Ytcfgjfahjaimiaa

namespace Go.Proofs.Ytcfgjfahjaimiaa
open Go.RowKit
set_option linter.unusedVariables false
set_option linter.unusedSimpArgs false

set_option maxRecDepth 100000 in
set_option maxHeartbeats 4000000 in
theorem mustbe_any (us : List Fi) (p : ByteArray) (hlen : us.length ≤ 140737488355328) (w : World) (F : Nat → Prop) (A : Option Addr) (c : Nat) (hr : SlG 6 RFi w F A us) (hF : ∀ k, F k → k < w.heap.size) :
    Calls Try.prog 37 #[.slice A us.length c, .string p] w fun e w' => (∃ vs : List Value, e = .returned (.agg vs.toArray) ∧ RT w' F ((varP us p).getD fiZ).ty vs) ∧ Below w.heap.size w w' := by
  have hb1 := ((Below.refl _ w).alloc (Nat.le_refl _) (.cells #[.string p] 9))
  have hb2 := hb1.alloc hb1.size (.cells #[.int .i64 0, .string ⟨#[]⟩, .string ⟨#[]⟩, .slice none 0 0, .slice none 0 0] 26)
  have hc := ((Blk.new w 9 #[.string p]).alloc (.cells #[.int .i64 0, .string ⟨#[]⟩, .string ⟨#[]⟩, .slice none 0 0, .slice none 0 0] 26))
  have hk := Blk.new (w.alloc (.cells #[.string p] 9)) 26 #[.int .i64 0, .string ⟨#[]⟩, .string ⟨#[]⟩, .slice none 0 0, .slice none 0 0]
  rw [show (w.alloc (.cells #[.string p] 9)).heap.size = w.heap.size + 1 from by simp] at hk
  have HC := Lib.hid (firstf_any us p hlen ((w.alloc (.cells #[.string p] 9)).alloc (.cells #[.int .i64 0, .string ⟨#[]⟩, .string ⟨#[]⟩, .slice none 0 0, .slice none 0 0] 26)) F A c w.heap.size (hr.bel RFi_keeps hb2) (hc.cell 0) hc.lt (fun k h => Nat.lt_of_lt_of_le (hF k h) hb2.size))
  generalize (varP us p).getD fiZ = d at HC ⊢
  generalize (varP us p).isSome = b at HC ⊢
  have HB2 := Lib.hid hb2
  have HLT := Lib.hid hF
  have HK := Lib.hid hk
  clear hb1 hb2 hc hk hr hF
  go_enter Try.func37, Try.ntmps37
  go_wp2_with (go_at_call 56; refine HC.out.mono ?_; rintro e w5 ⟨⟨vs, rfl, hv⟩, hb5⟩; obtain ⟨fn, dt⟩ := d; obtain ⟨tv, rfl, hrt⟩ := hv; dsimp only at hrt; have HRT := Lib.hid hrt; obtain ⟨tk, tp, tn, A3, a3', a3, B3, b3', b3, rfl⟩ := hrt.shape; simp only [tyC] at HRT ⊢; have hw5 := HB2.out.trans (hb5.mono HB2.out.size); have HW5 := Lib.hid hw5; have hk5 := HK.out.bel2 hb5; have m0 := hk5.cell 0; have mf0 := hk5.frozen 0; have m1 := hk5.cell 1; have mf1 := hk5.frozen 1; have m2 := hk5.cell 2; have mf2 := hk5.frozen 2; have m3 := hk5.cell 3; have mf3 := hk5.frozen 3; have m4 := hk5.cell 4; have mf4 := hk5.frozen 4; have ml := hk5.lt; have HK5 := Lib.hid hk5; clear hb5 hw5 hk5 hrt)
  have hV := (putCs_blk0 (vs := [.int .i64 tk, .string tp, .string tn, .slice A3 a3' a3, .slice B3 b3' b3]) HK5.out rfl).alloc (.cells #[.string fn, .int .i64 tk, .string tp, .string tn, .slice A3 a3' a3, .slice B3 b3' b3] 40)
  have hwx := HW5.out
  have hVg : Below w.heap.size w (putCs w5 (w.heap.size + 1) 0 [.int .i64 tk, .string tp, .string tn, .slice A3 a3' a3, .slice B3 b3' b3]) := hwx.trans ((putCs_gr (w.heap.size + 1) [.int .i64 tk, .string tp, .string tn, .slice A3 a3' a3, .slice B3 b3' b3] 0 _).belowN hwx.size (fun k hk e => by have e2 : k = w.heap.size + 1 := e; omega))
  have HV := Lib.hid (hVg.alloc hVg.size (.cells #[.string fn, .int .i64 tk, .string tp, .string tn, .slice A3 a3' a3, .slice B3 b3' b3] 40))
  have HVR := Lib.hid (show RT ((putCs w5 (w.heap.size + 1) 0 [.int .i64 tk, .string tp, .string tn, .slice A3 a3' a3, .slice B3 b3' b3]).alloc (.cells #[.string fn, .int .i64 tk, .string tp, .string tn, .slice A3 a3' a3, .slice B3 b3' b3] 40)) F dt [.int .i64 tk, .string tp, .string tn, .slice A3 a3' a3, .slice B3 b3' b3] from RT.bel (RT.clear HRT.out (putCs_gr _ _ 0 _) (fun k h => Nat.lt_succ_of_lt (HLT.out k h))) ((Below.refl _ _).alloc (Nat.le_refl _) _))
  have y0 := hV.cell 0
  have y1 := hV.cell 1
  have y2 := hV.cell 2
  have y3 := hV.cell 3
  have y4 := hV.cell 4
  clear hV hVg hwx m0 mf0 m1 mf1 m2 mf2 m3 mf3 m4 mf4
  show bodyPost _ _ _ _ _ ((putCs w5 (w.heap.size + 1) 0 [.int .i64 tk, .string tp, .string tn, .slice A3 a3' a3, .slice B3 b3' b3]).alloc (.cells #[.string fn, .int .i64 tk, .string tp, .string tn, .slice A3 a3' a3, .slice B3 b3' b3] 40))
  generalize (putCs w5 (w.heap.size + 1) 0 [.int .i64 tk, .string tp, .string tn, .slice A3 a3' a3, .slice B3 b3' b3]).alloc (.cells #[.string fn, .int .i64 tk, .string tp, .string tn, .slice A3 a3' a3, .slice B3 b3' b3] 40) = V at HV HVR y0 y1 y2 y3 y4 ⊢
  exact bodyPost_ret (v := .agg #[.int .i64 tk, .string tp, .string tn, .slice A3 a3' a3, .slice B3 b3' b3]) (by simp [results, Try.results37, go_sem, y0, y1, y2, y3, y4]) rfl ⟨⟨_, rfl, HVR.out⟩, HV.out⟩
end Go.Proofs.Ytcfgjfahjaimiaa

namespace Go.Proofs.Ytcfgjfahjaimiaa
open Go.RowKit
set_option linter.unusedVariables false
set_option linter.unusedSimpArgs false

def ifP (us : List Un) (k : Int) (p n : ByteArray) : Option Dl := if k = 8 then (match fndP us p n with | none => none | some d => if d.kind = 4 then some d else none) else none
def IfP (F : Nat → Prop) (o : Option Dl) (w : World) (e : Ending) (w' : World) : Prop := (∃ vs : List Value, e = .returned (.tuple #[.agg vs.toArray, .bool o.isSome]) ∧ DlV F (o.getD dlZ) w' vs) ∧ Below w.heap.size w w'
theorem RDl.zero (w : World) (F : Nat → Prop) : RDl w F dlZ [.int .i64 0, .string ⟨#[]⟩, .string ⟨#[]⟩, .int .i64 0, .int .i64 0, .string ⟨#[]⟩, .string ⟨#[]⟩, .slice none 0 0, .slice none 0 0, .slice none 0 0] := ⟨z5.toList, none, 0, rfl, RT.zero _ _, SlG.none_ _ _⟩
set_option maxRecDepth 100000 in
set_option maxHeartbeats 4000000 in
theorem ifaceof_any (us : List Un) (hok : ∀ u ∈ us, u.ok 140737488355328) (hlen : us.length ≤ 140737488355328) (k0 : Int) (p0 n0 : ByteArray) (A0 B0 : Option Addr) (m0 c0 l0 d0 : Nat) (w : World) (F : Nat → Prop) (A : Option Addr) (c : Nat) (hr : SlG 4 RUn w F A us) (hF : ∀ k, F k → k < w.heap.size) :
    Calls Try.prog 32 #[.slice A us.length c, .agg #[.int .i64 k0, .string p0, .string n0, .slice A0 m0 c0, .slice B0 l0 d0]] w (IfP F (ifP us k0 p0 n0) w) := by
  have hb1 := ((Below.refl _ w).alloc (Nat.le_refl _) (.cells #[.int .i64 k0, .string p0, .string n0, .slice A0 m0 c0, .slice B0 l0 d0] 26))
  have hb2 := hb1.alloc hb1.size (.cells #[.int .i64 0, .string ⟨#[]⟩, .string ⟨#[]⟩, .int .i64 0, .int .i64 0, .string ⟨#[]⟩, .string ⟨#[]⟩, .slice none 0 0, .slice none 0 0, .slice none 0 0] 57)
  have hk := Blk.new (w.alloc (.cells #[.int .i64 k0, .string p0, .string n0, .slice A0 m0 c0, .slice B0 l0 d0] 26)) 57 #[.int .i64 0, .string ⟨#[]⟩, .string ⟨#[]⟩, .int .i64 0, .int .i64 0, .string ⟨#[]⟩, .string ⟨#[]⟩, .slice none 0 0, .slice none 0 0, .slice none 0 0]
  rw [show (w.alloc (.cells #[.int .i64 k0, .string p0, .string n0, .slice A0 m0 c0, .slice B0 l0 d0] 26)).heap.size = w.heap.size + 1 from by simp] at hk
  by_cases h8 : k0 = 8
  · have e1 : (k0 != 8) = false := by simpa using h8
    have HC := Lib.hid (find_any us hok p0 n0 hlen ((w.alloc (.cells #[.int .i64 k0, .string p0, .string n0, .slice A0 m0 c0, .slice B0 l0 d0] 26)).alloc (.cells #[.int .i64 0, .string ⟨#[]⟩, .string ⟨#[]⟩, .int .i64 0, .int .i64 0, .string ⟨#[]⟩, .string ⟨#[]⟩, .slice none 0 0, .slice none 0 0, .slice none 0 0] 57)) F A c (hr.bel RUn_keeps hb2) (fun k h => Nat.lt_of_lt_of_le (hF k h) hb2.size))
    have ho : ifP us k0 p0 n0 = (match fndP us p0 n0 with | none => none | some d => if d.kind = 4 then some d else none) := if_pos h8
    rw [ho]
    clear ho
    have HB2 := Lib.hid hb2
    have HLT := Lib.hid hF
    have HK := Lib.hid hk
    clear hb1 hb2 hk hr hF hok h8
    have hbuild : ∀ W, (Instr.build 57 #[]).run Try.prog W = .ok (.agg #[.int .i64 0, .string ⟨#[]⟩, .string ⟨#[]⟩, .int .i64 0, .int .i64 0, .string ⟨#[]⟩, .string ⟨#[]⟩, .slice none 0 0, .slice none 0 0, .slice none 0 0]) W := fun _ => by kernel_rfl
    cases hfn : fndP us p0 n0 with
    | none =>
      rw [hfn] at HC
      have HC2 := Lib.hid (show Calls Try.prog 55 #[.slice A us.length c, .string p0, .string n0] ((w.alloc (.cells #[.int .i64 k0, .string p0, .string n0, .slice A0 m0 c0, .slice B0 l0 d0] 26)).alloc (.cells #[.int .i64 0, .string ⟨#[]⟩, .string ⟨#[]⟩, .int .i64 0, .int .i64 0, .string ⟨#[]⟩, .string ⟨#[]⟩, .slice none 0 0, .slice none 0 0, .slice none 0 0] 57)) fun e w' => (∃ vs : List Value, e = .returned (.tuple #[.agg vs.toArray, .bool false]) ∧ DlV F dlZ w' vs) ∧ Below ((w.alloc (.cells #[.int .i64 k0, .string p0, .string n0, .slice A0 m0 c0, .slice B0 l0 d0] 26)).alloc (.cells #[.int .i64 0, .string ⟨#[]⟩, .string ⟨#[]⟩, .int .i64 0, .int .i64 0, .string ⟨#[]⟩, .string ⟨#[]⟩, .slice none 0 0, .slice none 0 0, .slice none 0 0] 57)).heap.size ((w.alloc (.cells #[.int .i64 k0, .string p0, .string n0, .slice A0 m0 c0, .slice B0 l0 d0] 26)).alloc (.cells #[.int .i64 0, .string ⟨#[]⟩, .string ⟨#[]⟩, .int .i64 0, .int .i64 0, .string ⟨#[]⟩, .string ⟨#[]⟩, .slice none 0 0, .slice none 0 0, .slice none 0 0] 57)) w' from HC.out)
      clear HC hfn
      go_enter Try.func32, Try.ntmps32
      go_wp2_with (go_at_call 55; refine HC2.out.mono ?_; rintro e w5 ⟨⟨vs, rfl, hv⟩, hb5⟩; obtain ⟨tv, Af, cf, rfl, hrt, hfs⟩ := hv; obtain ⟨tk, tp, tn, A3, a3', a3, B3, b3', b3, rfl⟩ := hrt.shape; simp only [tyC, List.cons_append, List.nil_append]; obtain ⟨dk, hdk⟩ : ∃ z, dlZ.kind = z := ⟨_, rfl⟩; obtain ⟨dn, hdn⟩ : ∃ z, dlZ.name = z := ⟨_, rfl⟩; obtain ⟨dof, hdo⟩ : ∃ z, dlZ.of = z := ⟨_, rfl⟩; obtain ⟨dv, hdv⟩ : ∃ z, dlZ.value = z := ⟨_, rfl⟩; obtain ⟨fs, hdf⟩ : ∃ z, dlZ.fields = z := ⟨_, rfl⟩; rw [hdk, hdn, hdo, hdv, hdf]; have hw5 := HB2.out.trans (hb5.mono HB2.out.size); have HW5 := Lib.hid hw5; have hk5 := HK.out.bel2 hb5; have m0z := hk5.cell 0; have mf0z := hk5.frozen 0; have m1z := hk5.cell 1; have mf1z := hk5.frozen 1; have m2z := hk5.cell 2; have mf2z := hk5.frozen 2; have m3z := hk5.cell 3; have mf3z := hk5.frozen 3; have m4z := hk5.cell 4; have mf4z := hk5.frozen 4; have m5z := hk5.cell 5; have mf5z := hk5.frozen 5; have m6z := hk5.cell 6; have mf6z := hk5.frozen 6; have m7z := hk5.cell 7; have mf7z := hk5.frozen 7; have m8z := hk5.cell 8; have mf8z := hk5.frozen 8; have m9z := hk5.cell 9; have mf9z := hk5.frozen 9; have ml := hk5.lt; have HK5 := Lib.hid hk5; clear hb5 hw5 hk5 hrt hfs hdk hdn hdo hdv hdf)
      have hV := (putCs_blk0 (vs := [.int .i64 0, .string ⟨#[]⟩, .string ⟨#[]⟩, .int .i64 0, .int .i64 0, .string ⟨#[]⟩, .string ⟨#[]⟩, .slice none 0 0, .slice none 0 0, .slice none 0 0]) HK5.out rfl).alloc (.cells #[.int .i64 dk, .string dn, .string dof, .int .i64 dv, .int .i64 tk, .string tp, .string tn, .slice A3 a3' a3, .slice B3 b3' b3, .slice Af fs.length cf] 57)
      have hwx := HW5.out
      have hVg : Below w.heap.size w (putCs w5 (w.heap.size + 1) 0 [.int .i64 0, .string ⟨#[]⟩, .string ⟨#[]⟩, .int .i64 0, .int .i64 0, .string ⟨#[]⟩, .string ⟨#[]⟩, .slice none 0 0, .slice none 0 0, .slice none 0 0]) := hwx.trans ((putCs_gr (w.heap.size + 1) [.int .i64 0, .string ⟨#[]⟩, .string ⟨#[]⟩, .int .i64 0, .int .i64 0, .string ⟨#[]⟩, .string ⟨#[]⟩, .slice none 0 0, .slice none 0 0, .slice none 0 0] 0 _).belowN hwx.size (fun k hk e => by have e2 : k = w.heap.size + 1 := e; omega))
      have HV := Lib.hid (hVg.alloc hVg.size (.cells #[.int .i64 dk, .string dn, .string dof, .int .i64 dv, .int .i64 tk, .string tp, .string tn, .slice A3 a3' a3, .slice B3 b3' b3, .slice Af fs.length cf] 57))
      have HVR := Lib.hid (RDl.zero ((putCs w5 (w.heap.size + 1) 0 [.int .i64 0, .string ⟨#[]⟩, .string ⟨#[]⟩, .int .i64 0, .int .i64 0, .string ⟨#[]⟩, .string ⟨#[]⟩, .slice none 0 0, .slice none 0 0, .slice none 0 0]).alloc (.cells #[.int .i64 dk, .string dn, .string dof, .int .i64 dv, .int .i64 tk, .string tp, .string tn, .slice A3 a3' a3, .slice B3 b3' b3, .slice Af fs.length cf] 57)) F)
      have y0 := hV.cell 0
      have y1 := hV.cell 1
      have y2 := hV.cell 2
      have y3 := hV.cell 3
      have y4 := hV.cell 4
      have y5 := hV.cell 5
      have y6 := hV.cell 6
      have y7 := hV.cell 7
      have y8 := hV.cell 8
      have y9 := hV.cell 9
      clear hV hVg hwx m0z mf0z m1z mf1z m2z mf2z m3z mf3z m4z mf4z m5z mf5z m6z mf6z m7z mf7z m8z mf8z m9z mf9z
      show bodyPost _ _ _ _ _ ((putCs w5 (w.heap.size + 1) 0 [.int .i64 0, .string ⟨#[]⟩, .string ⟨#[]⟩, .int .i64 0, .int .i64 0, .string ⟨#[]⟩, .string ⟨#[]⟩, .slice none 0 0, .slice none 0 0, .slice none 0 0]).alloc (.cells #[.int .i64 dk, .string dn, .string dof, .int .i64 dv, .int .i64 tk, .string tp, .string tn, .slice A3 a3' a3, .slice B3 b3' b3, .slice Af fs.length cf] 57))
      generalize ((putCs w5 (w.heap.size + 1) 0 [.int .i64 0, .string ⟨#[]⟩, .string ⟨#[]⟩, .int .i64 0, .int .i64 0, .string ⟨#[]⟩, .string ⟨#[]⟩, .slice none 0 0, .slice none 0 0, .slice none 0 0]).alloc (.cells #[.int .i64 dk, .string dn, .string dof, .int .i64 dv, .int .i64 tk, .string tp, .string tn, .slice A3 a3' a3, .slice B3 b3' b3, .slice Af fs.length cf] 57)) = V at HV HVR y0 y1 y2 y3 y4 y5 y6 y7 y8 y9 ⊢
      exact bodyPost_ret (v := .tuple #[.agg #[.int .i64 0, .string ⟨#[]⟩, .string ⟨#[]⟩, .int .i64 0, .int .i64 0, .string ⟨#[]⟩, .string ⟨#[]⟩, .slice none 0 0, .slice none 0 0, .slice none 0 0], .bool false]) (by simp [results, Try.results32, go_sem, y0, y1, y2, y3, y4, y5, y6, y7, y8, y9]) rfl ⟨⟨_, rfl, HVR.out⟩, HV.out⟩
    | some d =>
      rw [hfn] at HC
      have HC2 := Lib.hid (show Calls Try.prog 55 #[.slice A us.length c, .string p0, .string n0] ((w.alloc (.cells #[.int .i64 k0, .string p0, .string n0, .slice A0 m0 c0, .slice B0 l0 d0] 26)).alloc (.cells #[.int .i64 0, .string ⟨#[]⟩, .string ⟨#[]⟩, .int .i64 0, .int .i64 0, .string ⟨#[]⟩, .string ⟨#[]⟩, .slice none 0 0, .slice none 0 0, .slice none 0 0] 57)) fun e w' => (∃ vs : List Value, e = .returned (.tuple #[.agg vs.toArray, .bool true]) ∧ DlV F d w' vs) ∧ Below ((w.alloc (.cells #[.int .i64 k0, .string p0, .string n0, .slice A0 m0 c0, .slice B0 l0 d0] 26)).alloc (.cells #[.int .i64 0, .string ⟨#[]⟩, .string ⟨#[]⟩, .int .i64 0, .int .i64 0, .string ⟨#[]⟩, .string ⟨#[]⟩, .slice none 0 0, .slice none 0 0, .slice none 0 0] 57)).heap.size ((w.alloc (.cells #[.int .i64 k0, .string p0, .string n0, .slice A0 m0 c0, .slice B0 l0 d0] 26)).alloc (.cells #[.int .i64 0, .string ⟨#[]⟩, .string ⟨#[]⟩, .int .i64 0, .int .i64 0, .string ⟨#[]⟩, .string ⟨#[]⟩, .slice none 0 0, .slice none 0 0, .slice none 0 0] 57)) w' from HC.out)
      clear HC hfn
      obtain ⟨dk, dn, dof, dv, dt, fs⟩ := d
      by_cases h4 : dk = 4
      · subst h4
        have e2 : ((4 : Int) != 4) = false := by decide
        show Calls _ _ _ _ (IfP F (if (4 : Int) = 4 then some ⟨4, dn, dof, dv, dt, fs⟩ else none) w)
        rw [if_pos rfl]
        go_enter Try.func32, Try.ntmps32
        go_wp2_with (go_at_call 55; refine HC2.out.mono ?_; rintro e w5 ⟨⟨vs, rfl, hv⟩, hb5⟩; have HDV := Lib.hid hv; obtain ⟨tv, Af, cf, rfl, hrt, hfs⟩ := hv; dsimp only at hrt hfs; obtain ⟨tk, tp, tn, A3, a3', a3, B3, b3', b3, rfl⟩ := hrt.shape; simp only [tyC, List.cons_append, List.nil_append] at HDV ⊢; have hw5 := HB2.out.trans (hb5.mono HB2.out.size); have HW5 := Lib.hid hw5; have hk5 := HK.out.bel2 hb5; have m0z := hk5.cell 0; have mf0z := hk5.frozen 0; have m1z := hk5.cell 1; have mf1z := hk5.frozen 1; have m2z := hk5.cell 2; have mf2z := hk5.frozen 2; have m3z := hk5.cell 3; have mf3z := hk5.frozen 3; have m4z := hk5.cell 4; have mf4z := hk5.frozen 4; have m5z := hk5.cell 5; have mf5z := hk5.frozen 5; have m6z := hk5.cell 6; have mf6z := hk5.frozen 6; have m7z := hk5.cell 7; have mf7z := hk5.frozen 7; have m8z := hk5.cell 8; have mf8z := hk5.frozen 8; have m9z := hk5.cell 9; have mf9z := hk5.frozen 9; have ml := hk5.lt; have HK5 := Lib.hid hk5; clear hb5 hw5 hk5 hrt hfs)
        have hV := (putCs_blk0 (vs := [.int .i64 4, .string dn, .string dof, .int .i64 dv, .int .i64 tk, .string tp, .string tn, .slice A3 a3' a3, .slice B3 b3' b3, .slice Af fs.length cf]) HK5.out rfl).alloc (.cells #[.int .i64 4, .string dn, .string dof, .int .i64 dv, .int .i64 tk, .string tp, .string tn, .slice A3 a3' a3, .slice B3 b3' b3, .slice Af fs.length cf] 57)
        have hwx := HW5.out
        have hVg : Below w.heap.size w (putCs w5 (w.heap.size + 1) 0 [.int .i64 4, .string dn, .string dof, .int .i64 dv, .int .i64 tk, .string tp, .string tn, .slice A3 a3' a3, .slice B3 b3' b3, .slice Af fs.length cf]) := hwx.trans ((putCs_gr (w.heap.size + 1) [.int .i64 4, .string dn, .string dof, .int .i64 dv, .int .i64 tk, .string tp, .string tn, .slice A3 a3' a3, .slice B3 b3' b3, .slice Af fs.length cf] 0 _).belowN hwx.size (fun k hk e => by have e2 : k = w.heap.size + 1 := e; omega))
        have HV := Lib.hid (hVg.alloc hVg.size (.cells #[.int .i64 4, .string dn, .string dof, .int .i64 dv, .int .i64 tk, .string tp, .string tn, .slice A3 a3' a3, .slice B3 b3' b3, .slice Af fs.length cf] 57))
        have HVR := Lib.hid (show DlV F ⟨4, dn, dof, dv, dt, fs⟩ ((putCs w5 (w.heap.size + 1) 0 [.int .i64 4, .string dn, .string dof, .int .i64 dv, .int .i64 tk, .string tp, .string tn, .slice A3 a3' a3, .slice B3 b3' b3, .slice Af fs.length cf]).alloc (.cells #[.int .i64 4, .string dn, .string dof, .int .i64 dv, .int .i64 tk, .string tp, .string tn, .slice A3 a3' a3, .slice B3 b3' b3, .slice Af fs.length cf] 57)) [.int .i64 4, .string dn, .string dof, .int .i64 dv, .int .i64 tk, .string tp, .string tn, .slice A3 a3' a3, .slice B3 b3' b3, .slice Af fs.length cf] from RDl.bel (RDl.clear HDV.out (putCs_gr _ _ 0 _) (fun k h => Nat.lt_succ_of_lt (HLT.out k h))) ((Below.refl _ _).alloc (Nat.le_refl _) _))
        have y0 := hV.cell 0
        have y1 := hV.cell 1
        have y2 := hV.cell 2
        have y3 := hV.cell 3
        have y4 := hV.cell 4
        have y5 := hV.cell 5
        have y6 := hV.cell 6
        have y7 := hV.cell 7
        have y8 := hV.cell 8
        have y9 := hV.cell 9
        clear hV hVg hwx m0z mf0z m1z mf1z m2z mf2z m3z mf3z m4z mf4z m5z mf5z m6z mf6z m7z mf7z m8z mf8z m9z mf9z
        show bodyPost _ _ _ _ _ ((putCs w5 (w.heap.size + 1) 0 [.int .i64 4, .string dn, .string dof, .int .i64 dv, .int .i64 tk, .string tp, .string tn, .slice A3 a3' a3, .slice B3 b3' b3, .slice Af fs.length cf]).alloc (.cells #[.int .i64 4, .string dn, .string dof, .int .i64 dv, .int .i64 tk, .string tp, .string tn, .slice A3 a3' a3, .slice B3 b3' b3, .slice Af fs.length cf] 57))
        generalize ((putCs w5 (w.heap.size + 1) 0 [.int .i64 4, .string dn, .string dof, .int .i64 dv, .int .i64 tk, .string tp, .string tn, .slice A3 a3' a3, .slice B3 b3' b3, .slice Af fs.length cf]).alloc (.cells #[.int .i64 4, .string dn, .string dof, .int .i64 dv, .int .i64 tk, .string tp, .string tn, .slice A3 a3' a3, .slice B3 b3' b3, .slice Af fs.length cf] 57)) = V at HV HVR y0 y1 y2 y3 y4 y5 y6 y7 y8 y9 ⊢
        exact bodyPost_ret (v := .tuple #[.agg #[.int .i64 4, .string dn, .string dof, .int .i64 dv, .int .i64 tk, .string tp, .string tn, .slice A3 a3' a3, .slice B3 b3' b3, .slice Af fs.length cf], .bool true]) (by simp [results, Try.results32, go_sem, y0, y1, y2, y3, y4, y5, y6, y7, y8, y9]) rfl ⟨⟨_, rfl, HVR.out⟩, HV.out⟩
      · have e2 : (dk != 4) = true := by simpa using h4
        show Calls _ _ _ _ (IfP F (if dk = 4 then some ⟨dk, dn, dof, dv, dt, fs⟩ else none) w)
        rw [if_neg h4]
        clear h4
        go_enter Try.func32, Try.ntmps32
        go_wp2_with (go_at_call 55; refine HC2.out.mono ?_; rintro e w5 ⟨⟨vs, rfl, hv⟩, hb5⟩; obtain ⟨tv, Af, cf, rfl, hrt, hfs⟩ := hv; dsimp only at hrt hfs; obtain ⟨tk, tp, tn, A3, a3', a3, B3, b3', b3, rfl⟩ := hrt.shape; simp only [tyC, List.cons_append, List.nil_append]; have hw5 := HB2.out.trans (hb5.mono HB2.out.size); have HW5 := Lib.hid hw5; have hk5 := HK.out.bel2 hb5; have m0z := hk5.cell 0; have mf0z := hk5.frozen 0; have m1z := hk5.cell 1; have mf1z := hk5.frozen 1; have m2z := hk5.cell 2; have mf2z := hk5.frozen 2; have m3z := hk5.cell 3; have mf3z := hk5.frozen 3; have m4z := hk5.cell 4; have mf4z := hk5.frozen 4; have m5z := hk5.cell 5; have mf5z := hk5.frozen 5; have m6z := hk5.cell 6; have mf6z := hk5.frozen 6; have m7z := hk5.cell 7; have mf7z := hk5.frozen 7; have m8z := hk5.cell 8; have mf8z := hk5.frozen 8; have m9z := hk5.cell 9; have mf9z := hk5.frozen 9; have ml := hk5.lt; have HK5 := Lib.hid hk5; clear hb5 hw5 hk5 hrt hfs)
        have hV := (putCs_blk0 (vs := [.int .i64 0, .string ⟨#[]⟩, .string ⟨#[]⟩, .int .i64 0, .int .i64 0, .string ⟨#[]⟩, .string ⟨#[]⟩, .slice none 0 0, .slice none 0 0, .slice none 0 0]) HK5.out rfl).alloc (.cells #[.int .i64 dk, .string dn, .string dof, .int .i64 dv, .int .i64 tk, .string tp, .string tn, .slice A3 a3' a3, .slice B3 b3' b3, .slice Af fs.length cf] 57)
        have hwx := HW5.out
        have hVg : Below w.heap.size w (putCs w5 (w.heap.size + 1) 0 [.int .i64 0, .string ⟨#[]⟩, .string ⟨#[]⟩, .int .i64 0, .int .i64 0, .string ⟨#[]⟩, .string ⟨#[]⟩, .slice none 0 0, .slice none 0 0, .slice none 0 0]) := hwx.trans ((putCs_gr (w.heap.size + 1) [.int .i64 0, .string ⟨#[]⟩, .string ⟨#[]⟩, .int .i64 0, .int .i64 0, .string ⟨#[]⟩, .string ⟨#[]⟩, .slice none 0 0, .slice none 0 0, .slice none 0 0] 0 _).belowN hwx.size (fun k hk e => by have e2 : k = w.heap.size + 1 := e; omega))
        have HV := Lib.hid (hVg.alloc hVg.size (.cells #[.int .i64 dk, .string dn, .string dof, .int .i64 dv, .int .i64 tk, .string tp, .string tn, .slice A3 a3' a3, .slice B3 b3' b3, .slice Af fs.length cf] 57))
        have HVR := Lib.hid (RDl.zero ((putCs w5 (w.heap.size + 1) 0 [.int .i64 0, .string ⟨#[]⟩, .string ⟨#[]⟩, .int .i64 0, .int .i64 0, .string ⟨#[]⟩, .string ⟨#[]⟩, .slice none 0 0, .slice none 0 0, .slice none 0 0]).alloc (.cells #[.int .i64 dk, .string dn, .string dof, .int .i64 dv, .int .i64 tk, .string tp, .string tn, .slice A3 a3' a3, .slice B3 b3' b3, .slice Af fs.length cf] 57)) F)
        have y0 := hV.cell 0
        have y1 := hV.cell 1
        have y2 := hV.cell 2
        have y3 := hV.cell 3
        have y4 := hV.cell 4
        have y5 := hV.cell 5
        have y6 := hV.cell 6
        have y7 := hV.cell 7
        have y8 := hV.cell 8
        have y9 := hV.cell 9
        clear hV hVg hwx m0z mf0z m1z mf1z m2z mf2z m3z mf3z m4z mf4z m5z mf5z m6z mf6z m7z mf7z m8z mf8z m9z mf9z
        show bodyPost _ _ _ _ _ ((putCs w5 (w.heap.size + 1) 0 [.int .i64 0, .string ⟨#[]⟩, .string ⟨#[]⟩, .int .i64 0, .int .i64 0, .string ⟨#[]⟩, .string ⟨#[]⟩, .slice none 0 0, .slice none 0 0, .slice none 0 0]).alloc (.cells #[.int .i64 dk, .string dn, .string dof, .int .i64 dv, .int .i64 tk, .string tp, .string tn, .slice A3 a3' a3, .slice B3 b3' b3, .slice Af fs.length cf] 57))
        generalize ((putCs w5 (w.heap.size + 1) 0 [.int .i64 0, .string ⟨#[]⟩, .string ⟨#[]⟩, .int .i64 0, .int .i64 0, .string ⟨#[]⟩, .string ⟨#[]⟩, .slice none 0 0, .slice none 0 0, .slice none 0 0]).alloc (.cells #[.int .i64 dk, .string dn, .string dof, .int .i64 dv, .int .i64 tk, .string tp, .string tn, .slice A3 a3' a3, .slice B3 b3' b3, .slice Af fs.length cf] 57)) = V at HV HVR y0 y1 y2 y3 y4 y5 y6 y7 y8 y9 ⊢
        exact bodyPost_ret (v := .tuple #[.agg #[.int .i64 0, .string ⟨#[]⟩, .string ⟨#[]⟩, .int .i64 0, .int .i64 0, .string ⟨#[]⟩, .string ⟨#[]⟩, .slice none 0 0, .slice none 0 0, .slice none 0 0], .bool false]) (by simp [results, Try.results32, go_sem, y0, y1, y2, y3, y4, y5, y6, y7, y8, y9]) rfl ⟨⟨_, rfl, HVR.out⟩, HV.out⟩
  · have e1 : (k0 != 8) = true := by simpa using h8
    have ho : ifP us k0 p0 n0 = none := if_neg h8
    rw [ho]
    have HB2 := Lib.hid hb2
    have HK := Lib.hid hk
    clear ho h8 hb1 hb2 hk hr hF hok
    go_enter Try.func32, Try.ntmps32
    go_wp2
    have hV := HK.out
    have HV := HB2
    have y0 := hV.cell 0
    have y1 := hV.cell 1
    have y2 := hV.cell 2
    have y3 := hV.cell 3
    have y4 := hV.cell 4
    have y5 := hV.cell 5
    have y6 := hV.cell 6
    have y7 := hV.cell 7
    have y8 := hV.cell 8
    have y9 := hV.cell 9
    clear hV HK HB2
    show bodyPost _ _ _ _ _ ((w.alloc (.cells #[.int .i64 k0, .string p0, .string n0, .slice A0 m0 c0, .slice B0 l0 d0] 26)).alloc (.cells #[.int .i64 0, .string ⟨#[]⟩, .string ⟨#[]⟩, .int .i64 0, .int .i64 0, .string ⟨#[]⟩, .string ⟨#[]⟩, .slice none 0 0, .slice none 0 0, .slice none 0 0] 57))
    generalize ((w.alloc (.cells #[.int .i64 k0, .string p0, .string n0, .slice A0 m0 c0, .slice B0 l0 d0] 26)).alloc (.cells #[.int .i64 0, .string ⟨#[]⟩, .string ⟨#[]⟩, .int .i64 0, .int .i64 0, .string ⟨#[]⟩, .string ⟨#[]⟩, .slice none 0 0, .slice none 0 0, .slice none 0 0] 57)) = V at HV y0 y1 y2 y3 y4 y5 y6 y7 y8 y9 ⊢
    exact bodyPost_ret (v := .tuple #[.agg #[.int .i64 0, .string ⟨#[]⟩, .string ⟨#[]⟩, .int .i64 0, .int .i64 0, .string ⟨#[]⟩, .string ⟨#[]⟩, .slice none 0 0, .slice none 0 0, .slice none 0 0], .bool false]) (by simp [results, Try.results32, go_sem, y0, y1, y2, y3, y4, y5, y6, y7, y8, y9]) rfl ⟨⟨_, rfl, RDl.zero _ _⟩, HV.out⟩
end Go.Proofs.Ytcfgjfahjaimiaa

namespace Go.Proofs.Ytcfgjfahjaimiaa
open Go.RowKit
set_option linter.unusedVariables false
set_option linter.unusedSimpArgs false

def ifaceP (us : List Un) (k : Int) (p n : ByteArray) : List Fi := ((ifP us k p n).getD dlZ).fields
theorem ifP_good {us : List Un} (hok : ∀ u ∈ us, u.ok 140737488355328) (hcn : ∀ u ∈ us, u.cnt ≤ 2000) (k : Int) (p n : ByteArray) : ((ifP us k p n).getD dlZ).ok 140737488355328 ∧ ((ifP us k p n).getD dlZ).cnt ≤ 2000 := by
  have hz : dlZ.ok 140737488355328 ∧ dlZ.cnt ≤ 2000 := by
    constructor
    · refine ⟨by decide, by decide, by decide, by decide, fun f hf => ?_⟩
      cases hf
    · decide
  have hg := dl_good hok hcn p n
  unfold ifP
  split
  · cases hf : fndP us p n with
    | none => exact hz
    | some d =>
      rw [hf] at hg
      dsimp only
      split
      · exact hg
      · exact hz
  · exact hz
/-- Fields that are few, with few types and short names. -/
def Few (l : List Fi) : Prop := l.length ≤ 2000 ∧ sumL (fun f => f.ty.count) l ≤ 2000 ∧ ∀ f ∈ l, f.ok 140737488355328
theorem few_nil : Few [] := ⟨by decide, by decide, fun f hf => by cases hf⟩
theorem ifaceP_few {us : List Un} (hok : ∀ u ∈ us, u.ok 140737488355328) (hcn : ∀ u ∈ us, u.cnt ≤ 2000) (k : Int) (p n : ByteArray) : Few (ifaceP us k p n) := by
  obtain ⟨h1, h2⟩ := ifP_good hok hcn k p n
  unfold ifaceP
  generalize (ifP us k p n).getD dlZ = d at h1 h2
  unfold Dl.cnt at h2
  exact ⟨by omega, by omega, h1.2.2.2.2⟩
theorem structP_few {us : List Un} (hok : ∀ u ∈ us, u.ok 140737488355328) (hcn : ∀ u ∈ us, u.cnt ≤ 2000) (p n : ByteArray) : Few (structP ((unitP us p).getD unZ).decls n) := by
  have h : ∀ ds : List Dl, (∀ d ∈ ds, d.ok 140737488355328) → (structP ds n).length ≤ ds.length ∧ sumL (fun f => f.ty.count) (structP ds n) ≤ sumL Dl.cnt ds ∧ ∀ f ∈ structP ds n, f.ok 140737488355328 := by
    intro ds
    induction ds with
    | nil => intro _; exact ⟨Nat.le_refl _, Nat.le_refl _, fun f hf => by cases hf⟩
    | cons d r ih =>
      intro ho
      obtain ⟨i1, i2, i3⟩ := ih (fun x hx => ho x (by simp [hx]))
      have hd := ho d (by simp)
      unfold structP at i1 i2 i3 ⊢
      rw [List.filter_cons]
      split
      · rw [List.map_cons]
        refine ⟨by simp only [List.length_cons]; omega, ?_, fun f hf => ?_⟩
        · simp only [sumL]
          have : d.ty.count ≤ d.cnt := by unfold Dl.cnt; omega
          omega
        · rcases List.mem_cons.1 hf with rfl | hf
          · exact ⟨hd.1, hd.2.2.1⟩
          · exact i3 f hf
      · refine ⟨by simp only [List.length_cons]; omega, ?_, i3⟩
        simp only [sumL]
        omega
  cases hu : unitP us p with
  | none => exact few_nil
  | some u =>
    have h1 := hok u (unitP_mem hu)
    have h2 := hcn u (unitP_mem hu)
    obtain ⟨i1, i2, i3⟩ := h u.decls (fun d hd => h1.2.2.1.2 d hd)
    unfold Un.cnt at h2
    exact ⟨by show (structP u.decls n).length ≤ 2000; omega, by show sumL _ (structP u.decls n) ≤ 2000; omega, i3⟩
theorem sumL_perm {α : Type} (f : α → Nat) {a b : List α} (h : a.Perm b) : sumL f a = sumL f b := by
  induction h with
  | nil => rfl
  | cons x _ ih => simp only [sumL, ih]
  | swap x y l => simp only [sumL]; omega
  | trans _ _ i1 i2 => rw [i1, i2]
theorem Few.sort {l : List Fi} (h : Few l) : Few (Srt.isort ltF l) := by
  have hp := Srt.isort_perm weakF l
  exact ⟨by rw [hp.length_eq]; exact h.1, by rw [sumL_perm _ hp]; exact h.2.1, fun f hf => h.2.2 f (hp.mem_iff.1 hf)⟩
set_option maxRecDepth 100000 in
set_option maxHeartbeats 4000000 in
theorem ifacem_any (us : List Un) (hok : ∀ u ∈ us, u.ok 140737488355328) (hlen : us.length ≤ 140737488355328) (hcn : ∀ u ∈ us, u.cnt ≤ 2000) (k0 : Int) (p0 n0 : ByteArray) (A0 B0 : Option Addr) (m0 c0 l0 d0 : Nat) (w : World) (F : Nat → Prop) (A : Option Addr) (c : Nat) (hr : SlG 4 RUn w F A us) (hF : ∀ k, F k → k < w.heap.size) :
    Calls Try.prog 66 #[.slice A us.length c, .agg #[.int .i64 k0, .string p0, .string n0, .slice A0 m0 c0, .slice B0 l0 d0]] w (MeP F (ifaceP us k0 p0 n0) w) := by
  have hb1 := ((Below.refl _ w).alloc (Nat.le_refl _) (.cells #[.int .i64 k0, .string p0, .string n0, .slice A0 m0 c0, .slice B0 l0 d0] 26))
  have hfw := (ifaceP_few hok hcn k0 p0 n0).1
  have HC := Lib.hid (ifaceof_any us hok hlen k0 p0 n0 A0 B0 m0 c0 l0 d0 (w.alloc (.cells #[.int .i64 k0, .string p0, .string n0, .slice A0 m0 c0, .slice B0 l0 d0] 26)) F A c (hr.bel RUn_keeps hb1) (fun k h => Nat.lt_of_lt_of_le (hF k h) hb1.size))
  unfold ifaceP at hfw ⊢
  unfold IfP at HC
  generalize ifP us k0 p0 n0 = o at HC hfw ⊢
  generalize o.getD dlZ = d at HC hfw ⊢
  generalize o.isSome = b at HC
  have HB1 := Lib.hid hb1
  have HLT := Lib.hid hF
  have HFW := Lib.hid hfw
  clear hb1 hfw hr hF hok hcn
  go_enter Try.func66, Try.ntmps66
  go_wp2_with (first
    | (go_at_call 32; refine HC.out.mono ?_; rintro e w5 ⟨⟨vs, rfl, hv⟩, hb5⟩; obtain ⟨dk, dn, dof, dv, dt, fs⟩ := d; obtain ⟨tv, Af, cf, rfl, hrt, hfs⟩ := hv; dsimp only at hrt hfs HFW ⊢; obtain ⟨tk, tp, tn, A3, a3', a3, B3, b3', b3, rfl⟩ := hrt.shape; simp only [tyC, List.cons_append, List.nil_append]; have hw5 := HB1.out.trans (hb5.mono HB1.out.size); have HW6 := Lib.hid (hw5.trans (((Below.refl _ w5).alloc (Nat.le_refl _) (.cells #[.int .i64 dk, .string dn, .string dof, .int .i64 dv, .int .i64 tk, .string tp, .string tn, .slice A3 a3' a3, .slice B3 b3' b3, .slice Af fs.length cf] 57)).mono hw5.size)); have HCL := Lib.hid (clone_fi fs (Nat.le_trans HFW.out (by omega)) (w5.alloc (.cells #[.int .i64 dk, .string dn, .string dof, .int .i64 dv, .int .i64 tk, .string tp, .string tn, .slice A3 a3' a3, .slice B3 b3' b3, .slice Af fs.length cf] 57)) F (fun k h => Nat.lt_of_lt_of_le (HLT.out k h) HW6.out.size) Af cf (hfs.bel RFi_keeps ((Below.refl _ w5).alloc (Nat.le_refl _) _))); clear hb5 hw5 hrt hfs)
    | (go_at_call 76; refine HCL.out.mono ?_; rintro e w7 ⟨⟨A7, c7, rfl, hf7⟩, hb7⟩; have HF7 := Lib.hid (hf7.mono HW6.out.size); have HB7 := Lib.hid (HW6.out.trans (hb7.mono HW6.out.size)); clear hf7 hb7))
  go_ret
  exact ⟨⟨A7, c7, rfl, HF7.out⟩, HB7.out⟩
def methP (us : List Un) (vs : List Fi) : Ty → List Fi
  | .mk k p n _ _ => if k = 5 then structP ((unitP us p).getD unZ).decls n else if k = 8 then ifaceP us k p n else if k = 9 then (match ((varP vs n).getD fiZ).ty with | .mk k p n _ _ => ifaceP us k p n) else []
theorem methP_mk (us : List Un) (vs : List Fi) (k : Int) (p n : ByteArray) (la lr : List Ty) : methP us vs (.mk k p n la lr) = if k = 5 then structP ((unitP us p).getD unZ).decls n else if k = 8 then ifaceP us k p n else if k = 9 then (match ((varP vs n).getD fiZ).ty with | .mk k p n _ _ => ifaceP us k p n) else [] := rfl
theorem methP_few {us : List Un} (hok : ∀ u ∈ us, u.ok 140737488355328) (hcn : ∀ u ∈ us, u.cnt ≤ 2000) (vs : List Fi) (t : Ty) : Few (methP us vs t) := by
  obtain ⟨k, p, n, la, lr⟩ := t
  rw [methP_mk]
  split
  · exact structP_few hok hcn p n
  · split
    · exact ifaceP_few hok hcn _ _ _
    · split
      · cases ((varP vs n).getD fiZ).ty
        exact ifaceP_few hok hcn _ _ _
      · exact few_nil
theorem MeP.up {F : Nat → Prop} {l : List Fi} {w w1 : World} {e : Ending} {w' : World} (h : MeP F l w1 e w') (hb : Below w.heap.size w w1) : MeP F l w e w' := by
  obtain ⟨⟨A, c, he, hf⟩, hb2⟩ := h
  exact ⟨⟨A, c, he, hf.mono hb.size⟩, hb.trans (hb2.mono hb.size)⟩
set_option maxRecDepth 100000 in
set_option maxHeartbeats 4000000 in
theorem methodsof_any (us : List Un) (hok : ∀ u ∈ us, u.ok 140737488355328) (hlen : us.length ≤ 140737488355328) (hcn : ∀ u ∈ us, u.cnt ≤ 2000) (vars : List Fi) (hlv : vars.length ≤ 140737488355328) (t : Ty) (w : World) (F : Nat → Prop) (A V : Option Addr) (c cv : Nat) (vs : List Value) (hr : SlG 4 RUn w F A us) (hv : SlG 6 RFi w F V vars) (ht : RT w F t vs) (hF : ∀ k, F k → k < w.heap.size) :
    Calls Try.prog 48 #[.slice A us.length c, .slice V vars.length cv, .agg vs.toArray] w (MeP F (methP us vars t) w) := by
  obtain ⟨k0, p0, n0, la, lr⟩ := t
  obtain ⟨A0, c0, B0, d0, rfl, _, _⟩ := ht.openL
  obtain ⟨m0, hm0⟩ : ∃ z, la.length = z := ⟨_, rfl⟩
  obtain ⟨l0, hl0⟩ : ∃ z, lr.length = z := ⟨_, rfl⟩
  simp only [tyC, hm0, hl0]
  have hb1 := ((Below.refl _ w).alloc (Nat.le_refl _) (.cells #[.int .i64 k0, .string p0, .string n0, .slice A0 m0 c0, .slice B0 l0 d0] 26))
  have HB1 := Lib.hid hb1
  have HC := Lib.hid (structm_any us hlen hcn k0 p0 n0 A0 B0 m0 c0 l0 d0 (w.alloc (.cells #[.int .i64 k0, .string p0, .string n0, .slice A0 m0 c0, .slice B0 l0 d0] 26)) F A c (hr.bel RUn_keeps hb1) (fun k h => Nat.lt_of_lt_of_le (hF k h) hb1.size))
  have HI := Lib.hid (ifacem_any us hok hlen hcn k0 p0 n0 A0 B0 m0 c0 l0 d0 (w.alloc (.cells #[.int .i64 k0, .string p0, .string n0, .slice A0 m0 c0, .slice B0 l0 d0] 26)) F A c (hr.bel RUn_keeps hb1) (fun k h => Nat.lt_of_lt_of_le (hF k h) hb1.size))
  have HM := Lib.hid (mustbe_any vars n0 hlv (w.alloc (.cells #[.int .i64 k0, .string p0, .string n0, .slice A0 m0 c0, .slice B0 l0 d0] 26)) F V cv (hv.bel RFi_keeps hb1) (fun k h => Nat.lt_of_lt_of_le (hF k h) hb1.size))
  have HR := Lib.hid (fun w5 (h5 : Below w.heap.size w w5) k p n A' B' m c' l d => ifacem_any us hok hlen hcn k p n A' B' m c' l d w5 F A c (hr.bel RUn_keeps h5) (fun k h => Nat.lt_of_lt_of_le (hF k h) h5.size))
  clear hb1 hr hv ht hF hok hcn
  by_cases h5 : k0 = 5
  · have e1 : (k0 == 5) = true := by simpa using h5
    have ho : methP us vars (.mk k0 p0 n0 la lr) = structP ((unitP us p0).getD unZ).decls n0 := if_pos h5
    rw [ho]
    clear ho h5 HI HM HR hm0 hl0
    go_enter Try.func48, Try.ntmps48
    go_wp2_with (go_at_call 65; refine HC.out.mono ?_; rintro e w5 h5; obtain ⟨⟨A7, c7, rfl, hf7⟩, hb7⟩ := h5.up HB1.out; have HF7 := Lib.hid hf7; have HB7 := Lib.hid hb7; clear hf7 hb7)
    go_ret
    exact ⟨⟨A7, c7, rfl, HF7.out⟩, HB7.out⟩
  have e1 : (k0 == 5) = false := by simpa using h5
  by_cases h8 : k0 = 8
  · have e2 : (k0 == 8) = true := by simpa using h8
    have ho : methP us vars (.mk k0 p0 n0 la lr) = ifaceP us k0 p0 n0 := by rw [methP_mk, if_neg h5, if_pos h8]
    rw [ho]
    clear ho h5 h8 HC HM HR hm0 hl0
    go_enter Try.func48, Try.ntmps48
    go_wp2_with (go_at_call 66; refine HI.out.mono ?_; rintro e w5 h5; obtain ⟨⟨A7, c7, rfl, hf7⟩, hb7⟩ := h5.up HB1.out; have HF7 := Lib.hid hf7; have HB7 := Lib.hid hb7; clear hf7 hb7)
    go_ret
    exact ⟨⟨A7, c7, rfl, HF7.out⟩, HB7.out⟩
  have e2 : (k0 == 8) = false := by simpa using h8
  by_cases h9 : k0 = 9
  · have e3 : (k0 == 9) = true := by simpa using h9
    obtain ⟨k4, p4, n4, la4, lr4, h4⟩ : ∃ k p n la lr, ((varP vars n0).getD fiZ).ty = Ty.mk k p n la lr := by
      cases ((varP vars n0).getD fiZ).ty
      exact ⟨_, _, _, _, _, rfl⟩
    have ho : methP us vars (.mk k0 p0 n0 la lr) = ifaceP us k4 p4 n4 := by rw [methP_mk, if_neg h5, if_neg h8, if_pos h9, h4]
    rw [ho]
    rw [h4] at HM
    clear ho h5 h8 h9 HC HI h4 hm0 hl0
    go_enter Try.func48, Try.ntmps48
    go_wp2_with (first
      | (go_at_call 66; refine (HR.out _ HW5.out _ _ _ _ _ _ _ _ _).mono ?_; rintro e w6 h6; obtain ⟨⟨A7, c7, rfl, hf7⟩, hb7⟩ := h6.up HW5.out; have HF7 := Lib.hid hf7; have HB7 := Lib.hid hb7; clear hf7 hb7)
      | (go_at_call 37; refine HM.out.mono ?_; rintro e w5 ⟨⟨vs, rfl, hv⟩, hb5⟩; obtain ⟨A5, c5, B5, d5, rfl, _, _⟩ := hv.openL; simp only [tyC]; have HW5 := Lib.hid (HB1.out.trans (hb5.mono HB1.out.size)); clear hb5 hv))
    go_ret
    exact ⟨⟨A7, c7, rfl, HF7.out⟩, HB7.out⟩
  · have e3 : (k0 == 9) = false := by simpa using h9
    have ho : methP us vars (.mk k0 p0 n0 la lr) = [] := by rw [methP_mk, if_neg h5, if_neg h8, if_neg h9]
    rw [ho]
    clear ho h5 h8 h9 HC HI HM HR hm0 hl0
    go_enter Try.func48, Try.ntmps48
    go_wp2
    go_ret
    exact ⟨⟨none, 0, rfl, frp_none _ _ _⟩, HB1.out⟩
/-- A row that is told, in order. -/
def SoP (l : List Fi) (w : World) (e : Ending) (w' : World) : Prop := (∃ A c, e = .returned (.slice A l.length c) ∧ l.length ≤ c ∧ SlG 6 RFi w' (fun _ => True) A l) ∧ Below w.heap.size w w'
set_option maxRecDepth 100000 in
set_option maxHeartbeats 4000000 in
theorem sortedm_any (us : List Un) (hok : ∀ u ∈ us, u.ok 140737488355328) (hlen : us.length ≤ 140737488355328) (hcn : ∀ u ∈ us, u.cnt ≤ 2000) (vars : List Fi) (hlv : vars.length ≤ 140737488355328) (t : Ty) (w : World) (F : Nat → Prop) (A V : Option Addr) (c cv : Nat) (vs : List Value) (hr : SlG 4 RUn w F A us) (hv : SlG 6 RFi w F V vars) (ht : RT w F t vs) (hF : ∀ k, F k → k < w.heap.size) :
    Calls Try.prog 25 #[.slice A us.length c, .slice V vars.length cv, .agg vs.toArray] w (SoP (Srt.isort ltF (methP us vars t)) w) := by
  obtain ⟨k0, p0, n0, A0, m0, c0, B0, l0, d0, rfl⟩ := ht.shape
  simp only [tyC] at ht ⊢
  have hb1 := ((Below.refl _ w).alloc (Nat.le_refl _) (.cells #[.int .i64 k0, .string p0, .string n0, .slice A0 m0 c0, .slice B0 l0 d0] 26))
  have HB1 := Lib.hid hb1
  have hfew := methP_few hok hcn vars t
  have HC := Lib.hid (methodsof_any us hok hlen hcn vars hlv t (w.alloc (.cells #[.int .i64 k0, .string p0, .string n0, .slice A0 m0 c0, .slice B0 l0 d0] 26)) F A V c cv [.int .i64 k0, .string p0, .string n0, .slice A0 m0 c0, .slice B0 l0 d0] (hr.bel RUn_keeps hb1) (hv.bel RFi_keeps hb1) (ht.bel hb1) (fun k h => Nat.lt_of_lt_of_le (hF k h) hb1.size))
  generalize methP us vars t = l at hfew HC ⊢
  have HLL := Lib.hid hfew.1
  have HLT := Lib.hid (fun k h => Nat.lt_of_lt_of_le (hF k h) hb1.size)
  have HSL := Lib.hid (Srt.isort_len (lt := ltF) l)
  clear hb1 hr hv ht hF hok hcn hfew
  go_enter Try.func25, Try.ntmps25
  go_wp2_with (first
    | (go_at_call 49; refine HSO.out.mono ?_; rintro e w6 ⟨rfl, hb6, hs6⟩; have HS6 := Lib.hid hs6; have HB6 := Lib.hid (HW5.out.trans ((hb6.mono (Nat.le_trans (Nat.le_refl _) HB1.out.size)).mono (Nat.le_refl _))); clear hb6 hs6)
    | (go_at_call 48; refine HC.out.mono ?_; rintro e w5 ⟨⟨A7, c7, rfl, hf7⟩, hb7⟩; have HW5 := Lib.hid (HB1.out.trans (hb7.mono HB1.out.size)); have HCAP := Lib.hid hf7.cap; have HSO := Lib.hid (sort_any l (Nat.le_trans HLL.out (by omega)) w5 _ F HLT.out A7 c7 hf7 hb7.size); clear hf7 hb7))
  go_ret
  refine ⟨⟨A7, c7, ?_, ?_, HS6.out⟩, HB6.out⟩
  · rw [HSL.out]; rfl
  · rw [HSL.out]; exact HCAP.out
set_option maxRecDepth 100000 in
set_option maxHeartbeats 4000000 in
theorem methods_any (us : List Un) (hok : ∀ u ∈ us, u.ok 140737488355328) (hlen : us.length ≤ 140737488355328) (hcn : ∀ u ∈ us, u.cnt ≤ 2000) (vars : List Fi) (hlv : vars.length ≤ 140737488355328) (t : Ty) (w : World) (F : Nat → Prop) (A V : Option Addr) (c cv : Nat) (vs : List Value) (hr : SlG 4 RUn w F A us) (hv : SlG 6 RFi w F V vars) (ht : RT w F t vs) (hF : ∀ k, F k → k < w.heap.size) :
    Calls Try.prog 11 #[.slice A us.length c, .slice V vars.length cv, .agg vs.toArray] w (NewFsP (Srt.isort ltF (methP us vars t)) w) := by
  obtain ⟨k0, p0, n0, A0, m0, c0, B0, l0, d0, rfl⟩ := ht.shape
  simp only [tyC] at ht ⊢
  have hb1 := ((Below.refl _ w).alloc (Nat.le_refl _) (.cells #[.int .i64 k0, .string p0, .string n0, .slice A0 m0 c0, .slice B0 l0 d0] 26))
  have HB1 := Lib.hid hb1
  have hfew := (methP_few hok hcn vars t).sort
  have HC := Lib.hid (sortedm_any us hok hlen hcn vars hlv t (w.alloc (.cells #[.int .i64 k0, .string p0, .string n0, .slice A0 m0 c0, .slice B0 l0 d0] 26)) F A V c cv [.int .i64 k0, .string p0, .string n0, .slice A0 m0 c0, .slice B0 l0 d0] (hr.bel RUn_keeps hb1) (hv.bel RFi_keeps hb1) (ht.bel hb1) (fun k h => Nat.lt_of_lt_of_le (hF k h) hb1.size))
  generalize Srt.isort ltF (methP us vars t) = l at hfew HC ⊢
  have HE := Lib.hid (fun w5 F A c (h : SlG 6 RFi w5 F A l) => cfields_any l hfew.1 (fun f hf => by have := sumL_mem (fun f : Fi => f.ty.count) l f hf; have := hfew.2.1; omega) hfew.2.2 w5 F A c h)
  clear hb1 hr hv ht hF hok hcn hfew
  go_enter Try.func11, Try.ntmps11
  go_wp2_with (first
    | (go_at_call 24; refine (HE.out _ _ _ _ HS5.out).mono ?_; rintro e w6 ⟨A6, c6, rfl, hs6, hb6⟩; have HS6 := Lib.hid hs6; have HB6 := Lib.hid (HW5.out.trans (hb6.mono HW5.out.size)); clear hb6 hs6)
    | (go_at_call 25; refine HC.out.mono ?_; rintro e w5 ⟨⟨A5, c5, rfl, _, hs5⟩, hb5⟩; have HW5 := Lib.hid (HB1.out.trans (hb5.mono HB1.out.size)); have HS5 := Lib.hid hs5; clear hs5 hb5))
  go_ret
  exact ⟨A6, c6, rfl, SlG.more RFi_keeps HS6.out (fun k hk => Nat.le_trans HW5.out.size hk), HB6.out⟩
end Go.Proofs.Ytcfgjfahjaimiaa
