/-
  Fields that are few; KindsMethods: walk.
-/
import Derived.Test.YtcfgjfahjaimiaaSrN
import Derived.Test.YtcfgjfahjaimiaaUh
namespace Go.Proofs.Ytcfgjfahjaimiaa
open Go.RowKit
set_option linter.unusedVariables false
set_option linter.unusedSimpArgs false

set_option maxRecDepth 100000 in
set_option maxHeartbeats 4000000 in
theorem fields_any (l : List Fi) (hl : l.length ≤ 9000000000000000000) (w : World) (F : Nat → Prop) (A : Option Addr) (c : Nat) (ha : SlG 6 RFi w F A l) :
    Calls Try.prog 8 #[.slice A l.length c] w (TruthP w (decide (400 < countL (l.map Fi.ty)))) := by
  obtain ⟨M, hM⟩ : ∃ M, l.map Fi.ty = M := ⟨_, rfl⟩
  have hML : M.length = l.length := by rw [← hM, List.length_map]
  have HM := Lib.hid hM
  have HML := Lib.hid hML
  rw [hM]
  clear hM hML
  have HA := Lib.hid ha
  have n0 : (0 : Int) ≤ (l.length : Int) := by omega
  have n1 : (l.length : Int) ≤ 9000000000000000000 := by omega
  have HL := Lib.hid n1
  clear ha n1 hl
  go_enter Try.func8, Try.ntmps8
  go_wp2
  go_loopg [3, 4] l.length (fun gk v3 v4 wr => ∃ (j : Nat) (x : Int), j + gk = l.length ∧ v4 = .int .i64 j ∧ v3 = .int .i64 x ∧ x = min (countL (M.take j) : Int) 401 ∧ Below w.heap.size w wr)
  case atStart => exact ⟨0, 0, by simp, rfl, rfl, by simp [countL_nil]; omega, Below.refl _ _⟩
  case round =>
    obtain ⟨j, x, hj, rfl, rfl, hx, hb⟩ := hrel
    have x0 : 0 ≤ x := by omega
    have x1 : x ≤ 401 := by omega
    cases gk with
    | zero =>
      obtain rfl : j = l.length := by omega
      rw [← HML.out, List.take_length] at hx
      have hg : decide (x > 400) = decide (400 < countL M) := decide_eq_decide.2 (by omega)
      have HG := Lib.hid hg
      clear hx hg hj
      go_wp2
      go_ret
      exact ⟨by rw [← HG.out]; simp, hb⟩
    | succ f =>
      have hjl : j < l.length := by omega
      obtain ⟨u, hu⟩ : ∃ u, l[j]? = some u := ⟨_, List.getElem?_eq_getElem hjl⟩
      have hMu : M[j]? = some u.ty := by rw [← HM.out, List.getElem?_map, hu]; rfl
      have hct := countL_take M j u.ty hMu
      have hck := count_kid M j u.ty hMu
      have j1 : (j : Int) < (l.length : Int) := by omega
      have j0 : (0 : Int) ≤ (j : Int) := by omega
      have j2 : (j : Int) ≤ 9000000000000000000 := by have := HL.out; omega
      by_cases hg : x ≤ 400
      · have hgd : decide (x ≤ 400) = true := by simpa using hg
        obtain ⟨q, o, vs, rfl, hFq, hgl, hrep, hat⟩ := (HA.out.bel RFi_keeps hb).at_ RFi_sized hu
        obtain ⟨tv, rfl, hrep⟩ := hrep
        have HC := Lib.hid (count_any u.ty.count u.ty (Nat.le_refl _) wr F tv (400 - x) hrep (by omega) (by omega))
        obtain ⟨k1, p1, n1', A1, m1, c1, B1, l1, d1, rfl⟩ := hrep.shape
        have q1 := hat 1 _ rfl
        have q2 := hat 2 _ rfl
        have q3 := hat 3 _ rfl
        have q4 := hat 4 _ rfl
        have q5 := hat 5 _ rfl
        obtain ⟨y, hy⟩ : ∃ y, min (u.ty.count : Int) (400 - x + 1) = y := ⟨_, rfl⟩
        rw [hy] at HC
        have hy0 : 0 ≤ y := by omega
        have hy1 : y ≤ 401 - x := by omega
        have hxy : x + y = min (countL (M.take (j + 1)) : Int) 401 := by omega
        have HXY := Lib.hid hxy
        have HB := Lib.hid hb
        clear hat hrep hMu hct hck hy hxy hx hu hb hg
        go_wp2_with (go_at_call 21; refine HC.out.mono ?_; rintro e w5 ⟨rfl, hb5⟩)
        go_roundg f
        case measure => omega
        case rel => exact ⟨j + 1, x + y, by omega, by go_num, rfl, HXY.out, HB.out.trans (hb5.mono HB.out.size)⟩
      · have hgd : decide (x ≤ 400) = false := by simpa using hg
        have hx2 : x = 401 := by omega
        have hm := countL_append (M.take j) (M.drop j)
        rw [List.take_append_drop] at hm
        have hgg : decide (400 < countL M) = true := by simp; omega
        have HGG := Lib.hid hgg
        subst hx2
        clear hct hck hMu hx hu hm hgg hg
        go_wp2
        go_ret
        exact ⟨by rw [HGG.out]; rfl, hb⟩
end Go.Proofs.Ytcfgjfahjaimiaa

namespace Go.Proofs.Ytcfgjfahjaimiaa
open Go.RowKit
set_option linter.unusedVariables false
set_option linter.unusedSimpArgs false

theorem RT.lowF {w : World} {F : Nat → Prop} {t : Ty} {vs : List Value} (h : RT w F t vs) : RT w (fun k => k < w.heap.size) t vs := RT_keeps _ _ _ _ _ _ (fun _ _ _ => rfl) (Nat.le_refl _) (fun k hk _ => hk) h
theorem great1_any (t : Ty) (w0 w : World) (hb : Below w0.heap.size w0 w) (F : Nat → Prop) (k0 : Int) (p0 n0 : ByteArray) (A0 B0 : Option Addr) (m0 c0 l0 d0 : Nat) (ht : RT w0 F t [.int .i64 k0, .string p0, .string n0, .slice A0 m0 c0, .slice B0 l0 d0]) :
    Calls Try.prog 9 #[.slice (some ⟨w.heap.size, 0, none⟩) 1 1] (w.alloc (.cells #[.int .i64 k0, .string p0, .string n0, .slice A0 m0 c0, .slice B0 l0 d0] 26)) fun e w' => (∃ b : Bool, e = .returned (.bool b)) ∧ Below w.heap.size w w' := by
  have hbx := (Below.refl _ w).alloc (Nat.le_refl _) (.cells #[.int .i64 k0, .string p0, .string n0, .slice A0 m0 c0, .slice B0 l0 d0] 26)
  have hsl : SlT (w.alloc (.cells #[.int .i64 k0, .string p0, .string n0, .slice A0 m0 c0, .slice B0 l0 d0] 26)) (fun q => q ≤ w.heap.size) (some ⟨w.heap.size, 0, none⟩) [t] :=
    SlT.one (Blk.new w 26 #[.int .i64 k0, .string p0, .string n0, .slice A0 m0 c0, .slice B0 l0 d0]) (Nat.le_refl _) (RT_keeps _ _ _ _ _ _ (fun k _ hl => (hbx.block k (Nat.lt_of_lt_of_le hl hb.size)).trans (hb.block k hl)) (Nat.le_trans hb.size hbx.size) (fun k hk _ => by have := hb.size; show k ≤ w.heap.size; omega) ht)
  refine (great_any [t] (by simp) _ _ _ 1 hsl).mono ?_
  rintro e w' ⟨he, hb'⟩
  exact ⟨⟨_, he⟩, hbx.trans (hb'.mono hbx.size)⟩
set_option maxRecDepth 100000 in
set_option maxHeartbeats 8000000 in
theorem kmeth_any (us : List Un) (hok : ∀ u ∈ us, u.ok 140737488355328) (hlen : us.length ≤ 140737488355328) (vars : List Fi) (hlv : vars.length ≤ 140737488355328) (t : Ty) (w : World) (F1 F2 F3 : Nat → Prop) (A V : Option Addr) (c cv : Nat) (vs : List Value) (hr : SlG 4 RUn w F1 A us) (hv : SlG 6 RFi w F2 V vars) (ht : RT w F3 t vs) :
    Calls Try.prog 3 #[.slice A us.length c, .slice V vars.length cv, .agg vs.toArray] w (TruthP w true) := by
  replace hr := hr.low RUn_keeps
  replace hv := hv.low RFi_keeps
  replace ht := ht.lowF
  obtain ⟨k0, p0, n0, A0, m0, c0, B0, l0, d0, rfl⟩ := ht.shape
  simp only [tyC] at ht ⊢
  have hb1 := ((Below.refl _ w).alloc (Nat.le_refl _) (.cells #[.int .i64 k0, .string p0, .string n0, .slice A0 m0 c0, .slice B0 l0 d0] 26))
  have HB1 := Lib.hid hb1
  have HK1 := Lib.hid (Blk.new w 26 #[.int .i64 k0, .string p0, .string n0, .slice A0 m0 c0, .slice B0 l0 d0])
  have HU := Lib.hid (units_any us hok hlen (w.alloc (.cells #[.int .i64 k0, .string p0, .string n0, .slice A0 m0 c0, .slice B0 l0 d0] 26)) (fun k => k < w.heap.size) A c (hr.bel RUn_keeps hb1))
  have HF := Lib.hid (fun w' (h : Below w.heap.size w w') => fields_any vars (by omega) w' (fun k => k < w.heap.size) V cv (hv.bel RFi_keeps h))
  have HG := Lib.hid (fun w' (h : Below w.heap.size w w') => great1_any t w w' h (fun k => k < w.heap.size) k0 p0 n0 A0 B0 m0 c0 l0 d0 ht)
  have HM := Lib.hid (fun (hcn : ∀ u ∈ us, u.cnt ≤ 2000) w' (h : Below w.heap.size w w') => methods_any us hok hlen hcn vars hlv t w' (fun k => k < w.heap.size) A V c cv [.int .i64 k0, .string p0, .string n0, .slice A0 m0 c0, .slice B0 l0 d0] (hr.bel RUn_keeps h) (hv.bel RFi_keeps h) (ht.bel h) (fun k hk => Nat.lt_of_lt_of_le hk h.size))
  have HR := Lib.hid (fun (hcn : ∀ u ∈ us, u.cnt ≤ 2000) w' (h : Below w.heap.size w w') => rmeth_any us hok hlen hcn vars hlv t w' (fun k => k < w.heap.size) A V c cv [.int .i64 k0, .string p0, .string n0, .slice A0 m0 c0, .slice B0 l0 d0] (hr.bel RUn_keeps h) (hv.bel RFi_keeps h) (ht.bel h) (fun k hk => Nat.lt_of_lt_of_le hk h.size))
  have HW := Lib.hid (fun (hcn : ∀ u ∈ us, u.cnt ≤ 2000) => (methP_few hok hcn vars t).sort)
  generalize Srt.isort ltF (methP us vars t) = L at HM HR HW
  clear hb1 hr hv ht hok
  go_enter Try.func3, Try.ntmps3
  go_wp2_with (first
    | (go_at_call 7; refine HU.out.mono ?_; rintro e w2 ⟨bu, rfl, hcn, hb2⟩; have HCN := Lib.hid hcn; have HB2 := Lib.hid (HB1.out.trans (hb2.mono HB1.out.size)); have HK2 := HK1.out.bel2 hb2; have t0 := HK2.cell 0; have t1 := HK2.cell 1; have t2 := HK2.cell 2; have t3 := HK2.cell 3; have t4 := HK2.cell 4; have tl := HK2.lt; have HKB2 := Lib.hid HK2; clear hb2 hcn HK2)
    | (go_at_call 8; have _g := HB2; refine (HF.out _ HB2.out).mono ?_; rintro e w3 ⟨rfl, hb3⟩; generalize decide (400 < countL (vars.map Fi.ty)) = bf; have HB3 := Lib.hid (HB2.out.trans (hb3.mono HB2.out.size)); have HK3 := HKB2.out.bel2 hb3; have t0 := HK3.cell 0; have t1 := HK3.cell 1; have t2 := HK3.cell 2; have t3 := HK3.cell 3; have t4 := HK3.cell 4; have tl := HK3.lt; have HKB3 := Lib.hid HK3; clear hb3 HK3)
    | (go_at_call 9; have _g := HB3; refine (HG.out _ HB3.out).mono ?_; rintro e w4 ⟨⟨bg, rfl⟩, hb4⟩; have HB4 := Lib.hid (HB3.out.trans (hb4.mono HB3.out.size)); have HK4 := HKB3.out.bel2 hb4; have t0 := HK4.cell 0; have t1 := HK4.cell 1; have t2 := HK4.cell 2; have t3 := HK4.cell 3; have t4 := HK4.cell 4; have tl := HK4.lt; have HKB4 := Lib.hid HK4; clear hb4 HK4)
    | (go_at_call 11; have _g := HB4; have HC2 := Lib.hid (HCN.out (by first | assumption | exact Bool.eq_false_iff.2 (by assumption))); refine (HM.out HC2.out _ HB4.out).mono ?_; rintro e w5 ⟨A5, c5, rfl, hs5, hb5⟩; have HB5 := Lib.hid (HB4.out.trans (hb5.mono HB4.out.size)); have HS5 := Lib.hid hs5; have HK5 := HKB4.out.bel2 hb5; have t0 := HK5.cell 0; have t1 := HK5.cell 1; have t2 := HK5.cell 2; have t3 := HK5.cell 3; have t4 := HK5.cell 4; have tl := HK5.lt; clear hb5 hs5 HK5)
    | (go_at_call 13; have _g := HB5; refine (HR.out HC2.out _ HB5.out).mono ?_; rintro e w6 ⟨⟨A6, c6, rfl, hf6⟩, hb6⟩; have HB6 := Lib.hid (HB5.out.trans (hb6.mono HB5.out.size)); have HS6 := Lib.hid (hf6.sl (fun k hk => Nat.lt_of_lt_of_le hk HB5.out.size)); have HS56 := Lib.hid (HS5.out.bel RFi_keeps hb6); clear hb6 hf6)
    | (go_at_call 12; have _g := HB6; refine (rsamef_any L (HW.out HC2.out).2.1 (HW.out HC2.out).1 _ _ _ A5 A6 c5 c6 HS56.out HS6.out).mono ?_; rintro e w7 ⟨rfl, hb7⟩; have HB7 := Lib.hid (HB6.out.trans (hb7.mono HB6.out.size)); clear hb7)
    | (go_at_call 10; refine (awake_any _).mono ?_; rintro e w8 ⟨rfl, hb8⟩; first | have HB8 := Lib.hid (HB7.out.trans (hb8.mono HB7.out.size)) | have HB8 := Lib.hid (HB4.out.trans (hb8.mono HB4.out.size)) | have HB8 := Lib.hid (HB3.out.trans (hb8.mono HB3.out.size)) | have HB8 := Lib.hid (HB2.out.trans (hb8.mono HB2.out.size)); clear hb8))
  all_goals (go_ret; exact ⟨by simp, HB8.out⟩)
end Go.Proofs.Ytcfgjfahjaimiaa
