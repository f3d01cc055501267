/-
  What fits an interface, fits each one whose methods it has: plainly.
-/
import Derived.Test.YtcfgjfahjaimiaaFtJ
namespace Go.Proofs.Ytcfgjfahjaimiaa
open Go.RowKit
set_option linter.unusedVariables false
set_option linter.unusedSimpArgs false

mutual
theorem same_iff : ∀ a b : Ty, same a b = true ↔ a = b
  | .mk k p n la lr, .mk k' p' n' la' lr' => by
    rw [same_mk, Ty.mk.injEq]
    simp only [Bool.and_eq_true, decide_eq_true_eq, sameL_iff la la', sameL_iff lr lr']
theorem sameL_iff : ∀ a b : List Ty, sameL a b = true ↔ a = b
  | [], [] => by simp [sameL_nil]
  | [], _ :: _ => by simp [sameL]
  | _ :: _, [] => by simp [sameL]
  | a :: r, b :: s => by
    rw [sameL_cons, List.cons.injEq]
    simp only [Bool.and_eq_true, same_iff a b, sameL_iff r s]
end
theorem fits_self (us : List Un) (vars : List Fi) (a : Ty) : fitsP us vars a a = (kindOf a != 0) := by
  unfold fitsP fitB
  by_cases h : kindOf a = 0
  · rw [if_pos h, h]; decide
  · rw [if_neg h, if_pos (same_refl a)]; symm; simpa using h
def plainP (p n : ByteArray) (x y : Nat) : Bool := decide (p = ⟨#[]⟩) && (decide (n = ⟨#[]⟩) && (decide (x = 0) && decide (y = 0)))
theorem same_nil (k : Int) (p n : ByteArray) (la lr : List Ty) : same (kT 4) (.mk k p n la lr) = (decide (k = 4) && plainP p n la.length lr.length) := by
  unfold kT plainP
  rw [same_mk, Bool.eq_iff_iff]
  have h : ∀ l : List Ty, sameL [] l = decide (l.length = 0) := fun l => by cases l <;> simp [sameL]
  rw [h, h]
  simp only [Bool.and_eq_true, decide_eq_true_eq]
  constructor <;> rintro ⟨rfl, rfl, rfl, h1, h2⟩ <;> exact ⟨rfl, rfl, rfl, h1, h2⟩
theorem fits_nil (us : List Un) (vars : List Fi) (k : Int) (p n : ByteArray) (la lr : List Ty) : fitsP us vars (kT 4) (.mk k p n la lr) = if k = 4 then plainP p n la.length lr.length else decide (5 ≤ k ∧ k ≤ 8) := by
  unfold fitsP fitB
  rw [if_neg (show ¬ kindOf (kT 4) = 0 by decide), same_nil]
  by_cases h : k = 4
  · rw [if_pos h]
    subst h
    cases plainP p n la.length lr.length with
    | true => rfl
    | false => rfl
  · rw [if_neg h, decide_eq_false h]
    rw [if_neg (by simp), if_pos (show kindOf (kT 4) = 4 by rfl)]
    show (k == 5 || (k == 6 || (k == 7 || k == 8))) = _
    rw [Bool.eq_iff_iff]
    simp only [Bool.or_eq_true, beq_iff_eq, decide_eq_true_eq]
    omega
theorem hasP_trans {l m : List Fi} {f : Fi} (h1 : hasP m f = true) (h2 : ∀ x ∈ m, hasP l x = true) : hasP l f = true := by
  unfold hasP at h1
  obtain ⟨x, hx, h⟩ := List.any_eq_true.1 h1
  simp only [Bool.and_eq_true, decide_eq_true_eq] at h
  have h3 := h2 x hx
  unfold hasP at h3
  obtain ⟨y, hy, h4⟩ := List.any_eq_true.1 h3
  simp only [Bool.and_eq_true, decide_eq_true_eq] at h4
  refine List.any_eq_true.2 ⟨y, hy, ?_⟩
  simp only [Bool.and_eq_true, decide_eq_true_eq]
  exact ⟨h4.1.trans h.1, (same_iff _ _).2 (((same_iff _ _).1 h4.2).trans ((same_iff _ _).1 h.2))⟩
theorem fits_through (us : List Un) (vars : List Fi) (a b c : Ty) (hb : kindOf b = 8) (ha : kindOf a ≠ 4) : (!(fitsP us vars a b) || (!(fitsP us vars b c) || (fitsP us vars a c || (same b c || same a b)))) = true := by
  cases hx : fitsP us vars a b with
  | false => rfl
  | true =>
  cases hy : fitsP us vars b c with
  | false => rfl
  | true =>
  cases h1 : same b c with
  | true => simp
  | false =>
  cases h2 : same a b with
  | true => simp
  | false =>
  have hz : fitsP us vars a c = true := by
    unfold fitsP fitB at hx hy ⊢
    by_cases h0 : kindOf a = 0
    · rw [if_pos h0] at hx; cases hx
    rw [if_neg h0, h2, if_neg (by decide), if_neg ha] at hx
    rw [if_neg (by omega), h1, if_neg (by decide), if_neg (by omega)] at hy
    simp only [Bool.and_eq_true] at hx hy
    rw [if_neg h0, if_neg ha]
    cases same a c with
    | true => rfl
    | false =>
      rw [if_neg (by decide)]
      simp only [Bool.and_eq_true]
      refine ⟨⟨hy.1.1, hx.1.2⟩, List.all_eq_true.2 fun f hf => ?_⟩
      refine hasP_trans (List.all_eq_true.1 hy.2 f hf) ?_
      have h3 := fits_fields us vars b hx.1.1 (hasP (mset us vars a))
      rw [← h3] at hx
      exact List.all_eq_true.1 hx.2
  rw [hz]
  rfl
theorem SlT.three {W : World} {F : Nat → Prop} {g : Nat} {t t' t'' : Ty} {v0 v1 v2 v3 v4 u0 u1 u2 u3 u4 x0 x1 x2 x3 x4 : Value} (h : Blk W g 26 #[v0, v1, v2, v3, v4, u0, u1, u2, u3, u4, x0, x1, x2, x3, x4]) (hF : F g) (hr : RT W F t [v0, v1, v2, v3, v4]) (hr' : RT W F t' [u0, u1, u2, u3, u4]) (hr'' : RT W F t'' [x0, x1, x2, x3, x4]) : SlT W F (some ⟨g, 0, none⟩) [t, t', t''] :=
  ⟨[v0, v1, v2, v3, v4, u0, u1, u2, u3, u4, x0, x1, x2, x3, x4], ⟨rfl, fun _ => ⟨g, 0, rfl, hF, h.lt, fun j u hu => by rw [Nat.zero_add, h.cell, ← Array.getElem?_toList]; exact hu⟩⟩, by simp only [RTs]; exact ⟨[v0, v1, v2, v3, v4], [u0, u1, u2, u3, u4, x0, x1, x2, x3, x4], rfl, hr, [u0, u1, u2, u3, u4], [x0, x1, x2, x3, x4], rfl, hr', [x0, x1, x2, x3, x4], [], by simp, hr'', rfl⟩⟩
set_option maxRecDepth 100000 in
set_option maxHeartbeats 4000000 in
theorem plain_any (k0 : Int) (p0 n0 : ByteArray) (A0 B0 : Option Addr) (m0 c0 l0 d0 : Nat) (w : World) : Calls Try.prog 18 #[.agg #[.int .i64 k0, .string p0, .string n0, .slice A0 m0 c0, .slice B0 l0 d0]] w (TruthP w (plainP p0 n0 m0 l0)) := by
  have HW := Lib.hid ((Below.refl _ w).alloc (Nat.le_refl _) (.cells #[.int .i64 k0, .string p0, .string n0, .slice A0 m0 c0, .slice B0 l0 d0] 26))
  by_cases hp : p0 = ⟨#[]⟩
  · subst hp
    by_cases hn : n0 = ⟨#[]⟩
    · subst hn
      by_cases hm : m0 = 0
      · subst hm
        by_cases hl : l0 = 0
        · subst hl
          rw [show plainP ⟨#[]⟩ ⟨#[]⟩ 0 0 = true from by unfold plainP; simp]
          go_enter Try.func18, Try.ntmps18
          go_wp2
          all_goals (go_ret; exact ⟨by simp, HW.out⟩)
        · have e1 : ((l0 : Int) == 0) = false := by simp; omega
          have e2 : ¬ (l0 : Int) = 0 := by omega
          rw [show plainP ⟨#[]⟩ ⟨#[]⟩ 0 l0 = false from by unfold plainP; simp [hl]]
          clear hl
          go_enter Try.func18, Try.ntmps18
          go_wp2
          all_goals (go_ret; exact ⟨by simp, HW.out⟩)
      · have e1 : ((m0 : Int) == 0) = false := by simp; omega
        have e2 : ¬ (m0 : Int) = 0 := by omega
        rw [show plainP ⟨#[]⟩ ⟨#[]⟩ m0 l0 = false from by unfold plainP; simp [hm]]
        clear hm
        go_enter Try.func18, Try.ntmps18
        go_wp2
        all_goals (go_ret; exact ⟨by simp, HW.out⟩)
    · have e1 : ¬ n0.toList = [] := fun h => hn (toList_inj.1 (h.trans (by simp)))
      have e2 : (n0.toList == []) = false := by simpa using e1
      have e3 : (n0.toList == (⟨#[]⟩ : ByteArray).toList) = false := by simpa using e1
      rw [show plainP ⟨#[]⟩ n0 m0 l0 = false from by unfold plainP; simp [hn]]
      clear hn
      go_enter Try.func18, Try.ntmps18
      go_wp2
      all_goals (go_ret; exact ⟨by simp, HW.out⟩)
  · have e1 : ¬ p0.toList = [] := fun h => hp (toList_inj.1 (h.trans (by simp)))
    have e2 : (p0.toList == []) = false := by simpa using e1
    have e3 : (p0.toList == (⟨#[]⟩ : ByteArray).toList) = false := by simpa using e1
    rw [show plainP p0 n0 m0 l0 = false from by unfold plainP; simp [hp]]
    clear hp
    go_enter Try.func18, Try.ntmps18
    go_wp2
    all_goals (go_ret; exact ⟨by simp, HW.out⟩)
theorem great3_any (a b c : Ty) (w0 w : World) (hb : Below w0.heap.size w0 w) (F : Nat → Prop) (k0 k1 k2 : Int) (p0 n0 p1 n1 p2 n2 : ByteArray) (A0 B0 A1 B1 A2 B2 : Option Addr) (m0 c0 l0 d0 m1 c1 l1 d1 m2 c2 l2 d2 : Nat) (ht : RT w0 F a [.int .i64 k0, .string p0, .string n0, .slice A0 m0 c0, .slice B0 l0 d0]) (ht' : RT w0 F b [.int .i64 k1, .string p1, .string n1, .slice A1 m1 c1, .slice B1 l1 d1]) (ht'' : RT w0 F c [.int .i64 k2, .string p2, .string n2, .slice A2 m2 c2, .slice B2 l2 d2]) :
    Calls Try.prog 9 #[.slice (some ⟨w.heap.size, 0, none⟩) 3 3] (w.alloc (.cells #[.int .i64 k0, .string p0, .string n0, .slice A0 m0 c0, .slice B0 l0 d0, .int .i64 k1, .string p1, .string n1, .slice A1 m1 c1, .slice B1 l1 d1, .int .i64 k2, .string p2, .string n2, .slice A2 m2 c2, .slice B2 l2 d2] 26)) fun e w' => e = .returned (.bool (decide (400 < countL [a, b, c]))) ∧ Below w.heap.size w w' := by
  have hbx := (Below.refl _ w).alloc (Nat.le_refl _) (.cells #[.int .i64 k0, .string p0, .string n0, .slice A0 m0 c0, .slice B0 l0 d0, .int .i64 k1, .string p1, .string n1, .slice A1 m1 c1, .slice B1 l1 d1, .int .i64 k2, .string p2, .string n2, .slice A2 m2 c2, .slice B2 l2 d2] 26)
  have hk := fun (t : Ty) (xs : List Value) (h : RT w0 (fun k => k < w0.heap.size) t xs) => (RT_keeps _ _ _ _ _ _ (fun k _ hl => (hbx.block k (Nat.lt_of_lt_of_le hl hb.size)).trans (hb.block k hl)) (Nat.le_trans hb.size hbx.size) (fun k hk _ => by have := hb.size; show k ≤ w.heap.size; omega) h : RT (w.alloc (.cells #[.int .i64 k0, .string p0, .string n0, .slice A0 m0 c0, .slice B0 l0 d0, .int .i64 k1, .string p1, .string n1, .slice A1 m1 c1, .slice B1 l1 d1, .int .i64 k2, .string p2, .string n2, .slice A2 m2 c2, .slice B2 l2 d2] 26)) (fun q => q ≤ w.heap.size) t xs)
  have hsl : SlT (w.alloc (.cells #[.int .i64 k0, .string p0, .string n0, .slice A0 m0 c0, .slice B0 l0 d0, .int .i64 k1, .string p1, .string n1, .slice A1 m1 c1, .slice B1 l1 d1, .int .i64 k2, .string p2, .string n2, .slice A2 m2 c2, .slice B2 l2 d2] 26)) (fun q => q ≤ w.heap.size) (some ⟨w.heap.size, 0, none⟩) [a, b, c] :=
    SlT.three (Blk.new w 26 #[.int .i64 k0, .string p0, .string n0, .slice A0 m0 c0, .slice B0 l0 d0, .int .i64 k1, .string p1, .string n1, .slice A1 m1 c1, .slice B1 l1 d1, .int .i64 k2, .string p2, .string n2, .slice A2 m2 c2, .slice B2 l2 d2]) (Nat.le_refl _) (hk a _ ht.lowF) (hk b _ ht'.lowF) (hk c _ ht''.lowF)
  refine (great_any [a, b, c] (by simp) _ _ _ 3 hsl).mono ?_
  rintro e w' ⟨he, hb'⟩
  exact ⟨he, hbx.trans (hb'.mono hbx.size)⟩
end Go.Proofs.Ytcfgjfahjaimiaa

namespace Go.Proofs.Ytcfgjfahjaimiaa
open Go.RowKit
set_option linter.unusedVariables false
set_option linter.unusedSimpArgs false

set_option maxRecDepth 100000 in
set_option maxHeartbeats 16000000 in
theorem kthru_any (us : List Un) (hok : ∀ u ∈ us, u.ok 140737488355328) (hlen : us.length ≤ 140737488355328) (vars : List Fi) (hlv : vars.length ≤ 140737488355328) (x y q : Ty) (w : World) (F1 F2 F3 F4 F5 : Nat → Prop) (A V : Option Addr) (c cv : Nat) (vs ws xs : List Value) (hr : SlG 4 RUn w F1 A us) (hv : SlG 6 RFi w F2 V vars) (hx : RT w F3 x vs) (hy : RT w F4 y ws) (hq : RT w F5 q xs) :
    Calls Try.prog 5 #[.slice A us.length c, .slice V vars.length cv, .agg vs.toArray, .agg ws.toArray, .agg xs.toArray] w (TruthP w true) := by
  replace hr := hr.low RUn_keeps
  replace hv := hv.low RFi_keeps
  replace hx := hx.lowF
  replace hy := hy.lowF
  replace hq := hq.lowF
  have haa := fun (h2 : (∀ u ∈ us, u.cnt ≤ 2000) ∧ x.count ≤ 2000000) w' (h : Below w.heap.size w w') => kfits_any us hok hlen h2.1 vars hlv x x h2.2 w' (fun k => k < w.heap.size) A V c cv vs vs (hr.bel RUn_keeps h) (hv.bel RFi_keeps h) (hx.bel h) (hx.bel h) (fun k hk => Nat.lt_of_lt_of_le hk h.size)
  have hnb := fun (h2 : (∀ u ∈ us, u.cnt ≤ 2000) ∧ (kT 4).count ≤ 2000000) w' (h : Below w.heap.size w w') => kfits_any us hok hlen h2.1 vars hlv (kT 4) x h2.2 w' (fun k => k < w.heap.size) A V c cv [.int .i64 4, .string ⟨#[]⟩, .string ⟨#[]⟩, .slice none 0 0, .slice none 0 0] vs (hr.bel RUn_keeps h) (hv.bel RFi_keeps h) (kT_rt w' _ 4) (hx.bel h) (fun k hk => Nat.lt_of_lt_of_le hk h.size)
  have hab := fun (h2 : (∀ u ∈ us, u.cnt ≤ 2000) ∧ x.count ≤ 2000000) w' (h : Below w.heap.size w w') => kfits_any us hok hlen h2.1 vars hlv x y h2.2 w' (fun k => k < w.heap.size) A V c cv vs ws (hr.bel RUn_keeps h) (hv.bel RFi_keeps h) (hx.bel h) (hy.bel h) (fun k hk => Nat.lt_of_lt_of_le hk h.size)
  have hbc := fun (h2 : (∀ u ∈ us, u.cnt ≤ 2000) ∧ y.count ≤ 2000000) w' (h : Below w.heap.size w w') => kfits_any us hok hlen h2.1 vars hlv y q h2.2 w' (fun k => k < w.heap.size) A V c cv ws xs (hr.bel RUn_keeps h) (hv.bel RFi_keeps h) (hy.bel h) (hq.bel h) (fun k hk => Nat.lt_of_lt_of_le hk h.size)
  have hac := fun (h2 : (∀ u ∈ us, u.cnt ≤ 2000) ∧ x.count ≤ 2000000) w' (h : Below w.heap.size w w') => kfits_any us hok hlen h2.1 vars hlv x q h2.2 w' (fun k => k < w.heap.size) A V c cv vs xs (hr.bel RUn_keeps h) (hv.bel RFi_keeps h) (hx.bel h) (hq.bel h) (fun k hk => Nat.lt_of_lt_of_le hk h.size)
  have hs1 := fun (h2 : (∀ u ∈ us, u.cnt ≤ 2000) ∧ y.count ≤ 2000000) w' (h : Below w.heap.size w w') => same_all 2000000 (Nat.le_refl _) y q h2.2 w' _ _ ws xs (hy.bel h) (hq.bel h)
  have hs2 := fun (h2 : (∀ u ∈ us, u.cnt ≤ 2000) ∧ x.count ≤ 2000000) w' (h : Below w.heap.size w w') => same_all 2000000 (Nat.le_refl _) x y h2.2 w' _ _ vs ws (hx.bel h) (hy.bel h)
  have ht := fun h1 h2 => fits_through us vars x y q h1 h2
  have hG := fun w' (h : Below w.heap.size w w') => great3_any x y q w w' h (fun k => k < w.heap.size)
  have hct : decide (400 < countL [x, y, q]) = false → x.count ≤ 2000000 ∧ y.count ≤ 2000000 := fun h => by have h1 := of_decide_eq_false h; rw [countL_cons, countL_cons] at h1; omega
  generalize decide (400 < countL [x, y, q]) = bg at hG hct
  rw [fits_self] at haa
  obtain ⟨k0, p0, n0, lx, ly⟩ := x
  obtain ⟨k1, p1, n1, lx1, ly1⟩ := y
  obtain ⟨k2, p2, n2, lx2, ly2⟩ := q
  rw [fits_nil] at hnb
  obtain ⟨A0, c0, B0, d0, rfl, _, _⟩ := hx.openL
  obtain ⟨A1, c1, B1, d1, rfl, _, _⟩ := hy.openL
  obtain ⟨A2, c2, B2, d2, rfl, _, _⟩ := hq.openL
  simp only [tyC, kindOf] at hx hy hq haa hnb hab hbc hac hs1 hs2 ht ⊢
  replace hG := fun w' h => hG w' h k0 k1 k2 p0 n0 p1 n1 p2 n2 A0 B0 A1 B1 A2 B2 lx.length c0 ly.length d0 lx1.length c1 ly1.length d1 lx2.length c2 ly2.length d2 hx hy hq
  generalize fitsP us vars _ (Ty.mk k1 p1 n1 lx1 ly1) = X at hab ht
  generalize fitsP us vars (Ty.mk k1 p1 n1 lx1 ly1) _ = Y at hbc ht
  generalize fitsP us vars _ _ = Z at hac ht
  generalize same (Ty.mk k1 p1 n1 lx1 ly1) _ = S1 at hs1 ht
  generalize same _ _ = S2 at hs2 ht
  have HG := Lib.hid hG
  have HCT := Lib.hid hct
  have HT := Lib.hid (show k1 = 8 → k2 = 8 → k0 ≠ 4 → _ from fun h1 h2 h3 => ht h1 h3)
  have HPL := Lib.hid (fun w' (h : Below w.heap.size w w') => plain_any k0 p0 n0 A0 B0 lx.length c0 ly.length d0 w')
  generalize plainP p0 n0 lx.length ly.length = P at HPL hnb
  have hb1 := ((Below.refl _ w).alloc (Nat.le_refl _) (.cells #[.int .i64 k0, .string p0, .string n0, .slice A0 lx.length c0, .slice B0 ly.length d0] 26))
  have hb2 := hb1.alloc hb1.size (.cells #[.int .i64 k1, .string p1, .string n1, .slice A1 lx1.length c1, .slice B1 ly1.length d1] 26)
  have hb3 := hb2.alloc hb2.size (.cells #[.int .i64 k2, .string p2, .string n2, .slice A2 lx2.length c2, .slice B2 ly2.length d2] 26)
  have HB1 := Lib.hid hb3
  have hka := ((Blk.new w 26 #[.int .i64 k0, .string p0, .string n0, .slice A0 lx.length c0, .slice B0 ly.length d0]).alloc (.cells #[.int .i64 k1, .string p1, .string n1, .slice A1 lx1.length c1, .slice B1 ly1.length d1] 26)).alloc (.cells #[.int .i64 k2, .string p2, .string n2, .slice A2 lx2.length c2, .slice B2 ly2.length d2] 26)
  have hkb := (Blk.new_at (w := w.alloc (.cells #[.int .i64 k0, .string p0, .string n0, .slice A0 lx.length c0, .slice B0 ly.length d0] 26)) (g := w.heap.size + 1) (t := 26) (cs := #[.int .i64 k1, .string p1, .string n1, .slice A1 lx1.length c1, .slice B1 ly1.length d1]) (by simp)).alloc (.cells #[.int .i64 k2, .string p2, .string n2, .slice A2 lx2.length c2, .slice B2 ly2.length d2] 26)
  have hkc := Blk.new_at (w := (w.alloc (.cells #[.int .i64 k0, .string p0, .string n0, .slice A0 lx.length c0, .slice B0 ly.length d0] 26)).alloc (.cells #[.int .i64 k1, .string p1, .string n1, .slice A1 lx1.length c1, .slice B1 ly1.length d1] 26)) (g := w.heap.size + 1 + 1) (t := 26) (cs := #[.int .i64 k2, .string p2, .string n2, .slice A2 lx2.length c2, .slice B2 ly2.length d2]) (by simp)
  have HKA1 := Lib.hid hka
  have HKB1 := Lib.hid hkb
  have HKC1 := Lib.hid hkc
  have HU := Lib.hid (units_any us hok hlen (((w.alloc (.cells #[.int .i64 k0, .string p0, .string n0, .slice A0 lx.length c0, .slice B0 ly.length d0] 26)).alloc (.cells #[.int .i64 k1, .string p1, .string n1, .slice A1 lx1.length c1, .slice B1 ly1.length d1] 26)).alloc (.cells #[.int .i64 k2, .string p2, .string n2, .slice A2 lx2.length c2, .slice B2 ly2.length d2] 26)) (fun k => k < w.heap.size) A c (hr.bel RUn_keeps hb3))
  have HF := Lib.hid (fun w' (h : Below w.heap.size w w') => fields_any vars (by omega) w' (fun k => k < w.heap.size) V cv (hv.bel RFi_keeps h))
  generalize decide (400 < countL (vars.map Fi.ty)) = bf at HF
  have H2 := Lib.hid (fun (hcn : ∀ u ∈ us, u.cnt ≤ 2000) (h : bg = false) => (⟨hcn, (HCT.out h).1⟩ : (∀ u ∈ us, u.cnt ≤ 2000) ∧ (Ty.mk k0 p0 n0 lx ly).count ≤ 2000000))
  have H3 := Lib.hid (fun (hcn : ∀ u ∈ us, u.cnt ≤ 2000) (h : bg = false) => (⟨hcn, (HCT.out h).2⟩ : (∀ u ∈ us, u.cnt ≤ 2000) ∧ (Ty.mk k1 p1 n1 lx1 ly1).count ≤ 2000000))
  have HAA0 := Lib.hid haa
  have HNB0 := Lib.hid hnb
  have HAB0 := Lib.hid hab
  have HBC0 := Lib.hid hbc
  have HAC0 := Lib.hid hac
  have HS10 := Lib.hid hs1
  have HS20 := Lib.hid hs2
  clear hb1 hb2 hb3 hr hv hx hy hq hok hka hkb hkc haa hnb hab hbc hac hs1 hs2 ht hG hct HCT
  go_enter Try.func5, Try.ntmps5
  go_wp2_with (first
    | (go_at_call 7; refine HU.out.mono ?_; rintro e w2 ⟨bu, rfl, hcn, hb2⟩; have HCN := Lib.hid hcn; have HB2 := Lib.hid (HB1.out.trans (hb2.mono HB1.out.size)); clear hcn; have hka2 := HKA1.out.bel2 hb2; have hkb2 := HKB1.out.bel2 hb2; have hkc2 := HKC1.out.bel2 hb2; have ta0 := hka2.cell 0; have tb0 := hkb2.cell 0; have tc0 := hkc2.cell 0; have ta1 := hka2.cell 1; have tb1 := hkb2.cell 1; have tc1 := hkc2.cell 1; have ta2 := hka2.cell 2; have tb2 := hkb2.cell 2; have tc2 := hkc2.cell 2; have ta3 := hka2.cell 3; have tb3 := hkb2.cell 3; have tc3 := hkc2.cell 3; have ta4 := hka2.cell 4; have tb4 := hkb2.cell 4; have tc4 := hkc2.cell 4; have tal := hka2.lt; have HKA2 := Lib.hid hka2; have tbl := hkb2.lt; have HKB2 := Lib.hid hkb2; have tcl := hkc2.lt; have HKC2 := Lib.hid hkc2; clear hb2 hka2 hkb2 hkc2)
    | (go_at_call 8; have _g := HB2; refine (HF.out _ HB2.out).mono ?_; rintro e w3 ⟨rfl, hb3⟩; have HB3 := Lib.hid (HB2.out.trans (hb3.mono HB2.out.size)); have hka3 := HKA2.out.bel2 hb3; have hkb3 := HKB2.out.bel2 hb3; have hkc3 := HKC2.out.bel2 hb3; have ta0 := hka3.cell 0; have tb0 := hkb3.cell 0; have tc0 := hkc3.cell 0; have ta1 := hka3.cell 1; have tb1 := hkb3.cell 1; have tc1 := hkc3.cell 1; have ta2 := hka3.cell 2; have tb2 := hkb3.cell 2; have tc2 := hkc3.cell 2; have ta3 := hka3.cell 3; have tb3 := hkb3.cell 3; have tc3 := hkc3.cell 3; have ta4 := hka3.cell 4; have tb4 := hkb3.cell 4; have tc4 := hkc3.cell 4; have tal := hka3.lt; have HKA3 := Lib.hid hka3; have tbl := hkb3.lt; have HKB3 := Lib.hid hkb3; have tcl := hkc3.lt; have HKC3 := Lib.hid hkc3; clear hb3 hka3 hkb3 hkc3)
    | (go_at_call 9; have _g := HB3; refine (HG.out _ HB3.out).mono ?_; rintro e w4 ⟨rfl, hb4⟩; have HB4 := Lib.hid (HB3.out.trans (hb4.mono HB3.out.size)); have hka4 := HKA3.out.bel2 hb4; have hkb4 := HKB3.out.bel2 hb4; have hkc4 := HKC3.out.bel2 hb4; have ta0 := hka4.cell 0; have tb0 := hkb4.cell 0; have tc0 := hkc4.cell 0; have ta1 := hka4.cell 1; have tb1 := hkb4.cell 1; have tc1 := hkc4.cell 1; have ta2 := hka4.cell 2; have tb2 := hkb4.cell 2; have tc2 := hkc4.cell 2; have ta3 := hka4.cell 3; have tb3 := hkb4.cell 3; have tc3 := hkc4.cell 3; have ta4 := hka4.cell 4; have tb4 := hkb4.cell 4; have tc4 := hkc4.cell 4; have tal := hka4.lt; have HKA4 := Lib.hid hka4; have tbl := hkb4.lt; have HKB4 := Lib.hid hkb4; have tcl := hkc4.lt; have HKC4 := Lib.hid hkc4; clear hb4 hka4 hkb4 hkc4)
    | (go_at_call 10; refine (awake_any _).mono ?_; rintro e w8 ⟨rfl, hb8⟩; first | have HB8 := Lib.hid (HB4.out.trans (hb8.mono HB4.out.size)) | have HB8 := Lib.hid (HB3.out.trans (hb8.mono HB3.out.size)) | have HB8 := Lib.hid (HB2.out.trans (hb8.mono HB2.out.size)); clear hb8))
  all_goals try (go_ret; exact ⟨by simp, HB8.out⟩)
  have hcn := HCN.out (by first | assumption | rfl | exact Bool.eq_false_iff.2 (by assumption))
  have hbg : bg = false := by first | assumption | rfl | exact Bool.eq_false_iff.2 (by assumption)
  have HAA := Lib.hid (HAA0.out (H2.out hcn hbg))
  have HNB := Lib.hid (HNB0.out ⟨hcn, by decide⟩)
  have HAB := Lib.hid (HAB0.out (H2.out hcn hbg))
  have HBC := Lib.hid (HBC0.out (H3.out hcn hbg))
  have HAC := Lib.hid (HAC0.out (H2.out hcn hbg))
  have HS1 := Lib.hid (HS10.out (H3.out hcn hbg))
  have HS2 := Lib.hid (HS20.out (H2.out hcn hbg))
  clear HAA0 HNB0 HAB0 HBC0 HAC0 HS10 HS20 H2 H3 HCN HU HF HG hcn hbg
  obtain ⟨z, hz⟩ : ∃ z, (k0 != 0) = z := ⟨_, rfl⟩
  have HZ := Lib.hid hz
  rw [hz] at HAA
  clear hz
  refine wp_region_held_drew (S := fun V => Below w4.heap.size w4 V) (by kernel_rfl) (Below.refl _ _).drew (fun hS0 => ?_)
  generalize w4.drew = W3 at hS0 ⊢
  refine wpAnyH_take (i := 0) (v := .slice A us.length c) rfl (by kernel_rfl) (by kernel_rfl) (by kernel_rfl) (fun _ _ _ h => h) (Or.inl ⟨rfl, fun w' hS => by (unfold execOp; go_simp)⟩) hS0 ?_
  simp only [Act.put, List.getElem_toArray, List.getElem_cons_zero, List.getElem_cons_succ, List.setIfInBounds_toArray, List.set_cons_zero, List.set_cons_succ]
  refine wpAnyH_take (i := 1) (v := .slice V vars.length cv) rfl (by kernel_rfl) (by kernel_rfl) (by kernel_rfl) (fun _ _ _ h => h) (Or.inl ⟨rfl, fun w' hS => by (unfold execOp; go_simp)⟩) hS0 ?_
  simp only [Act.put, List.getElem_toArray, List.getElem_cons_zero, List.getElem_cons_succ, List.setIfInBounds_toArray, List.set_cons_zero, List.set_cons_succ]
  refine wpAnyH_take (i := 2) (v := (.agg #[.int .i64 k0, .string p0, .string n0, .slice A0 lx.length c0, .slice B0 ly.length d0])) rfl (by kernel_rfl) (by kernel_rfl) (by kernel_rfl) (fun _ _ _ h => h) (Or.inl ⟨rfl, fun w' hS => by (have hk := HKA4.out.bel2 hS; have x0 := hk.cell 0; have x1 := hk.cell 1; have x2 := hk.cell 2; have x3 := hk.cell 3; have x4 := hk.cell 4; have xl := hk.lt; unfold execOp; go_simp)⟩) hS0 ?_
  simp only [Act.put, List.getElem_toArray, List.getElem_cons_zero, List.getElem_cons_succ, List.setIfInBounds_toArray, List.set_cons_zero, List.set_cons_succ]
  refine wpAnyH_take (i := 3) (v := (.agg #[.int .i64 k0, .string p0, .string n0, .slice A0 lx.length c0, .slice B0 ly.length d0])) rfl (by kernel_rfl) (by kernel_rfl) (by kernel_rfl) (fun _ _ _ h => h) (Or.inl ⟨rfl, fun w' hS => by (have hk := HKA4.out.bel2 hS; have x0 := hk.cell 0; have x1 := hk.cell 1; have x2 := hk.cell 2; have x3 := hk.cell 3; have x4 := hk.cell 4; have xl := hk.lt; unfold execOp; go_simp)⟩) hS0 ?_
  simp only [Act.put, List.getElem_toArray, List.getElem_cons_zero, List.getElem_cons_succ, List.setIfInBounds_toArray, List.set_cons_zero, List.set_cons_succ]
  refine wpAnyH_take (i := 5) (v := (.pointer (some ⟨w.heap.size, 0, none⟩))) rfl (by kernel_rfl) (by kernel_rfl) (by kernel_rfl) (fun _ _ _ h => h) (Or.inl ⟨rfl, fun w' hS => by (unfold execOp; go_simp)⟩) hS0 ?_
  simp only [Act.put, List.getElem_toArray, List.getElem_cons_zero, List.getElem_cons_succ, List.setIfInBounds_toArray, List.set_cons_zero, List.set_cons_succ]
  refine wpAnyH_take (i := 6) (v := .int .i64 k0) rfl (by kernel_rfl) (by kernel_rfl) (by kernel_rfl) (fun _ _ _ h => h) (Or.inl ⟨rfl, fun w' hS => by (have hk := HKA4.out.bel2 hS; have x0 := hk.cell 0; have x1 := hk.cell 1; have x2 := hk.cell 2; have x3 := hk.cell 3; have x4 := hk.cell 4; have xl := hk.lt; unfold execOp; go_simp)⟩) hS0 ?_
  simp only [Act.put, List.getElem_toArray, List.getElem_cons_zero, List.getElem_cons_succ, List.setIfInBounds_toArray, List.set_cons_zero, List.set_cons_succ]
  refine wpAnyH_take (i := 7) (v := .bool z) rfl (by kernel_rfl) (by kernel_rfl) (by kernel_rfl) (fun _ _ _ h => h) (Or.inl ⟨rfl, fun w' hS => by (have hz := HZ.out; unfold execOp; go_simp)⟩) hS0 ?_
  simp only [Act.put, List.getElem_toArray, List.getElem_cons_zero, List.getElem_cons_succ, List.setIfInBounds_toArray, List.set_cons_zero, List.set_cons_succ]
  refine wpAnyH_one (i := 4) (by kernel_rfl) rfl rfl (op_call (args := #[.slice A us.length c, .slice V vars.length cv, .agg #[.int .i64 k0, .string p0, .string n0, .slice A0 lx.length c0, .slice B0 ly.length d0], .agg #[.int .i64 k0, .string p0, .string n0, .slice A0 lx.length c0, .slice B0 ly.length d0]]) (f := 14) (by unfold execOp; go_simp) ((HAA.out _ (HB4.out.trans (hS0.mono HB4.out.size))).mono ?_))
  rintro e w20 ⟨rfl, hb20⟩
  have hS1 := hS0.trans (hb20.mono hS0.size)
  refine And.intro hS1 ?_
  simp only [Act.put, List.getElem_toArray, List.getElem_cons_zero, List.getElem_cons_succ, List.setIfInBounds_toArray, List.set_cons_zero, List.set_cons_succ]
  refine wpAnyH_take (i := 8) (v := .bool true) rfl (by kernel_rfl) (by kernel_rfl) (by kernel_rfl) (fun _ _ _ h => h) (Or.inl ⟨rfl, fun w' hS => by (unfold execOp; go_simp)⟩) hS1 ?_
  simp only [Act.put, List.getElem_toArray, List.getElem_cons_zero, List.getElem_cons_succ, List.setIfInBounds_toArray, List.set_cons_zero, List.set_cons_succ]
  refine wpAnyH_take (i := 9) (v := .bool true) rfl (by kernel_rfl) (by kernel_rfl) (by kernel_rfl) (fun _ _ _ h => h) (Or.inl ⟨rfl, fun w' hS => by (unfold execOp; go_simp)⟩) hS1 ?_
  simp only [Act.put, List.getElem_toArray, List.getElem_cons_zero, List.getElem_cons_succ, List.setIfInBounds_toArray, List.set_cons_zero, List.set_cons_succ]
  refine wpAnyH_done (by kernel_rfl) ?_ _
  have HB5 := Lib.hid (HB4.out.trans (hS1.mono HB4.out.size))
  have HKA5 := Lib.hid (HKA4.out.bel2 hS1)
  have HKB5 := Lib.hid (HKB4.out.bel2 hS1)
  have HKC5 := Lib.hid (HKC4.out.bel2 hS1)
  clear hS0 hS1 hb20 HKA4 HKB4 HKC4
  go_wp2
  have hbuild : ∀ W, (Instr.build 26 #[(0, .int .i64 4)]).run Try.prog W = .ok (.agg #[.int .i64 4, .string ⟨#[]⟩, .string ⟨#[]⟩, .slice none 0 0, .slice none 0 0]) W := fun _ => by kernel_rfl
  by_cases hA : k0 < 4
  · have HD := Lib.hid (show ¬ (4 : Int) ≤ k0 ∧ decide ((4 : Int) ≤ k0) = false ∧ k0 < 4 from ⟨by omega, decide_eq_false (by omega), hA⟩)
    rw [if_neg (show ¬ k0 = 4 by omega), decide_eq_false (show ¬ (5 ≤ k0 ∧ k0 ≤ 8) by omega)] at HNB
    clear hA
    refine wp_region_held_drew (S := fun V => Below w20.heap.size w20 V) (by kernel_rfl) (Below.refl _ _).drew (fun hS0 => ?_)
    generalize w20.drew = W4 at hS0 ⊢
    refine wpAnyH_take (i := 0) (v := .slice A us.length c) rfl (by kernel_rfl) (by kernel_rfl) (by kernel_rfl) (fun _ _ _ h => h) (Or.inl ⟨rfl, fun w' hS => by (unfold execOp; go_simp)⟩) hS0 ?_
    simp only [Act.put, List.getElem_toArray, List.getElem_cons_zero, List.getElem_cons_succ, List.setIfInBounds_toArray, List.set_cons_zero, List.set_cons_succ]
    refine wpAnyH_take (i := 1) (v := .slice V vars.length cv) rfl (by kernel_rfl) (by kernel_rfl) (by kernel_rfl) (fun _ _ _ h => h) (Or.inl ⟨rfl, fun w' hS => by (unfold execOp; go_simp)⟩) hS0 ?_
    simp only [Act.put, List.getElem_toArray, List.getElem_cons_zero, List.getElem_cons_succ, List.setIfInBounds_toArray, List.set_cons_zero, List.set_cons_succ]
    refine wpAnyH_take (i := 2) (v := (.agg #[.int .i64 4, .string ⟨#[]⟩, .string ⟨#[]⟩, .slice none 0 0, .slice none 0 0])) rfl (by kernel_rfl) (by kernel_rfl) (by kernel_rfl) (fun _ _ _ h => h) (Or.inl ⟨rfl, fun w' hS => by (unfold execOp; go_simp)⟩) hS0 ?_
    simp only [Act.put, List.getElem_toArray, List.getElem_cons_zero, List.getElem_cons_succ, List.setIfInBounds_toArray, List.set_cons_zero, List.set_cons_succ]
    refine wpAnyH_take (i := 3) (v := (.agg #[.int .i64 k0, .string p0, .string n0, .slice A0 lx.length c0, .slice B0 ly.length d0])) rfl (by kernel_rfl) (by kernel_rfl) (by kernel_rfl) (fun _ _ _ h => h) (Or.inl ⟨rfl, fun w' hS => by (have hk := HKA5.out.bel2 hS; have x0 := hk.cell 0; have x1 := hk.cell 1; have x2 := hk.cell 2; have x3 := hk.cell 3; have x4 := hk.cell 4; have xl := hk.lt; unfold execOp; go_simp)⟩) hS0 ?_
    simp only [Act.put, List.getElem_toArray, List.getElem_cons_zero, List.getElem_cons_succ, List.setIfInBounds_toArray, List.set_cons_zero, List.set_cons_succ]
    refine wpAnyH_take (i := 5) (v := (.pointer (some ⟨w.heap.size, 0, none⟩))) rfl (by kernel_rfl) (by kernel_rfl) (by kernel_rfl) (fun _ _ _ h => h) (Or.inl ⟨rfl, fun w' hS => by (unfold execOp; go_simp)⟩) hS0 ?_
    simp only [Act.put, List.getElem_toArray, List.getElem_cons_zero, List.getElem_cons_succ, List.setIfInBounds_toArray, List.set_cons_zero, List.set_cons_succ]
    refine wpAnyH_take (i := 6) (v := .int .i64 k0) rfl (by kernel_rfl) (by kernel_rfl) (by kernel_rfl) (fun _ _ _ h => h) (Or.inl ⟨rfl, fun w' hS => by (have hk := HKA5.out.bel2 hS; have x0 := hk.cell 0; have x1 := hk.cell 1; have x2 := hk.cell 2; have x3 := hk.cell 3; have x4 := hk.cell 4; have xl := hk.lt; unfold execOp; go_simp)⟩) hS0 ?_
    simp only [Act.put, List.getElem_toArray, List.getElem_cons_zero, List.getElem_cons_succ, List.setIfInBounds_toArray, List.set_cons_zero, List.set_cons_succ]
    refine wpAnyH_take (i := 7) (v := .bool false) rfl (by kernel_rfl) (by kernel_rfl) (by kernel_rfl) (fun _ _ _ h => h) (Or.inl ⟨rfl, fun w' hS => by (have z1 := HD.out; unfold execOp; go_simp)⟩) hS0 ?_
    simp only [Act.put, List.getElem_toArray, List.getElem_cons_zero, List.getElem_cons_succ, List.setIfInBounds_toArray, List.set_cons_zero, List.set_cons_succ]
    refine wpAnyH_one (i := 4) (by kernel_rfl) rfl rfl (op_call (args := #[.slice A us.length c, .slice V vars.length cv, .agg #[.int .i64 4, .string ⟨#[]⟩, .string ⟨#[]⟩, .slice none 0 0, .slice none 0 0], .agg #[.int .i64 k0, .string p0, .string n0, .slice A0 lx.length c0, .slice B0 ly.length d0]]) (f := 14) (by unfold execOp; go_simp) ((HNB.out _ (HB5.out.trans (hS0.mono HB5.out.size))).mono ?_))
    rintro e w21 ⟨rfl, hb21⟩
    have hS1 := hS0.trans (hb21.mono hS0.size)
    refine And.intro hS1 ?_
    simp only [Act.put, List.getElem_toArray, List.getElem_cons_zero, List.getElem_cons_succ, List.setIfInBounds_toArray, List.set_cons_zero, List.set_cons_succ]
    refine wpAnyH_take (i := 8) (v := .bool false) rfl (by kernel_rfl) (by kernel_rfl) (by kernel_rfl) (fun _ _ _ h => h) (Or.inl ⟨rfl, fun w' hS => by (unfold execOp; go_simp)⟩) hS1 ?_
    simp only [Act.put, List.getElem_toArray, List.getElem_cons_zero, List.getElem_cons_succ, List.setIfInBounds_toArray, List.set_cons_zero, List.set_cons_succ]
    refine wpAnyH_take (i := 9) (v := undef) rfl (by kernel_rfl) (by kernel_rfl) (by kernel_rfl) (fun _ _ _ h => h) (Or.inr ⟨by kernel_rfl, rfl⟩) hS1 ?_
    simp only [Act.put, List.getElem_toArray, List.getElem_cons_zero, List.getElem_cons_succ, List.setIfInBounds_toArray, List.set_cons_zero, List.set_cons_succ]
    refine wpAnyH_take (i := 10) (v := undef) rfl (by kernel_rfl) (by kernel_rfl) (by kernel_rfl) (fun _ _ _ h => h) (Or.inr ⟨by kernel_rfl, rfl⟩) hS1 ?_
    simp only [Act.put, List.getElem_toArray, List.getElem_cons_zero, List.getElem_cons_succ, List.setIfInBounds_toArray, List.set_cons_zero, List.set_cons_succ]
    refine wpAnyH_take (i := 11) (v := undef) rfl (by kernel_rfl) (by kernel_rfl) (by kernel_rfl) (fun _ _ _ h => h) (Or.inr ⟨by kernel_rfl, rfl⟩) hS1 ?_
    simp only [Act.put, List.getElem_toArray, List.getElem_cons_zero, List.getElem_cons_succ, List.setIfInBounds_toArray, List.set_cons_zero, List.set_cons_succ]
    refine wpAnyH_take (i := 12) (v := .bool false) rfl (by kernel_rfl) (by kernel_rfl) (by kernel_rfl) (fun _ _ _ h => h) (Or.inl ⟨rfl, fun w' hS => by (unfold execOp; go_simp)⟩) hS1 ?_
    simp only [Act.put, List.getElem_toArray, List.getElem_cons_zero, List.getElem_cons_succ, List.setIfInBounds_toArray, List.set_cons_zero, List.set_cons_succ]
    refine wpAnyH_take (i := 13) (v := .bool false) rfl (by kernel_rfl) (by kernel_rfl) (by kernel_rfl) (fun _ _ _ h => h) (Or.inl ⟨rfl, fun w' hS => by (unfold execOp; go_simp)⟩) hS1 ?_
    simp only [Act.put, List.getElem_toArray, List.getElem_cons_zero, List.getElem_cons_succ, List.setIfInBounds_toArray, List.set_cons_zero, List.set_cons_succ]
    refine wpAnyH_take (i := 14) (v := undef) rfl (by kernel_rfl) (by kernel_rfl) (by kernel_rfl) (fun _ _ _ h => h) (Or.inr ⟨by kernel_rfl, rfl⟩) hS1 ?_
    simp only [Act.put, List.getElem_toArray, List.getElem_cons_zero, List.getElem_cons_succ, List.setIfInBounds_toArray, List.set_cons_zero, List.set_cons_succ]
    refine wpAnyH_take (i := 15) (v := undef) rfl (by kernel_rfl) (by kernel_rfl) (by kernel_rfl) (fun _ _ _ h => h) (Or.inr ⟨by kernel_rfl, rfl⟩) hS1 ?_
    simp only [Act.put, List.getElem_toArray, List.getElem_cons_zero, List.getElem_cons_succ, List.setIfInBounds_toArray, List.set_cons_zero, List.set_cons_succ]
    refine wpAnyH_take (i := 16) (v := undef) rfl (by kernel_rfl) (by kernel_rfl) (by kernel_rfl) (fun _ _ _ h => h) (Or.inr ⟨by kernel_rfl, rfl⟩) hS1 ?_
    simp only [Act.put, List.getElem_toArray, List.getElem_cons_zero, List.getElem_cons_succ, List.setIfInBounds_toArray, List.set_cons_zero, List.set_cons_succ]
    refine wpAnyH_take (i := 17) (v := undef) rfl (by kernel_rfl) (by kernel_rfl) (by kernel_rfl) (fun _ _ _ h => h) (Or.inr ⟨by kernel_rfl, rfl⟩) hS1 ?_
    simp only [Act.put, List.getElem_toArray, List.getElem_cons_zero, List.getElem_cons_succ, List.setIfInBounds_toArray, List.set_cons_zero, List.set_cons_succ]
    refine wpAnyH_take (i := 18) (v := undef) rfl (by kernel_rfl) (by kernel_rfl) (by kernel_rfl) (fun _ _ _ h => h) (Or.inr ⟨by kernel_rfl, rfl⟩) hS1 ?_
    simp only [Act.put, List.getElem_toArray, List.getElem_cons_zero, List.getElem_cons_succ, List.setIfInBounds_toArray, List.set_cons_zero, List.set_cons_succ]
    refine wpAnyH_take (i := 19) (v := undef) rfl (by kernel_rfl) (by kernel_rfl) (by kernel_rfl) (fun _ _ _ h => h) (Or.inr ⟨by kernel_rfl, rfl⟩) hS1 ?_
    simp only [Act.put, List.getElem_toArray, List.getElem_cons_zero, List.getElem_cons_succ, List.setIfInBounds_toArray, List.set_cons_zero, List.set_cons_succ]
    refine wpAnyH_take (i := 20) (v := undef) rfl (by kernel_rfl) (by kernel_rfl) (by kernel_rfl) (fun _ _ _ h => h) (Or.inr ⟨by kernel_rfl, rfl⟩) hS1 ?_
    simp only [Act.put, List.getElem_toArray, List.getElem_cons_zero, List.getElem_cons_succ, List.setIfInBounds_toArray, List.set_cons_zero, List.set_cons_succ]
    refine wpAnyH_take (i := 21) (v := .bool false) rfl (by kernel_rfl) (by kernel_rfl) (by kernel_rfl) (fun _ _ _ h => h) (Or.inl ⟨rfl, fun w' hS => by (unfold execOp; go_simp)⟩) hS1 ?_
    simp only [Act.put, List.getElem_toArray, List.getElem_cons_zero, List.getElem_cons_succ, List.setIfInBounds_toArray, List.set_cons_zero, List.set_cons_succ]
    refine wpAnyH_take (i := 22) (v := .bool true) rfl (by kernel_rfl) (by kernel_rfl) (by kernel_rfl) (fun _ _ _ h => h) (Or.inl ⟨rfl, fun w' hS => by (unfold execOp; go_simp)⟩) hS1 ?_
    simp only [Act.put, List.getElem_toArray, List.getElem_cons_zero, List.getElem_cons_succ, List.setIfInBounds_toArray, List.set_cons_zero, List.set_cons_succ]
    refine wpAnyH_take (i := 23) (v := .bool true) rfl (by kernel_rfl) (by kernel_rfl) (by kernel_rfl) (fun _ _ _ h => h) (Or.inl ⟨rfl, fun w' hS => by (unfold execOp; go_simp)⟩) hS1 ?_
    simp only [Act.put, List.getElem_toArray, List.getElem_cons_zero, List.getElem_cons_succ, List.setIfInBounds_toArray, List.set_cons_zero, List.set_cons_succ]
    refine wpAnyH_done (by kernel_rfl) ?_ _
    have HB6 := Lib.hid (HB5.out.trans (hS1.mono HB5.out.size))
    have hka6 := HKA5.out.bel2 hS1
    have HKA6 := Lib.hid hka6
    have hkb6 := HKB5.out.bel2 hS1
    have HKB6 := Lib.hid hkb6
    have hkc6 := HKC5.out.bel2 hS1
    have HKC6 := Lib.hid hkc6
    have ta0 := hka6.cell 0
    have ta1 := hka6.cell 1
    have ta2 := hka6.cell 2
    have ta3 := hka6.cell 3
    have ta4 := hka6.cell 4
    have tb0 := hkb6.cell 0
    have tb1 := hkb6.cell 1
    have tb2 := hkb6.cell 2
    have tb3 := hkb6.cell 3
    have tb4 := hkb6.cell 4
    have tc0 := hkc6.cell 0
    have tc1 := hkc6.cell 1
    have tc2 := hkc6.cell 2
    have tc3 := hkc6.cell 3
    have tc4 := hkc6.cell 4
    have tal := hka6.lt
    have tbl := hkb6.lt
    have tcl := hkc6.lt
    clear hS0 hS1 hb21 hka6 hkb6 hkc6
    have e4 : (k0 == 4) = false := by have := HD.out.2.2; simp; omega
    by_cases h8 : k1 = 8
    · have e1 : (k1 != 8) = false := by rw [h8]; decide
      by_cases h9 : k2 = 8
      · have e2 : (k2 != 8) = false := by rw [h9]; decide
        have HT2 := Lib.hid (HT.out h8 h9 (by have := HD.out.2.2; omega))
        clear h8 h9 HT
        cases X with
        | false =>
          go_wp2_with (first | (go_at_call 14; have _g := HB6; (with_reducible refine (HAB.out _ HB6.out).mono ?_); rintro e w30 ⟨rfl, hb30⟩; have HB30 := Lib.hid (HB6.out.trans (hb30.mono HB6.out.size)); have hka30 := HKA6.out.bel2 hb30; have hkb30 := HKB6.out.bel2 hb30; have hkc30 := HKC6.out.bel2 hb30; have ta0 := hka30.cell 0; have tb0 := hkb30.cell 0; have tc0 := hkc30.cell 0; have ta1 := hka30.cell 1; have tb1 := hkb30.cell 1; have tc1 := hkc30.cell 1; have ta2 := hka30.cell 2; have tb2 := hkb30.cell 2; have tc2 := hkc30.cell 2; have ta3 := hka30.cell 3; have tb3 := hkb30.cell 3; have tc3 := hkc30.cell 3; have ta4 := hka30.cell 4; have tb4 := hkb30.cell 4; have tc4 := hkc30.cell 4; have tal := hka30.lt; have HKA30 := Lib.hid hka30; have tbl := hkb30.lt; have HKB30 := Lib.hid hkb30; have tcl := hkc30.lt; have HKC30 := Lib.hid hkc30; clear hb30 hka30 hkb30 hkc30) | (go_at_call 10; refine (awake_any _).mono ?_; rintro e w40 ⟨rfl, hb40⟩; first | have HBZ := Lib.hid (HB34.out.trans (hb40.mono HB34.out.size)) | have HBZ := Lib.hid (HB33.out.trans (hb40.mono HB33.out.size)) | have HBZ := Lib.hid (HB32.out.trans (hb40.mono HB32.out.size)) | have HBZ := Lib.hid (HB31.out.trans (hb40.mono HB31.out.size)) | have HBZ := Lib.hid (HB30.out.trans (hb40.mono HB30.out.size)) | have HBZ := Lib.hid (HB6.out.trans (hb40.mono HB6.out.size)); clear hb40))
          go_ret
          exact ⟨by simp, HBZ.out⟩
        | true =>
        cases Y with
        | false =>
          go_wp2_with (first | (go_at_call 14; have _g := HB30; (with_reducible refine (HBC.out _ HB30.out).mono ?_); rintro e w31 ⟨rfl, hb31⟩; have HB31 := Lib.hid (HB30.out.trans (hb31.mono HB30.out.size)); have hka31 := HKA30.out.bel2 hb31; have hkb31 := HKB30.out.bel2 hb31; have hkc31 := HKC30.out.bel2 hb31; have ta0 := hka31.cell 0; have tb0 := hkb31.cell 0; have tc0 := hkc31.cell 0; have ta1 := hka31.cell 1; have tb1 := hkb31.cell 1; have tc1 := hkc31.cell 1; have ta2 := hka31.cell 2; have tb2 := hkb31.cell 2; have tc2 := hkc31.cell 2; have ta3 := hka31.cell 3; have tb3 := hkb31.cell 3; have tc3 := hkc31.cell 3; have ta4 := hka31.cell 4; have tb4 := hkb31.cell 4; have tc4 := hkc31.cell 4; have tal := hka31.lt; have HKA31 := Lib.hid hka31; have tbl := hkb31.lt; have HKB31 := Lib.hid hkb31; have tcl := hkc31.lt; have HKC31 := Lib.hid hkc31; clear hb31 hka31 hkb31 hkc31) | (go_at_call 14; have _g := HB6; (with_reducible refine (HAB.out _ HB6.out).mono ?_); rintro e w30 ⟨rfl, hb30⟩; have HB30 := Lib.hid (HB6.out.trans (hb30.mono HB6.out.size)); have hka30 := HKA6.out.bel2 hb30; have hkb30 := HKB6.out.bel2 hb30; have hkc30 := HKC6.out.bel2 hb30; have ta0 := hka30.cell 0; have tb0 := hkb30.cell 0; have tc0 := hkc30.cell 0; have ta1 := hka30.cell 1; have tb1 := hkb30.cell 1; have tc1 := hkc30.cell 1; have ta2 := hka30.cell 2; have tb2 := hkb30.cell 2; have tc2 := hkc30.cell 2; have ta3 := hka30.cell 3; have tb3 := hkb30.cell 3; have tc3 := hkc30.cell 3; have ta4 := hka30.cell 4; have tb4 := hkb30.cell 4; have tc4 := hkc30.cell 4; have tal := hka30.lt; have HKA30 := Lib.hid hka30; have tbl := hkb30.lt; have HKB30 := Lib.hid hkb30; have tcl := hkc30.lt; have HKC30 := Lib.hid hkc30; clear hb30 hka30 hkb30 hkc30) | (go_at_call 10; refine (awake_any _).mono ?_; rintro e w40 ⟨rfl, hb40⟩; first | have HBZ := Lib.hid (HB34.out.trans (hb40.mono HB34.out.size)) | have HBZ := Lib.hid (HB33.out.trans (hb40.mono HB33.out.size)) | have HBZ := Lib.hid (HB32.out.trans (hb40.mono HB32.out.size)) | have HBZ := Lib.hid (HB31.out.trans (hb40.mono HB31.out.size)) | have HBZ := Lib.hid (HB30.out.trans (hb40.mono HB30.out.size)) | have HBZ := Lib.hid (HB6.out.trans (hb40.mono HB6.out.size)); clear hb40))
          go_ret
          exact ⟨by simp, HBZ.out⟩
        | true =>
        cases Z with
        | true =>
          go_wp2_with (first | (go_at_call 14; have _g := HB31; (with_reducible refine (HAC.out _ HB31.out).mono ?_); rintro e w32 ⟨rfl, hb32⟩; have HB32 := Lib.hid (HB31.out.trans (hb32.mono HB31.out.size)); have hka32 := HKA31.out.bel2 hb32; have hkb32 := HKB31.out.bel2 hb32; have hkc32 := HKC31.out.bel2 hb32; have ta0 := hka32.cell 0; have tb0 := hkb32.cell 0; have tc0 := hkc32.cell 0; have ta1 := hka32.cell 1; have tb1 := hkb32.cell 1; have tc1 := hkc32.cell 1; have ta2 := hka32.cell 2; have tb2 := hkb32.cell 2; have tc2 := hkc32.cell 2; have ta3 := hka32.cell 3; have tb3 := hkb32.cell 3; have tc3 := hkc32.cell 3; have ta4 := hka32.cell 4; have tb4 := hkb32.cell 4; have tc4 := hkc32.cell 4; have tal := hka32.lt; have HKA32 := Lib.hid hka32; have tbl := hkb32.lt; have HKB32 := Lib.hid hkb32; have tcl := hkc32.lt; have HKC32 := Lib.hid hkc32; clear hb32 hka32 hkb32 hkc32) | (go_at_call 14; have _g := HB30; (with_reducible refine (HBC.out _ HB30.out).mono ?_); rintro e w31 ⟨rfl, hb31⟩; have HB31 := Lib.hid (HB30.out.trans (hb31.mono HB30.out.size)); have hka31 := HKA30.out.bel2 hb31; have hkb31 := HKB30.out.bel2 hb31; have hkc31 := HKC30.out.bel2 hb31; have ta0 := hka31.cell 0; have tb0 := hkb31.cell 0; have tc0 := hkc31.cell 0; have ta1 := hka31.cell 1; have tb1 := hkb31.cell 1; have tc1 := hkc31.cell 1; have ta2 := hka31.cell 2; have tb2 := hkb31.cell 2; have tc2 := hkc31.cell 2; have ta3 := hka31.cell 3; have tb3 := hkb31.cell 3; have tc3 := hkc31.cell 3; have ta4 := hka31.cell 4; have tb4 := hkb31.cell 4; have tc4 := hkc31.cell 4; have tal := hka31.lt; have HKA31 := Lib.hid hka31; have tbl := hkb31.lt; have HKB31 := Lib.hid hkb31; have tcl := hkc31.lt; have HKC31 := Lib.hid hkc31; clear hb31 hka31 hkb31 hkc31) | (go_at_call 14; have _g := HB6; (with_reducible refine (HAB.out _ HB6.out).mono ?_); rintro e w30 ⟨rfl, hb30⟩; have HB30 := Lib.hid (HB6.out.trans (hb30.mono HB6.out.size)); have hka30 := HKA6.out.bel2 hb30; have hkb30 := HKB6.out.bel2 hb30; have hkc30 := HKC6.out.bel2 hb30; have ta0 := hka30.cell 0; have tb0 := hkb30.cell 0; have tc0 := hkc30.cell 0; have ta1 := hka30.cell 1; have tb1 := hkb30.cell 1; have tc1 := hkc30.cell 1; have ta2 := hka30.cell 2; have tb2 := hkb30.cell 2; have tc2 := hkc30.cell 2; have ta3 := hka30.cell 3; have tb3 := hkb30.cell 3; have tc3 := hkc30.cell 3; have ta4 := hka30.cell 4; have tb4 := hkb30.cell 4; have tc4 := hkc30.cell 4; have tal := hka30.lt; have HKA30 := Lib.hid hka30; have tbl := hkb30.lt; have HKB30 := Lib.hid hkb30; have tcl := hkc30.lt; have HKC30 := Lib.hid hkc30; clear hb30 hka30 hkb30 hkc30) | (go_at_call 10; refine (awake_any _).mono ?_; rintro e w40 ⟨rfl, hb40⟩; first | have HBZ := Lib.hid (HB34.out.trans (hb40.mono HB34.out.size)) | have HBZ := Lib.hid (HB33.out.trans (hb40.mono HB33.out.size)) | have HBZ := Lib.hid (HB32.out.trans (hb40.mono HB32.out.size)) | have HBZ := Lib.hid (HB31.out.trans (hb40.mono HB31.out.size)) | have HBZ := Lib.hid (HB30.out.trans (hb40.mono HB30.out.size)) | have HBZ := Lib.hid (HB6.out.trans (hb40.mono HB6.out.size)); clear hb40))
          go_ret
          exact ⟨by simp, HBZ.out⟩
        | false =>
        cases S1 with
        | true =>
          go_wp2_with (first | (go_at_call 19; have _g := HB32; (with_reducible refine (HS1.out _ HB32.out).mono ?_); rintro e w33 ⟨rfl, hb33⟩; have HB33 := Lib.hid (HB32.out.trans (hb33.mono HB32.out.size)); have hka33 := HKA32.out.bel2 hb33; have hkb33 := HKB32.out.bel2 hb33; have hkc33 := HKC32.out.bel2 hb33; have ta0 := hka33.cell 0; have tb0 := hkb33.cell 0; have tc0 := hkc33.cell 0; have ta1 := hka33.cell 1; have tb1 := hkb33.cell 1; have tc1 := hkc33.cell 1; have ta2 := hka33.cell 2; have tb2 := hkb33.cell 2; have tc2 := hkc33.cell 2; have ta3 := hka33.cell 3; have tb3 := hkb33.cell 3; have tc3 := hkc33.cell 3; have ta4 := hka33.cell 4; have tb4 := hkb33.cell 4; have tc4 := hkc33.cell 4; have tal := hka33.lt; have HKA33 := Lib.hid hka33; have tbl := hkb33.lt; have HKB33 := Lib.hid hkb33; have tcl := hkc33.lt; have HKC33 := Lib.hid hkc33; clear hb33 hka33 hkb33 hkc33) | (go_at_call 14; have _g := HB31; (with_reducible refine (HAC.out _ HB31.out).mono ?_); rintro e w32 ⟨rfl, hb32⟩; have HB32 := Lib.hid (HB31.out.trans (hb32.mono HB31.out.size)); have hka32 := HKA31.out.bel2 hb32; have hkb32 := HKB31.out.bel2 hb32; have hkc32 := HKC31.out.bel2 hb32; have ta0 := hka32.cell 0; have tb0 := hkb32.cell 0; have tc0 := hkc32.cell 0; have ta1 := hka32.cell 1; have tb1 := hkb32.cell 1; have tc1 := hkc32.cell 1; have ta2 := hka32.cell 2; have tb2 := hkb32.cell 2; have tc2 := hkc32.cell 2; have ta3 := hka32.cell 3; have tb3 := hkb32.cell 3; have tc3 := hkc32.cell 3; have ta4 := hka32.cell 4; have tb4 := hkb32.cell 4; have tc4 := hkc32.cell 4; have tal := hka32.lt; have HKA32 := Lib.hid hka32; have tbl := hkb32.lt; have HKB32 := Lib.hid hkb32; have tcl := hkc32.lt; have HKC32 := Lib.hid hkc32; clear hb32 hka32 hkb32 hkc32) | (go_at_call 14; have _g := HB30; (with_reducible refine (HBC.out _ HB30.out).mono ?_); rintro e w31 ⟨rfl, hb31⟩; have HB31 := Lib.hid (HB30.out.trans (hb31.mono HB30.out.size)); have hka31 := HKA30.out.bel2 hb31; have hkb31 := HKB30.out.bel2 hb31; have hkc31 := HKC30.out.bel2 hb31; have ta0 := hka31.cell 0; have tb0 := hkb31.cell 0; have tc0 := hkc31.cell 0; have ta1 := hka31.cell 1; have tb1 := hkb31.cell 1; have tc1 := hkc31.cell 1; have ta2 := hka31.cell 2; have tb2 := hkb31.cell 2; have tc2 := hkc31.cell 2; have ta3 := hka31.cell 3; have tb3 := hkb31.cell 3; have tc3 := hkc31.cell 3; have ta4 := hka31.cell 4; have tb4 := hkb31.cell 4; have tc4 := hkc31.cell 4; have tal := hka31.lt; have HKA31 := Lib.hid hka31; have tbl := hkb31.lt; have HKB31 := Lib.hid hkb31; have tcl := hkc31.lt; have HKC31 := Lib.hid hkc31; clear hb31 hka31 hkb31 hkc31) | (go_at_call 14; have _g := HB6; (with_reducible refine (HAB.out _ HB6.out).mono ?_); rintro e w30 ⟨rfl, hb30⟩; have HB30 := Lib.hid (HB6.out.trans (hb30.mono HB6.out.size)); have hka30 := HKA6.out.bel2 hb30; have hkb30 := HKB6.out.bel2 hb30; have hkc30 := HKC6.out.bel2 hb30; have ta0 := hka30.cell 0; have tb0 := hkb30.cell 0; have tc0 := hkc30.cell 0; have ta1 := hka30.cell 1; have tb1 := hkb30.cell 1; have tc1 := hkc30.cell 1; have ta2 := hka30.cell 2; have tb2 := hkb30.cell 2; have tc2 := hkc30.cell 2; have ta3 := hka30.cell 3; have tb3 := hkb30.cell 3; have tc3 := hkc30.cell 3; have ta4 := hka30.cell 4; have tb4 := hkb30.cell 4; have tc4 := hkc30.cell 4; have tal := hka30.lt; have HKA30 := Lib.hid hka30; have tbl := hkb30.lt; have HKB30 := Lib.hid hkb30; have tcl := hkc30.lt; have HKC30 := Lib.hid hkc30; clear hb30 hka30 hkb30 hkc30) | (go_at_call 10; refine (awake_any _).mono ?_; rintro e w40 ⟨rfl, hb40⟩; first | have HBZ := Lib.hid (HB34.out.trans (hb40.mono HB34.out.size)) | have HBZ := Lib.hid (HB33.out.trans (hb40.mono HB33.out.size)) | have HBZ := Lib.hid (HB32.out.trans (hb40.mono HB32.out.size)) | have HBZ := Lib.hid (HB31.out.trans (hb40.mono HB31.out.size)) | have HBZ := Lib.hid (HB30.out.trans (hb40.mono HB30.out.size)) | have HBZ := Lib.hid (HB6.out.trans (hb40.mono HB6.out.size)); clear hb40))
          go_ret
          exact ⟨by simp, HBZ.out⟩
        | false =>
        cases S2 with
        | true =>
          go_wp2_with (first | (go_at_call 19; have _g := HB33; (with_reducible refine (HS2.out _ HB33.out).mono ?_); rintro e w34 ⟨rfl, hb34⟩; have HB34 := Lib.hid (HB33.out.trans (hb34.mono HB33.out.size)); have hka34 := HKA33.out.bel2 hb34; have hkb34 := HKB33.out.bel2 hb34; have hkc34 := HKC33.out.bel2 hb34; have ta0 := hka34.cell 0; have tb0 := hkb34.cell 0; have tc0 := hkc34.cell 0; have ta1 := hka34.cell 1; have tb1 := hkb34.cell 1; have tc1 := hkc34.cell 1; have ta2 := hka34.cell 2; have tb2 := hkb34.cell 2; have tc2 := hkc34.cell 2; have ta3 := hka34.cell 3; have tb3 := hkb34.cell 3; have tc3 := hkc34.cell 3; have ta4 := hka34.cell 4; have tb4 := hkb34.cell 4; have tc4 := hkc34.cell 4; have tal := hka34.lt; have HKA34 := Lib.hid hka34; have tbl := hkb34.lt; have HKB34 := Lib.hid hkb34; have tcl := hkc34.lt; have HKC34 := Lib.hid hkc34; clear hb34 hka34 hkb34 hkc34) | (go_at_call 19; have _g := HB32; (with_reducible refine (HS1.out _ HB32.out).mono ?_); rintro e w33 ⟨rfl, hb33⟩; have HB33 := Lib.hid (HB32.out.trans (hb33.mono HB32.out.size)); have hka33 := HKA32.out.bel2 hb33; have hkb33 := HKB32.out.bel2 hb33; have hkc33 := HKC32.out.bel2 hb33; have ta0 := hka33.cell 0; have tb0 := hkb33.cell 0; have tc0 := hkc33.cell 0; have ta1 := hka33.cell 1; have tb1 := hkb33.cell 1; have tc1 := hkc33.cell 1; have ta2 := hka33.cell 2; have tb2 := hkb33.cell 2; have tc2 := hkc33.cell 2; have ta3 := hka33.cell 3; have tb3 := hkb33.cell 3; have tc3 := hkc33.cell 3; have ta4 := hka33.cell 4; have tb4 := hkb33.cell 4; have tc4 := hkc33.cell 4; have tal := hka33.lt; have HKA33 := Lib.hid hka33; have tbl := hkb33.lt; have HKB33 := Lib.hid hkb33; have tcl := hkc33.lt; have HKC33 := Lib.hid hkc33; clear hb33 hka33 hkb33 hkc33) | (go_at_call 14; have _g := HB31; (with_reducible refine (HAC.out _ HB31.out).mono ?_); rintro e w32 ⟨rfl, hb32⟩; have HB32 := Lib.hid (HB31.out.trans (hb32.mono HB31.out.size)); have hka32 := HKA31.out.bel2 hb32; have hkb32 := HKB31.out.bel2 hb32; have hkc32 := HKC31.out.bel2 hb32; have ta0 := hka32.cell 0; have tb0 := hkb32.cell 0; have tc0 := hkc32.cell 0; have ta1 := hka32.cell 1; have tb1 := hkb32.cell 1; have tc1 := hkc32.cell 1; have ta2 := hka32.cell 2; have tb2 := hkb32.cell 2; have tc2 := hkc32.cell 2; have ta3 := hka32.cell 3; have tb3 := hkb32.cell 3; have tc3 := hkc32.cell 3; have ta4 := hka32.cell 4; have tb4 := hkb32.cell 4; have tc4 := hkc32.cell 4; have tal := hka32.lt; have HKA32 := Lib.hid hka32; have tbl := hkb32.lt; have HKB32 := Lib.hid hkb32; have tcl := hkc32.lt; have HKC32 := Lib.hid hkc32; clear hb32 hka32 hkb32 hkc32) | (go_at_call 14; have _g := HB30; (with_reducible refine (HBC.out _ HB30.out).mono ?_); rintro e w31 ⟨rfl, hb31⟩; have HB31 := Lib.hid (HB30.out.trans (hb31.mono HB30.out.size)); have hka31 := HKA30.out.bel2 hb31; have hkb31 := HKB30.out.bel2 hb31; have hkc31 := HKC30.out.bel2 hb31; have ta0 := hka31.cell 0; have tb0 := hkb31.cell 0; have tc0 := hkc31.cell 0; have ta1 := hka31.cell 1; have tb1 := hkb31.cell 1; have tc1 := hkc31.cell 1; have ta2 := hka31.cell 2; have tb2 := hkb31.cell 2; have tc2 := hkc31.cell 2; have ta3 := hka31.cell 3; have tb3 := hkb31.cell 3; have tc3 := hkc31.cell 3; have ta4 := hka31.cell 4; have tb4 := hkb31.cell 4; have tc4 := hkc31.cell 4; have tal := hka31.lt; have HKA31 := Lib.hid hka31; have tbl := hkb31.lt; have HKB31 := Lib.hid hkb31; have tcl := hkc31.lt; have HKC31 := Lib.hid hkc31; clear hb31 hka31 hkb31 hkc31) | (go_at_call 14; have _g := HB6; (with_reducible refine (HAB.out _ HB6.out).mono ?_); rintro e w30 ⟨rfl, hb30⟩; have HB30 := Lib.hid (HB6.out.trans (hb30.mono HB6.out.size)); have hka30 := HKA6.out.bel2 hb30; have hkb30 := HKB6.out.bel2 hb30; have hkc30 := HKC6.out.bel2 hb30; have ta0 := hka30.cell 0; have tb0 := hkb30.cell 0; have tc0 := hkc30.cell 0; have ta1 := hka30.cell 1; have tb1 := hkb30.cell 1; have tc1 := hkc30.cell 1; have ta2 := hka30.cell 2; have tb2 := hkb30.cell 2; have tc2 := hkc30.cell 2; have ta3 := hka30.cell 3; have tb3 := hkb30.cell 3; have tc3 := hkc30.cell 3; have ta4 := hka30.cell 4; have tb4 := hkb30.cell 4; have tc4 := hkc30.cell 4; have tal := hka30.lt; have HKA30 := Lib.hid hka30; have tbl := hkb30.lt; have HKB30 := Lib.hid hkb30; have tcl := hkc30.lt; have HKC30 := Lib.hid hkc30; clear hb30 hka30 hkb30 hkc30) | (go_at_call 10; refine (awake_any _).mono ?_; rintro e w40 ⟨rfl, hb40⟩; first | have HBZ := Lib.hid (HB34.out.trans (hb40.mono HB34.out.size)) | have HBZ := Lib.hid (HB33.out.trans (hb40.mono HB33.out.size)) | have HBZ := Lib.hid (HB32.out.trans (hb40.mono HB32.out.size)) | have HBZ := Lib.hid (HB31.out.trans (hb40.mono HB31.out.size)) | have HBZ := Lib.hid (HB30.out.trans (hb40.mono HB30.out.size)) | have HBZ := Lib.hid (HB6.out.trans (hb40.mono HB6.out.size)); clear hb40))
          go_ret
          exact ⟨by simp, HBZ.out⟩
        | false => exact absurd HT2.out (by decide)
      · have e2 : (k2 != 8) = true := by simpa using h9
        clear h8 h9 HT
        go_wp2_with (go_at_call 10; refine (awake_any _).mono ?_; rintro e w40 ⟨rfl, hb40⟩; first | have HBZ := Lib.hid (HB34.out.trans (hb40.mono HB34.out.size)) | have HBZ := Lib.hid (HB33.out.trans (hb40.mono HB33.out.size)) | have HBZ := Lib.hid (HB32.out.trans (hb40.mono HB32.out.size)) | have HBZ := Lib.hid (HB31.out.trans (hb40.mono HB31.out.size)) | have HBZ := Lib.hid (HB30.out.trans (hb40.mono HB30.out.size)) | have HBZ := Lib.hid (HB6.out.trans (hb40.mono HB6.out.size)); clear hb40)
        go_ret
        exact ⟨by simp, HBZ.out⟩
    · have e1 : (k1 != 8) = true := by simpa using h8
      clear h8 HT
      go_wp2_with (go_at_call 10; refine (awake_any _).mono ?_; rintro e w40 ⟨rfl, hb40⟩; first | have HBZ := Lib.hid (HB34.out.trans (hb40.mono HB34.out.size)) | have HBZ := Lib.hid (HB33.out.trans (hb40.mono HB33.out.size)) | have HBZ := Lib.hid (HB32.out.trans (hb40.mono HB32.out.size)) | have HBZ := Lib.hid (HB31.out.trans (hb40.mono HB31.out.size)) | have HBZ := Lib.hid (HB30.out.trans (hb40.mono HB30.out.size)) | have HBZ := Lib.hid (HB6.out.trans (hb40.mono HB6.out.size)); clear hb40)
      go_ret
      exact ⟨by simp, HBZ.out⟩
  by_cases hB : 8 < k0
  · have HD := Lib.hid (show ((4 : Int) ≤ k0 ∧ decide ((4 : Int) ≤ k0) = true ∧ ¬ k0 ≤ 8 ∧ decide (k0 ≤ 8) = false) ∧ 8 < k0 from ⟨⟨by omega, decide_eq_true (by omega), by omega, decide_eq_false (by omega)⟩, hB⟩)
    rw [if_neg (show ¬ k0 = 4 by omega), decide_eq_false (show ¬ (5 ≤ k0 ∧ k0 ≤ 8) by omega)] at HNB
    clear hA hB
    refine wp_region_held_drew (S := fun V => Below w20.heap.size w20 V) (by kernel_rfl) (Below.refl _ _).drew (fun hS0 => ?_)
    generalize w20.drew = W4 at hS0 ⊢
    refine wpAnyH_take (i := 0) (v := .slice A us.length c) rfl (by kernel_rfl) (by kernel_rfl) (by kernel_rfl) (fun _ _ _ h => h) (Or.inl ⟨rfl, fun w' hS => by (unfold execOp; go_simp)⟩) hS0 ?_
    simp only [Act.put, List.getElem_toArray, List.getElem_cons_zero, List.getElem_cons_succ, List.setIfInBounds_toArray, List.set_cons_zero, List.set_cons_succ]
    refine wpAnyH_take (i := 1) (v := .slice V vars.length cv) rfl (by kernel_rfl) (by kernel_rfl) (by kernel_rfl) (fun _ _ _ h => h) (Or.inl ⟨rfl, fun w' hS => by (unfold execOp; go_simp)⟩) hS0 ?_
    simp only [Act.put, List.getElem_toArray, List.getElem_cons_zero, List.getElem_cons_succ, List.setIfInBounds_toArray, List.set_cons_zero, List.set_cons_succ]
    refine wpAnyH_take (i := 2) (v := (.agg #[.int .i64 4, .string ⟨#[]⟩, .string ⟨#[]⟩, .slice none 0 0, .slice none 0 0])) rfl (by kernel_rfl) (by kernel_rfl) (by kernel_rfl) (fun _ _ _ h => h) (Or.inl ⟨rfl, fun w' hS => by (unfold execOp; go_simp)⟩) hS0 ?_
    simp only [Act.put, List.getElem_toArray, List.getElem_cons_zero, List.getElem_cons_succ, List.setIfInBounds_toArray, List.set_cons_zero, List.set_cons_succ]
    refine wpAnyH_take (i := 3) (v := (.agg #[.int .i64 k0, .string p0, .string n0, .slice A0 lx.length c0, .slice B0 ly.length d0])) rfl (by kernel_rfl) (by kernel_rfl) (by kernel_rfl) (fun _ _ _ h => h) (Or.inl ⟨rfl, fun w' hS => by (have hk := HKA5.out.bel2 hS; have x0 := hk.cell 0; have x1 := hk.cell 1; have x2 := hk.cell 2; have x3 := hk.cell 3; have x4 := hk.cell 4; have xl := hk.lt; unfold execOp; go_simp)⟩) hS0 ?_
    simp only [Act.put, List.getElem_toArray, List.getElem_cons_zero, List.getElem_cons_succ, List.setIfInBounds_toArray, List.set_cons_zero, List.set_cons_succ]
    refine wpAnyH_take (i := 5) (v := (.pointer (some ⟨w.heap.size, 0, none⟩))) rfl (by kernel_rfl) (by kernel_rfl) (by kernel_rfl) (fun _ _ _ h => h) (Or.inl ⟨rfl, fun w' hS => by (unfold execOp; go_simp)⟩) hS0 ?_
    simp only [Act.put, List.getElem_toArray, List.getElem_cons_zero, List.getElem_cons_succ, List.setIfInBounds_toArray, List.set_cons_zero, List.set_cons_succ]
    refine wpAnyH_take (i := 6) (v := .int .i64 k0) rfl (by kernel_rfl) (by kernel_rfl) (by kernel_rfl) (fun _ _ _ h => h) (Or.inl ⟨rfl, fun w' hS => by (have hk := HKA5.out.bel2 hS; have x0 := hk.cell 0; have x1 := hk.cell 1; have x2 := hk.cell 2; have x3 := hk.cell 3; have x4 := hk.cell 4; have xl := hk.lt; unfold execOp; go_simp)⟩) hS0 ?_
    simp only [Act.put, List.getElem_toArray, List.getElem_cons_zero, List.getElem_cons_succ, List.setIfInBounds_toArray, List.set_cons_zero, List.set_cons_succ]
    refine wpAnyH_take (i := 7) (v := .bool true) rfl (by kernel_rfl) (by kernel_rfl) (by kernel_rfl) (fun _ _ _ h => h) (Or.inl ⟨rfl, fun w' hS => by (have z1 := HD.out.1; unfold execOp; go_simp)⟩) hS0 ?_
    simp only [Act.put, List.getElem_toArray, List.getElem_cons_zero, List.getElem_cons_succ, List.setIfInBounds_toArray, List.set_cons_zero, List.set_cons_succ]
    refine wpAnyH_one (i := 4) (by kernel_rfl) rfl rfl (op_call (args := #[.slice A us.length c, .slice V vars.length cv, .agg #[.int .i64 4, .string ⟨#[]⟩, .string ⟨#[]⟩, .slice none 0 0, .slice none 0 0], .agg #[.int .i64 k0, .string p0, .string n0, .slice A0 lx.length c0, .slice B0 ly.length d0]]) (f := 14) (by unfold execOp; go_simp) ((HNB.out _ (HB5.out.trans (hS0.mono HB5.out.size))).mono ?_))
    rintro e w21 ⟨rfl, hb21⟩
    have hS1 := hS0.trans (hb21.mono hS0.size)
    refine And.intro hS1 ?_
    simp only [Act.put, List.getElem_toArray, List.getElem_cons_zero, List.getElem_cons_succ, List.setIfInBounds_toArray, List.set_cons_zero, List.set_cons_succ]
    refine wpAnyH_take (i := 8) (v := .bool true) rfl (by kernel_rfl) (by kernel_rfl) (by kernel_rfl) (fun _ _ _ h => h) (Or.inl ⟨rfl, fun w' hS => by (unfold execOp; go_simp)⟩) hS1 ?_
    simp only [Act.put, List.getElem_toArray, List.getElem_cons_zero, List.getElem_cons_succ, List.setIfInBounds_toArray, List.set_cons_zero, List.set_cons_succ]
    refine wpAnyH_take (i := 9) (v := (.pointer (some ⟨w.heap.size, 0, none⟩))) rfl (by kernel_rfl) (by kernel_rfl) (by kernel_rfl) (fun _ _ _ h => h) (Or.inl ⟨by kernel_rfl, fun w' hS => by (unfold execOp; go_simp)⟩) hS1 ?_
    simp only [Act.put, List.getElem_toArray, List.getElem_cons_zero, List.getElem_cons_succ, List.setIfInBounds_toArray, List.set_cons_zero, List.set_cons_succ]
    refine wpAnyH_take (i := 10) (v := .int .i64 k0) rfl (by kernel_rfl) (by kernel_rfl) (by kernel_rfl) (fun _ _ _ h => h) (Or.inl ⟨by kernel_rfl, fun w' hS => by (have hk := HKA5.out.bel2 hS; have x0 := hk.cell 0; have x1 := hk.cell 1; have x2 := hk.cell 2; have x3 := hk.cell 3; have x4 := hk.cell 4; have xl := hk.lt; unfold execOp; go_simp)⟩) hS1 ?_
    simp only [Act.put, List.getElem_toArray, List.getElem_cons_zero, List.getElem_cons_succ, List.setIfInBounds_toArray, List.set_cons_zero, List.set_cons_succ]
    refine wpAnyH_take (i := 11) (v := .bool false) rfl (by kernel_rfl) (by kernel_rfl) (by kernel_rfl) (fun _ _ _ h => h) (Or.inl ⟨by kernel_rfl, fun w' hS => by (have z1 := HD.out.1; unfold execOp; go_simp)⟩) hS1 ?_
    simp only [Act.put, List.getElem_toArray, List.getElem_cons_zero, List.getElem_cons_succ, List.setIfInBounds_toArray, List.set_cons_zero, List.set_cons_succ]
    refine wpAnyH_take (i := 12) (v := .bool false) rfl (by kernel_rfl) (by kernel_rfl) (by kernel_rfl) (fun _ _ _ h => h) (Or.inl ⟨rfl, fun w' hS => by (unfold execOp; go_simp)⟩) hS1 ?_
    simp only [Act.put, List.getElem_toArray, List.getElem_cons_zero, List.getElem_cons_succ, List.setIfInBounds_toArray, List.set_cons_zero, List.set_cons_succ]
    refine wpAnyH_take (i := 13) (v := .bool false) rfl (by kernel_rfl) (by kernel_rfl) (by kernel_rfl) (fun _ _ _ h => h) (Or.inl ⟨rfl, fun w' hS => by (unfold execOp; go_simp)⟩) hS1 ?_
    simp only [Act.put, List.getElem_toArray, List.getElem_cons_zero, List.getElem_cons_succ, List.setIfInBounds_toArray, List.set_cons_zero, List.set_cons_succ]
    refine wpAnyH_take (i := 14) (v := undef) rfl (by kernel_rfl) (by kernel_rfl) (by kernel_rfl) (fun _ _ _ h => h) (Or.inr ⟨by kernel_rfl, rfl⟩) hS1 ?_
    simp only [Act.put, List.getElem_toArray, List.getElem_cons_zero, List.getElem_cons_succ, List.setIfInBounds_toArray, List.set_cons_zero, List.set_cons_succ]
    refine wpAnyH_take (i := 15) (v := undef) rfl (by kernel_rfl) (by kernel_rfl) (by kernel_rfl) (fun _ _ _ h => h) (Or.inr ⟨by kernel_rfl, rfl⟩) hS1 ?_
    simp only [Act.put, List.getElem_toArray, List.getElem_cons_zero, List.getElem_cons_succ, List.setIfInBounds_toArray, List.set_cons_zero, List.set_cons_succ]
    refine wpAnyH_take (i := 16) (v := undef) rfl (by kernel_rfl) (by kernel_rfl) (by kernel_rfl) (fun _ _ _ h => h) (Or.inr ⟨by kernel_rfl, rfl⟩) hS1 ?_
    simp only [Act.put, List.getElem_toArray, List.getElem_cons_zero, List.getElem_cons_succ, List.setIfInBounds_toArray, List.set_cons_zero, List.set_cons_succ]
    refine wpAnyH_take (i := 17) (v := undef) rfl (by kernel_rfl) (by kernel_rfl) (by kernel_rfl) (fun _ _ _ h => h) (Or.inr ⟨by kernel_rfl, rfl⟩) hS1 ?_
    simp only [Act.put, List.getElem_toArray, List.getElem_cons_zero, List.getElem_cons_succ, List.setIfInBounds_toArray, List.set_cons_zero, List.set_cons_succ]
    refine wpAnyH_take (i := 18) (v := undef) rfl (by kernel_rfl) (by kernel_rfl) (by kernel_rfl) (fun _ _ _ h => h) (Or.inr ⟨by kernel_rfl, rfl⟩) hS1 ?_
    simp only [Act.put, List.getElem_toArray, List.getElem_cons_zero, List.getElem_cons_succ, List.setIfInBounds_toArray, List.set_cons_zero, List.set_cons_succ]
    refine wpAnyH_take (i := 19) (v := undef) rfl (by kernel_rfl) (by kernel_rfl) (by kernel_rfl) (fun _ _ _ h => h) (Or.inr ⟨by kernel_rfl, rfl⟩) hS1 ?_
    simp only [Act.put, List.getElem_toArray, List.getElem_cons_zero, List.getElem_cons_succ, List.setIfInBounds_toArray, List.set_cons_zero, List.set_cons_succ]
    refine wpAnyH_take (i := 20) (v := undef) rfl (by kernel_rfl) (by kernel_rfl) (by kernel_rfl) (fun _ _ _ h => h) (Or.inr ⟨by kernel_rfl, rfl⟩) hS1 ?_
    simp only [Act.put, List.getElem_toArray, List.getElem_cons_zero, List.getElem_cons_succ, List.setIfInBounds_toArray, List.set_cons_zero, List.set_cons_succ]
    refine wpAnyH_take (i := 21) (v := .bool false) rfl (by kernel_rfl) (by kernel_rfl) (by kernel_rfl) (fun _ _ _ h => h) (Or.inl ⟨rfl, fun w' hS => by (unfold execOp; go_simp)⟩) hS1 ?_
    simp only [Act.put, List.getElem_toArray, List.getElem_cons_zero, List.getElem_cons_succ, List.setIfInBounds_toArray, List.set_cons_zero, List.set_cons_succ]
    refine wpAnyH_take (i := 22) (v := .bool true) rfl (by kernel_rfl) (by kernel_rfl) (by kernel_rfl) (fun _ _ _ h => h) (Or.inl ⟨rfl, fun w' hS => by (unfold execOp; go_simp)⟩) hS1 ?_
    simp only [Act.put, List.getElem_toArray, List.getElem_cons_zero, List.getElem_cons_succ, List.setIfInBounds_toArray, List.set_cons_zero, List.set_cons_succ]
    refine wpAnyH_take (i := 23) (v := .bool true) rfl (by kernel_rfl) (by kernel_rfl) (by kernel_rfl) (fun _ _ _ h => h) (Or.inl ⟨rfl, fun w' hS => by (unfold execOp; go_simp)⟩) hS1 ?_
    simp only [Act.put, List.getElem_toArray, List.getElem_cons_zero, List.getElem_cons_succ, List.setIfInBounds_toArray, List.set_cons_zero, List.set_cons_succ]
    refine wpAnyH_done (by kernel_rfl) ?_ _
    have HB6 := Lib.hid (HB5.out.trans (hS1.mono HB5.out.size))
    have hka6 := HKA5.out.bel2 hS1
    have HKA6 := Lib.hid hka6
    have hkb6 := HKB5.out.bel2 hS1
    have HKB6 := Lib.hid hkb6
    have hkc6 := HKC5.out.bel2 hS1
    have HKC6 := Lib.hid hkc6
    have ta0 := hka6.cell 0
    have ta1 := hka6.cell 1
    have ta2 := hka6.cell 2
    have ta3 := hka6.cell 3
    have ta4 := hka6.cell 4
    have tb0 := hkb6.cell 0
    have tb1 := hkb6.cell 1
    have tb2 := hkb6.cell 2
    have tb3 := hkb6.cell 3
    have tb4 := hkb6.cell 4
    have tc0 := hkc6.cell 0
    have tc1 := hkc6.cell 1
    have tc2 := hkc6.cell 2
    have tc3 := hkc6.cell 3
    have tc4 := hkc6.cell 4
    have tal := hka6.lt
    have tbl := hkb6.lt
    have tcl := hkc6.lt
    clear hS0 hS1 hb21 hka6 hkb6 hkc6
    have e4 : (k0 == 4) = false := by have := HD.out.2; simp; omega
    by_cases h8 : k1 = 8
    · have e1 : (k1 != 8) = false := by rw [h8]; decide
      by_cases h9 : k2 = 8
      · have e2 : (k2 != 8) = false := by rw [h9]; decide
        have HT2 := Lib.hid (HT.out h8 h9 (by have := HD.out.2; omega))
        clear h8 h9 HT
        cases X with
        | false =>
          go_wp2_with (first | (go_at_call 14; have _g := HB6; (with_reducible refine (HAB.out _ HB6.out).mono ?_); rintro e w30 ⟨rfl, hb30⟩; have HB30 := Lib.hid (HB6.out.trans (hb30.mono HB6.out.size)); have hka30 := HKA6.out.bel2 hb30; have hkb30 := HKB6.out.bel2 hb30; have hkc30 := HKC6.out.bel2 hb30; have ta0 := hka30.cell 0; have tb0 := hkb30.cell 0; have tc0 := hkc30.cell 0; have ta1 := hka30.cell 1; have tb1 := hkb30.cell 1; have tc1 := hkc30.cell 1; have ta2 := hka30.cell 2; have tb2 := hkb30.cell 2; have tc2 := hkc30.cell 2; have ta3 := hka30.cell 3; have tb3 := hkb30.cell 3; have tc3 := hkc30.cell 3; have ta4 := hka30.cell 4; have tb4 := hkb30.cell 4; have tc4 := hkc30.cell 4; have tal := hka30.lt; have HKA30 := Lib.hid hka30; have tbl := hkb30.lt; have HKB30 := Lib.hid hkb30; have tcl := hkc30.lt; have HKC30 := Lib.hid hkc30; clear hb30 hka30 hkb30 hkc30) | (go_at_call 10; refine (awake_any _).mono ?_; rintro e w40 ⟨rfl, hb40⟩; first | have HBZ := Lib.hid (HB34.out.trans (hb40.mono HB34.out.size)) | have HBZ := Lib.hid (HB33.out.trans (hb40.mono HB33.out.size)) | have HBZ := Lib.hid (HB32.out.trans (hb40.mono HB32.out.size)) | have HBZ := Lib.hid (HB31.out.trans (hb40.mono HB31.out.size)) | have HBZ := Lib.hid (HB30.out.trans (hb40.mono HB30.out.size)) | have HBZ := Lib.hid (HB6.out.trans (hb40.mono HB6.out.size)); clear hb40))
          go_ret
          exact ⟨by simp, HBZ.out⟩
        | true =>
        cases Y with
        | false =>
          go_wp2_with (first | (go_at_call 14; have _g := HB30; (with_reducible refine (HBC.out _ HB30.out).mono ?_); rintro e w31 ⟨rfl, hb31⟩; have HB31 := Lib.hid (HB30.out.trans (hb31.mono HB30.out.size)); have hka31 := HKA30.out.bel2 hb31; have hkb31 := HKB30.out.bel2 hb31; have hkc31 := HKC30.out.bel2 hb31; have ta0 := hka31.cell 0; have tb0 := hkb31.cell 0; have tc0 := hkc31.cell 0; have ta1 := hka31.cell 1; have tb1 := hkb31.cell 1; have tc1 := hkc31.cell 1; have ta2 := hka31.cell 2; have tb2 := hkb31.cell 2; have tc2 := hkc31.cell 2; have ta3 := hka31.cell 3; have tb3 := hkb31.cell 3; have tc3 := hkc31.cell 3; have ta4 := hka31.cell 4; have tb4 := hkb31.cell 4; have tc4 := hkc31.cell 4; have tal := hka31.lt; have HKA31 := Lib.hid hka31; have tbl := hkb31.lt; have HKB31 := Lib.hid hkb31; have tcl := hkc31.lt; have HKC31 := Lib.hid hkc31; clear hb31 hka31 hkb31 hkc31) | (go_at_call 14; have _g := HB6; (with_reducible refine (HAB.out _ HB6.out).mono ?_); rintro e w30 ⟨rfl, hb30⟩; have HB30 := Lib.hid (HB6.out.trans (hb30.mono HB6.out.size)); have hka30 := HKA6.out.bel2 hb30; have hkb30 := HKB6.out.bel2 hb30; have hkc30 := HKC6.out.bel2 hb30; have ta0 := hka30.cell 0; have tb0 := hkb30.cell 0; have tc0 := hkc30.cell 0; have ta1 := hka30.cell 1; have tb1 := hkb30.cell 1; have tc1 := hkc30.cell 1; have ta2 := hka30.cell 2; have tb2 := hkb30.cell 2; have tc2 := hkc30.cell 2; have ta3 := hka30.cell 3; have tb3 := hkb30.cell 3; have tc3 := hkc30.cell 3; have ta4 := hka30.cell 4; have tb4 := hkb30.cell 4; have tc4 := hkc30.cell 4; have tal := hka30.lt; have HKA30 := Lib.hid hka30; have tbl := hkb30.lt; have HKB30 := Lib.hid hkb30; have tcl := hkc30.lt; have HKC30 := Lib.hid hkc30; clear hb30 hka30 hkb30 hkc30) | (go_at_call 10; refine (awake_any _).mono ?_; rintro e w40 ⟨rfl, hb40⟩; first | have HBZ := Lib.hid (HB34.out.trans (hb40.mono HB34.out.size)) | have HBZ := Lib.hid (HB33.out.trans (hb40.mono HB33.out.size)) | have HBZ := Lib.hid (HB32.out.trans (hb40.mono HB32.out.size)) | have HBZ := Lib.hid (HB31.out.trans (hb40.mono HB31.out.size)) | have HBZ := Lib.hid (HB30.out.trans (hb40.mono HB30.out.size)) | have HBZ := Lib.hid (HB6.out.trans (hb40.mono HB6.out.size)); clear hb40))
          go_ret
          exact ⟨by simp, HBZ.out⟩
        | true =>
        cases Z with
        | true =>
          go_wp2_with (first | (go_at_call 14; have _g := HB31; (with_reducible refine (HAC.out _ HB31.out).mono ?_); rintro e w32 ⟨rfl, hb32⟩; have HB32 := Lib.hid (HB31.out.trans (hb32.mono HB31.out.size)); have hka32 := HKA31.out.bel2 hb32; have hkb32 := HKB31.out.bel2 hb32; have hkc32 := HKC31.out.bel2 hb32; have ta0 := hka32.cell 0; have tb0 := hkb32.cell 0; have tc0 := hkc32.cell 0; have ta1 := hka32.cell 1; have tb1 := hkb32.cell 1; have tc1 := hkc32.cell 1; have ta2 := hka32.cell 2; have tb2 := hkb32.cell 2; have tc2 := hkc32.cell 2; have ta3 := hka32.cell 3; have tb3 := hkb32.cell 3; have tc3 := hkc32.cell 3; have ta4 := hka32.cell 4; have tb4 := hkb32.cell 4; have tc4 := hkc32.cell 4; have tal := hka32.lt; have HKA32 := Lib.hid hka32; have tbl := hkb32.lt; have HKB32 := Lib.hid hkb32; have tcl := hkc32.lt; have HKC32 := Lib.hid hkc32; clear hb32 hka32 hkb32 hkc32) | (go_at_call 14; have _g := HB30; (with_reducible refine (HBC.out _ HB30.out).mono ?_); rintro e w31 ⟨rfl, hb31⟩; have HB31 := Lib.hid (HB30.out.trans (hb31.mono HB30.out.size)); have hka31 := HKA30.out.bel2 hb31; have hkb31 := HKB30.out.bel2 hb31; have hkc31 := HKC30.out.bel2 hb31; have ta0 := hka31.cell 0; have tb0 := hkb31.cell 0; have tc0 := hkc31.cell 0; have ta1 := hka31.cell 1; have tb1 := hkb31.cell 1; have tc1 := hkc31.cell 1; have ta2 := hka31.cell 2; have tb2 := hkb31.cell 2; have tc2 := hkc31.cell 2; have ta3 := hka31.cell 3; have tb3 := hkb31.cell 3; have tc3 := hkc31.cell 3; have ta4 := hka31.cell 4; have tb4 := hkb31.cell 4; have tc4 := hkc31.cell 4; have tal := hka31.lt; have HKA31 := Lib.hid hka31; have tbl := hkb31.lt; have HKB31 := Lib.hid hkb31; have tcl := hkc31.lt; have HKC31 := Lib.hid hkc31; clear hb31 hka31 hkb31 hkc31) | (go_at_call 14; have _g := HB6; (with_reducible refine (HAB.out _ HB6.out).mono ?_); rintro e w30 ⟨rfl, hb30⟩; have HB30 := Lib.hid (HB6.out.trans (hb30.mono HB6.out.size)); have hka30 := HKA6.out.bel2 hb30; have hkb30 := HKB6.out.bel2 hb30; have hkc30 := HKC6.out.bel2 hb30; have ta0 := hka30.cell 0; have tb0 := hkb30.cell 0; have tc0 := hkc30.cell 0; have ta1 := hka30.cell 1; have tb1 := hkb30.cell 1; have tc1 := hkc30.cell 1; have ta2 := hka30.cell 2; have tb2 := hkb30.cell 2; have tc2 := hkc30.cell 2; have ta3 := hka30.cell 3; have tb3 := hkb30.cell 3; have tc3 := hkc30.cell 3; have ta4 := hka30.cell 4; have tb4 := hkb30.cell 4; have tc4 := hkc30.cell 4; have tal := hka30.lt; have HKA30 := Lib.hid hka30; have tbl := hkb30.lt; have HKB30 := Lib.hid hkb30; have tcl := hkc30.lt; have HKC30 := Lib.hid hkc30; clear hb30 hka30 hkb30 hkc30) | (go_at_call 10; refine (awake_any _).mono ?_; rintro e w40 ⟨rfl, hb40⟩; first | have HBZ := Lib.hid (HB34.out.trans (hb40.mono HB34.out.size)) | have HBZ := Lib.hid (HB33.out.trans (hb40.mono HB33.out.size)) | have HBZ := Lib.hid (HB32.out.trans (hb40.mono HB32.out.size)) | have HBZ := Lib.hid (HB31.out.trans (hb40.mono HB31.out.size)) | have HBZ := Lib.hid (HB30.out.trans (hb40.mono HB30.out.size)) | have HBZ := Lib.hid (HB6.out.trans (hb40.mono HB6.out.size)); clear hb40))
          go_ret
          exact ⟨by simp, HBZ.out⟩
        | false =>
        cases S1 with
        | true =>
          go_wp2_with (first | (go_at_call 19; have _g := HB32; (with_reducible refine (HS1.out _ HB32.out).mono ?_); rintro e w33 ⟨rfl, hb33⟩; have HB33 := Lib.hid (HB32.out.trans (hb33.mono HB32.out.size)); have hka33 := HKA32.out.bel2 hb33; have hkb33 := HKB32.out.bel2 hb33; have hkc33 := HKC32.out.bel2 hb33; have ta0 := hka33.cell 0; have tb0 := hkb33.cell 0; have tc0 := hkc33.cell 0; have ta1 := hka33.cell 1; have tb1 := hkb33.cell 1; have tc1 := hkc33.cell 1; have ta2 := hka33.cell 2; have tb2 := hkb33.cell 2; have tc2 := hkc33.cell 2; have ta3 := hka33.cell 3; have tb3 := hkb33.cell 3; have tc3 := hkc33.cell 3; have ta4 := hka33.cell 4; have tb4 := hkb33.cell 4; have tc4 := hkc33.cell 4; have tal := hka33.lt; have HKA33 := Lib.hid hka33; have tbl := hkb33.lt; have HKB33 := Lib.hid hkb33; have tcl := hkc33.lt; have HKC33 := Lib.hid hkc33; clear hb33 hka33 hkb33 hkc33) | (go_at_call 14; have _g := HB31; (with_reducible refine (HAC.out _ HB31.out).mono ?_); rintro e w32 ⟨rfl, hb32⟩; have HB32 := Lib.hid (HB31.out.trans (hb32.mono HB31.out.size)); have hka32 := HKA31.out.bel2 hb32; have hkb32 := HKB31.out.bel2 hb32; have hkc32 := HKC31.out.bel2 hb32; have ta0 := hka32.cell 0; have tb0 := hkb32.cell 0; have tc0 := hkc32.cell 0; have ta1 := hka32.cell 1; have tb1 := hkb32.cell 1; have tc1 := hkc32.cell 1; have ta2 := hka32.cell 2; have tb2 := hkb32.cell 2; have tc2 := hkc32.cell 2; have ta3 := hka32.cell 3; have tb3 := hkb32.cell 3; have tc3 := hkc32.cell 3; have ta4 := hka32.cell 4; have tb4 := hkb32.cell 4; have tc4 := hkc32.cell 4; have tal := hka32.lt; have HKA32 := Lib.hid hka32; have tbl := hkb32.lt; have HKB32 := Lib.hid hkb32; have tcl := hkc32.lt; have HKC32 := Lib.hid hkc32; clear hb32 hka32 hkb32 hkc32) | (go_at_call 14; have _g := HB30; (with_reducible refine (HBC.out _ HB30.out).mono ?_); rintro e w31 ⟨rfl, hb31⟩; have HB31 := Lib.hid (HB30.out.trans (hb31.mono HB30.out.size)); have hka31 := HKA30.out.bel2 hb31; have hkb31 := HKB30.out.bel2 hb31; have hkc31 := HKC30.out.bel2 hb31; have ta0 := hka31.cell 0; have tb0 := hkb31.cell 0; have tc0 := hkc31.cell 0; have ta1 := hka31.cell 1; have tb1 := hkb31.cell 1; have tc1 := hkc31.cell 1; have ta2 := hka31.cell 2; have tb2 := hkb31.cell 2; have tc2 := hkc31.cell 2; have ta3 := hka31.cell 3; have tb3 := hkb31.cell 3; have tc3 := hkc31.cell 3; have ta4 := hka31.cell 4; have tb4 := hkb31.cell 4; have tc4 := hkc31.cell 4; have tal := hka31.lt; have HKA31 := Lib.hid hka31; have tbl := hkb31.lt; have HKB31 := Lib.hid hkb31; have tcl := hkc31.lt; have HKC31 := Lib.hid hkc31; clear hb31 hka31 hkb31 hkc31) | (go_at_call 14; have _g := HB6; (with_reducible refine (HAB.out _ HB6.out).mono ?_); rintro e w30 ⟨rfl, hb30⟩; have HB30 := Lib.hid (HB6.out.trans (hb30.mono HB6.out.size)); have hka30 := HKA6.out.bel2 hb30; have hkb30 := HKB6.out.bel2 hb30; have hkc30 := HKC6.out.bel2 hb30; have ta0 := hka30.cell 0; have tb0 := hkb30.cell 0; have tc0 := hkc30.cell 0; have ta1 := hka30.cell 1; have tb1 := hkb30.cell 1; have tc1 := hkc30.cell 1; have ta2 := hka30.cell 2; have tb2 := hkb30.cell 2; have tc2 := hkc30.cell 2; have ta3 := hka30.cell 3; have tb3 := hkb30.cell 3; have tc3 := hkc30.cell 3; have ta4 := hka30.cell 4; have tb4 := hkb30.cell 4; have tc4 := hkc30.cell 4; have tal := hka30.lt; have HKA30 := Lib.hid hka30; have tbl := hkb30.lt; have HKB30 := Lib.hid hkb30; have tcl := hkc30.lt; have HKC30 := Lib.hid hkc30; clear hb30 hka30 hkb30 hkc30) | (go_at_call 10; refine (awake_any _).mono ?_; rintro e w40 ⟨rfl, hb40⟩; first | have HBZ := Lib.hid (HB34.out.trans (hb40.mono HB34.out.size)) | have HBZ := Lib.hid (HB33.out.trans (hb40.mono HB33.out.size)) | have HBZ := Lib.hid (HB32.out.trans (hb40.mono HB32.out.size)) | have HBZ := Lib.hid (HB31.out.trans (hb40.mono HB31.out.size)) | have HBZ := Lib.hid (HB30.out.trans (hb40.mono HB30.out.size)) | have HBZ := Lib.hid (HB6.out.trans (hb40.mono HB6.out.size)); clear hb40))
          go_ret
          exact ⟨by simp, HBZ.out⟩
        | false =>
        cases S2 with
        | true =>
          go_wp2_with (first | (go_at_call 19; have _g := HB33; (with_reducible refine (HS2.out _ HB33.out).mono ?_); rintro e w34 ⟨rfl, hb34⟩; have HB34 := Lib.hid (HB33.out.trans (hb34.mono HB33.out.size)); have hka34 := HKA33.out.bel2 hb34; have hkb34 := HKB33.out.bel2 hb34; have hkc34 := HKC33.out.bel2 hb34; have ta0 := hka34.cell 0; have tb0 := hkb34.cell 0; have tc0 := hkc34.cell 0; have ta1 := hka34.cell 1; have tb1 := hkb34.cell 1; have tc1 := hkc34.cell 1; have ta2 := hka34.cell 2; have tb2 := hkb34.cell 2; have tc2 := hkc34.cell 2; have ta3 := hka34.cell 3; have tb3 := hkb34.cell 3; have tc3 := hkc34.cell 3; have ta4 := hka34.cell 4; have tb4 := hkb34.cell 4; have tc4 := hkc34.cell 4; have tal := hka34.lt; have HKA34 := Lib.hid hka34; have tbl := hkb34.lt; have HKB34 := Lib.hid hkb34; have tcl := hkc34.lt; have HKC34 := Lib.hid hkc34; clear hb34 hka34 hkb34 hkc34) | (go_at_call 19; have _g := HB32; (with_reducible refine (HS1.out _ HB32.out).mono ?_); rintro e w33 ⟨rfl, hb33⟩; have HB33 := Lib.hid (HB32.out.trans (hb33.mono HB32.out.size)); have hka33 := HKA32.out.bel2 hb33; have hkb33 := HKB32.out.bel2 hb33; have hkc33 := HKC32.out.bel2 hb33; have ta0 := hka33.cell 0; have tb0 := hkb33.cell 0; have tc0 := hkc33.cell 0; have ta1 := hka33.cell 1; have tb1 := hkb33.cell 1; have tc1 := hkc33.cell 1; have ta2 := hka33.cell 2; have tb2 := hkb33.cell 2; have tc2 := hkc33.cell 2; have ta3 := hka33.cell 3; have tb3 := hkb33.cell 3; have tc3 := hkc33.cell 3; have ta4 := hka33.cell 4; have tb4 := hkb33.cell 4; have tc4 := hkc33.cell 4; have tal := hka33.lt; have HKA33 := Lib.hid hka33; have tbl := hkb33.lt; have HKB33 := Lib.hid hkb33; have tcl := hkc33.lt; have HKC33 := Lib.hid hkc33; clear hb33 hka33 hkb33 hkc33) | (go_at_call 14; have _g := HB31; (with_reducible refine (HAC.out _ HB31.out).mono ?_); rintro e w32 ⟨rfl, hb32⟩; have HB32 := Lib.hid (HB31.out.trans (hb32.mono HB31.out.size)); have hka32 := HKA31.out.bel2 hb32; have hkb32 := HKB31.out.bel2 hb32; have hkc32 := HKC31.out.bel2 hb32; have ta0 := hka32.cell 0; have tb0 := hkb32.cell 0; have tc0 := hkc32.cell 0; have ta1 := hka32.cell 1; have tb1 := hkb32.cell 1; have tc1 := hkc32.cell 1; have ta2 := hka32.cell 2; have tb2 := hkb32.cell 2; have tc2 := hkc32.cell 2; have ta3 := hka32.cell 3; have tb3 := hkb32.cell 3; have tc3 := hkc32.cell 3; have ta4 := hka32.cell 4; have tb4 := hkb32.cell 4; have tc4 := hkc32.cell 4; have tal := hka32.lt; have HKA32 := Lib.hid hka32; have tbl := hkb32.lt; have HKB32 := Lib.hid hkb32; have tcl := hkc32.lt; have HKC32 := Lib.hid hkc32; clear hb32 hka32 hkb32 hkc32) | (go_at_call 14; have _g := HB30; (with_reducible refine (HBC.out _ HB30.out).mono ?_); rintro e w31 ⟨rfl, hb31⟩; have HB31 := Lib.hid (HB30.out.trans (hb31.mono HB30.out.size)); have hka31 := HKA30.out.bel2 hb31; have hkb31 := HKB30.out.bel2 hb31; have hkc31 := HKC30.out.bel2 hb31; have ta0 := hka31.cell 0; have tb0 := hkb31.cell 0; have tc0 := hkc31.cell 0; have ta1 := hka31.cell 1; have tb1 := hkb31.cell 1; have tc1 := hkc31.cell 1; have ta2 := hka31.cell 2; have tb2 := hkb31.cell 2; have tc2 := hkc31.cell 2; have ta3 := hka31.cell 3; have tb3 := hkb31.cell 3; have tc3 := hkc31.cell 3; have ta4 := hka31.cell 4; have tb4 := hkb31.cell 4; have tc4 := hkc31.cell 4; have tal := hka31.lt; have HKA31 := Lib.hid hka31; have tbl := hkb31.lt; have HKB31 := Lib.hid hkb31; have tcl := hkc31.lt; have HKC31 := Lib.hid hkc31; clear hb31 hka31 hkb31 hkc31) | (go_at_call 14; have _g := HB6; (with_reducible refine (HAB.out _ HB6.out).mono ?_); rintro e w30 ⟨rfl, hb30⟩; have HB30 := Lib.hid (HB6.out.trans (hb30.mono HB6.out.size)); have hka30 := HKA6.out.bel2 hb30; have hkb30 := HKB6.out.bel2 hb30; have hkc30 := HKC6.out.bel2 hb30; have ta0 := hka30.cell 0; have tb0 := hkb30.cell 0; have tc0 := hkc30.cell 0; have ta1 := hka30.cell 1; have tb1 := hkb30.cell 1; have tc1 := hkc30.cell 1; have ta2 := hka30.cell 2; have tb2 := hkb30.cell 2; have tc2 := hkc30.cell 2; have ta3 := hka30.cell 3; have tb3 := hkb30.cell 3; have tc3 := hkc30.cell 3; have ta4 := hka30.cell 4; have tb4 := hkb30.cell 4; have tc4 := hkc30.cell 4; have tal := hka30.lt; have HKA30 := Lib.hid hka30; have tbl := hkb30.lt; have HKB30 := Lib.hid hkb30; have tcl := hkc30.lt; have HKC30 := Lib.hid hkc30; clear hb30 hka30 hkb30 hkc30) | (go_at_call 10; refine (awake_any _).mono ?_; rintro e w40 ⟨rfl, hb40⟩; first | have HBZ := Lib.hid (HB34.out.trans (hb40.mono HB34.out.size)) | have HBZ := Lib.hid (HB33.out.trans (hb40.mono HB33.out.size)) | have HBZ := Lib.hid (HB32.out.trans (hb40.mono HB32.out.size)) | have HBZ := Lib.hid (HB31.out.trans (hb40.mono HB31.out.size)) | have HBZ := Lib.hid (HB30.out.trans (hb40.mono HB30.out.size)) | have HBZ := Lib.hid (HB6.out.trans (hb40.mono HB6.out.size)); clear hb40))
          go_ret
          exact ⟨by simp, HBZ.out⟩
        | false => exact absurd HT2.out (by decide)
      · have e2 : (k2 != 8) = true := by simpa using h9
        clear h8 h9 HT
        go_wp2_with (go_at_call 10; refine (awake_any _).mono ?_; rintro e w40 ⟨rfl, hb40⟩; first | have HBZ := Lib.hid (HB34.out.trans (hb40.mono HB34.out.size)) | have HBZ := Lib.hid (HB33.out.trans (hb40.mono HB33.out.size)) | have HBZ := Lib.hid (HB32.out.trans (hb40.mono HB32.out.size)) | have HBZ := Lib.hid (HB31.out.trans (hb40.mono HB31.out.size)) | have HBZ := Lib.hid (HB30.out.trans (hb40.mono HB30.out.size)) | have HBZ := Lib.hid (HB6.out.trans (hb40.mono HB6.out.size)); clear hb40)
        go_ret
        exact ⟨by simp, HBZ.out⟩
    · have e1 : (k1 != 8) = true := by simpa using h8
      clear h8 HT
      go_wp2_with (go_at_call 10; refine (awake_any _).mono ?_; rintro e w40 ⟨rfl, hb40⟩; first | have HBZ := Lib.hid (HB34.out.trans (hb40.mono HB34.out.size)) | have HBZ := Lib.hid (HB33.out.trans (hb40.mono HB33.out.size)) | have HBZ := Lib.hid (HB32.out.trans (hb40.mono HB32.out.size)) | have HBZ := Lib.hid (HB31.out.trans (hb40.mono HB31.out.size)) | have HBZ := Lib.hid (HB30.out.trans (hb40.mono HB30.out.size)) | have HBZ := Lib.hid (HB6.out.trans (hb40.mono HB6.out.size)); clear hb40)
      go_ret
      exact ⟨by simp, HBZ.out⟩
  by_cases hC : k0 = 4
  · have HD := Lib.hid (show ((4 : Int) ≤ k0 ∧ decide ((4 : Int) ≤ k0) = true ∧ k0 ≤ 8 ∧ decide (k0 ≤ 8) = true ∧ (k0 != 4) = false) ∧ k0 = 4 from ⟨⟨by omega, decide_eq_true (by omega), by omega, decide_eq_true (by omega), by rw [hC]; decide⟩, hC⟩)
    rw [if_pos hC] at HNB
    clear hA hB hC
    refine wp_region_held_drew (S := fun V => Below w20.heap.size w20 V) (by kernel_rfl) (Below.refl _ _).drew (fun hS0 => ?_)
    generalize w20.drew = W4 at hS0 ⊢
    refine wpAnyH_take (i := 0) (v := .slice A us.length c) rfl (by kernel_rfl) (by kernel_rfl) (by kernel_rfl) (fun _ _ _ h => h) (Or.inl ⟨rfl, fun w' hS => by (unfold execOp; go_simp)⟩) hS0 ?_
    simp only [Act.put, List.getElem_toArray, List.getElem_cons_zero, List.getElem_cons_succ, List.setIfInBounds_toArray, List.set_cons_zero, List.set_cons_succ]
    refine wpAnyH_take (i := 1) (v := .slice V vars.length cv) rfl (by kernel_rfl) (by kernel_rfl) (by kernel_rfl) (fun _ _ _ h => h) (Or.inl ⟨rfl, fun w' hS => by (unfold execOp; go_simp)⟩) hS0 ?_
    simp only [Act.put, List.getElem_toArray, List.getElem_cons_zero, List.getElem_cons_succ, List.setIfInBounds_toArray, List.set_cons_zero, List.set_cons_succ]
    refine wpAnyH_take (i := 2) (v := (.agg #[.int .i64 4, .string ⟨#[]⟩, .string ⟨#[]⟩, .slice none 0 0, .slice none 0 0])) rfl (by kernel_rfl) (by kernel_rfl) (by kernel_rfl) (fun _ _ _ h => h) (Or.inl ⟨rfl, fun w' hS => by (unfold execOp; go_simp)⟩) hS0 ?_
    simp only [Act.put, List.getElem_toArray, List.getElem_cons_zero, List.getElem_cons_succ, List.setIfInBounds_toArray, List.set_cons_zero, List.set_cons_succ]
    refine wpAnyH_take (i := 3) (v := (.agg #[.int .i64 k0, .string p0, .string n0, .slice A0 lx.length c0, .slice B0 ly.length d0])) rfl (by kernel_rfl) (by kernel_rfl) (by kernel_rfl) (fun _ _ _ h => h) (Or.inl ⟨rfl, fun w' hS => by (have hk := HKA5.out.bel2 hS; have x0 := hk.cell 0; have x1 := hk.cell 1; have x2 := hk.cell 2; have x3 := hk.cell 3; have x4 := hk.cell 4; have xl := hk.lt; unfold execOp; go_simp)⟩) hS0 ?_
    simp only [Act.put, List.getElem_toArray, List.getElem_cons_zero, List.getElem_cons_succ, List.setIfInBounds_toArray, List.set_cons_zero, List.set_cons_succ]
    refine wpAnyH_take (i := 5) (v := (.pointer (some ⟨w.heap.size, 0, none⟩))) rfl (by kernel_rfl) (by kernel_rfl) (by kernel_rfl) (fun _ _ _ h => h) (Or.inl ⟨rfl, fun w' hS => by (unfold execOp; go_simp)⟩) hS0 ?_
    simp only [Act.put, List.getElem_toArray, List.getElem_cons_zero, List.getElem_cons_succ, List.setIfInBounds_toArray, List.set_cons_zero, List.set_cons_succ]
    refine wpAnyH_take (i := 6) (v := .int .i64 k0) rfl (by kernel_rfl) (by kernel_rfl) (by kernel_rfl) (fun _ _ _ h => h) (Or.inl ⟨rfl, fun w' hS => by (have hk := HKA5.out.bel2 hS; have x0 := hk.cell 0; have x1 := hk.cell 1; have x2 := hk.cell 2; have x3 := hk.cell 3; have x4 := hk.cell 4; have xl := hk.lt; unfold execOp; go_simp)⟩) hS0 ?_
    simp only [Act.put, List.getElem_toArray, List.getElem_cons_zero, List.getElem_cons_succ, List.setIfInBounds_toArray, List.set_cons_zero, List.set_cons_succ]
    refine wpAnyH_take (i := 7) (v := .bool true) rfl (by kernel_rfl) (by kernel_rfl) (by kernel_rfl) (fun _ _ _ h => h) (Or.inl ⟨rfl, fun w' hS => by (have z1 := HD.out.1; unfold execOp; go_simp)⟩) hS0 ?_
    simp only [Act.put, List.getElem_toArray, List.getElem_cons_zero, List.getElem_cons_succ, List.setIfInBounds_toArray, List.set_cons_zero, List.set_cons_succ]
    refine wpAnyH_one (i := 4) (by kernel_rfl) rfl rfl (op_call (args := #[.slice A us.length c, .slice V vars.length cv, .agg #[.int .i64 4, .string ⟨#[]⟩, .string ⟨#[]⟩, .slice none 0 0, .slice none 0 0], .agg #[.int .i64 k0, .string p0, .string n0, .slice A0 lx.length c0, .slice B0 ly.length d0]]) (f := 14) (by unfold execOp; go_simp) ((HNB.out _ (HB5.out.trans (hS0.mono HB5.out.size))).mono ?_))
    rintro e w21 ⟨rfl, hb21⟩
    have hS1 := hS0.trans (hb21.mono hS0.size)
    refine And.intro hS1 ?_
    simp only [Act.put, List.getElem_toArray, List.getElem_cons_zero, List.getElem_cons_succ, List.setIfInBounds_toArray, List.set_cons_zero, List.set_cons_succ]
    refine wpAnyH_take (i := 8) (v := .bool true) rfl (by kernel_rfl) (by kernel_rfl) (by kernel_rfl) (fun _ _ _ h => h) (Or.inl ⟨rfl, fun w' hS => by (unfold execOp; go_simp)⟩) hS1 ?_
    simp only [Act.put, List.getElem_toArray, List.getElem_cons_zero, List.getElem_cons_succ, List.setIfInBounds_toArray, List.set_cons_zero, List.set_cons_succ]
    refine wpAnyH_take (i := 9) (v := (.pointer (some ⟨w.heap.size, 0, none⟩))) rfl (by kernel_rfl) (by kernel_rfl) (by kernel_rfl) (fun _ _ _ h => h) (Or.inl ⟨by kernel_rfl, fun w' hS => by (unfold execOp; go_simp)⟩) hS1 ?_
    simp only [Act.put, List.getElem_toArray, List.getElem_cons_zero, List.getElem_cons_succ, List.setIfInBounds_toArray, List.set_cons_zero, List.set_cons_succ]
    refine wpAnyH_take (i := 10) (v := .int .i64 k0) rfl (by kernel_rfl) (by kernel_rfl) (by kernel_rfl) (fun _ _ _ h => h) (Or.inl ⟨by kernel_rfl, fun w' hS => by (have hk := HKA5.out.bel2 hS; have x0 := hk.cell 0; have x1 := hk.cell 1; have x2 := hk.cell 2; have x3 := hk.cell 3; have x4 := hk.cell 4; have xl := hk.lt; unfold execOp; go_simp)⟩) hS1 ?_
    simp only [Act.put, List.getElem_toArray, List.getElem_cons_zero, List.getElem_cons_succ, List.setIfInBounds_toArray, List.set_cons_zero, List.set_cons_succ]
    refine wpAnyH_take (i := 11) (v := .bool true) rfl (by kernel_rfl) (by kernel_rfl) (by kernel_rfl) (fun _ _ _ h => h) (Or.inl ⟨by kernel_rfl, fun w' hS => by (have z1 := HD.out.1; unfold execOp; go_simp)⟩) hS1 ?_
    simp only [Act.put, List.getElem_toArray, List.getElem_cons_zero, List.getElem_cons_succ, List.setIfInBounds_toArray, List.set_cons_zero, List.set_cons_succ]
    refine wpAnyH_take (i := 12) (v := .bool true) rfl (by kernel_rfl) (by kernel_rfl) (by kernel_rfl) (fun _ _ _ h => h) (Or.inl ⟨rfl, fun w' hS => by (unfold execOp; go_simp)⟩) hS1 ?_
    simp only [Act.put, List.getElem_toArray, List.getElem_cons_zero, List.getElem_cons_succ, List.setIfInBounds_toArray, List.set_cons_zero, List.set_cons_succ]
    refine wpAnyH_take (i := 13) (v := .bool true) rfl (by kernel_rfl) (by kernel_rfl) (by kernel_rfl) (fun _ _ _ h => h) (Or.inl ⟨rfl, fun w' hS => by (unfold execOp; go_simp)⟩) hS1 ?_
    simp only [Act.put, List.getElem_toArray, List.getElem_cons_zero, List.getElem_cons_succ, List.setIfInBounds_toArray, List.set_cons_zero, List.set_cons_succ]
    refine wpAnyH_take (i := 14) (v := (.pointer (some ⟨w.heap.size, 0, none⟩))) rfl (by kernel_rfl) (by kernel_rfl) (by kernel_rfl) (fun _ _ _ h => h) (Or.inl ⟨by kernel_rfl, fun w' hS => by (unfold execOp; go_simp)⟩) hS1 ?_
    simp only [Act.put, List.getElem_toArray, List.getElem_cons_zero, List.getElem_cons_succ, List.setIfInBounds_toArray, List.set_cons_zero, List.set_cons_succ]
    refine wpAnyH_take (i := 15) (v := .int .i64 k0) rfl (by kernel_rfl) (by kernel_rfl) (by kernel_rfl) (fun _ _ _ h => h) (Or.inl ⟨by kernel_rfl, fun w' hS => by (have hk := HKA5.out.bel2 hS; have x0 := hk.cell 0; have x1 := hk.cell 1; have x2 := hk.cell 2; have x3 := hk.cell 3; have x4 := hk.cell 4; have xl := hk.lt; unfold execOp; go_simp)⟩) hS1 ?_
    simp only [Act.put, List.getElem_toArray, List.getElem_cons_zero, List.getElem_cons_succ, List.setIfInBounds_toArray, List.set_cons_zero, List.set_cons_succ]
    refine wpAnyH_take (i := 16) (v := .bool false) rfl (by kernel_rfl) (by kernel_rfl) (by kernel_rfl) (fun _ _ _ h => h) (Or.inl ⟨by kernel_rfl, fun w' hS => by (have z1 := HD.out.1; unfold execOp; go_simp)⟩) hS1 ?_
    simp only [Act.put, List.getElem_toArray, List.getElem_cons_zero, List.getElem_cons_succ, List.setIfInBounds_toArray, List.set_cons_zero, List.set_cons_succ]
    refine wpAnyH_take (i := 17) (v := .bool false) rfl (by kernel_rfl) (by kernel_rfl) (by kernel_rfl) (fun _ _ _ h => h) (Or.inl ⟨by kernel_rfl, fun w' hS => by (unfold execOp; go_simp)⟩) hS1 ?_
    simp only [Act.put, List.getElem_toArray, List.getElem_cons_zero, List.getElem_cons_succ, List.setIfInBounds_toArray, List.set_cons_zero, List.set_cons_succ]
    refine wpAnyH_take (i := 18) (v := (.agg #[.int .i64 k0, .string p0, .string n0, .slice A0 lx.length c0, .slice B0 ly.length d0])) rfl (by kernel_rfl) (by kernel_rfl) (by kernel_rfl) (fun _ _ _ h => h) (Or.inl ⟨by kernel_rfl, fun w' hS => by (have hk := HKA5.out.bel2 hS; have x0 := hk.cell 0; have x1 := hk.cell 1; have x2 := hk.cell 2; have x3 := hk.cell 3; have x4 := hk.cell 4; have xl := hk.lt; unfold execOp; go_simp)⟩) hS1 ?_
    simp only [Act.put, List.getElem_toArray, List.getElem_cons_zero, List.getElem_cons_succ, List.setIfInBounds_toArray, List.set_cons_zero, List.set_cons_succ]
    refine wpAnyH_oneG (i := 19) (by kernel_rfl) rfl (by kernel_rfl) (op_call (args := #[.agg #[.int .i64 k0, .string p0, .string n0, .slice A0 lx.length c0, .slice B0 ly.length d0]]) (f := 18) (by unfold execOp; go_simp) ((HPL.out _ (HB5.out.trans (hS1.mono HB5.out.size))).mono ?_))
    rintro e w22 ⟨rfl, hb22⟩
    have hS2 := hS1.trans (hb22.mono hS1.size)
    refine And.intro hS2 ?_
    simp only [Act.put, List.getElem_toArray, List.getElem_cons_zero, List.getElem_cons_succ, List.setIfInBounds_toArray, List.set_cons_zero, List.set_cons_succ]
    refine wpAnyH_take (i := 20) (v := .bool P) rfl (by kernel_rfl) (by kernel_rfl) (by kernel_rfl) (fun _ _ _ h => h) (Or.inl ⟨by kernel_rfl, fun w' hS => by (unfold execOp; go_simp)⟩) hS2 ?_
    simp only [Act.put, List.getElem_toArray, List.getElem_cons_zero, List.getElem_cons_succ, List.setIfInBounds_toArray, List.set_cons_zero, List.set_cons_succ]
    refine wpAnyH_take (i := 21) (v := .bool P) rfl (by kernel_rfl) (by kernel_rfl) (by kernel_rfl) (fun _ _ _ h => h) (Or.inl ⟨rfl, fun w' hS => by (unfold execOp; go_simp)⟩) hS2 ?_
    simp only [Act.put, List.getElem_toArray, List.getElem_cons_zero, List.getElem_cons_succ, List.setIfInBounds_toArray, List.set_cons_zero, List.set_cons_succ]
    refine wpAnyH_take (i := 22) (v := .bool true) rfl (by kernel_rfl) (by kernel_rfl) (by kernel_rfl) (fun _ _ _ h => h) (Or.inl ⟨rfl, fun w' hS => by (unfold execOp; go_simp)⟩) hS2 ?_
    simp only [Act.put, List.getElem_toArray, List.getElem_cons_zero, List.getElem_cons_succ, List.setIfInBounds_toArray, List.set_cons_zero, List.set_cons_succ]
    refine wpAnyH_take (i := 23) (v := .bool true) rfl (by kernel_rfl) (by kernel_rfl) (by kernel_rfl) (fun _ _ _ h => h) (Or.inl ⟨rfl, fun w' hS => by (unfold execOp; go_simp)⟩) hS2 ?_
    simp only [Act.put, List.getElem_toArray, List.getElem_cons_zero, List.getElem_cons_succ, List.setIfInBounds_toArray, List.set_cons_zero, List.set_cons_succ]
    refine wpAnyH_done (by kernel_rfl) ?_ _
    have HB6 := Lib.hid (HB5.out.trans (hS2.mono HB5.out.size))
    have hka6 := HKA5.out.bel2 hS2
    have HKA6 := Lib.hid hka6
    have hkb6 := HKB5.out.bel2 hS2
    have HKB6 := Lib.hid hkb6
    have hkc6 := HKC5.out.bel2 hS2
    have HKC6 := Lib.hid hkc6
    have ta0 := hka6.cell 0
    have ta1 := hka6.cell 1
    have ta2 := hka6.cell 2
    have ta3 := hka6.cell 3
    have ta4 := hka6.cell 4
    have tb0 := hkb6.cell 0
    have tb1 := hkb6.cell 1
    have tb2 := hkb6.cell 2
    have tb3 := hkb6.cell 3
    have tb4 := hkb6.cell 4
    have tc0 := hkc6.cell 0
    have tc1 := hkc6.cell 1
    have tc2 := hkc6.cell 2
    have tc3 := hkc6.cell 3
    have tc4 := hkc6.cell 4
    have tal := hka6.lt
    have tbl := hkb6.lt
    have tcl := hkc6.lt
    clear hS0 hS1 hS2 hb21 hb22 hka6 hkb6 hkc6
    have e4 : (k0 == 4) = true := by rw [HD.out.2]; decide
    by_cases h8 : k1 = 8
    · have e1 : (k1 != 8) = false := by rw [h8]; decide
      by_cases h9 : k2 = 8
      · have e2 : (k2 != 8) = false := by rw [h9]; decide
        clear h8 h9
        go_wp2_with (go_at_call 10; refine (awake_any _).mono ?_; rintro e w40 ⟨rfl, hb40⟩; first | have HBZ := Lib.hid (HB34.out.trans (hb40.mono HB34.out.size)) | have HBZ := Lib.hid (HB33.out.trans (hb40.mono HB33.out.size)) | have HBZ := Lib.hid (HB32.out.trans (hb40.mono HB32.out.size)) | have HBZ := Lib.hid (HB31.out.trans (hb40.mono HB31.out.size)) | have HBZ := Lib.hid (HB30.out.trans (hb40.mono HB30.out.size)) | have HBZ := Lib.hid (HB6.out.trans (hb40.mono HB6.out.size)); clear hb40)
        go_ret
        exact ⟨by simp, HBZ.out⟩
      · have e2 : (k2 != 8) = true := by simpa using h9
        clear h8 h9 HT
        go_wp2_with (go_at_call 10; refine (awake_any _).mono ?_; rintro e w40 ⟨rfl, hb40⟩; first | have HBZ := Lib.hid (HB34.out.trans (hb40.mono HB34.out.size)) | have HBZ := Lib.hid (HB33.out.trans (hb40.mono HB33.out.size)) | have HBZ := Lib.hid (HB32.out.trans (hb40.mono HB32.out.size)) | have HBZ := Lib.hid (HB31.out.trans (hb40.mono HB31.out.size)) | have HBZ := Lib.hid (HB30.out.trans (hb40.mono HB30.out.size)) | have HBZ := Lib.hid (HB6.out.trans (hb40.mono HB6.out.size)); clear hb40)
        go_ret
        exact ⟨by simp, HBZ.out⟩
    · have e1 : (k1 != 8) = true := by simpa using h8
      clear h8 HT
      go_wp2_with (go_at_call 10; refine (awake_any _).mono ?_; rintro e w40 ⟨rfl, hb40⟩; first | have HBZ := Lib.hid (HB34.out.trans (hb40.mono HB34.out.size)) | have HBZ := Lib.hid (HB33.out.trans (hb40.mono HB33.out.size)) | have HBZ := Lib.hid (HB32.out.trans (hb40.mono HB32.out.size)) | have HBZ := Lib.hid (HB31.out.trans (hb40.mono HB31.out.size)) | have HBZ := Lib.hid (HB30.out.trans (hb40.mono HB30.out.size)) | have HBZ := Lib.hid (HB6.out.trans (hb40.mono HB6.out.size)); clear hb40)
      go_ret
      exact ⟨by simp, HBZ.out⟩
  · have HD := Lib.hid (show ((4 : Int) ≤ k0 ∧ decide ((4 : Int) ≤ k0) = true ∧ k0 ≤ 8 ∧ decide (k0 ≤ 8) = true ∧ (k0 != 4) = true) ∧ k0 ≠ 4 from ⟨⟨by omega, decide_eq_true (by omega), by omega, decide_eq_true (by omega), by simpa using hC⟩, hC⟩)
    rw [if_neg hC, decide_eq_true (show (5 ≤ k0 ∧ k0 ≤ 8) by omega)] at HNB
    clear hA hB hC
    refine wp_region_held_drew (S := fun V => Below w20.heap.size w20 V) (by kernel_rfl) (Below.refl _ _).drew (fun hS0 => ?_)
    generalize w20.drew = W4 at hS0 ⊢
    refine wpAnyH_take (i := 0) (v := .slice A us.length c) rfl (by kernel_rfl) (by kernel_rfl) (by kernel_rfl) (fun _ _ _ h => h) (Or.inl ⟨rfl, fun w' hS => by (unfold execOp; go_simp)⟩) hS0 ?_
    simp only [Act.put, List.getElem_toArray, List.getElem_cons_zero, List.getElem_cons_succ, List.setIfInBounds_toArray, List.set_cons_zero, List.set_cons_succ]
    refine wpAnyH_take (i := 1) (v := .slice V vars.length cv) rfl (by kernel_rfl) (by kernel_rfl) (by kernel_rfl) (fun _ _ _ h => h) (Or.inl ⟨rfl, fun w' hS => by (unfold execOp; go_simp)⟩) hS0 ?_
    simp only [Act.put, List.getElem_toArray, List.getElem_cons_zero, List.getElem_cons_succ, List.setIfInBounds_toArray, List.set_cons_zero, List.set_cons_succ]
    refine wpAnyH_take (i := 2) (v := (.agg #[.int .i64 4, .string ⟨#[]⟩, .string ⟨#[]⟩, .slice none 0 0, .slice none 0 0])) rfl (by kernel_rfl) (by kernel_rfl) (by kernel_rfl) (fun _ _ _ h => h) (Or.inl ⟨rfl, fun w' hS => by (unfold execOp; go_simp)⟩) hS0 ?_
    simp only [Act.put, List.getElem_toArray, List.getElem_cons_zero, List.getElem_cons_succ, List.setIfInBounds_toArray, List.set_cons_zero, List.set_cons_succ]
    refine wpAnyH_take (i := 3) (v := (.agg #[.int .i64 k0, .string p0, .string n0, .slice A0 lx.length c0, .slice B0 ly.length d0])) rfl (by kernel_rfl) (by kernel_rfl) (by kernel_rfl) (fun _ _ _ h => h) (Or.inl ⟨rfl, fun w' hS => by (have hk := HKA5.out.bel2 hS; have x0 := hk.cell 0; have x1 := hk.cell 1; have x2 := hk.cell 2; have x3 := hk.cell 3; have x4 := hk.cell 4; have xl := hk.lt; unfold execOp; go_simp)⟩) hS0 ?_
    simp only [Act.put, List.getElem_toArray, List.getElem_cons_zero, List.getElem_cons_succ, List.setIfInBounds_toArray, List.set_cons_zero, List.set_cons_succ]
    refine wpAnyH_take (i := 5) (v := (.pointer (some ⟨w.heap.size, 0, none⟩))) rfl (by kernel_rfl) (by kernel_rfl) (by kernel_rfl) (fun _ _ _ h => h) (Or.inl ⟨rfl, fun w' hS => by (unfold execOp; go_simp)⟩) hS0 ?_
    simp only [Act.put, List.getElem_toArray, List.getElem_cons_zero, List.getElem_cons_succ, List.setIfInBounds_toArray, List.set_cons_zero, List.set_cons_succ]
    refine wpAnyH_take (i := 6) (v := .int .i64 k0) rfl (by kernel_rfl) (by kernel_rfl) (by kernel_rfl) (fun _ _ _ h => h) (Or.inl ⟨rfl, fun w' hS => by (have hk := HKA5.out.bel2 hS; have x0 := hk.cell 0; have x1 := hk.cell 1; have x2 := hk.cell 2; have x3 := hk.cell 3; have x4 := hk.cell 4; have xl := hk.lt; unfold execOp; go_simp)⟩) hS0 ?_
    simp only [Act.put, List.getElem_toArray, List.getElem_cons_zero, List.getElem_cons_succ, List.setIfInBounds_toArray, List.set_cons_zero, List.set_cons_succ]
    refine wpAnyH_take (i := 7) (v := .bool true) rfl (by kernel_rfl) (by kernel_rfl) (by kernel_rfl) (fun _ _ _ h => h) (Or.inl ⟨rfl, fun w' hS => by (have z1 := HD.out.1; unfold execOp; go_simp)⟩) hS0 ?_
    simp only [Act.put, List.getElem_toArray, List.getElem_cons_zero, List.getElem_cons_succ, List.setIfInBounds_toArray, List.set_cons_zero, List.set_cons_succ]
    refine wpAnyH_one (i := 4) (by kernel_rfl) rfl rfl (op_call (args := #[.slice A us.length c, .slice V vars.length cv, .agg #[.int .i64 4, .string ⟨#[]⟩, .string ⟨#[]⟩, .slice none 0 0, .slice none 0 0], .agg #[.int .i64 k0, .string p0, .string n0, .slice A0 lx.length c0, .slice B0 ly.length d0]]) (f := 14) (by unfold execOp; go_simp) ((HNB.out _ (HB5.out.trans (hS0.mono HB5.out.size))).mono ?_))
    rintro e w21 ⟨rfl, hb21⟩
    have hS1 := hS0.trans (hb21.mono hS0.size)
    refine And.intro hS1 ?_
    simp only [Act.put, List.getElem_toArray, List.getElem_cons_zero, List.getElem_cons_succ, List.setIfInBounds_toArray, List.set_cons_zero, List.set_cons_succ]
    refine wpAnyH_take (i := 8) (v := .bool true) rfl (by kernel_rfl) (by kernel_rfl) (by kernel_rfl) (fun _ _ _ h => h) (Or.inl ⟨rfl, fun w' hS => by (unfold execOp; go_simp)⟩) hS1 ?_
    simp only [Act.put, List.getElem_toArray, List.getElem_cons_zero, List.getElem_cons_succ, List.setIfInBounds_toArray, List.set_cons_zero, List.set_cons_succ]
    refine wpAnyH_take (i := 9) (v := (.pointer (some ⟨w.heap.size, 0, none⟩))) rfl (by kernel_rfl) (by kernel_rfl) (by kernel_rfl) (fun _ _ _ h => h) (Or.inl ⟨by kernel_rfl, fun w' hS => by (unfold execOp; go_simp)⟩) hS1 ?_
    simp only [Act.put, List.getElem_toArray, List.getElem_cons_zero, List.getElem_cons_succ, List.setIfInBounds_toArray, List.set_cons_zero, List.set_cons_succ]
    refine wpAnyH_take (i := 10) (v := .int .i64 k0) rfl (by kernel_rfl) (by kernel_rfl) (by kernel_rfl) (fun _ _ _ h => h) (Or.inl ⟨by kernel_rfl, fun w' hS => by (have hk := HKA5.out.bel2 hS; have x0 := hk.cell 0; have x1 := hk.cell 1; have x2 := hk.cell 2; have x3 := hk.cell 3; have x4 := hk.cell 4; have xl := hk.lt; unfold execOp; go_simp)⟩) hS1 ?_
    simp only [Act.put, List.getElem_toArray, List.getElem_cons_zero, List.getElem_cons_succ, List.setIfInBounds_toArray, List.set_cons_zero, List.set_cons_succ]
    refine wpAnyH_take (i := 11) (v := .bool true) rfl (by kernel_rfl) (by kernel_rfl) (by kernel_rfl) (fun _ _ _ h => h) (Or.inl ⟨by kernel_rfl, fun w' hS => by (have z1 := HD.out.1; unfold execOp; go_simp)⟩) hS1 ?_
    simp only [Act.put, List.getElem_toArray, List.getElem_cons_zero, List.getElem_cons_succ, List.setIfInBounds_toArray, List.set_cons_zero, List.set_cons_succ]
    refine wpAnyH_take (i := 12) (v := .bool true) rfl (by kernel_rfl) (by kernel_rfl) (by kernel_rfl) (fun _ _ _ h => h) (Or.inl ⟨rfl, fun w' hS => by (unfold execOp; go_simp)⟩) hS1 ?_
    simp only [Act.put, List.getElem_toArray, List.getElem_cons_zero, List.getElem_cons_succ, List.setIfInBounds_toArray, List.set_cons_zero, List.set_cons_succ]
    refine wpAnyH_take (i := 13) (v := .bool true) rfl (by kernel_rfl) (by kernel_rfl) (by kernel_rfl) (fun _ _ _ h => h) (Or.inl ⟨rfl, fun w' hS => by (unfold execOp; go_simp)⟩) hS1 ?_
    simp only [Act.put, List.getElem_toArray, List.getElem_cons_zero, List.getElem_cons_succ, List.setIfInBounds_toArray, List.set_cons_zero, List.set_cons_succ]
    refine wpAnyH_take (i := 14) (v := (.pointer (some ⟨w.heap.size, 0, none⟩))) rfl (by kernel_rfl) (by kernel_rfl) (by kernel_rfl) (fun _ _ _ h => h) (Or.inl ⟨by kernel_rfl, fun w' hS => by (unfold execOp; go_simp)⟩) hS1 ?_
    simp only [Act.put, List.getElem_toArray, List.getElem_cons_zero, List.getElem_cons_succ, List.setIfInBounds_toArray, List.set_cons_zero, List.set_cons_succ]
    refine wpAnyH_take (i := 15) (v := .int .i64 k0) rfl (by kernel_rfl) (by kernel_rfl) (by kernel_rfl) (fun _ _ _ h => h) (Or.inl ⟨by kernel_rfl, fun w' hS => by (have hk := HKA5.out.bel2 hS; have x0 := hk.cell 0; have x1 := hk.cell 1; have x2 := hk.cell 2; have x3 := hk.cell 3; have x4 := hk.cell 4; have xl := hk.lt; unfold execOp; go_simp)⟩) hS1 ?_
    simp only [Act.put, List.getElem_toArray, List.getElem_cons_zero, List.getElem_cons_succ, List.setIfInBounds_toArray, List.set_cons_zero, List.set_cons_succ]
    refine wpAnyH_take (i := 16) (v := .bool true) rfl (by kernel_rfl) (by kernel_rfl) (by kernel_rfl) (fun _ _ _ h => h) (Or.inl ⟨by kernel_rfl, fun w' hS => by (have z1 := HD.out.1; unfold execOp; go_simp)⟩) hS1 ?_
    simp only [Act.put, List.getElem_toArray, List.getElem_cons_zero, List.getElem_cons_succ, List.setIfInBounds_toArray, List.set_cons_zero, List.set_cons_succ]
    refine wpAnyH_take (i := 17) (v := .bool true) rfl (by kernel_rfl) (by kernel_rfl) (by kernel_rfl) (fun _ _ _ h => h) (Or.inl ⟨by kernel_rfl, fun w' hS => by (unfold execOp; go_simp)⟩) hS1 ?_
    simp only [Act.put, List.getElem_toArray, List.getElem_cons_zero, List.getElem_cons_succ, List.setIfInBounds_toArray, List.set_cons_zero, List.set_cons_succ]
    refine wpAnyH_take (i := 18) (v := undef) rfl (by kernel_rfl) (by kernel_rfl) (by kernel_rfl) (fun _ _ _ h => h) (Or.inr ⟨by kernel_rfl, rfl⟩) hS1 ?_
    simp only [Act.put, List.getElem_toArray, List.getElem_cons_zero, List.getElem_cons_succ, List.setIfInBounds_toArray, List.set_cons_zero, List.set_cons_succ]
    refine wpAnyH_take (i := 19) (v := undef) rfl (by kernel_rfl) (by kernel_rfl) (by kernel_rfl) (fun _ _ _ h => h) (Or.inr ⟨by kernel_rfl, rfl⟩) hS1 ?_
    simp only [Act.put, List.getElem_toArray, List.getElem_cons_zero, List.getElem_cons_succ, List.setIfInBounds_toArray, List.set_cons_zero, List.set_cons_succ]
    refine wpAnyH_take (i := 20) (v := .bool true) rfl (by kernel_rfl) (by kernel_rfl) (by kernel_rfl) (fun _ _ _ h => h) (Or.inl ⟨by kernel_rfl, fun w' hS => by (unfold execOp; go_simp)⟩) hS1 ?_
    simp only [Act.put, List.getElem_toArray, List.getElem_cons_zero, List.getElem_cons_succ, List.setIfInBounds_toArray, List.set_cons_zero, List.set_cons_succ]
    refine wpAnyH_take (i := 21) (v := .bool true) rfl (by kernel_rfl) (by kernel_rfl) (by kernel_rfl) (fun _ _ _ h => h) (Or.inl ⟨rfl, fun w' hS => by (unfold execOp; go_simp)⟩) hS1 ?_
    simp only [Act.put, List.getElem_toArray, List.getElem_cons_zero, List.getElem_cons_succ, List.setIfInBounds_toArray, List.set_cons_zero, List.set_cons_succ]
    refine wpAnyH_take (i := 22) (v := .bool true) rfl (by kernel_rfl) (by kernel_rfl) (by kernel_rfl) (fun _ _ _ h => h) (Or.inl ⟨rfl, fun w' hS => by (unfold execOp; go_simp)⟩) hS1 ?_
    simp only [Act.put, List.getElem_toArray, List.getElem_cons_zero, List.getElem_cons_succ, List.setIfInBounds_toArray, List.set_cons_zero, List.set_cons_succ]
    refine wpAnyH_take (i := 23) (v := .bool true) rfl (by kernel_rfl) (by kernel_rfl) (by kernel_rfl) (fun _ _ _ h => h) (Or.inl ⟨rfl, fun w' hS => by (unfold execOp; go_simp)⟩) hS1 ?_
    simp only [Act.put, List.getElem_toArray, List.getElem_cons_zero, List.getElem_cons_succ, List.setIfInBounds_toArray, List.set_cons_zero, List.set_cons_succ]
    refine wpAnyH_done (by kernel_rfl) ?_ _
    have HB6 := Lib.hid (HB5.out.trans (hS1.mono HB5.out.size))
    have hka6 := HKA5.out.bel2 hS1
    have HKA6 := Lib.hid hka6
    have hkb6 := HKB5.out.bel2 hS1
    have HKB6 := Lib.hid hkb6
    have hkc6 := HKC5.out.bel2 hS1
    have HKC6 := Lib.hid hkc6
    have ta0 := hka6.cell 0
    have ta1 := hka6.cell 1
    have ta2 := hka6.cell 2
    have ta3 := hka6.cell 3
    have ta4 := hka6.cell 4
    have tb0 := hkb6.cell 0
    have tb1 := hkb6.cell 1
    have tb2 := hkb6.cell 2
    have tb3 := hkb6.cell 3
    have tb4 := hkb6.cell 4
    have tc0 := hkc6.cell 0
    have tc1 := hkc6.cell 1
    have tc2 := hkc6.cell 2
    have tc3 := hkc6.cell 3
    have tc4 := hkc6.cell 4
    have tal := hka6.lt
    have tbl := hkb6.lt
    have tcl := hkc6.lt
    clear hS0 hS1 hb21 hka6 hkb6 hkc6
    have e4 : (k0 == 4) = false := by have := HD.out.2; simp; omega
    by_cases h8 : k1 = 8
    · have e1 : (k1 != 8) = false := by rw [h8]; decide
      by_cases h9 : k2 = 8
      · have e2 : (k2 != 8) = false := by rw [h9]; decide
        have HT2 := Lib.hid (HT.out h8 h9 (by have := HD.out.2; omega))
        clear h8 h9 HT
        cases X with
        | false =>
          go_wp2_with (first | (go_at_call 14; have _g := HB6; (with_reducible refine (HAB.out _ HB6.out).mono ?_); rintro e w30 ⟨rfl, hb30⟩; have HB30 := Lib.hid (HB6.out.trans (hb30.mono HB6.out.size)); have hka30 := HKA6.out.bel2 hb30; have hkb30 := HKB6.out.bel2 hb30; have hkc30 := HKC6.out.bel2 hb30; have ta0 := hka30.cell 0; have tb0 := hkb30.cell 0; have tc0 := hkc30.cell 0; have ta1 := hka30.cell 1; have tb1 := hkb30.cell 1; have tc1 := hkc30.cell 1; have ta2 := hka30.cell 2; have tb2 := hkb30.cell 2; have tc2 := hkc30.cell 2; have ta3 := hka30.cell 3; have tb3 := hkb30.cell 3; have tc3 := hkc30.cell 3; have ta4 := hka30.cell 4; have tb4 := hkb30.cell 4; have tc4 := hkc30.cell 4; have tal := hka30.lt; have HKA30 := Lib.hid hka30; have tbl := hkb30.lt; have HKB30 := Lib.hid hkb30; have tcl := hkc30.lt; have HKC30 := Lib.hid hkc30; clear hb30 hka30 hkb30 hkc30) | (go_at_call 10; refine (awake_any _).mono ?_; rintro e w40 ⟨rfl, hb40⟩; first | have HBZ := Lib.hid (HB34.out.trans (hb40.mono HB34.out.size)) | have HBZ := Lib.hid (HB33.out.trans (hb40.mono HB33.out.size)) | have HBZ := Lib.hid (HB32.out.trans (hb40.mono HB32.out.size)) | have HBZ := Lib.hid (HB31.out.trans (hb40.mono HB31.out.size)) | have HBZ := Lib.hid (HB30.out.trans (hb40.mono HB30.out.size)) | have HBZ := Lib.hid (HB6.out.trans (hb40.mono HB6.out.size)); clear hb40))
          go_ret
          exact ⟨by simp, HBZ.out⟩
        | true =>
        cases Y with
        | false =>
          go_wp2_with (first | (go_at_call 14; have _g := HB30; (with_reducible refine (HBC.out _ HB30.out).mono ?_); rintro e w31 ⟨rfl, hb31⟩; have HB31 := Lib.hid (HB30.out.trans (hb31.mono HB30.out.size)); have hka31 := HKA30.out.bel2 hb31; have hkb31 := HKB30.out.bel2 hb31; have hkc31 := HKC30.out.bel2 hb31; have ta0 := hka31.cell 0; have tb0 := hkb31.cell 0; have tc0 := hkc31.cell 0; have ta1 := hka31.cell 1; have tb1 := hkb31.cell 1; have tc1 := hkc31.cell 1; have ta2 := hka31.cell 2; have tb2 := hkb31.cell 2; have tc2 := hkc31.cell 2; have ta3 := hka31.cell 3; have tb3 := hkb31.cell 3; have tc3 := hkc31.cell 3; have ta4 := hka31.cell 4; have tb4 := hkb31.cell 4; have tc4 := hkc31.cell 4; have tal := hka31.lt; have HKA31 := Lib.hid hka31; have tbl := hkb31.lt; have HKB31 := Lib.hid hkb31; have tcl := hkc31.lt; have HKC31 := Lib.hid hkc31; clear hb31 hka31 hkb31 hkc31) | (go_at_call 14; have _g := HB6; (with_reducible refine (HAB.out _ HB6.out).mono ?_); rintro e w30 ⟨rfl, hb30⟩; have HB30 := Lib.hid (HB6.out.trans (hb30.mono HB6.out.size)); have hka30 := HKA6.out.bel2 hb30; have hkb30 := HKB6.out.bel2 hb30; have hkc30 := HKC6.out.bel2 hb30; have ta0 := hka30.cell 0; have tb0 := hkb30.cell 0; have tc0 := hkc30.cell 0; have ta1 := hka30.cell 1; have tb1 := hkb30.cell 1; have tc1 := hkc30.cell 1; have ta2 := hka30.cell 2; have tb2 := hkb30.cell 2; have tc2 := hkc30.cell 2; have ta3 := hka30.cell 3; have tb3 := hkb30.cell 3; have tc3 := hkc30.cell 3; have ta4 := hka30.cell 4; have tb4 := hkb30.cell 4; have tc4 := hkc30.cell 4; have tal := hka30.lt; have HKA30 := Lib.hid hka30; have tbl := hkb30.lt; have HKB30 := Lib.hid hkb30; have tcl := hkc30.lt; have HKC30 := Lib.hid hkc30; clear hb30 hka30 hkb30 hkc30) | (go_at_call 10; refine (awake_any _).mono ?_; rintro e w40 ⟨rfl, hb40⟩; first | have HBZ := Lib.hid (HB34.out.trans (hb40.mono HB34.out.size)) | have HBZ := Lib.hid (HB33.out.trans (hb40.mono HB33.out.size)) | have HBZ := Lib.hid (HB32.out.trans (hb40.mono HB32.out.size)) | have HBZ := Lib.hid (HB31.out.trans (hb40.mono HB31.out.size)) | have HBZ := Lib.hid (HB30.out.trans (hb40.mono HB30.out.size)) | have HBZ := Lib.hid (HB6.out.trans (hb40.mono HB6.out.size)); clear hb40))
          go_ret
          exact ⟨by simp, HBZ.out⟩
        | true =>
        cases Z with
        | true =>
          go_wp2_with (first | (go_at_call 14; have _g := HB31; (with_reducible refine (HAC.out _ HB31.out).mono ?_); rintro e w32 ⟨rfl, hb32⟩; have HB32 := Lib.hid (HB31.out.trans (hb32.mono HB31.out.size)); have hka32 := HKA31.out.bel2 hb32; have hkb32 := HKB31.out.bel2 hb32; have hkc32 := HKC31.out.bel2 hb32; have ta0 := hka32.cell 0; have tb0 := hkb32.cell 0; have tc0 := hkc32.cell 0; have ta1 := hka32.cell 1; have tb1 := hkb32.cell 1; have tc1 := hkc32.cell 1; have ta2 := hka32.cell 2; have tb2 := hkb32.cell 2; have tc2 := hkc32.cell 2; have ta3 := hka32.cell 3; have tb3 := hkb32.cell 3; have tc3 := hkc32.cell 3; have ta4 := hka32.cell 4; have tb4 := hkb32.cell 4; have tc4 := hkc32.cell 4; have tal := hka32.lt; have HKA32 := Lib.hid hka32; have tbl := hkb32.lt; have HKB32 := Lib.hid hkb32; have tcl := hkc32.lt; have HKC32 := Lib.hid hkc32; clear hb32 hka32 hkb32 hkc32) | (go_at_call 14; have _g := HB30; (with_reducible refine (HBC.out _ HB30.out).mono ?_); rintro e w31 ⟨rfl, hb31⟩; have HB31 := Lib.hid (HB30.out.trans (hb31.mono HB30.out.size)); have hka31 := HKA30.out.bel2 hb31; have hkb31 := HKB30.out.bel2 hb31; have hkc31 := HKC30.out.bel2 hb31; have ta0 := hka31.cell 0; have tb0 := hkb31.cell 0; have tc0 := hkc31.cell 0; have ta1 := hka31.cell 1; have tb1 := hkb31.cell 1; have tc1 := hkc31.cell 1; have ta2 := hka31.cell 2; have tb2 := hkb31.cell 2; have tc2 := hkc31.cell 2; have ta3 := hka31.cell 3; have tb3 := hkb31.cell 3; have tc3 := hkc31.cell 3; have ta4 := hka31.cell 4; have tb4 := hkb31.cell 4; have tc4 := hkc31.cell 4; have tal := hka31.lt; have HKA31 := Lib.hid hka31; have tbl := hkb31.lt; have HKB31 := Lib.hid hkb31; have tcl := hkc31.lt; have HKC31 := Lib.hid hkc31; clear hb31 hka31 hkb31 hkc31) | (go_at_call 14; have _g := HB6; (with_reducible refine (HAB.out _ HB6.out).mono ?_); rintro e w30 ⟨rfl, hb30⟩; have HB30 := Lib.hid (HB6.out.trans (hb30.mono HB6.out.size)); have hka30 := HKA6.out.bel2 hb30; have hkb30 := HKB6.out.bel2 hb30; have hkc30 := HKC6.out.bel2 hb30; have ta0 := hka30.cell 0; have tb0 := hkb30.cell 0; have tc0 := hkc30.cell 0; have ta1 := hka30.cell 1; have tb1 := hkb30.cell 1; have tc1 := hkc30.cell 1; have ta2 := hka30.cell 2; have tb2 := hkb30.cell 2; have tc2 := hkc30.cell 2; have ta3 := hka30.cell 3; have tb3 := hkb30.cell 3; have tc3 := hkc30.cell 3; have ta4 := hka30.cell 4; have tb4 := hkb30.cell 4; have tc4 := hkc30.cell 4; have tal := hka30.lt; have HKA30 := Lib.hid hka30; have tbl := hkb30.lt; have HKB30 := Lib.hid hkb30; have tcl := hkc30.lt; have HKC30 := Lib.hid hkc30; clear hb30 hka30 hkb30 hkc30) | (go_at_call 10; refine (awake_any _).mono ?_; rintro e w40 ⟨rfl, hb40⟩; first | have HBZ := Lib.hid (HB34.out.trans (hb40.mono HB34.out.size)) | have HBZ := Lib.hid (HB33.out.trans (hb40.mono HB33.out.size)) | have HBZ := Lib.hid (HB32.out.trans (hb40.mono HB32.out.size)) | have HBZ := Lib.hid (HB31.out.trans (hb40.mono HB31.out.size)) | have HBZ := Lib.hid (HB30.out.trans (hb40.mono HB30.out.size)) | have HBZ := Lib.hid (HB6.out.trans (hb40.mono HB6.out.size)); clear hb40))
          go_ret
          exact ⟨by simp, HBZ.out⟩
        | false =>
        cases S1 with
        | true =>
          go_wp2_with (first | (go_at_call 19; have _g := HB32; (with_reducible refine (HS1.out _ HB32.out).mono ?_); rintro e w33 ⟨rfl, hb33⟩; have HB33 := Lib.hid (HB32.out.trans (hb33.mono HB32.out.size)); have hka33 := HKA32.out.bel2 hb33; have hkb33 := HKB32.out.bel2 hb33; have hkc33 := HKC32.out.bel2 hb33; have ta0 := hka33.cell 0; have tb0 := hkb33.cell 0; have tc0 := hkc33.cell 0; have ta1 := hka33.cell 1; have tb1 := hkb33.cell 1; have tc1 := hkc33.cell 1; have ta2 := hka33.cell 2; have tb2 := hkb33.cell 2; have tc2 := hkc33.cell 2; have ta3 := hka33.cell 3; have tb3 := hkb33.cell 3; have tc3 := hkc33.cell 3; have ta4 := hka33.cell 4; have tb4 := hkb33.cell 4; have tc4 := hkc33.cell 4; have tal := hka33.lt; have HKA33 := Lib.hid hka33; have tbl := hkb33.lt; have HKB33 := Lib.hid hkb33; have tcl := hkc33.lt; have HKC33 := Lib.hid hkc33; clear hb33 hka33 hkb33 hkc33) | (go_at_call 14; have _g := HB31; (with_reducible refine (HAC.out _ HB31.out).mono ?_); rintro e w32 ⟨rfl, hb32⟩; have HB32 := Lib.hid (HB31.out.trans (hb32.mono HB31.out.size)); have hka32 := HKA31.out.bel2 hb32; have hkb32 := HKB31.out.bel2 hb32; have hkc32 := HKC31.out.bel2 hb32; have ta0 := hka32.cell 0; have tb0 := hkb32.cell 0; have tc0 := hkc32.cell 0; have ta1 := hka32.cell 1; have tb1 := hkb32.cell 1; have tc1 := hkc32.cell 1; have ta2 := hka32.cell 2; have tb2 := hkb32.cell 2; have tc2 := hkc32.cell 2; have ta3 := hka32.cell 3; have tb3 := hkb32.cell 3; have tc3 := hkc32.cell 3; have ta4 := hka32.cell 4; have tb4 := hkb32.cell 4; have tc4 := hkc32.cell 4; have tal := hka32.lt; have HKA32 := Lib.hid hka32; have tbl := hkb32.lt; have HKB32 := Lib.hid hkb32; have tcl := hkc32.lt; have HKC32 := Lib.hid hkc32; clear hb32 hka32 hkb32 hkc32) | (go_at_call 14; have _g := HB30; (with_reducible refine (HBC.out _ HB30.out).mono ?_); rintro e w31 ⟨rfl, hb31⟩; have HB31 := Lib.hid (HB30.out.trans (hb31.mono HB30.out.size)); have hka31 := HKA30.out.bel2 hb31; have hkb31 := HKB30.out.bel2 hb31; have hkc31 := HKC30.out.bel2 hb31; have ta0 := hka31.cell 0; have tb0 := hkb31.cell 0; have tc0 := hkc31.cell 0; have ta1 := hka31.cell 1; have tb1 := hkb31.cell 1; have tc1 := hkc31.cell 1; have ta2 := hka31.cell 2; have tb2 := hkb31.cell 2; have tc2 := hkc31.cell 2; have ta3 := hka31.cell 3; have tb3 := hkb31.cell 3; have tc3 := hkc31.cell 3; have ta4 := hka31.cell 4; have tb4 := hkb31.cell 4; have tc4 := hkc31.cell 4; have tal := hka31.lt; have HKA31 := Lib.hid hka31; have tbl := hkb31.lt; have HKB31 := Lib.hid hkb31; have tcl := hkc31.lt; have HKC31 := Lib.hid hkc31; clear hb31 hka31 hkb31 hkc31) | (go_at_call 14; have _g := HB6; (with_reducible refine (HAB.out _ HB6.out).mono ?_); rintro e w30 ⟨rfl, hb30⟩; have HB30 := Lib.hid (HB6.out.trans (hb30.mono HB6.out.size)); have hka30 := HKA6.out.bel2 hb30; have hkb30 := HKB6.out.bel2 hb30; have hkc30 := HKC6.out.bel2 hb30; have ta0 := hka30.cell 0; have tb0 := hkb30.cell 0; have tc0 := hkc30.cell 0; have ta1 := hka30.cell 1; have tb1 := hkb30.cell 1; have tc1 := hkc30.cell 1; have ta2 := hka30.cell 2; have tb2 := hkb30.cell 2; have tc2 := hkc30.cell 2; have ta3 := hka30.cell 3; have tb3 := hkb30.cell 3; have tc3 := hkc30.cell 3; have ta4 := hka30.cell 4; have tb4 := hkb30.cell 4; have tc4 := hkc30.cell 4; have tal := hka30.lt; have HKA30 := Lib.hid hka30; have tbl := hkb30.lt; have HKB30 := Lib.hid hkb30; have tcl := hkc30.lt; have HKC30 := Lib.hid hkc30; clear hb30 hka30 hkb30 hkc30) | (go_at_call 10; refine (awake_any _).mono ?_; rintro e w40 ⟨rfl, hb40⟩; first | have HBZ := Lib.hid (HB34.out.trans (hb40.mono HB34.out.size)) | have HBZ := Lib.hid (HB33.out.trans (hb40.mono HB33.out.size)) | have HBZ := Lib.hid (HB32.out.trans (hb40.mono HB32.out.size)) | have HBZ := Lib.hid (HB31.out.trans (hb40.mono HB31.out.size)) | have HBZ := Lib.hid (HB30.out.trans (hb40.mono HB30.out.size)) | have HBZ := Lib.hid (HB6.out.trans (hb40.mono HB6.out.size)); clear hb40))
          go_ret
          exact ⟨by simp, HBZ.out⟩
        | false =>
        cases S2 with
        | true =>
          go_wp2_with (first | (go_at_call 19; have _g := HB33; (with_reducible refine (HS2.out _ HB33.out).mono ?_); rintro e w34 ⟨rfl, hb34⟩; have HB34 := Lib.hid (HB33.out.trans (hb34.mono HB33.out.size)); have hka34 := HKA33.out.bel2 hb34; have hkb34 := HKB33.out.bel2 hb34; have hkc34 := HKC33.out.bel2 hb34; have ta0 := hka34.cell 0; have tb0 := hkb34.cell 0; have tc0 := hkc34.cell 0; have ta1 := hka34.cell 1; have tb1 := hkb34.cell 1; have tc1 := hkc34.cell 1; have ta2 := hka34.cell 2; have tb2 := hkb34.cell 2; have tc2 := hkc34.cell 2; have ta3 := hka34.cell 3; have tb3 := hkb34.cell 3; have tc3 := hkc34.cell 3; have ta4 := hka34.cell 4; have tb4 := hkb34.cell 4; have tc4 := hkc34.cell 4; have tal := hka34.lt; have HKA34 := Lib.hid hka34; have tbl := hkb34.lt; have HKB34 := Lib.hid hkb34; have tcl := hkc34.lt; have HKC34 := Lib.hid hkc34; clear hb34 hka34 hkb34 hkc34) | (go_at_call 19; have _g := HB32; (with_reducible refine (HS1.out _ HB32.out).mono ?_); rintro e w33 ⟨rfl, hb33⟩; have HB33 := Lib.hid (HB32.out.trans (hb33.mono HB32.out.size)); have hka33 := HKA32.out.bel2 hb33; have hkb33 := HKB32.out.bel2 hb33; have hkc33 := HKC32.out.bel2 hb33; have ta0 := hka33.cell 0; have tb0 := hkb33.cell 0; have tc0 := hkc33.cell 0; have ta1 := hka33.cell 1; have tb1 := hkb33.cell 1; have tc1 := hkc33.cell 1; have ta2 := hka33.cell 2; have tb2 := hkb33.cell 2; have tc2 := hkc33.cell 2; have ta3 := hka33.cell 3; have tb3 := hkb33.cell 3; have tc3 := hkc33.cell 3; have ta4 := hka33.cell 4; have tb4 := hkb33.cell 4; have tc4 := hkc33.cell 4; have tal := hka33.lt; have HKA33 := Lib.hid hka33; have tbl := hkb33.lt; have HKB33 := Lib.hid hkb33; have tcl := hkc33.lt; have HKC33 := Lib.hid hkc33; clear hb33 hka33 hkb33 hkc33) | (go_at_call 14; have _g := HB31; (with_reducible refine (HAC.out _ HB31.out).mono ?_); rintro e w32 ⟨rfl, hb32⟩; have HB32 := Lib.hid (HB31.out.trans (hb32.mono HB31.out.size)); have hka32 := HKA31.out.bel2 hb32; have hkb32 := HKB31.out.bel2 hb32; have hkc32 := HKC31.out.bel2 hb32; have ta0 := hka32.cell 0; have tb0 := hkb32.cell 0; have tc0 := hkc32.cell 0; have ta1 := hka32.cell 1; have tb1 := hkb32.cell 1; have tc1 := hkc32.cell 1; have ta2 := hka32.cell 2; have tb2 := hkb32.cell 2; have tc2 := hkc32.cell 2; have ta3 := hka32.cell 3; have tb3 := hkb32.cell 3; have tc3 := hkc32.cell 3; have ta4 := hka32.cell 4; have tb4 := hkb32.cell 4; have tc4 := hkc32.cell 4; have tal := hka32.lt; have HKA32 := Lib.hid hka32; have tbl := hkb32.lt; have HKB32 := Lib.hid hkb32; have tcl := hkc32.lt; have HKC32 := Lib.hid hkc32; clear hb32 hka32 hkb32 hkc32) | (go_at_call 14; have _g := HB30; (with_reducible refine (HBC.out _ HB30.out).mono ?_); rintro e w31 ⟨rfl, hb31⟩; have HB31 := Lib.hid (HB30.out.trans (hb31.mono HB30.out.size)); have hka31 := HKA30.out.bel2 hb31; have hkb31 := HKB30.out.bel2 hb31; have hkc31 := HKC30.out.bel2 hb31; have ta0 := hka31.cell 0; have tb0 := hkb31.cell 0; have tc0 := hkc31.cell 0; have ta1 := hka31.cell 1; have tb1 := hkb31.cell 1; have tc1 := hkc31.cell 1; have ta2 := hka31.cell 2; have tb2 := hkb31.cell 2; have tc2 := hkc31.cell 2; have ta3 := hka31.cell 3; have tb3 := hkb31.cell 3; have tc3 := hkc31.cell 3; have ta4 := hka31.cell 4; have tb4 := hkb31.cell 4; have tc4 := hkc31.cell 4; have tal := hka31.lt; have HKA31 := Lib.hid hka31; have tbl := hkb31.lt; have HKB31 := Lib.hid hkb31; have tcl := hkc31.lt; have HKC31 := Lib.hid hkc31; clear hb31 hka31 hkb31 hkc31) | (go_at_call 14; have _g := HB6; (with_reducible refine (HAB.out _ HB6.out).mono ?_); rintro e w30 ⟨rfl, hb30⟩; have HB30 := Lib.hid (HB6.out.trans (hb30.mono HB6.out.size)); have hka30 := HKA6.out.bel2 hb30; have hkb30 := HKB6.out.bel2 hb30; have hkc30 := HKC6.out.bel2 hb30; have ta0 := hka30.cell 0; have tb0 := hkb30.cell 0; have tc0 := hkc30.cell 0; have ta1 := hka30.cell 1; have tb1 := hkb30.cell 1; have tc1 := hkc30.cell 1; have ta2 := hka30.cell 2; have tb2 := hkb30.cell 2; have tc2 := hkc30.cell 2; have ta3 := hka30.cell 3; have tb3 := hkb30.cell 3; have tc3 := hkc30.cell 3; have ta4 := hka30.cell 4; have tb4 := hkb30.cell 4; have tc4 := hkc30.cell 4; have tal := hka30.lt; have HKA30 := Lib.hid hka30; have tbl := hkb30.lt; have HKB30 := Lib.hid hkb30; have tcl := hkc30.lt; have HKC30 := Lib.hid hkc30; clear hb30 hka30 hkb30 hkc30) | (go_at_call 10; refine (awake_any _).mono ?_; rintro e w40 ⟨rfl, hb40⟩; first | have HBZ := Lib.hid (HB34.out.trans (hb40.mono HB34.out.size)) | have HBZ := Lib.hid (HB33.out.trans (hb40.mono HB33.out.size)) | have HBZ := Lib.hid (HB32.out.trans (hb40.mono HB32.out.size)) | have HBZ := Lib.hid (HB31.out.trans (hb40.mono HB31.out.size)) | have HBZ := Lib.hid (HB30.out.trans (hb40.mono HB30.out.size)) | have HBZ := Lib.hid (HB6.out.trans (hb40.mono HB6.out.size)); clear hb40))
          go_ret
          exact ⟨by simp, HBZ.out⟩
        | false => exact absurd HT2.out (by decide)
      · have e2 : (k2 != 8) = true := by simpa using h9
        clear h8 h9 HT
        go_wp2_with (go_at_call 10; refine (awake_any _).mono ?_; rintro e w40 ⟨rfl, hb40⟩; first | have HBZ := Lib.hid (HB34.out.trans (hb40.mono HB34.out.size)) | have HBZ := Lib.hid (HB33.out.trans (hb40.mono HB33.out.size)) | have HBZ := Lib.hid (HB32.out.trans (hb40.mono HB32.out.size)) | have HBZ := Lib.hid (HB31.out.trans (hb40.mono HB31.out.size)) | have HBZ := Lib.hid (HB30.out.trans (hb40.mono HB30.out.size)) | have HBZ := Lib.hid (HB6.out.trans (hb40.mono HB6.out.size)); clear hb40)
        go_ret
        exact ⟨by simp, HBZ.out⟩
    · have e1 : (k1 != 8) = true := by simpa using h8
      clear h8 HT
      go_wp2_with (go_at_call 10; refine (awake_any _).mono ?_; rintro e w40 ⟨rfl, hb40⟩; first | have HBZ := Lib.hid (HB34.out.trans (hb40.mono HB34.out.size)) | have HBZ := Lib.hid (HB33.out.trans (hb40.mono HB33.out.size)) | have HBZ := Lib.hid (HB32.out.trans (hb40.mono HB32.out.size)) | have HBZ := Lib.hid (HB31.out.trans (hb40.mono HB31.out.size)) | have HBZ := Lib.hid (HB30.out.trans (hb40.mono HB30.out.size)) | have HBZ := Lib.hid (HB6.out.trans (hb40.mono HB6.out.size)); clear hb40)
      go_ret
      exact ⟨by simp, HBZ.out⟩
end Go.Proofs.Ytcfgjfahjaimiaa
