/-
  The document's way: each method put into a row that rises.
-/
import Derived.Test.YtcfgjfahjaimiaaSrL
namespace Go.Proofs.Ytcfgjfahjaimiaa
open Go.RowKit
set_option linter.unusedVariables false
set_option linter.unusedSimpArgs false

theorem FrP.put {F : Nat → Prop} {base : Nat} {w : World} {g c : Nat} {l : List Fi} (h : FrP F base w (some ⟨g, 0, none⟩) c l) (hF : ∀ k, F k → k < base) {i : Nat} (hi : i < l.length) {a : Fi} {vs : List Value} (ha : RFi w F a vs) : FrP F base (putCs w g (i * 6) vs) (some ⟨g, 0, none⟩) c (l.set i a) ∧ Gr (fun x => x = g) w (putCs w g (i * 6) vs) ∧ base ≤ g := by
  obtain ⟨xs, h1, h2⟩ := h
  have hG := putCs_gr g vs (i * 6) w
  have hv := RFi_sized _ _ _ _ ha
  rcases h1.2 with ⟨e, h0⟩ | ⟨g', cap, cur, e, k1, k2, k3, k4, k5, k6⟩
  · omega
  · injection e with e1 e2 e3
    injection e1 with e1
    injection e1 with e1
    subst e1
    have hb : Blk w g 40 cur := k2
    have hlx := h1.1
    have hsz : l.length * 6 ≤ cur.size := by rw [k5]; exact Nat.mul_le_mul_right 6 k3
    have hfit : i * 6 + vs.length ≤ cur.size := by omega
    have hb2 := putCs_mid vs (i * 6) w cur hb hfit
    have hrows := RowsOf.keep (F' := F) RFi_keeps (fun k hk hl => hG.block k hl (by rintro rfl; have := hF _ hk; omega)) hG.size (fun _ _ h => h) _ _ (RowsOf.set_ RFi_sized ha h2 hi)
    refine ⟨⟨_, ⟨?_, .inr ⟨g, cap, _, by rw [List.length_set, e3], k1, hb2, by rw [List.length_set]; exact k3, k4, ?_, ?_⟩⟩, hrows⟩, hG, k1⟩
    · rw [List.length_set]; simp; omega
    · simp; omega
    · rw [← k6, List.length_set]
      show (cur.toList.take (i * 6) ++ (vs ++ cur.toList.drop (i * 6 + vs.length))).take (l.length * 6) = _
      have q1 : (cur.toList.take (i * 6)).length = i * 6 := by simp; omega
      rw [List.take_append, List.take_append, q1, List.take_take, List.take_take, List.drop_take]
      have q2 : min (l.length * 6) (i * 6) = i * 6 := by omega
      have q3 : min (i * 6) (l.length * 6) = i * 6 := by omega
      rw [q2, q3, List.take_of_length_le (l := vs) (by omega), Nat.sub_sub]
theorem put_at {f : Fi} {s : List Fi} (hs : ∀ x, s.head? = some x → ltF f x = true) : ∀ {p : List Fi}, (∀ x ∈ p, ltF f x = false) → Srt.put ltF f (p ++ s) = p ++ f :: s
  | [], _ => by
    cases s with
    | nil => rfl
    | cons x s => simp only [List.nil_append, Srt.put]; rw [if_pos (hs x rfl)]
  | z :: p, hp => by
    simp only [List.cons_append, Srt.put]
    rw [if_neg (by rw [hp z (by simp)]; decide), put_at hs (fun x hx => hp x (by simp [hx]))]
theorem put_end {f z : Fi} {p s : List Fi} (hr : (p ++ [z] ++ s).Pairwise (fun x y => ltF y x = false)) (hz : ltF f z = false) : ∀ x ∈ p ++ [z], ltF f x = false := by
  intro x hx
  rcases List.mem_append.1 hx with hx | hx
  · have h1 := (List.pairwise_append.1 (List.pairwise_append.1 hr).1).2.2 x hx z (by simp)
    exact weakF.neg _ _ _ hz h1
  · rw [List.mem_singleton.1 hx]; exact hz
theorem less_eq (a b : ByteArray) : Op.bytesLess a.toList b.toList = ltB a.data.toList b.data.toList := by
  rw [ByteArray.toList_eq, ByteArray.toList_eq, bytesLess_eq]
def PutR (F : Nat → Prop) (base : Nat) (l : List Fi) (w : World) (e : Ending) (w' : World) : Prop := (∃ B d, e = .returned (.slice B l.length d) ∧ FrP F base w' B d l) ∧ Below base w w'
set_option maxRecDepth 100000 in
set_option maxHeartbeats 8000000 in
theorem rput_any (l : List Fi) (f : Fi) (hr : l.Pairwise (fun x y => ltF y x = false)) (hl : l.length ≤ 2000) (w : World) (base : Nat) (F : Nat → Prop) (hF : ∀ k, F k → k < base) (hbase : base ≤ w.heap.size) (A : Option Addr) (c : Nat) (h : FrP F base w A c l) (vs : List Value) (hf : RFi w F f vs) :
    Calls Try.prog 29 #[.slice A l.length c, .agg vs.toArray] w (PutR F base (Srt.put ltF f l) w) := by
  have hlen : (Srt.put ltF f l).length = l.length + 1 := by
    have hp : ∀ s : List Fi, (Srt.put ltF f s).length = s.length + 1 := by
      intro s
      induction s with
      | nil => rfl
      | cons x s ih => unfold Srt.put; split <;> simp [ih]
    exact hp l
  obtain ⟨nm, hnm⟩ : ∃ z, f.name = z := ⟨_, rfl⟩
  have hf2 := hf
  obtain ⟨tv, rfl, hrt⟩ := hf
  obtain ⟨f1, f2, f3, f4, f5, f6, f7, f8, f9, rfl⟩ := hrt.shape
  simp only [tyC] at hf2 ⊢
  obtain ⟨f0, hf0⟩ : ∃ z, f.name = z := ⟨_, rfl⟩
  rw [hf0] at hf2 ⊢
  have hb1 := ((Below.refl _ w).alloc (Nat.le_refl _) (.cells #[.string f0, .int .i64 f1, .string f2, .string f3, .slice f4 f5 f6, .slice f7 f8 f9] 40))
  have hs1 : (w.alloc (.cells #[.string f0, .int .i64 f1, .string f2, .string f3, .slice f4 f5 f6, .slice f7 f8 f9] 40)).heap.size = w.heap.size + 1 := by simp
  have happ := frp_app (h.bel hb1) hF (Nat.le_trans hbase hb1.size) (a := f) (vs := [.string f0, .int .i64 f1, .string f2, .string f3, .slice f4 f5 f6, .slice f7 f8 f9]) (RFi.bel hf2 hb1) (by omega) 23
  rw [hs1] at happ
  have HAP := Lib.hid happ
  have HB1 := Lib.hid hb1
  have HFF := Lib.hid hF
  have HRS := Lib.hid hr
  have HLN := Lib.hid hlen
  have HFN := Lib.hid hf0
  have HLL := Lib.hid hl
  have HBA := Lib.hid hbase
  have n0 : (0 : Int) ≤ (l.length : Int) := by omega
  have n1 : (l.length : Int) ≤ 2000 := by omega
  clear hb1 hs1 happ hF hr hlen hf2 hrt hl hbase h hnm hf0
  go_enter Try.func29, Try.ntmps29
  go_wp2_with (at_builtin; refine wpList_app rfl _ _ _ _ rfl _ _ rfl rfl _ HAP.out ?_; rintro v3 w3 ⟨⟨B, d, rfl, hfr⟩, hb3⟩; have HFR := Lib.hid hfr; have HB3 := Lib.hid ((HB1.out.mono HBA.out).trans hb3); clear hfr hb3)
  obtain ⟨g, hBe, hbg, _⟩ := HFR.out.fd HFF.out (by simp)
  subst hBe
  have HBG := Lib.hid hbg
  clear hbg
  go_loopg [5] l.length (fun gk v5 wr => ∃ (i : Nat) (p s : List Fi), gk = p.length ∧ v5 = .int .i64 i ∧ p.length = i ∧ l = p ++ s ∧ (∀ x ∈ s, ltF f x = true) ∧ FrP F base wr (some ⟨g, 0, none⟩) d (p ++ f :: s) ∧ Below base w wr)
  case atStart => exact ⟨l.length, l, [], rfl, by go_num, rfl, by simp, (fun x hx => by cases hx), HFR.out, HB3.out⟩
  case round =>
    obtain ⟨i, p, s, rfl, rfl, hi, hps, hall, hfr, hb⟩ := hrel
    have HFR2 := Lib.hid hfr
    have HBB := Lib.hid hb
    have HALL := Lib.hid hall
    rcases List.eq_nil_or_concat p with rfl | ⟨p0, z, rfl⟩
    · -- at the beginning
      have hi0 : i = 0 := by simp at hi; omega
      subst hi0
      have g1 : ¬ (0 : Int) < ((0 : Nat) : Int) := by omega
      have HE := Lib.hid (show FrP F base wr (some ⟨g, 0, none⟩) d (Srt.put ltF f l) by
        rw [hps]
        simp only [List.nil_append] at hfr ⊢
        have := put_at (f := f) (s := s) (p := []) (fun x hx => hall x (List.mem_of_mem_head? hx)) (fun x hx => by cases hx)
        simp only [List.nil_append] at this
        rw [this]; exact hfr)
      clear hfr hb hall hi hps
      go_wp2
      refine wp_region_held_drew (S := fun V => Below wr.heap.size wr V) (by kernel_rfl) (Below.refl _ _).drew (fun hS0 => ?_)
      refine wpAnyH_take (i := 0) (v := (.int .i64 (0 : Nat))) rfl (by kernel_rfl) (by kernel_rfl) (by kernel_rfl) (fun _ _ _ h => h) (Or.inl ⟨rfl, fun w' hS => by (unfold execOp; go_simp)⟩) hS0 ?_
      simp only [Act.put, List.getElem_toArray, List.getElem_cons_zero, List.getElem_cons_succ, List.setIfInBounds_toArray, List.set_cons_zero, List.set_cons_succ]
      refine wpAnyH_take (i := 1) (v := (.bool false)) rfl (by kernel_rfl) (by kernel_rfl) (by kernel_rfl) (fun _ _ _ h => h) (Or.inl ⟨rfl, fun w' hS => by (unfold execOp; go_simp)⟩) hS0 ?_
      simp only [Act.put, List.getElem_toArray, List.getElem_cons_zero, List.getElem_cons_succ, List.setIfInBounds_toArray, List.set_cons_zero, List.set_cons_succ]
      refine wpAnyH_take (i := 2) (v := (.bool false)) rfl (by kernel_rfl) (by kernel_rfl) (by kernel_rfl) (fun _ _ _ h => h) (Or.inl ⟨rfl, fun w' hS => by (unfold execOp; go_simp)⟩) hS0 ?_
      simp only [Act.put, List.getElem_toArray, List.getElem_cons_zero, List.getElem_cons_succ, List.setIfInBounds_toArray, List.set_cons_zero, List.set_cons_succ]
      refine wpAnyH_take (i := 3) (v := undef) rfl (by kernel_rfl) (by kernel_rfl) (by kernel_rfl) (fun _ _ _ h => h) (Or.inr ⟨by kernel_rfl, rfl⟩) hS0 ?_
      simp only [Act.put, List.getElem_toArray, List.getElem_cons_zero, List.getElem_cons_succ, List.setIfInBounds_toArray, List.set_cons_zero, List.set_cons_succ]
      refine wpAnyH_take (i := 4) (v := undef) rfl (by kernel_rfl) (by kernel_rfl) (by kernel_rfl) (fun _ _ _ h => h) (Or.inr ⟨by kernel_rfl, rfl⟩) hS0 ?_
      simp only [Act.put, List.getElem_toArray, List.getElem_cons_zero, List.getElem_cons_succ, List.setIfInBounds_toArray, List.set_cons_zero, List.set_cons_succ]
      refine wpAnyH_take (i := 5) (v := undef) rfl (by kernel_rfl) (by kernel_rfl) (by kernel_rfl) (fun _ _ _ h => h) (Or.inr ⟨by kernel_rfl, rfl⟩) hS0 ?_
      simp only [Act.put, List.getElem_toArray, List.getElem_cons_zero, List.getElem_cons_succ, List.setIfInBounds_toArray, List.set_cons_zero, List.set_cons_succ]
      refine wpAnyH_take (i := 6) (v := undef) rfl (by kernel_rfl) (by kernel_rfl) (by kernel_rfl) (fun _ _ _ h => h) (Or.inr ⟨by kernel_rfl, rfl⟩) hS0 ?_
      simp only [Act.put, List.getElem_toArray, List.getElem_cons_zero, List.getElem_cons_succ, List.setIfInBounds_toArray, List.set_cons_zero, List.set_cons_succ]
      refine wpAnyH_take (i := 7) (v := undef) rfl (by kernel_rfl) (by kernel_rfl) (by kernel_rfl) (fun _ _ _ h => h) (Or.inr ⟨by kernel_rfl, rfl⟩) hS0 ?_
      simp only [Act.put, List.getElem_toArray, List.getElem_cons_zero, List.getElem_cons_succ, List.setIfInBounds_toArray, List.set_cons_zero, List.set_cons_succ]
      refine wpAnyH_take (i := 8) (v := undef) rfl (by kernel_rfl) (by kernel_rfl) (by kernel_rfl) (fun _ _ _ h => h) (Or.inr ⟨by kernel_rfl, rfl⟩) hS0 ?_
      simp only [Act.put, List.getElem_toArray, List.getElem_cons_zero, List.getElem_cons_succ, List.setIfInBounds_toArray, List.set_cons_zero, List.set_cons_succ]
      refine wpAnyH_take (i := 9) (v := undef) rfl (by kernel_rfl) (by kernel_rfl) (by kernel_rfl) (fun _ _ _ h => h) (Or.inr ⟨by kernel_rfl, rfl⟩) hS0 ?_
      simp only [Act.put, List.getElem_toArray, List.getElem_cons_zero, List.getElem_cons_succ, List.setIfInBounds_toArray, List.set_cons_zero, List.set_cons_succ]
      refine wpAnyH_take (i := 10) (v := undef) rfl (by kernel_rfl) (by kernel_rfl) (by kernel_rfl) (fun _ _ _ h => h) (Or.inr ⟨by kernel_rfl, rfl⟩) hS0 ?_
      simp only [Act.put, List.getElem_toArray, List.getElem_cons_zero, List.getElem_cons_succ, List.setIfInBounds_toArray, List.set_cons_zero, List.set_cons_succ]
      refine wpAnyH_take (i := 11) (v := undef) rfl (by kernel_rfl) (by kernel_rfl) (by kernel_rfl) (fun _ _ _ h => h) (Or.inr ⟨by kernel_rfl, rfl⟩) hS0 ?_
      simp only [Act.put, List.getElem_toArray, List.getElem_cons_zero, List.getElem_cons_succ, List.setIfInBounds_toArray, List.set_cons_zero, List.set_cons_succ]
      refine wpAnyH_take (i := 12) (v := undef) rfl (by kernel_rfl) (by kernel_rfl) (by kernel_rfl) (fun _ _ _ h => h) (Or.inr ⟨by kernel_rfl, rfl⟩) hS0 ?_
      simp only [Act.put, List.getElem_toArray, List.getElem_cons_zero, List.getElem_cons_succ, List.setIfInBounds_toArray, List.set_cons_zero, List.set_cons_succ]
      refine wpAnyH_take (i := 13) (v := undef) rfl (by kernel_rfl) (by kernel_rfl) (by kernel_rfl) (fun _ _ _ h => h) (Or.inr ⟨by kernel_rfl, rfl⟩) hS0 ?_
      simp only [Act.put, List.getElem_toArray, List.getElem_cons_zero, List.getElem_cons_succ, List.setIfInBounds_toArray, List.set_cons_zero, List.set_cons_succ]
      refine wpAnyH_take (i := 14) (v := undef) rfl (by kernel_rfl) (by kernel_rfl) (by kernel_rfl) (fun _ _ _ h => h) (Or.inr ⟨by kernel_rfl, rfl⟩) hS0 ?_
      simp only [Act.put, List.getElem_toArray, List.getElem_cons_zero, List.getElem_cons_succ, List.setIfInBounds_toArray, List.set_cons_zero, List.set_cons_succ]
      refine wpAnyH_take (i := 15) (v := (.bool false)) rfl (by kernel_rfl) (by kernel_rfl) (by kernel_rfl) (fun _ _ _ h => h) (Or.inl ⟨rfl, fun w' hS => by (unfold execOp; go_simp)⟩) hS0 ?_
      simp only [Act.put, List.getElem_toArray, List.getElem_cons_zero, List.getElem_cons_succ, List.setIfInBounds_toArray, List.set_cons_zero, List.set_cons_succ]
      refine wpAnyH_done (by kernel_rfl) ?_ _
      go_wp2
      go_ret
      exact ⟨⟨_, d, by rw [HLN.out]; rfl, HE.out.bel ((Below.refl _ _).drew)⟩, HBB.out.drew⟩
    · rw [List.concat_eq_append] at *
      have el : p0 ++ [z] ++ f :: s = p0 ++ z :: ([] ++ f :: s) := by simp
      have er : p0 ++ f :: ([] ++ z :: s) = p0 ++ f :: (z :: s) := rfl
      rw [el] at hfr
      obtain ⟨I, hI⟩ : ∃ I, p0.length = I := ⟨_, rfl⟩
      have hl2 := congrArg List.length hps
      simp only [List.length_append, List.length_cons, List.length_nil] at hi hl2
      have jI : I + 1 = i := by omega
      have gi : (p0 ++ z :: ([] ++ f :: s))[i]? = some f := by
        have := sw_get2 p0 [] s z f
        rwa [hI, List.length_nil, Nat.add_zero, jI] at this
      have gI : (p0 ++ z :: ([] ++ f :: s))[I]? = some z := by
        have := sw_get1 p0 [] s z f
        rwa [hI] at this
      have gs : ((p0 ++ z :: ([] ++ f :: s)).set i z).set I f = p0 ++ f :: ([] ++ z :: s) := by
        have := sw_21 p0 [] s z f
        rwa [hI, List.length_nil, Nat.add_zero, jI] at this
      have ll : (p0 ++ z :: ([] ++ f :: s)).length = l.length + 1 := by simp only [List.length_append, List.length_cons, List.length_nil]; omega
      have i0 : (0 : Int) ≤ (I : Int) := by omega
      have i1 : (I : Int) < ((l.length : Int) + 1) := by omega
      have j1 : (i : Int) < ((l.length : Int) + 1) := by omega
      have j2 : I < l.length + 1 := by omega
      have j3 : i < l.length + 1 := by omega
      have ei : (i : Int) - 1 = (I : Int) := by omega
      have wi : IntKind.i64.wrap (I : Int) = (I : Int) := wrap_nat (by have := HLL.out; omega)
      have g1 : (0 : Int) < (i : Int) := by omega
      have g2 : decide (0 < i) = true := decide_eq_true (by omega)
      obtain ⟨g', hge, _, hfd⟩ := hfr.fd HFF.out (by omega)
      obtain rfl : g = g' := by injection hge with hge; injection hge with hge
      have GL := Lib.hid hfd.lt
      cases hq : ltF f z with
      | false =>
        have HE := Lib.hid (show FrP F base wr (some ⟨g, 0, none⟩) d (Srt.put ltF f l) by
          have := put_at (f := f) (s := s) (p := p0 ++ [z]) (fun x hx => hall x (List.mem_of_mem_head? hx)) (put_end (s := s) (by rw [← hps]; exact HRS.out) hq)
          rw [hps, this, el]; exact hfr)
        obtain ⟨a1, a2, a3, a4, a5, a6, a7, a8, a9, hra, ac0, ac1, ac2, ac3, ac4, ac5⟩ := (hfd).at_ gi
        obtain ⟨a0, an⟩ : ∃ zz, f.name = zz := ⟨_, rfl⟩
        rw [an] at hra ac0
        obtain ⟨b1, b2, b3, b4, b5, b6, b7, b8, b9, hrb, bc0, bc1, bc2, bc3, bc4, bc5⟩ := (hfd).at_ gI
        obtain ⟨b0, bn⟩ : ∃ zz, z.name = zz := ⟨_, rfl⟩
        rw [bn] at hrb bc0
        have hbl : Op.bytesLess a0.toList b0.toList = false := by rw [less_eq, ← an, ← bn]; exact hq
        clear hfr hb hall hi hps el er hI hl2 jI gi gI gs ll j2 j3 hge hfd hq hra hrb an bn
        go_wp2
        refine wp_region_held_drew (S := fun V => Below wr.heap.size wr V) (by kernel_rfl) (Below.refl _ _).drew (fun hS0 => ?_)
        refine wpAnyH_take (i := 0) (v := (.int .i64 (i : Nat))) rfl (by kernel_rfl) (by kernel_rfl) (by kernel_rfl) (fun _ _ _ h => h) (Or.inl ⟨rfl, fun w' hS => by (unfold execOp; go_simp)⟩) hS0 ?_
        simp only [Act.put, List.getElem_toArray, List.getElem_cons_zero, List.getElem_cons_succ, List.setIfInBounds_toArray, List.set_cons_zero, List.set_cons_succ]
        refine wpAnyH_take (i := 1) (v := (.bool true)) rfl (by kernel_rfl) (by kernel_rfl) (by kernel_rfl) (fun _ _ _ h => h) (Or.inl ⟨rfl, fun w' hS => by (unfold execOp; go_simp)⟩) hS0 ?_
        simp only [Act.put, List.getElem_toArray, List.getElem_cons_zero, List.getElem_cons_succ, List.setIfInBounds_toArray, List.set_cons_zero, List.set_cons_succ]
        refine wpAnyH_take (i := 2) (v := (.bool true)) rfl (by kernel_rfl) (by kernel_rfl) (by kernel_rfl) (fun _ _ _ h => h) (Or.inl ⟨rfl, fun w' hS => by (unfold execOp; go_simp)⟩) hS0 ?_
        simp only [Act.put, List.getElem_toArray, List.getElem_cons_zero, List.getElem_cons_succ, List.setIfInBounds_toArray, List.set_cons_zero, List.set_cons_succ]
        refine wpAnyH_take (i := 3) (v := (.slice (some ⟨g, 0, none⟩) (l.length + 1) d)) rfl (by kernel_rfl) (by kernel_rfl) (by kernel_rfl) (fun _ _ _ h => h) (Or.inl ⟨by kernel_rfl, fun w' hS => by (unfold execOp; go_simp)⟩) hS0 ?_
        simp only [Act.put, List.getElem_toArray, List.getElem_cons_zero, List.getElem_cons_succ, List.setIfInBounds_toArray, List.set_cons_zero, List.set_cons_succ]
        refine wpAnyH_take (i := 4) (v := (.int .i64 (i : Nat))) rfl (by kernel_rfl) (by kernel_rfl) (by kernel_rfl) (fun _ _ _ h => h) (Or.inl ⟨by kernel_rfl, fun w' hS => by (unfold execOp; go_simp)⟩) hS0 ?_
        simp only [Act.put, List.getElem_toArray, List.getElem_cons_zero, List.getElem_cons_succ, List.setIfInBounds_toArray, List.set_cons_zero, List.set_cons_succ]
        refine wpAnyH_take (i := 5) (v := (.pointer (some ⟨g, i * 6, none⟩))) rfl (by kernel_rfl) (by kernel_rfl) (by kernel_rfl) (fun _ _ _ h => h) (Or.inl ⟨by kernel_rfl, fun w' hS => by (unfold execOp; go_simp)⟩) hS0 ?_
        simp only [Act.put, List.getElem_toArray, List.getElem_cons_zero, List.getElem_cons_succ, List.setIfInBounds_toArray, List.set_cons_zero, List.set_cons_succ]
        refine wpAnyH_take (i := 6) (v := (.pointer (some ⟨g, i * 6, none⟩))) rfl (by kernel_rfl) (by kernel_rfl) (by kernel_rfl) (fun _ _ _ h => h) (Or.inl ⟨by kernel_rfl, fun w' hS => by (unfold execOp; go_simp)⟩) hS0 ?_
        simp only [Act.put, List.getElem_toArray, List.getElem_cons_zero, List.getElem_cons_succ, List.setIfInBounds_toArray, List.set_cons_zero, List.set_cons_succ]
        refine wpAnyH_take (i := 7) (v := (.string a0)) rfl (by kernel_rfl) (by kernel_rfl) (by kernel_rfl) (fun _ _ _ h => h) (Or.inl ⟨by kernel_rfl, fun w' hS => by (have y0 := (World.cell?_of_block (hS.block g GL.out)).trans ac0; unfold execOp; go_simp)⟩) hS0 ?_
        simp only [Act.put, List.getElem_toArray, List.getElem_cons_zero, List.getElem_cons_succ, List.setIfInBounds_toArray, List.set_cons_zero, List.set_cons_succ]
        refine wpAnyH_take (i := 8) (v := (.slice (some ⟨g, 0, none⟩) (l.length + 1) d)) rfl (by kernel_rfl) (by kernel_rfl) (by kernel_rfl) (fun _ _ _ h => h) (Or.inl ⟨by kernel_rfl, fun w' hS => by (unfold execOp; go_simp)⟩) hS0 ?_
        simp only [Act.put, List.getElem_toArray, List.getElem_cons_zero, List.getElem_cons_succ, List.setIfInBounds_toArray, List.set_cons_zero, List.set_cons_succ]
        refine wpAnyH_take (i := 9) (v := (.int .i64 (i : Nat))) rfl (by kernel_rfl) (by kernel_rfl) (by kernel_rfl) (fun _ _ _ h => h) (Or.inl ⟨by kernel_rfl, fun w' hS => by (unfold execOp; go_simp)⟩) hS0 ?_
        simp only [Act.put, List.getElem_toArray, List.getElem_cons_zero, List.getElem_cons_succ, List.setIfInBounds_toArray, List.set_cons_zero, List.set_cons_succ]
        refine wpAnyH_take (i := 10) (v := (.int .i64 (I : Nat))) rfl (by kernel_rfl) (by kernel_rfl) (by kernel_rfl) (fun _ _ _ h => h) (Or.inl ⟨by kernel_rfl, fun w' hS => by (unfold execOp; go_simp)⟩) hS0 ?_
        simp only [Act.put, List.getElem_toArray, List.getElem_cons_zero, List.getElem_cons_succ, List.setIfInBounds_toArray, List.set_cons_zero, List.set_cons_succ]
        refine wpAnyH_take (i := 11) (v := (.pointer (some ⟨g, I * 6, none⟩))) rfl (by kernel_rfl) (by kernel_rfl) (by kernel_rfl) (fun _ _ _ h => h) (Or.inl ⟨by kernel_rfl, fun w' hS => by (unfold execOp; go_simp)⟩) hS0 ?_
        simp only [Act.put, List.getElem_toArray, List.getElem_cons_zero, List.getElem_cons_succ, List.setIfInBounds_toArray, List.set_cons_zero, List.set_cons_succ]
        refine wpAnyH_take (i := 12) (v := (.pointer (some ⟨g, I * 6, none⟩))) rfl (by kernel_rfl) (by kernel_rfl) (by kernel_rfl) (fun _ _ _ h => h) (Or.inl ⟨by kernel_rfl, fun w' hS => by (unfold execOp; go_simp)⟩) hS0 ?_
        simp only [Act.put, List.getElem_toArray, List.getElem_cons_zero, List.getElem_cons_succ, List.setIfInBounds_toArray, List.set_cons_zero, List.set_cons_succ]
        refine wpAnyH_take (i := 13) (v := (.string b0)) rfl (by kernel_rfl) (by kernel_rfl) (by kernel_rfl) (fun _ _ _ h => h) (Or.inl ⟨by kernel_rfl, fun w' hS => by (have y0 := (World.cell?_of_block (hS.block g GL.out)).trans bc0; unfold execOp; go_simp)⟩) hS0 ?_
        simp only [Act.put, List.getElem_toArray, List.getElem_cons_zero, List.getElem_cons_succ, List.setIfInBounds_toArray, List.set_cons_zero, List.set_cons_succ]
        refine wpAnyH_take (i := 14) (v := (.bool false)) rfl (by kernel_rfl) (by kernel_rfl) (by kernel_rfl) (fun _ _ _ h => h) (Or.inl ⟨by kernel_rfl, fun w' hS => by (unfold execOp; go_simp)⟩) hS0 ?_
        simp only [Act.put, List.getElem_toArray, List.getElem_cons_zero, List.getElem_cons_succ, List.setIfInBounds_toArray, List.set_cons_zero, List.set_cons_succ]
        refine wpAnyH_take (i := 15) (v := (.bool false)) rfl (by kernel_rfl) (by kernel_rfl) (by kernel_rfl) (fun _ _ _ h => h) (Or.inl ⟨rfl, fun w' hS => by (unfold execOp; go_simp)⟩) hS0 ?_
        simp only [Act.put, List.getElem_toArray, List.getElem_cons_zero, List.getElem_cons_succ, List.setIfInBounds_toArray, List.set_cons_zero, List.set_cons_succ]
        refine wpAnyH_done (by kernel_rfl) ?_ _
        go_wp2
        go_ret
        exact ⟨⟨_, d, by rw [HLN.out]; rfl, HE.out.bel ((Below.refl _ _).drew)⟩, HBB.out.drew⟩
      | true =>
        have hfr0 : FrP F base wr.drew (some ⟨g, 0, none⟩) d (p0 ++ z :: ([] ++ f :: s)) := hfr.bel ((Below.refl _ _).drew)
        have hb0 : Below base w wr.drew := hb.drew
        have HX0 := Lib.hid (show i = I + 1 ∧ l = p0 ++ (z :: s) ∧ (∀ x ∈ z :: s, ltF f x = true) ∧ I = p0.length from ⟨jI.symm, by rw [hps]; simp, fun x hx => by
          rcases List.mem_cons.1 hx with rfl | hx
          · exact hq
          · exact hall x hx, hI.symm⟩)
        clear hfr hb hall hps el hl2 hge hfd GL HFR2 HBB HALL
        go_wp2
        refine wp_region_held_drew (S := fun V => V = wr.drew) (by kernel_rfl) rfl (fun hS0 => ?_)
        clear hS0
        generalize wr.drew = W1 at hfr0 hb0 ⊢
        have hS0 : W1 = W1 := rfl
        obtain ⟨g', hge, hbg, hfd⟩ := hfr0.fd HFF.out (by omega)
        obtain rfl : g = g' := by injection hge with hge; injection hge with hge
        obtain ⟨a1, a2, a3, a4, a5, a6, a7, a8, a9, hra, ac0, ac1, ac2, ac3, ac4, ac5⟩ := (hfd).at_ gi
        obtain ⟨a0, an⟩ : ∃ zz, f.name = zz := ⟨_, rfl⟩
        rw [an] at hra ac0
        obtain ⟨b1, b2, b3, b4, b5, b6, b7, b8, b9, hrb, bc0, bc1, bc2, bc3, bc4, bc5⟩ := (hfd).at_ gI
        obtain ⟨b0, bn⟩ : ∃ zz, z.name = zz := ⟨_, rfl⟩
        rw [bn] at hrb bc0
        have hbl : Op.bytesLess a0.toList b0.toList = true := by rw [less_eq, ← an, ← bn]; exact hq
        refine wpAnyH_take (i := 0) (v := (.int .i64 (i : Nat))) rfl (by kernel_rfl) (by kernel_rfl) (by kernel_rfl) (fun _ _ _ h => h) (Or.inl ⟨rfl, fun w' hS => by (unfold execOp; go_simp)⟩) hS0 ?_
        simp only [Act.put, List.getElem_toArray, List.getElem_cons_zero, List.getElem_cons_succ, List.setIfInBounds_toArray, List.set_cons_zero, List.set_cons_succ]
        refine wpAnyH_take (i := 1) (v := (.bool true)) rfl (by kernel_rfl) (by kernel_rfl) (by kernel_rfl) (fun _ _ _ h => h) (Or.inl ⟨rfl, fun w' hS => by (unfold execOp; go_simp)⟩) hS0 ?_
        simp only [Act.put, List.getElem_toArray, List.getElem_cons_zero, List.getElem_cons_succ, List.setIfInBounds_toArray, List.set_cons_zero, List.set_cons_succ]
        refine wpAnyH_take (i := 2) (v := (.bool true)) rfl (by kernel_rfl) (by kernel_rfl) (by kernel_rfl) (fun _ _ _ h => h) (Or.inl ⟨rfl, fun w' hS => by (unfold execOp; go_simp)⟩) hS0 ?_
        simp only [Act.put, List.getElem_toArray, List.getElem_cons_zero, List.getElem_cons_succ, List.setIfInBounds_toArray, List.set_cons_zero, List.set_cons_succ]
        refine wpAnyH_take (i := 3) (v := (.slice (some ⟨g, 0, none⟩) (l.length + 1) d)) rfl (by kernel_rfl) (by kernel_rfl) (by kernel_rfl) (fun _ _ _ h => h) (Or.inl ⟨by kernel_rfl, fun w' hS => by (unfold execOp; go_simp)⟩) hS0 ?_
        simp only [Act.put, List.getElem_toArray, List.getElem_cons_zero, List.getElem_cons_succ, List.setIfInBounds_toArray, List.set_cons_zero, List.set_cons_succ]
        refine wpAnyH_take (i := 4) (v := (.int .i64 (i : Nat))) rfl (by kernel_rfl) (by kernel_rfl) (by kernel_rfl) (fun _ _ _ h => h) (Or.inl ⟨by kernel_rfl, fun w' hS => by (unfold execOp; go_simp)⟩) hS0 ?_
        simp only [Act.put, List.getElem_toArray, List.getElem_cons_zero, List.getElem_cons_succ, List.setIfInBounds_toArray, List.set_cons_zero, List.set_cons_succ]
        refine wpAnyH_take (i := 5) (v := (.pointer (some ⟨g, i * 6, none⟩))) rfl (by kernel_rfl) (by kernel_rfl) (by kernel_rfl) (fun _ _ _ h => h) (Or.inl ⟨by kernel_rfl, fun w' hS => by (unfold execOp; go_simp)⟩) hS0 ?_
        simp only [Act.put, List.getElem_toArray, List.getElem_cons_zero, List.getElem_cons_succ, List.setIfInBounds_toArray, List.set_cons_zero, List.set_cons_succ]
        refine wpAnyH_take (i := 6) (v := (.pointer (some ⟨g, i * 6, none⟩))) rfl (by kernel_rfl) (by kernel_rfl) (by kernel_rfl) (fun _ _ _ h => h) (Or.inl ⟨by kernel_rfl, fun w' hS => by (unfold execOp; go_simp)⟩) hS0 ?_
        simp only [Act.put, List.getElem_toArray, List.getElem_cons_zero, List.getElem_cons_succ, List.setIfInBounds_toArray, List.set_cons_zero, List.set_cons_succ]
        refine wpAnyH_take (i := 7) (v := (.string a0)) rfl (by kernel_rfl) (by kernel_rfl) (by kernel_rfl) (fun _ _ _ h => h) (Or.inl ⟨by kernel_rfl, fun w' hS => by (subst hS; unfold execOp; go_simp)⟩) hS0 ?_
        simp only [Act.put, List.getElem_toArray, List.getElem_cons_zero, List.getElem_cons_succ, List.setIfInBounds_toArray, List.set_cons_zero, List.set_cons_succ]
        refine wpAnyH_take (i := 8) (v := (.slice (some ⟨g, 0, none⟩) (l.length + 1) d)) rfl (by kernel_rfl) (by kernel_rfl) (by kernel_rfl) (fun _ _ _ h => h) (Or.inl ⟨by kernel_rfl, fun w' hS => by (unfold execOp; go_simp)⟩) hS0 ?_
        simp only [Act.put, List.getElem_toArray, List.getElem_cons_zero, List.getElem_cons_succ, List.setIfInBounds_toArray, List.set_cons_zero, List.set_cons_succ]
        refine wpAnyH_take (i := 9) (v := (.int .i64 (i : Nat))) rfl (by kernel_rfl) (by kernel_rfl) (by kernel_rfl) (fun _ _ _ h => h) (Or.inl ⟨by kernel_rfl, fun w' hS => by (unfold execOp; go_simp)⟩) hS0 ?_
        simp only [Act.put, List.getElem_toArray, List.getElem_cons_zero, List.getElem_cons_succ, List.setIfInBounds_toArray, List.set_cons_zero, List.set_cons_succ]
        refine wpAnyH_take (i := 10) (v := (.int .i64 (I : Nat))) rfl (by kernel_rfl) (by kernel_rfl) (by kernel_rfl) (fun _ _ _ h => h) (Or.inl ⟨by kernel_rfl, fun w' hS => by (unfold execOp; go_simp)⟩) hS0 ?_
        simp only [Act.put, List.getElem_toArray, List.getElem_cons_zero, List.getElem_cons_succ, List.setIfInBounds_toArray, List.set_cons_zero, List.set_cons_succ]
        refine wpAnyH_take (i := 11) (v := (.pointer (some ⟨g, I * 6, none⟩))) rfl (by kernel_rfl) (by kernel_rfl) (by kernel_rfl) (fun _ _ _ h => h) (Or.inl ⟨by kernel_rfl, fun w' hS => by (unfold execOp; go_simp)⟩) hS0 ?_
        simp only [Act.put, List.getElem_toArray, List.getElem_cons_zero, List.getElem_cons_succ, List.setIfInBounds_toArray, List.set_cons_zero, List.set_cons_succ]
        refine wpAnyH_take (i := 12) (v := (.pointer (some ⟨g, I * 6, none⟩))) rfl (by kernel_rfl) (by kernel_rfl) (by kernel_rfl) (fun _ _ _ h => h) (Or.inl ⟨by kernel_rfl, fun w' hS => by (unfold execOp; go_simp)⟩) hS0 ?_
        simp only [Act.put, List.getElem_toArray, List.getElem_cons_zero, List.getElem_cons_succ, List.setIfInBounds_toArray, List.set_cons_zero, List.set_cons_succ]
        refine wpAnyH_take (i := 13) (v := (.string b0)) rfl (by kernel_rfl) (by kernel_rfl) (by kernel_rfl) (fun _ _ _ h => h) (Or.inl ⟨by kernel_rfl, fun w' hS => by (subst hS; unfold execOp; go_simp)⟩) hS0 ?_
        simp only [Act.put, List.getElem_toArray, List.getElem_cons_zero, List.getElem_cons_succ, List.setIfInBounds_toArray, List.set_cons_zero, List.set_cons_succ]
        refine wpAnyH_take (i := 14) (v := (.bool true)) rfl (by kernel_rfl) (by kernel_rfl) (by kernel_rfl) (fun _ _ _ h => h) (Or.inl ⟨by kernel_rfl, fun w' hS => by (unfold execOp; go_simp)⟩) hS0 ?_
        simp only [Act.put, List.getElem_toArray, List.getElem_cons_zero, List.getElem_cons_succ, List.setIfInBounds_toArray, List.set_cons_zero, List.set_cons_succ]
        refine wpAnyH_take (i := 15) (v := (.bool true)) rfl (by kernel_rfl) (by kernel_rfl) (by kernel_rfl) (fun _ _ _ h => h) (Or.inl ⟨rfl, fun w' hS => by (unfold execOp; go_simp)⟩) hS0 ?_
        simp only [Act.put, List.getElem_toArray, List.getElem_cons_zero, List.getElem_cons_succ, List.setIfInBounds_toArray, List.set_cons_zero, List.set_cons_succ]
        refine wpAnyH_done (by kernel_rfl) ?_ _
        have hp1 := hfr0.put HFF.out (i := i) (by omega) hrb
        have hra1 : RFi (putCs W1 g (i * 6) [.string b0, .int .i64 b1, .string b2, .string b3, .slice b4 b5 b6, .slice b7 b8 b9]) F f [.string a0, .int .i64 a1, .string a2, .string a3, .slice a4 a5 a6, .slice a7 a8 a9] := RFi_keeps _ _ _ _ _ _ (fun k hk hl => hp1.2.1.block k hl (fun e => by have e2 : k = g := e; have := HFF.out k hk; have := hp1.2.2; omega)) hp1.2.1.size (fun _ _ h => h) hra
        have hp2 := hp1.1.put HFF.out (i := I) (by rw [List.length_set]; omega) hra1
        rw [gs] at hp2
        obtain ⟨y, hy⟩ : ∃ y, ((p0 ++ z :: ([] ++ f :: s)).set i z)[I]? = some y := ⟨_, List.getElem?_eq_getElem (by rw [List.length_set]; omega)⟩
        obtain ⟨g', hge2, _, hfd1⟩ := hp1.1.fd HFF.out (by rw [List.length_set]; omega)
        obtain rfl : g = g' := by injection hge2 with hge2; injection hge2 with hge2
        obtain ⟨y1, y2, y3, y4, y5, y6, y7, y8, y9, hry, yc0, yc1, yc2, yc3, yc4, yc5⟩ := (hfd1).at_ hy
        obtain ⟨y0, yn⟩ : ∃ zz, y.name = zz := ⟨_, rfl⟩
        rw [yn] at hry yc0
        have fi0 := hfd.thaw (i * 6)
        have fj0 := hfd1.thaw (I * 6)
        have fi1 := hfd.thaw (i * 6 + 1)
        have fj1 := hfd1.thaw (I * 6 + 1)
        have fi2 := hfd.thaw (i * 6 + 2)
        have fj2 := hfd1.thaw (I * 6 + 2)
        have fi3 := hfd.thaw (i * 6 + 3)
        have fj3 := hfd1.thaw (I * 6 + 3)
        have fi4 := hfd.thaw (i * 6 + 4)
        have fj4 := hfd1.thaw (I * 6 + 4)
        have fi5 := hfd.thaw (i * 6 + 5)
        have fj5 := hfd1.thaw (I * 6 + 5)
        have GL1 := hfd.lt
        have e7 : ((((((W1.setCell ⟨g, i * 6, none⟩ (.string b0)).setCell ⟨g, i * 6 + 1, none⟩ (.int .i64 b1)).setCell ⟨g, i * 6 + 2, none⟩ (.string b2)).setCell ⟨g, i * 6 + 3, none⟩ (.string b3)).setCell ⟨g, i * 6 + 4, none⟩ (.slice b4 b5 b6)).setCell ⟨g, i * 6 + 5, none⟩ (.slice b7 b8 b9)) = putCs W1 g (i * 6) [.string b0, .int .i64 b1, .string b2, .string b3, .slice b4 b5 b6, .slice b7 b8 b9] := rfl
        rw [← e7] at yc0 yc1 yc2 yc3 yc4 yc5 fj0 fj1 fj2 fj3 fj4 fj5
        have HX := Lib.hid (show FrP F base (putCs (putCs W1 g (i * 6) [.string b0, .int .i64 b1, .string b2, .string b3, .slice b4 b5 b6, .slice b7 b8 b9]) g (I * 6) [.string a0, .int .i64 a1, .string a2, .string a3, .slice a4 a5 a6, .slice a7 a8 a9]) (some ⟨g, 0, none⟩) d (p0 ++ f :: (z :: s)) ∧ Below base W1 (putCs (putCs W1 g (i * 6) [.string b0, .int .i64 b1, .string b2, .string b3, .slice b4 b5 b6, .slice b7 b8 b9]) g (I * 6) [.string a0, .int .i64 a1, .string a2, .string a3, .slice a4 a5 a6, .slice a7 a8 a9]) from ⟨hp2.1, (hp1.2.1.trans hp2.2.1).belowN (Nat.le_trans HBA.out hb0.size) (fun k hk e => by have e2 : k = g := e; omega)⟩)
        clear hfr0 hbg er jI gi gI gs ll hge hge2 hfd hfd1 hq hra hrb hra1 hp1 hp2 an bn hy hry yn e7 hI
        go_wp2
        go_roundg p0.length
        case measure => first | (have := HX0.out; omega) | (simp; done)
        case rel =>
          obtain ⟨x1, x2, x3, x4⟩ := HX0.out
          have hal := (Below.refl _ (putCs (putCs W1 g (i * 6) [.string b0, .int .i64 b1, .string b2, .string b3, .slice b4 b5 b6, .slice b7 b8 b9]) g (I * 6) [.string a0, .int .i64 a1, .string a2, .string a3, .slice a4 a5 a6, .slice a7 a8 a9])).alloc (Nat.le_refl _) (.cells #[.string a0, .int .i64 a1, .string a2, .string a3, .slice a4 a5 a6, .slice a7 a8 a9] 40)
          have hz1 := HX.out.1.bel hal
          have hz2 := HX.out.2.trans (hal.mono (Nat.le_trans HBA.out (Nat.le_trans hb0.size HX.out.2.size)))
          have hz3 := hb0.trans hz2
          exact ⟨I, p0, z :: s, rfl, rfl, x4.symm, x2, x3, hz1, hz3⟩
end Go.Proofs.Ytcfgjfahjaimiaa

namespace Go.Proofs.Ytcfgjfahjaimiaa
open Go.RowKit
set_option linter.unusedVariables false
set_option linter.unusedSimpArgs false

def varI : List Fi → ByteArray → Option Nat
  | [], _ => none
  | u :: r, p => if u.name = p then some 0 else (varI r p).map (· + 1)
theorem varI_drop {l : List Fi} {p : ByteArray} {j : Nat} {u : Fi} (h : l[j]? = some u) : varI (l.drop j) p = if u.name = p then some 0 else (varI (l.drop (j + 1)) p).map (· + 1) := by
  obtain ⟨h1, h2⟩ := List.getElem?_eq_some_iff.1 h
  rw [List.drop_eq_getElem_cons h1, h2, varI]
theorem var_both (l : List Fi) (p : ByteArray) : varP l p = (varI l p).bind (l[·]?) := by
  induction l with
  | nil => rfl
  | cons u r ih =>
    simp only [varP, varI]
    by_cases h : u.name = p
    · simp [h]
    · simp only [h, if_false, ih]
      cases varI r p with
      | none => rfl
      | some i => simp
theorem varI_at {us : List Fi} {p : ByteArray} : ∀ {i : Nat}, varI us p = some i → ∃ u, us[i]? = some u ∧ varP us p = some u := by
  induction us with
  | nil => intro i h; cases h
  | cons a r ih =>
    intro i h
    rw [varI] at h
    by_cases e : a.name = p
    · rw [if_pos e] at h
      cases h
      exact ⟨a, rfl, by rw [varP, if_pos e]⟩
    · rw [if_neg e] at h
      obtain ⟨j, hj, rfl⟩ := Option.map_eq_some_iff.1 h
      obtain ⟨u, h1, h2⟩ := ih hj
      exact ⟨u, by simpa using h1, by rw [varP, if_neg e]; exact h2⟩
def varN (us : List Fi) (p : ByteArray) : Int := idxO (varI us p)
set_option maxRecDepth 100000 in
set_option maxHeartbeats 4000000 in
theorem known_any (us : List Fi) (p : ByteArray) (hlen : us.length ≤ 140737488355328) (w : World) (F : Nat → Prop) (A : Option Addr) (c : Nat) (hr : SlG 6 RFi w F A us) :
    Calls Try.prog 31 #[.slice A us.length c, .string p] w fun e w' => e = .returned (.int .i64 (varN us p)) ∧ w = w' := by
  have HA := Lib.hid hr
  have n0 : (0 : Int) ≤ (us.length : Int) := by omega
  have n1 : (us.length : Int) ≤ 140737488355328 := by omega
  obtain ⟨res, hres⟩ : ∃ r, varI us p = r := ⟨_, rfl⟩
  have HR := Lib.hid hres
  have HN := Lib.hid (show varN us p = idxO res by rw [varN, hres])
  generalize varN us p = N at HN ⊢
  clear hr hres
  go_enter Try.func31, Try.ntmps31
  go_wp2
  go_loopg [5] us.length (fun gk v5 wr => ∃ (j : Nat), j + gk = us.length ∧ v5 = .int .i64 j ∧ w = wr ∧ res = (varI (us.drop j) p).map (· + j))
  case atStart => exact ⟨0, by simp, rfl, rfl, by rw [← HR.out]; simp⟩
  case round =>
    obtain ⟨j, hj, rfl, rfl, hsm⟩ := hrel
    cases gk with
    | zero =>
      obtain rfl : j = us.length := by omega
      rw [List.drop_length, varI, Option.map_none] at hsm
      subst hsm
      obtain rfl : N = -1 := HN.out
      clear hj
      go_wp2
      go_ret
      exact ⟨rfl, rfl⟩
    | succ f =>
      have hjl : j < us.length := by omega
      obtain ⟨u, hu⟩ : ∃ u, us[j]? = some u := ⟨_, List.getElem?_eq_getElem hjl⟩
      have j1 : (j : Int) < (us.length : Int) := by omega
      have j0 : (0 : Int) ≤ (j : Int) := by omega
      have j2 : (j : Int) ≤ 140737488355328 := by omega
      obtain ⟨q, o, vs, rfl, hFq, hql, hrep, hat⟩ := HA.out.at_ RFi_sized hu
      rw [varI_drop hu] at hsm
      obtain ⟨pk, ft⟩ := u
      obtain ⟨tv, rfl, _⟩ := hrep
      dsimp only at hsm
      have q0 := hat 0 _ rfl
      rw [Nat.add_zero] at q0
      dsimp only at q0
      clear hat hu
      by_cases e : pk = p
      · subst e
        rw [if_pos rfl] at hsm
        obtain rfl : N = (j : Int) := by rw [HN.out, hsm]; simp [idxO]
        clear hsm
        go_wp2
        go_ret
        exact ⟨rfl, rfl⟩
      · rw [if_neg e] at hsm
        have eb : (pk.toList == p.toList) = false := by simpa [toList_inj] using e
        have HS := Lib.hid hsm
        clear e hsm
        go_wp2
        go_roundg f
        case measure => omega
        case rel => exact ⟨j + 1, by omega, by go_num, rfl, by rw [HS.out, Option.map_map]; congr 1; funext x; simp only [Function.comp]; omega⟩
theorem isort_snoc (l : List Fi) (x : Fi) : Srt.isort ltF (l ++ [x]) = Srt.put ltF x (Srt.isort ltF l) := by
  unfold Srt.isort
  rw [List.foldl_append]
  rfl
set_option maxRecDepth 100000 in
set_option maxHeartbeats 8000000 in
theorem rmeth8_any (us : List Un) (hok : ∀ u ∈ us, u.ok 140737488355328) (hlen : us.length ≤ 140737488355328) (hcn : ∀ u ∈ us, u.cnt ≤ 2000) (k0 : Int) (hk8 : k0 = 8) (p0 n0 : ByteArray) (A0 B0 : Option Addr) (m0 c0 l0 d0 : Nat) (w : World) (F : Nat → Prop) (A V : Option Addr) (c v1 v2 : Nat) (hr : SlG 4 RUn w F A us) (hF : ∀ k, F k → k < w.heap.size) :
    Calls Try.prog 13 #[.slice A us.length c, .slice V v1 v2, .agg #[.int .i64 k0, .string p0, .string n0, .slice A0 m0 c0, .slice B0 l0 d0]] w (MeP F (Srt.isort ltF (ifaceP us k0 p0 n0)) w) := by
  have hb1 := ((Below.refl _ w).alloc (Nat.le_refl _) (.cells #[.int .i64 k0, .string p0, .string n0, .slice A0 m0 c0, .slice B0 l0 d0] 26))
  have hfew := ifaceP_few hok hcn k0 p0 n0
  have HC := Lib.hid (rfind_any us hok p0 n0 hlen (w.alloc (.cells #[.int .i64 k0, .string p0, .string n0, .slice A0 m0 c0, .slice B0 l0 d0] 26)) F A c (hr.bel RUn_keeps hb1) (fun k h => Nat.lt_of_lt_of_le (hF k h) hb1.size))
  have ho : ifaceP us k0 p0 n0 = if ((fndP us p0 n0).isSome = true ∧ ((fndP us p0 n0).getD dlZ).kind = 4) then ((fndP us p0 n0).getD dlZ).fields else [] := by
    unfold ifaceP ifP
    rw [if_pos hk8]
    cases fndP us p0 n0 with
    | none => rfl
    | some d =>
      show ((if d.kind = 4 then some d else none).getD dlZ).fields = if (true = true ∧ d.kind = 4) then d.fields else []
      by_cases h4 : d.kind = 4
      · rw [if_pos h4, if_pos ⟨rfl, h4⟩]; rfl
      · rw [if_neg h4, if_neg (fun h => h4 h.2)]; rfl
  rw [ho] at hfew ⊢
  clear ho
  generalize (fndP us p0 n0).isSome = b at HC hfew ⊢
  generalize (fndP us p0 n0).getD dlZ = d at HC hfew ⊢
  have e5 : (k0 == 5) = false := by rw [hk8]; decide
  have e8 : (k0 == 8) = true := by rw [hk8]; decide
  have HB1 := Lib.hid hb1
  have HLT := Lib.hid hF
  obtain ⟨dk, dn, dof, dv, dt, fs⟩ := d
  dsimp only at hfew ⊢
  obtain ⟨L, hL⟩ : ∃ L, (if (b = true ∧ dk = 4) then fs else []) = L := ⟨_, rfl⟩
  rw [hL] at hfew ⊢
  have HLE := Lib.hid hL
  have HFW := Lib.hid hfew
  clear hL hfew hb1 hr hF hok hcn hk8
  go_enter Try.func13, Try.ntmps13
  go_wp2_with (go_at_call 30; refine HC.out.mono ?_; rintro e w5 ⟨⟨vs, rfl, hv⟩, hb5⟩; obtain ⟨tv, Af, cf, rfl, hrt, hfs⟩ := hv; dsimp only at hrt hfs; obtain ⟨tk, tp, tn, A3, a3', a3, B3, b3', b3, rfl⟩ := hrt.shape; obtain ⟨afl, hafl⟩ : ∃ z, fs.length = z := ⟨_, rfl⟩; simp only [tyC, List.cons_append, List.nil_append, hafl]; have hw5 := HB1.out.trans (hb5.mono HB1.out.size); have hw6 := hw5.trans (((Below.refl _ w5).alloc (Nat.le_refl _) (.cells #[.int .i64 dk, .string dn, .string dof, .int .i64 dv, .int .i64 tk, .string tp, .string tn, .slice A3 a3' a3, .slice B3 b3' b3, .slice Af afl cf] 57)).mono hw5.size); have HW6 := Lib.hid hw6; have HFS := Lib.hid (hfs.bel RFi_keeps ((Below.refl _ w5).alloc (Nat.le_refl _) (.cells #[.int .i64 dk, .string dn, .string dof, .int .i64 dv, .int .i64 tk, .string tp, .string tn, .slice A3 a3' a3, .slice B3 b3' b3, .slice Af afl cf] 57))); have HAF := Lib.hid hafl; have HX := Lib.hid (Blk.new w5 57 #[.int .i64 dk, .string dn, .string dof, .int .i64 dv, .int .i64 tk, .string tp, .string tn, .slice A3 a3' a3, .slice B3 b3' b3, .slice Af afl cf]); clear hb5 hw5 hw6 hrt hfs hafl)
  generalize hW : (w5.alloc (.cells #[.int .i64 dk, .string dn, .string dof, .int .i64 dv, .int .i64 tk, .string tp, .string tn, .slice A3 a3' a3, .slice B3 b3' b3, .slice Af afl cf] 57)) = W6 at HW6 HFS HX ⊢
  clear hW
  go_loopg [13, 7] L.length (fun gk v13 v7 wr => ∃ (j : Nat) (B : Option Addr) (d : Nat) (l : List Fi), j + gk = L.length ∧ v13 = .int .i64 j ∧ v7 = .slice B l.length d ∧ l = Srt.isort ltF (L.take j) ∧ FrP F W6.heap.size wr B d l ∧ Below W6.heap.size W6 wr)
  case atStart => exact ⟨0, none, 0, [], by omega, rfl, rfl, rfl, frp_none _ _ _, Below.refl _ _⟩
  case round =>
    obtain ⟨j, B', d', l, hj, rfl, rfl, hl, hfr, hb6⟩ := hrel
    have HFR := Lib.hid hfr
    have HB6 := Lib.hid hb6
    have hx := HX.out.bel2 hb6
    have x0 := hx.cell 0
    have x9 := hx.cell 9
    have xl := hx.lt
    have hend : j = L.length → MeP F (Srt.isort ltF L) w (.returned (.slice B' l.length d')) wr := fun e => by
      subst e
      rw [List.take_length] at hl
      subst hl
      exact ⟨⟨B', d', rfl, hfr.mono HW6.out.size⟩, HW6.out.trans (hb6.mono HW6.out.size)⟩
    have HEND := Lib.hid hend
    clear hend
    by_cases hb : b = true
    · subst hb
      by_cases h4 : dk = 4
      · have hLf : L = fs := by rw [← HLE.out, if_pos ⟨rfl, h4⟩]
        subst hLf
        have e4 : (dk == 4) = true := by simpa using h4
        have hjl0 := HAF.out
        subst hjl0
        cases gk with
        | zero =>
          have g1 : ¬ (j : Int) < (L.length : Int) := by omega
          have g2 : decide (j < L.length) = false := decide_eq_false (by omega)
          have HE := Lib.hid (HEND.out (by omega))
          clear hj hl hfr hb6 hx h4 HEND
          go_wp2
          go_ret
          exact HE.out
        | succ f =>
          have hjl : j < L.length := by omega
          obtain ⟨u, hu⟩ : ∃ x, L[j]? = some x := ⟨_, List.getElem?_eq_getElem hjl⟩
          obtain ⟨q, o, us', rfl, hFq, hgl, hrep, hat⟩ := (HFS.out.bel RFi_keeps hb6).at_ RFi_sized hu
          have hrep2 := hrep
          obtain ⟨tv, rfl, hrt⟩ := hrep
          obtain ⟨f1, f2, f3, f4, f5, f6, f7, f8, f9, rfl⟩ := hrt.shape
          obtain ⟨f0, hf0⟩ : ∃ z, u.name = z := ⟨_, rfl⟩
          simp only [tyC, hf0] at hat hrep2
          have q0 := hat 0 _ rfl
          have q1 := hat 1 _ rfl
          have q2 := hat 2 _ rfl
          have q3 := hat 3 _ rfl
          have q4 := hat 4 _ rfl
          have q5 := hat 5 _ rfl
          rw [Nat.add_zero] at q0
          have g1 : (j : Int) < (L.length : Int) := by omega
          have g2 : decide (j < L.length) = true := decide_eq_true hjl
          have g0 : (0 : Int) ≤ (j : Int) := by omega
          have gm : (L.length : Int) ≤ 2000 := by have := HFW.out.1; omega
          obtain ⟨j', hj'⟩ : ∃ z, j + 1 = z := ⟨_, rfl⟩
          have ej : (j : Int) + 1 = (j' : Int) := by omega
          have wj : IntKind.i64.wrap (j' : Int) = (j' : Int) := wrap_nat (by omega)
          have HP := Lib.hid (rput_any l u (by rw [hl]; exact Srt.isort_rise weakF _) (by rw [hl, Srt.isort_len, List.length_take]; have := HFW.out.1; omega) wr W6.heap.size F (fun k h => Nat.lt_of_lt_of_le (HLT.out k h) HW6.out.size) hb6.size B' d' hfr _ hrep2)
          have HL2 := Lib.hid (show Srt.put ltF u l = Srt.isort ltF (L.take j') by rw [← hj', List.take_add_one, hu, Option.toList_some, isort_snoc, hl])
          have HJ := Lib.hid (show j' + f = L.length by omega)
          clear hj hl hfr hb6 hx h4 hat hrt hrep2 hu hf0 hjl hj'
          go_wp2_with (go_at_call 29; refine HP.out.mono ?_; rintro e w7 ⟨⟨B7, d7, rfl, hf7⟩, hb7⟩; have HF7 := Lib.hid hf7; have HB7 := Lib.hid hb7; clear hf7 hb7)
          go_roundg f
          case measure => omega
          case rel => exact ⟨j', B7, d7, _, HJ.out, rfl, rfl, HL2.out, HF7.out, HB6.out.trans HB7.out⟩
      · have hLe : L = [] := by rw [← HLE.out, if_neg (fun h => h4 h.2)]
        have e4 : (dk == 4) = false := by simpa using h4
        have HE := Lib.hid (HEND.out (by rw [hLe] at hj ⊢; simp at hj ⊢; omega))
        clear hj hl hfr hb6 hx h4 hLe HEND
        go_wp2
        go_ret
        exact HE.out
    · obtain rfl : b = false := by simpa using hb
      have hLe : L = [] := by rw [← HLE.out, if_neg (fun h => hb h.1)]
      have HE := Lib.hid (HEND.out (by rw [hLe] at hj ⊢; simp at hj ⊢; omega))
      clear hj hl hfr hb6 hx hb hLe HEND
      go_wp2
      go_ret
      exact HE.out
end Go.Proofs.Ytcfgjfahjaimiaa

namespace Go.Proofs.Ytcfgjfahjaimiaa
open Go.RowKit
set_option linter.unusedVariables false
set_option linter.unusedSimpArgs false

set_option maxRecDepth 100000 in
set_option maxHeartbeats 8000000 in
theorem rmeth5_any (us : List Un) (hok : ∀ u ∈ us, u.ok 140737488355328) (hlen : us.length ≤ 140737488355328) (hcn : ∀ u ∈ us, u.cnt ≤ 2000) (k0 : Int) (hk5 : k0 = 5) (p0 n0 : ByteArray) (A0 B0 : Option Addr) (m0 c0 l0 d0 : Nat) (w : World) (F : Nat → Prop) (A V : Option Addr) (c v1 v2 : Nat) (hr : SlG 4 RUn w F A us) (hF : ∀ k, F k → k < w.heap.size) :
    Calls Try.prog 13 #[.slice A us.length c, .slice V v1 v2, .agg #[.int .i64 k0, .string p0, .string n0, .slice A0 m0 c0, .slice B0 l0 d0]] w (MeP F (Srt.isort ltF (structP ((unitP us p0).getD unZ).decls n0)) w) := by
  have hb1 := ((Below.refl _ w).alloc (Nat.le_refl _) (.cells #[.int .i64 k0, .string p0, .string n0, .slice A0 m0 c0, .slice B0 l0 d0] 26))
  have HC := Lib.hid (runit_any us p0 hlen (w.alloc (.cells #[.int .i64 k0, .string p0, .string n0, .slice A0 m0 c0, .slice B0 l0 d0] 26)) F A c (hr.bel RUn_keeps hb1))
  have hdl : ((unitP us p0).getD unZ).decls.length ≤ 2000 := by
    cases h : unitP us p0 with
    | none => simp [unZ]
    | some u =>
      have := hcn u (unitP_mem h)
      unfold Un.cnt at this
      show u.decls.length ≤ 2000
      omega
  have e5 : (k0 == 5) = true := by rw [hk5]; decide
  have HB1 := Lib.hid hb1
  have HLT := Lib.hid hF
  have HUS := Lib.hid (hr.bel RUn_keeps hb1)
  have HK1 := Lib.hid (Blk.new w 26 #[.int .i64 k0, .string p0, .string n0, .slice A0 m0 c0, .slice B0 l0 d0])
  have HDL := Lib.hid hdl
  cases hun : unitI us p0 with
  | none =>
    have hu0 : unitP us p0 = none := unitI_none hun
    have hN : unitN us p0 = -1 := by unfold unitN; rw [hun]; rfl
    rw [hN] at HC
    rw [hu0]
    have g1 : ¬ (0 : Int) ≤ -1 := by decide
    have HE := Lib.hid (show Srt.isort ltF (structP ((none : Option Un).getD unZ).decls n0) = [] from rfl)
    clear hb1 hr hF hok hcn hk5 hun hu0 hN hdl
    rw [HE.out]
    go_enter Try.func13, Try.ntmps13
    go_wp2_with (go_at_call 28; refine HC.out.mono ?_; rintro e w5 ⟨rfl, hw5⟩; subst hw5)
    go_loopg [9, 7] 0 (fun gk v9 v7 wr => v9 = .int .i64 0 ∧ v7 = .slice none 0 0 ∧ wr = (w.alloc (.cells #[.int .i64 k0, .string p0, .string n0, .slice A0 m0 c0, .slice B0 l0 d0] 26)))
    case atStart => exact ⟨rfl, rfl, rfl⟩
    case round =>
      obtain ⟨rfl, rfl, rfl⟩ := hrel
      go_wp2
      go_ret
      exact ⟨⟨none, 0, rfl, frp_none _ _ _⟩, HB1.out⟩
  | some i =>
    obtain ⟨u, hu, hup⟩ := unitI_at hun
    have hN : unitN us p0 = (i : Int) := by unfold unitN; rw [hun]; rfl
    rw [hN] at HC
    rw [hup] at HDL ⊢
    have hil := (List.getElem?_eq_some_iff.1 hu).1
    have i0 : (0 : Int) ≤ (i : Int) := by omega
    have i1 : (i : Int) < (us.length : Int) := by omega
    have i2 : decide (0 ≤ i) = true := decide_eq_true (by omega)
    have HU := Lib.hid hu
    clear hb1 hr hF hok hcn hk5 hun hup hN hdl hu
    show Calls _ _ _ _ (MeP F (Srt.isort ltF (structP u.decls n0)) w)
    have HDL := Lib.hid (show u.decls.length ≤ 2000 from HDL.out)
    go_enter Try.func13, Try.ntmps13
    go_wp2_with (go_at_call 28; refine HC.out.mono ?_; rintro e w5 ⟨rfl, hw5⟩; subst hw5)
    have hs1 : (w.alloc (.cells #[.int .i64 k0, .string p0, .string n0, .slice A0 m0 c0, .slice B0 l0 d0] 26)).heap.size = w.heap.size + 1 := by simp
    have HLW := Lib.hid (show w.heap.size < (w.alloc (.cells #[.int .i64 k0, .string p0, .string n0, .slice A0 m0 c0, .slice B0 l0 d0] 26)).heap.size by simp)
    obtain ⟨Wz, hWz⟩ : ∃ Wz, Wz = (w.alloc (.cells #[.int .i64 k0, .string p0, .string n0, .slice A0 m0 c0, .slice B0 l0 d0] 26)) := ⟨_, rfl⟩
    rw [← hWz] at HB1 HUS HK1 HLW ⊢
    clear hWz hs1
    go_loopg [9, 7] u.decls.length (fun gk v9 v7 wr => ∃ (j : Nat) (B : Option Addr) (d : Nat) (l : List Fi), j + gk = u.decls.length ∧ v9 = .int .i64 j ∧ v7 = .slice B l.length d ∧ l = Srt.isort ltF (structP (u.decls.take j) n0) ∧ FrP F Wz.heap.size wr B d l ∧ Below Wz.heap.size Wz wr)
    case atStart => exact ⟨0, none, 0, [], by omega, rfl, rfl, rfl, frp_none _ _ _, Below.refl _ _⟩
    case round =>
      obtain ⟨j, B', d', l, hj, rfl, rfl, hl, hfr, hb6⟩ := hrel
      have HB6 := Lib.hid hb6
      obtain ⟨qu, ou, vu, hAe, hFu, hgu, hrepu, hatu⟩ := (HUS.out.bel RUn_keeps hb6).at_ RUn_sized HU.out
      subst hAe
      obtain ⟨A1, a1, B1, b1, C1, c1, rfl, _, hds, _⟩ := hrepu
      obtain ⟨D, hD⟩ : ∃ D, u.decls = D := ⟨_, rfl⟩
      rw [hD] at hj hl hatu hds
      have HDD := Lib.hid hD
      have hdl := HDL.out
      rw [hD] at hdl
      clear hD
      have s0 := hatu 0 _ rfl
      have s1 := hatu 1 _ rfl
      have s2 := hatu 2 _ rfl
      have s3 := hatu 3 _ rfl
      rw [Nat.add_zero] at s0
      have hkb := HK1.out.bel2 hb6
      have t0 := hkb.cell 0
      have t1 := hkb.cell 1
      have t2 := hkb.cell 2
      have t3 := hkb.cell 3
      have t4 := hkb.cell 4
      have tl := hkb.lt
      have gm : (D.length : Int) ≤ 2000 := by omega
      have g0 : (0 : Int) ≤ (j : Int) := by omega
      cases gk with
      | zero =>
        have g1 : ¬ (j : Int) < (D.length : Int) := by omega
        have g2 : decide (j < D.length) = false := decide_eq_false (by omega)
        obtain rfl : j = D.length := by omega
        rw [List.take_length] at hl
        subst hl
        have HE := Lib.hid (show MeP F (Srt.isort ltF (structP u.decls n0)) w (.returned (.slice B' (Srt.isort ltF (structP D n0)).length d')) wr by rw [HDD.out]; exact ⟨⟨B', d', rfl, hfr.mono HB1.out.size⟩, HB1.out.trans (hb6.mono HB1.out.size)⟩)
        clear hj hfr hb6 hatu hds hkb hdl
        go_wp2
        go_ret
        exact HE.out
      | succ f =>
        have hjl : j < D.length := by omega
        obtain ⟨de, hu⟩ : ∃ x, D[j]? = some x := ⟨_, List.getElem?_eq_getElem hjl⟩
        obtain ⟨q, o, us', rfl, hFq, hgl, hrep, hat⟩ := hds.at_ RDl_sized hu
        obtain ⟨dk, dn, dof, dv, dt, fs⟩ := de
        obtain ⟨tv, Af, cf, rfl, hrt, hfs⟩ := hrep
        dsimp only at hrt hfs hat
        obtain ⟨tk, tp, tn, A3, a3', a3, B3, b3', b3, rfl⟩ := hrt.shape
        obtain ⟨afl, hafl⟩ : ∃ z, fs.length = z := ⟨_, rfl⟩
        simp only [tyC, List.cons_append, List.nil_append, hafl] at hat hrt
        have q0 := hat 0 _ rfl
        have q1 := hat 1 _ rfl
        have q2 := hat 2 _ rfl
        have q3 := hat 3 _ rfl
        have q4 := hat 4 _ rfl
        have q5 := hat 5 _ rfl
        have q6 := hat 6 _ rfl
        have q7 := hat 7 _ rfl
        have q8 := hat 8 _ rfl
        have q9 := hat 9 _ rfl
        rw [Nat.add_zero] at q0
        have g1 : (j : Int) < (D.length : Int) := by omega
        have g2 : decide (j < D.length) = true := decide_eq_true hjl
        obtain ⟨j', hj'⟩ : ∃ z, j + 1 = z := ⟨_, rfl⟩
        have ej : (j : Int) + 1 = (j' : Int) := by omega
        have wj : IntKind.i64.wrap (j' : Int) = (j' : Int) := wrap_nat (by omega)
        have hbx : Below wr.heap.size wr (wr.alloc (.cells #[.int .i64 dk, .string dn, .string dof, .int .i64 dv, .int .i64 tk, .string tp, .string tn, .slice A3 a3' a3, .slice B3 b3' b3, .slice Af afl cf] 57)) := (Below.refl _ _).alloc (Nat.le_refl _) _
        have HBX := Lib.hid hbx
        have HJ := Lib.hid (show j' + f = u.decls.length by rw [HDD.out]; omega)
        have hll : l.length ≤ 2000 := by
          have h1 := structP_len (D.take j) n0
          rw [hl, Srt.isort_len]
          rw [List.length_take] at h1
          omega
        by_cases hm : dk = 6 ∧ dof = n0
        · obtain ⟨rfl, rfl⟩ := hm
          have HP := Lib.hid (rput_any l ⟨dn, dt⟩ (by rw [hl]; exact Srt.isort_rise weakF _) hll (wr.alloc (.cells #[.int .i64 6, .string dn, .string dof, .int .i64 dv, .int .i64 tk, .string tp, .string tn, .slice A3 a3' a3, .slice B3 b3' b3, .slice Af afl cf] 57)) Wz.heap.size F (fun k h => Nat.lt_of_lt_of_le (HLT.out k h) HB1.out.size) (Nat.le_trans hb6.size hbx.size) B' d' (hfr.bel hbx) [.string dn, .int .i64 tk, .string tp, .string tn, .slice A3 a3' a3, .slice B3 b3' b3] ⟨_, rfl, RT_keeps _ _ _ _ _ _ (fun k _ hl => hbx.block k hl) hbx.size (fun _ _ h => h) hrt⟩)
          have HL2 := Lib.hid (show Srt.put ltF ⟨dn, dt⟩ l = Srt.isort ltF (structP (u.decls.take j') dof) by rw [HDD.out, ← hj', structP_yes hu ⟨rfl, rfl⟩, isort_snoc, hl])
          have e1 : ((6 : Int) == 6) = true := by decide
          have e2 : (dof.toList == dof.toList) = true := by simp
          clear hj hl hfr hb6 hatu hds hkb hdl hat hrt hfs hu hafl hjl hj' hbx hll
          go_wp2_with (go_at_call 29; refine HP.out.mono ?_; rintro e w7 ⟨⟨B7, d7, rfl, hf7⟩, hb7⟩; have HF7 := Lib.hid hf7; have HB7 := Lib.hid hb7; clear hf7 hb7)
          go_roundg f
          case measure => omega
          case rel => exact ⟨j', B7, d7, _, HJ.out, rfl, rfl, HL2.out, HF7.out, HB6.out.trans ((HBX.out.mono HB6.out.size).trans HB7.out)⟩
        · have HL2 := Lib.hid (show l = Srt.isort ltF (structP (u.decls.take j') n0) by rw [HDD.out, ← hj', structP_no hu hm, hl])
          have HFR := Lib.hid (hfr.bel hbx)
          clear hj hl hfr hb6 hatu hds hkb hdl hat hrt hfs hu hafl hjl hj' hbx hll
          by_cases h6 : dk = 6
          · subst h6
            have e1 : ((6 : Int) == 6) = true := by decide
            have e2 : (dof.toList == n0.toList) = false := by
              have : ¬ dof = n0 := fun e => hm ⟨rfl, e⟩
              simpa [toList_inj] using this
            clear hm
            go_wp2
            go_roundg f
            case measure => omega
            case rel => exact ⟨j', B', d', l, HJ.out, rfl, rfl, HL2.out, HFR.out, HB6.out.trans (HBX.out.mono HB6.out.size)⟩
          · have e1 : (dk == 6) = false := by simpa using h6
            clear hm h6
            go_wp2
            go_roundg f
            case measure => omega
            case rel => exact ⟨j', B', d', l, HJ.out, rfl, rfl, HL2.out, HFR.out, HB6.out.trans (HBX.out.mono HB6.out.size)⟩
set_option maxRecDepth 100000 in
set_option maxHeartbeats 8000000 in
theorem rmeth_any (us : List Un) (hok : ∀ u ∈ us, u.ok 140737488355328) (hlen : us.length ≤ 140737488355328) (hcn : ∀ u ∈ us, u.cnt ≤ 2000) (vars : List Fi) (hlv : vars.length ≤ 140737488355328) (t : Ty) (w : World) (F : Nat → Prop) (A V : Option Addr) (c cv : Nat) (vs : List Value) (hr : SlG 4 RUn w F A us) (hv : SlG 6 RFi w F V vars) (ht : RT w F t vs) (hF : ∀ k, F k → k < w.heap.size) :
    Calls Try.prog 13 #[.slice A us.length c, .slice V vars.length cv, .agg vs.toArray] w (MeP F (Srt.isort ltF (methP us vars t)) w) := by
  obtain ⟨k0, p0, n0, la, lr⟩ := t
  obtain ⟨A0, c0, B0, d0, rfl, _, _⟩ := ht.openL
  obtain ⟨m0, hm0⟩ : ∃ z, la.length = z := ⟨_, rfl⟩
  obtain ⟨l0, hl0⟩ : ∃ z, lr.length = z := ⟨_, rfl⟩
  simp only [tyC, hm0, hl0]
  rw [methP_mk]
  by_cases h5 : k0 = 5
  · rw [if_pos h5]
    exact rmeth5_any us hok hlen hcn k0 h5 p0 n0 A0 B0 m0 c0 l0 d0 w F A V c vars.length cv hr hF
  rw [if_neg h5]
  by_cases h8 : k0 = 8
  · rw [if_pos h8]
    exact rmeth8_any us hok hlen hcn k0 h8 p0 n0 A0 B0 m0 c0 l0 d0 w F A V c vars.length cv hr hF
  rw [if_neg h8]
  have hb1 := ((Below.refl _ w).alloc (Nat.le_refl _) (.cells #[.int .i64 k0, .string p0, .string n0, .slice A0 m0 c0, .slice B0 l0 d0] 26))
  have HB1 := Lib.hid hb1
  have e5 : (k0 == 5) = false := by simpa using h5
  have e8 : (k0 == 8) = false := by simpa using h8
  by_cases h9 : k0 = 9
  · rw [if_pos h9]
    have e9 : (k0 == 9) = true := by simpa using h9
    have HC := Lib.hid (known_any vars n0 hlv (w.alloc (.cells #[.int .i64 k0, .string p0, .string n0, .slice A0 m0 c0, .slice B0 l0 d0] 26)) F V cv (hv.bel RFi_keeps hb1))
    cases hvi : varI vars n0 with
    | none =>
      have hN : varN vars n0 = -1 := by unfold varN; rw [hvi]; rfl
      have hp : varP vars n0 = none := by rw [var_both, hvi]; rfl
      rw [hN] at HC
      rw [hp]
      have g1 : ¬ (0 : Int) ≤ -1 := by decide
      show Calls _ _ _ _ (MeP F [] w)
      clear h5 h8 h9 hb1 hvi hN hp hr hv ht hF hok hcn hm0 hl0
      go_enter Try.func13, Try.ntmps13
      go_wp2_with (go_at_call 31; refine HC.out.mono ?_; rintro e w5 ⟨rfl, hw5⟩; subst hw5)
      go_ret
      exact ⟨⟨none, 0, rfl, frp_none _ _ _⟩, HB1.out⟩
    | some i =>
      obtain ⟨u, hu, hup⟩ := varI_at hvi
      have hN : varN vars n0 = (i : Int) := by unfold varN; rw [hvi]; rfl
      rw [hN] at HC
      rw [hup]
      obtain ⟨nm, ⟨k4, p4, n4, la4, lr4⟩⟩ := u
      show Calls _ _ _ _ (MeP F (Srt.isort ltF (ifaceP us k4 p4 n4)) w)
      obtain ⟨q, o, us', rfl, hFq, hgl, hrep, hat⟩ := (hv.bel RFi_keeps hb1).at_ RFi_sized hu
      obtain ⟨tv, rfl, hrt⟩ := hrep
      obtain ⟨A5, c5, B5, d5, rfl, _, _⟩ := hrt.openL
      obtain ⟨m5, hm5⟩ : ∃ z, la4.length = z := ⟨_, rfl⟩
      obtain ⟨l5, hl5⟩ : ∃ z, lr4.length = z := ⟨_, rfl⟩
      simp only [tyC, hm5, hl5] at hat
      have q0 := hat 0 _ rfl
      have q1 := hat 1 _ rfl
      have q2 := hat 2 _ rfl
      have q3 := hat 3 _ rfl
      have q4 := hat 4 _ rfl
      have q5 := hat 5 _ rfl
      rw [Nat.add_zero] at q0
      have hil := (List.getElem?_eq_some_iff.1 hu).1
      have i0 : (0 : Int) ≤ (i : Int) := by omega
      have i1 : (i : Int) < (vars.length : Int) := by omega
      have i2 : decide (0 ≤ i) = true := decide_eq_true (by omega)
      by_cases h48 : k4 = 8
      · have e4 : (k4 == 8) = true := by simpa using h48
        have HR := Lib.hid (rmeth8_any us hok hlen hcn k4 h48 p4 n4 A5 B5 m5 c5 l5 d5 (w.alloc (.cells #[.int .i64 k0, .string p0, .string n0, .slice A0 m0 c0, .slice B0 l0 d0] 26)) F A none c 0 0 (hr.bel RUn_keeps hb1) (fun k h => Nat.lt_of_lt_of_le (hF k h) hb1.size))
        clear h5 h8 h9 h48 hb1 hvi hN hup hr hv ht hF hok hcn hm0 hl0 hm5 hl5 hat hrt hil hu
        go_enter Try.func13, Try.ntmps13
        go_wp2_with (first
          | (go_at_call 31; refine HC.out.mono ?_; rintro e w5 ⟨rfl, hw5⟩; subst hw5)
          | (go_at_call 13; refine HR.out.mono ?_; rintro e w6 h6; obtain ⟨⟨A7, c7, rfl, hf7⟩, hb7⟩ := h6.up HB1.out; have HF7 := Lib.hid hf7; have HB7 := Lib.hid hb7; clear hf7 hb7))
        go_ret
        exact ⟨⟨A7, c7, rfl, HF7.out⟩, HB7.out⟩
      · have e4 : (k4 == 8) = false := by simpa using h48
        have HE := Lib.hid (show Srt.isort ltF (ifaceP us k4 p4 n4) = [] by unfold ifaceP ifP; rw [if_neg h48]; rfl)
        rw [HE.out]
        clear h5 h8 h9 h48 hb1 hvi hN hup hr hv ht hF hok hcn hm0 hl0 hm5 hl5 hat hrt hil hu HE
        go_enter Try.func13, Try.ntmps13
        go_wp2_with (go_at_call 31; refine HC.out.mono ?_; rintro e w5 ⟨rfl, hw5⟩; subst hw5)
        go_ret
        exact ⟨⟨none, 0, rfl, frp_none _ _ _⟩, HB1.out⟩
  · rw [if_neg h9]
    have e9 : (k0 == 9) = false := by simpa using h9
    clear h5 h8 h9 hb1 hr hv ht hF hok hcn hm0 hl0
    go_enter Try.func13, Try.ntmps13
    go_wp2
    go_ret
    exact ⟨⟨none, 0, rfl, frp_none _ _ _⟩, HB1.out⟩
end Go.Proofs.Ytcfgjfahjaimiaa
