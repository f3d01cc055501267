/-
  What one needs, through others too: both answer alike.
-/
import Derived.Sort.EveryDepth
import Derived.Test.YtibfikadamfpdaaBw
import Derived.Test.YtibfikadamfpdaaRb
import Derived.Test.YtibfikadamfpdaaGo
namespace Go.Proofs.Ytibfikadamfpdaa
open Go.RowKit
set_option linter.unusedVariables false
set_option linter.unusedSimpArgs false

theorem bel_one (N : List ByteArray) (R : List (List ByteArray)) (at_ : Int) : ∃ L : List Nat, L.length ≤ N.length ∧ ∀ w e w', BelP w N R at_ e w' → (∃ A c, e = .returned (.slice A L.length c) ∧ SlV w' w'.heap.size A (ints L)) ∧ Below w.heap.size w w' := by
  by_cases h : (resN N R).2.2 = 0 ∧ ∃ a S, at_ = ((a : Nat) : Int) ∧ a < N.length ∧ IsR N.length (lk N R) a S
  · obtain ⟨h0, a, S, rfl, ha, hS⟩ := h
    refine ⟨filtN N.length S, filtN_le _ _, fun w e w' hb => ⟨?_, hb.1⟩⟩
    rcases hb.2 with ⟨hn, _⟩ | ⟨_, a', S', A, c, e1, h1, h2, h3, h4⟩
    · exact absurd ⟨h0, by omega, by omega⟩ hn
    · have ea : a = a' := by omega
      subst ea
      rw [filt_eq hS h2]
      exact ⟨A, c, h3, h4⟩
  · refine ⟨[], by simp, fun w e w' hb => ⟨?_, hb.1⟩⟩
    rcases hb.2 with ⟨_, he⟩ | ⟨h0, a', S', A, c, e1, h1, h2, h3, h4⟩
    · exact ⟨none, 0, he, SlV.nil_ _ _ _⟩
    · exact absurd ⟨h0, a', S', e1, h1, h2⟩ h
theorem res_all {N : List ByteArray} {R : List (List ByteArray)} (h : (resN N R).2.2 = 0) : GoodO N.length (lk N R) (resN N R).1 ∧ (∀ i, i < N.length → i ∈ (resN N R).1) ∧ N.length ≤ 8 := by
  unfold resN at h ⊢
  split at h
  · simp at h
  · rename_i h8
    rw [if_neg h8]
    cases ht : twice9 N with
    | some i => rw [ht] at h; simp at h
    | none =>
      rw [ht] at h
      simp only at h ⊢
      cases hb : bad9 N R with
      | some i => rw [hb] at h; simp at h
      | none =>
        rw [hb] at h
        simp only at h ⊢
        cases hl : left9 (ordN N (lk N R)) N.length with
        | some i => rw [hl] at h; simp at h
        | none =>
          simp only
          refine ⟨ordN_good N (lk N R), fun i hi => ?_, by omega⟩
          have := find_spec_none hl i hi
          simp only [Bool.not_eq_false'] at this
          exact fst9_isSome.1 this
set_option maxRecDepth 100000 in
theorem below_any (w : World) (B : Nat) (D A : Option Addr) (n d c a : Nat) (tt : Nat → Nat → Bool) (L : List Nat) (hT : SlN w B D (tabL n tt)) (hB : B ≤ w.heap.size) (hA : SlV w w.heap.size A (ints L)) (hg : GoodO n tt L) (hn : n ≤ 8) (ha : a < n) (hall : ∀ i, i < n → i ∈ L) :
    Calls Try.prog 21 #[.slice D n d, .slice A L.length c, .int .i64 a] w fun e w' =>
      (∃ S A' c', IsR n tt a S ∧ e = .returned (.slice A' (filtN n S).length c') ∧ SlV w' w'.heap.size A' (ints (filtN n S))) ∧ Below w.heap.size w w' :=
  calls_of_every_depth (L := [21, 26, 34]) (n := 3) fun D0 =>
    below_in _ 3 (by simp [Fence.list]) (by simp [Fence.list]) (by simp [Fence.list]) rfl (Nat.le_refl _) w B D A n d c a tt L hT hB hA hg hn ha hall
set_option maxRecDepth 100000 in
set_option maxHeartbeats 2000000 in
theorem gbelow_any (w : World) (B : Nat) (A D : Option Addr) (c d : Nat) (N : List ByteArray) (R : List (List ByteArray)) (at_ : Int) (hN : SlV w B A (N.map Value.string)) (hR : SlN w B D (R.map fun r => r.map Value.string)) (hB : B ≤ w.heap.size) (hc : N.length ≤ c) (hn : N.length ≤ 12) (hr : R.length ≤ 100) (hrr : ∀ r ∈ R, r.length ≤ 100) :
    Calls Try.prog 14 #[.slice A N.length c, .slice D R.length d, .int .i64 at_] w (BelP w N R at_) := by
  have HO := ordered_any w B A D c d N R hN hR hB hc hn hr hrr
  unfold Ord4 at HO
  by_cases hcd : (resN N R).2.2 = 0 ∧ 0 ≤ at_ ∧ at_ < (N.length : Int)
  · obtain ⟨he, h0, h1⟩ := hcd
    obtain ⟨hg, hall, h8⟩ := res_all he
    obtain ⟨a, rfl⟩ : ∃ a : Nat, at_ = (a : Int) := ⟨at_.toNat, by omega⟩
    have han : a < N.length := by omega
    have HP := Lib.hid (fun (S : Nat → Bool) A' c' w1 w2 (hb1 : Below w.heap.size w w1) (hb2 : Below w1.heap.size w1 w2) (hS : IsR N.length (lk N R) a S) (hs : SlV w2 w2.heap.size A' (ints (filtN N.length S))) =>
      (show BelP w N R (a : Int) (.returned (.slice A' (filtN N.length S).length c')) w2 from ⟨hb1.trans (hb2.mono hb1.size), .inr ⟨he, a, S, A', c', rfl, han, hS, rfl, hs⟩⟩))
    have HBW := Lib.hid (fun (w1 : World) D1 d1 A1 c1 (hs : SlV w1 w1.heap.size A1 (ints (resN N R).1)) (ht : SlN w1 w1.heap.size D1 (tabL N.length (lk N R))) => below_any w1 w1.heap.size D1 A1 N.length d1 c1 a (lk N R) (resN N R).1 ht (Nat.le_refl _) hs hg h8 han hall)
    have HER := Lib.hid he
    have g0 : (0 : Int) ≤ (a : Int) := by omega
    rw [he] at HO
    generalize (resN N R).1 = L at HO HBW
    generalize (resN N R).2.1 = p at HO
    generalize BelP w N R (a : Int) = G at HP ⊢
    clear hg hall hN hR hrr he
    go_enter Try.func14, Try.ntmps14
    go_wp2_with (first
      | (go_at_call 21; (with_reducible refine (HBW.out w1 D1 d1 A1 c1 hX.out.1 hX.out.2.1).mono ?_); rintro e w2 ⟨⟨S, A2, c2, hS, rfl, hs2⟩, hb2⟩; have HF := Lib.hid (HP.out S A2 c2 w1 w2 hX.out.2.2 hb2 hS hs2); clear hS hs2 hb2)
      | (go_at_call 17; ((with_reducible refine HO.mono ?_); rintro e w1 ⟨⟨lv, A1, c1, rfl, hs1, ht1⟩, hb1⟩; obtain ⟨D1, d1, rfl, ht2⟩ := ht1 rfl; have hX := Lib.hid (And.intro hs1 (And.intro ht2 hb1)); clear hs1 ht1 hb1 ht2)))
    first | exact HF.out | (go_ret; exact HF.out)
  · have HP := Lib.hid (fun w1 (hb1 : Below w.heap.size w w1) => (show BelP w N R at_ (.returned (.slice none 0 0)) w1 from ⟨hb1, .inl ⟨hcd, rfl⟩⟩))
    generalize BelP w N R at_ = G at HP ⊢
    generalize (resN N R).1 = L at HO
    generalize (resN N R).2.1 = p at HO
    generalize (resN N R).2.2 = er at HO hcd
    clear hN hR hrr
    by_cases her : er = 0
    · subst her
      by_cases h0 : at_ < 0
      · clear hcd
        go_enter Try.func14, Try.ntmps14
        go_wp2_with (go_at_call 17; (with_reducible refine HO.mono ?_); rintro e w1 ⟨⟨lv, A1, c1, rfl, hs1, ht1⟩, hb1⟩; have HB1 := Lib.hid hb1; clear hs1 ht1 hb1)
        first | exact HP.out _ HB1.out | (go_ret; exact HP.out _ HB1.out)
      · have h1 : (N.length : Int) ≤ at_ := by
          rcases Int.lt_or_le at_ (N.length : Int) with h | h
          · exact absurd ⟨rfl, by omega, h⟩ hcd
          · exact h
        have h2 : 0 ≤ at_ := by omega
        clear hcd h0
        go_enter Try.func14, Try.ntmps14
        go_wp2_with (go_at_call 17; (with_reducible refine HO.mono ?_); rintro e w1 ⟨⟨lv, A1, c1, rfl, hs1, ht1⟩, hb1⟩; have HB1 := Lib.hid hb1; clear hs1 ht1 hb1)
        first | exact HP.out _ HB1.out | (go_ret; exact HP.out _ HB1.out)
    · have he : ((er : Int) != 0) = true := by
        have : (er : Int) ≠ 0 := by omega
        simpa using this
      clear hcd her
      go_enter Try.func14, Try.ntmps14
      go_wp2_with (go_at_call 17; (with_reducible refine HO.mono ?_); rintro e w1 ⟨⟨lv, A1, c1, rfl, hs1, ht1⟩, hb1⟩; have HB1 := Lib.hid hb1; clear hs1 ht1 hb1)
      first | exact HP.out _ HB1.out | (go_ret; exact HP.out _ HB1.out)
set_option maxRecDepth 100000 in
set_option maxHeartbeats 2000000 in
theorem gbelows_any (w : World) (A D : Option Addr) (c d : Nat) (N : List ByteArray) (R : List (List ByteArray)) (at_ : Int) (hc : N.length ≤ c) (hN : SlV w w.heap.size A (N.map Value.string)) (hR : SlN w w.heap.size D (R.map fun r => r.map Value.string)) :
    Calls Try.prog 4 #[.slice A N.length c, .slice D R.length d, .int .i64 at_] w (TruthP w true) := by
  have HV := heavy_any w w.heap.size A D c d N R hR
  have HAW := Lib.hid awake_any
  cases hh : heavyB N R with
  | true =>
    rw [hh] at HV
    clear hN hR hh
    go_enter Try.func4, Try.ntmps4
    go_wp2_with (first
      | (go_at_call 9; (with_reducible refine (HAW.out _).mono ?_); rintro e w2 ⟨rfl, hb2⟩)
      | (go_at_call 8; (with_reducible refine HV.mono ?_); rintro e w2 ⟨rfl, rfl⟩))
    go_ret
    exact ⟨rfl, hb2⟩
  | false =>
    rw [hh] at HV
    obtain ⟨n12, r20, r40⟩ := heavy_no hh
    obtain ⟨L, hL, hone⟩ := bel_one N R at_
    have HL := Lib.hid hL
    have HG := (gbelow_any w w.heap.size A D c d N R at_ hN hR (Nat.le_refl _) hc n12 (by omega) (fun r hr => by have := r40 r hr; omega)).mono (fun e w' h => hone w e w' h)
    have HR := Lib.hid (fun (w1 : World) (hb : Below w.heap.size w w1) => (rbelow_any w1 w.heap.size A D c d N R at_ (hN.below hb) (hR.below hb) hb.size n12 (by omega) (fun r hr => by have := r40 r hr; omega)).mono (fun e w' h => hone w1 e w' h))
    have HN12 := Lib.hid n12
    clear hN hR hh r40 hone hL
    go_enter Try.func4, Try.ntmps4
    go_wp2_with (first
      | (go_at_call 9; (with_reducible refine (HAW.out _).mono ?_); rintro e w5 ⟨rfl, hb5⟩; have HB5 := Lib.hid hb5; clear hb5)
      | (go_at_call 12; have hsm := same_any w3 _ _ A2 A3 c2 c3 L L (HS2.out.below HB3.out) HS3.out (by have := HL.out; have := HN12.out; omega) (by have := HL.out; have := HN12.out; omega); rw [show decide (L = L) = true from decide_eq_true rfl] at hsm; (with_reducible refine hsm.mono ?_); rintro e w4 ⟨rfl, hb4⟩; have HB4 := Lib.hid hb4; clear hb4 hsm)
      | (go_at_call 15; (with_reducible refine (HR.out _ HB2.out).mono ?_); rintro e w3 ⟨⟨A3, c3, rfl, hs3⟩, hb3⟩; have HS3 := Lib.hid hs3; have HB3 := Lib.hid hb3; clear hs3 hb3)
      | (go_at_call 14; (with_reducible refine HG.mono ?_); rintro e w2 ⟨⟨A2, c2, rfl, hs2⟩, hb2⟩; have HS2 := Lib.hid hs2; have HB2 := Lib.hid hb2; clear hs2 hb2)
      | (go_at_call 8; (with_reducible refine HV.mono ?_); rintro e w2 ⟨rfl, rfl⟩))
    go_ret
    have h3 := below_next HB2.out HB3.out
    have h4 := below_next h3 HB4.out
    exact ⟨rfl, below_next h4 HB5.out⟩
end Go.Proofs.Ytibfikadamfpdaa
