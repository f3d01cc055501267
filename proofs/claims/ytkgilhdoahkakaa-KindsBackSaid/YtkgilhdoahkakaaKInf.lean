/-
  KindsInfers: the walk.
-/
import Derived.Test.YtkgilhdoahkakaaRwC
import Derived.Test.YtkgilhdoahkakaaTyX
namespace Go.Proofs.Ytkgilhdoahkakaa
open Go.RowKit
set_option linter.unusedVariables false
set_option linter.unusedSimpArgs false

theorem InferP.no {w w' : World} {e : Ending} (h : InferP none w e w') : e = .returned (.tuple #[.slice none 0 0, .bool false]) ∧ Below w.heap.size w w' := ⟨h.2, h.1⟩
theorem InferRP.no {w w' : World} {e : Ending} (h : InferRP none w e w') : e = .returned (.tuple #[.slice none 0 0, .bool false]) ∧ Below w.heap.size w w' := ⟨h.2, h.1⟩
theorem InferP.yes {w w' : World} {e : Ending} {ts : List Ty} (h : InferP (some ts) w e w') : ∃ A c, e = .returned (.tuple #[.slice A ts.length c, .bool true]) ∧ SlT w' (fun _ => True) A ts ∧ Below w.heap.size w w' := by
  obtain ⟨h1, A, c, h2, h3⟩ := h
  exact ⟨A, c, h2, h3.keep (fun _ _ _ => rfl) (Nat.le_refl _) (fun _ _ _ => trivial), h1⟩
theorem InferRP.yes {w w' : World} {e : Ending} {ts : List Ty} (h : InferRP (some ts) w e w') : ∃ A c, e = .returned (.tuple #[.slice A ts.length c, .bool true]) ∧ SlT w' (fun _ => True) A ts ∧ Below w.heap.size w w' := by
  obtain ⟨h1, A, c, h2, h3⟩ := h
  exact ⟨A, c, h2, h3, h1⟩
set_option maxRecDepth 100000 in
set_option maxHeartbeats 4000000 in
theorem kinfers_any (l : List ByteArray) (ps ss : List Ty) (hln : l.length ≤ 140737488355328) (hps : mxL ps ≤ 140737488355328) (hpl : ps.length ≤ 140737488355328) (hssm : mxL ss ≤ 140737488355328) (hsl : ss.length ≤ 140737488355328) (w : World) (F F' F'' : Nat → Prop) (C A D : Option Addr) (c0 a0 d0 : Nat) (hs : SlS w F C l) (ha : SlT w F' A ps) (hd : SlT w F'' D ss) :
    Calls Try.prog 8 #[.slice C l.length c0, .slice A ps.length a0, .slice D ss.length d0] w (TruthP w true) := by
  have HG1 := Lib.hid (fun w' (h : Below w.heap.size w w') => great_any ps (by omega) w' F' A a0 (ha.bel h))
  have HG2 := Lib.hid (fun w' (h : Below w.heap.size w w') => great_any ss (by omega) w' F'' D d0 (hd.bel h))
  have HI := Lib.hid (fun (h1 : l.length ≤ 50) (h2 : countL ps ≤ 400) (h3 : countL ss ≤ 400) w' (h : Below w.heap.size w w') => infer_any l ps ss (by omega) (by omega) hps (by omega) hssm w' F F' F'' C A D c0 a0 d0 (hs.bel h) (ha.bel h) (hd.bel h))
  have HR := Lib.hid (fun (h1 : l.length ≤ 50) (h2 : countL ps ≤ 400) (h3 : countL ss ≤ 400) w' (h : Below w.heap.size w w') => rinfer_any l (by omega) ps ss (by omega) (by omega) w' F F' F'' C A D c0 a0 d0 (hs.bel h) (ha.bel h) (hd.bel h))
  have n0 : (0 : Int) ≤ (l.length : Int) := by omega
  have n1 : (l.length : Int) ≤ 140737488355328 := by omega
  obtain ⟨g1, hg1⟩ : ∃ g, decide (400 < countL ps) = g := ⟨_, rfl⟩
  obtain ⟨g2, hg2⟩ : ∃ g, decide (400 < countL ss) = g := ⟨_, rfl⟩
  simp only [hg1] at HG1
  simp only [hg2] at HG2
  have HD1 := Lib.hid hg1
  have HD2 := Lib.hid hg2
  clear hs ha hd hg1 hg2 hln hps hpl hssm hsl
  cases g1 with
  | true =>
    go_enter Try.func8, Try.ntmps8
    go_wp2_with (first | (go_at_call 12; ((with_reducible refine (HG1.out _ (Below.refl _ _)).mono ?_); rintro e w1 ⟨rfl, hb⟩); have HB1 := Lib.hid (hb); clear hb) | (go_at_call 13; ((with_reducible refine (awake_any _).mono ?_); rintro e w2 ⟨rfl, hb2⟩)))
    go_ret
    exact ⟨rfl, HB1.out.trans (hb2.mono HB1.out.size)⟩
  | false =>
    cases g2 with
    | true =>
      go_enter Try.func8, Try.ntmps8
      go_wp2_with (first | (go_at_call 12; ((with_reducible refine (HG2.out _ HB1.out).mono ?_); rintro e w3 ⟨rfl, hb⟩); have HB2 := Lib.hid (HB1.out.trans (hb.mono HB1.out.size)); clear hb) | (go_at_call 12; ((with_reducible refine (HG1.out _ (Below.refl _ _)).mono ?_); rintro e w1 ⟨rfl, hb⟩); have HB1 := Lib.hid (hb); clear hb) | (go_at_call 13; ((with_reducible refine (awake_any _).mono ?_); rintro e w2 ⟨rfl, hb2⟩)))
      go_ret
      exact ⟨rfl, HB2.out.trans (hb2.mono HB2.out.size)⟩
    | false =>
      by_cases h50 : 50 < l.length
      · have h51 : decide (50 < l.length) = true := decide_eq_true h50
        have h52 : (50 : Int) < (l.length : Int) := by omega
        clear h50
        go_enter Try.func8, Try.ntmps8
        go_wp2_with (first | (go_at_call 12; ((with_reducible refine (HG2.out _ HB1.out).mono ?_); rintro e w3 ⟨rfl, hb⟩); have HB2 := Lib.hid (HB1.out.trans (hb.mono HB1.out.size)); clear hb) | (go_at_call 12; ((with_reducible refine (HG1.out _ (Below.refl _ _)).mono ?_); rintro e w1 ⟨rfl, hb⟩); have HB1 := Lib.hid (hb); clear hb) | (go_at_call 13; ((with_reducible refine (awake_any _).mono ?_); rintro e w2 ⟨rfl, hb2⟩)))
        go_ret
        exact ⟨rfl, HB2.out.trans (hb2.mono HB2.out.size)⟩
      · have h51 : decide (50 < l.length) = false := decide_eq_false h50
        have h52 : ¬ (50 : Int) < (l.length : Int) := by omega
        have hc1 : countL ps ≤ 400 := by have := of_decide_eq_false HD1.out; omega
        have hc2 : countL ss ≤ 400 := by have := of_decide_eq_false HD2.out; omega
        have HI2 := Lib.hid (HI.out (by omega) hc1 hc2)
        have HR2 := Lib.hid (HR.out (by omega) hc1 hc2)
        obtain ⟨r, hr⟩ : ∃ r, inferT l ps ss = r := ⟨_, rfl⟩
        rw [hr] at HI2 HR2
        cases r with
        | none =>
          have HA := Lib.hid (fun w' : World => all_any 2000000 (rsame_all 2000000 (Nat.le_refl _)) (Nat.le_refl _) [] [] (by rw [countL_nil]; omega) w' (fun _ => True) (fun _ => True) none none 0 0 (SlT.none_ _ _) (SlT.none_ _ _))
          simp only [List.length_nil, sameL_nil] at HA
          clear h50 hc1 hc2 hr HI HR
          go_enter Try.func8, Try.ntmps8
          go_wp2_with (first
            | (go_at_call 35; ((with_reducible refine (HA.out _).mono ?_); rintro e w8 ⟨rfl, hb8⟩); have HB8 := Lib.hid (HB7.out.trans (hb8.mono HB7.out.size)); clear hb8)
            | (go_at_call 34; ((with_reducible refine (HR2.out _ HB6.out).mono ?_); intro e w7 hI; obtain ⟨rfl, hb7⟩ := InferRP.no hI); have HB7 := Lib.hid (HB6.out.trans (hb7.mono HB6.out.size)); clear hb7 hI)
            | (go_at_call 33; ((with_reducible refine (HI2.out _ HB2.out).mono ?_); intro e w6 hI; obtain ⟨rfl, hb6⟩ := InferP.no hI); have HB6 := Lib.hid (HB2.out.trans (hb6.mono HB2.out.size)); clear hb6 hI)
            | (go_at_call 12; ((with_reducible refine (HG2.out _ HB1.out).mono ?_); rintro e w3 ⟨rfl, hb⟩); have HB2 := Lib.hid (HB1.out.trans (hb.mono HB1.out.size)); clear hb) | (go_at_call 12; ((with_reducible refine (HG1.out _ (Below.refl _ _)).mono ?_); rintro e w1 ⟨rfl, hb⟩); have HB1 := Lib.hid (hb); clear hb) | (go_at_call 13; ((with_reducible refine (awake_any _).mono ?_); rintro e w2 ⟨rfl, hb2⟩)))
          go_ret
          exact ⟨rfl, HB8.out.trans (hb2.mono HB8.out.size)⟩
        | some ts =>
          have hct := infer_count (B := 400) (by omega) l ps ss ts hc2 hr
          have hcm : countL ts ≤ 50 * 400 := Nat.le_trans hct.1 (Nat.mul_le_mul (by omega) (Nat.le_refl _))
          have HA := Lib.hid (fun (w' : World) A A' c c' (h1 : SlT w' (fun _ => True) A ts) (h2 : SlT w' (fun _ => True) A' ts) => all_any 2000000 (rsame_all 2000000 (Nat.le_refl _)) (Nat.le_refl _) ts ts (by omega) w' (fun _ => True) (fun _ => True) A A' c c' h1 h2)
          simp only [sameL_refl] at HA
          clear h50 hc1 hc2 hr HI HR hct hcm
          go_enter Try.func8, Try.ntmps8
          go_wp2_with (first
            | (go_at_call 35; ((with_reducible refine (HA.out _ _ _ _ _ HS6.out HS7.out).mono ?_); rintro e w8 ⟨rfl, hb8⟩); have HB8 := Lib.hid (HB7.out.trans (hb8.mono HB7.out.size)); clear hb8)
            | (go_at_call 34; ((with_reducible refine (HR2.out _ HB6.out).mono ?_); intro e w7 hI; obtain ⟨A7, c7, rfl, hs7, hb7⟩ := InferRP.yes hI); have HB7 := Lib.hid (HB6.out.trans (hb7.mono HB6.out.size)); have HS6 := Lib.hid (HS5.out.bel hb7); have HS7 := Lib.hid hs7; clear hb7 hI hs7)
            | (go_at_call 33; ((with_reducible refine (HI2.out _ HB2.out).mono ?_); intro e w6 hI; obtain ⟨A6, c6, rfl, hs6, hb6⟩ := InferP.yes hI); have HB6 := Lib.hid (HB2.out.trans (hb6.mono HB2.out.size)); have HS5 := Lib.hid hs6; clear hb6 hI hs6)
            | (go_at_call 12; ((with_reducible refine (HG2.out _ HB1.out).mono ?_); rintro e w3 ⟨rfl, hb⟩); have HB2 := Lib.hid (HB1.out.trans (hb.mono HB1.out.size)); clear hb) | (go_at_call 12; ((with_reducible refine (HG1.out _ (Below.refl _ _)).mono ?_); rintro e w1 ⟨rfl, hb⟩); have HB1 := Lib.hid (hb); clear hb) | (go_at_call 13; ((with_reducible refine (awake_any _).mono ?_); rintro e w2 ⟨rfl, hb2⟩)))
          go_ret
          exact ⟨rfl, HB8.out.trans (hb2.mono HB8.out.size)⟩
end Go.Proofs.Ytkgilhdoahkakaa
