/-
  The tokens of two texts with a new line between are those of both; the library's variables start as their texts lay them.
-/
import Derived.Test.YthkahjpflflecaaDoorRows
import Derived.Test.YthkahjpflflecaaDoorLexR
import Derived.Test.YthkahjpflflecaaDoorLexP
import Derived.Test.YthkahjpflflecaaDoorLexK
import Derived.BigQuiet
import Derived.WalkKit
namespace Go.Proofs.YthkahjpflflecaaDoor.lexJoins
open Go.ChangeShapes Go.WideShapes Go.ChangeAt Go.RowKit
set_option linter.unusedVariables false

/-! ### The walk. -/
set_option maxHeartbeats 1000000 in
theorem walk (w : World) (ht : ErrT w) (s : ByteArray) (hs : s.size ≤ maxLen) (t : ByteArray) (hs1 : t.size ≤ maxLen) :
    Calls Tryd.prog 6 #[.string s, .string t] w fun e w' => e = .returned (.bool true) ∧ Below w.heap.size w w' := by
  have ht0 := Lib.hid ht
  unfold maxLen at hs hs1
  by_cases hz : 4000 < s.size
  · have hz' : 4000 < (s.size : Int) := by omega
    go_enter Tryd.func6, Tryd.ntmps6
    go_wp2_with (go_at_call 13; refine (awake_any _ ht0.out).mono ?_; rintro e w5 ⟨rfl, hb5⟩)
    go_ret
    exact ⟨rfl, hb5⟩
  by_cases hz1 : 4000 < t.size
  · have hz' : (s.size : Int) ≤ 4000 := by omega
    have hz1' : 4000 < (t.size : Int) := by omega
    go_enter Tryd.func6, Tryd.ntmps6
    go_wp2_with (go_at_call 13; refine (awake_any _ ht0.out).mono ?_; rintro e w5 ⟨rfl, hb5⟩)
    go_ret
    exact ⟨rfl, hb5⟩
  have hz' : (s.size : Int) ≤ 4000 := by omega
  have hz1' : (t.size : Int) ≤ 4000 := by omega
  have hJ : (s ++ ⟨#[10]⟩ ++ t : ByteArray).data.toList = s.data.toList ++ 10 :: t.data.toList := by simp
  have hd := lexD_join s.data.toList t.data.toList (by simp; omega) (by simp; omega)
  rw [← hJ, show s.data.toList.length = s.size by simp] at hd
  clear hJ
  rcases hd with ⟨p, h1, h3⟩ | ⟨ts, q, hne, h1, h2, h3⟩ | ⟨ts, us, hne, hne2, h1, h2, h3⟩
  · have H1 := Lib.hid (fun w ht => lex_fault s p w ht h1)
    have H3 := Lib.hid (fun w ht => lex_fault (s ++ ⟨#[10]⟩ ++ t) p w ht h3)
    have H2 := Lib.hid (fun w ht => lex_any t w ht)
    clear h1 h3
    obtain ⟨lt, hlt⟩ : ∃ x, lexD t.data.toList = x := ⟨_, rfl⟩
    rw [hlt] at H2
    clear hlt
    go_enter Tryd.func6, Tryd.ntmps6
    go_wp2_with (first
      | (go_at_call 9; ((with_reducible refine (H1.out _ ht0.out).mono ?_); rintro e w1 ⟨Aa, ca, rfl, hb1⟩; have ht1 := Lib.hid (ht0.out.below hb1)))
      | (go_at_call 9; ((with_reducible refine (H2.out _ ht1.out).mono ?_); rintro e w2 ⟨A2, c2, rfl, _, hb2⟩; have ht2 := Lib.hid (ht1.out.below hb2)))
      | (go_at_call 9; ((with_reducible refine (H3.out _ ht2.out).mono ?_); rintro e w3 ⟨Ac, cc, rfl, hb3⟩; have ht3 := Lib.hid (ht2.out.below hb3)))
      | (go_at_call 12; refine (num_any _ _).mono ?_; rintro e w' ⟨rfl, rfl⟩)
      | (go_at_call 13; refine (awake_any _ ht3.out).mono ?_; rintro e w5 ⟨rfl, hb5⟩))
    go_ret
    exact ⟨rfl, below_next (below_next (below_next hb1 hb2) hb3) hb5⟩
  · have H1 := Lib.hid (fun w ht => lex_toks s ts w ht hne h1)
    have H2 := Lib.hid (fun w ht => lex_fault t q w ht h2)
    have H3 := Lib.hid (fun w ht => lex_fault (s ++ ⟨#[10]⟩ ++ t) (q + (s.size + 1)) w ht h3)
    have hqb := lexD_place h2
    have hqb : (q : Int) ≤ 4000 := by simp at hqb; omega
    have hq : (((q + (s.size + 1) : Nat) : Int)) = (q : Int) + (s.size : Int) + 1 := by omega
    go_enter Tryd.func6, Tryd.ntmps6
    go_wp2_with (first
      | (go_at_call 9; ((with_reducible refine (H1.out _ ht0.out).mono ?_); rintro e w1 ⟨ga, ca, rfl, hb1, hca, hTa⟩; have ht1 := Lib.hid (ht0.out.below hb1)))
      | (go_at_call 9; ((with_reducible refine (H2.out _ ht1.out).mono ?_); rintro e w2 ⟨Ab, cb, rfl, hb2⟩; have ht2 := Lib.hid (ht1.out.below hb2)))
      | (go_at_call 9; ((with_reducible refine (H3.out _ ht2.out).mono ?_); rintro e w3 ⟨Ac, cc, rfl, hb3⟩; have ht3 := Lib.hid (ht2.out.below hb3)))
      | (go_at_call 12; refine (num_any _ _).mono ?_; rintro e w' ⟨rfl, rfl⟩)
      | (go_at_call 13; refine (awake_any _ ht3.out).mono ?_; rintro e w5 ⟨rfl, hb5⟩))
    go_ret
    exact ⟨rfl, below_next (below_next (below_next hb1 hb2) hb3) hb5⟩
  · have H1 := Lib.hid (fun w ht => lex_toks s ts w ht hne h1)
    have H2 := Lib.hid (fun w ht => lex_toks t us w ht hne2 h2)
    have H3 := Lib.hid (fun w ht => lex_toks (s ++ ⟨#[10]⟩ ++ t) _ w ht (by simp [hne2]) h3)
    have l1 := (lexD_count h1).1
    have l2 := (lexD_count h2).1
    have z1 : 0 < ts.length := List.length_pos_iff.2 hne
    have z2 : 0 < us.length := List.length_pos_iff.2 hne2
    simp only [ByteArray.size_data, Array.length_toList] at l1 l2
    obtain ⟨J, hJ⟩ : ∃ J, ts.dropLast ++ us.map (fun x => (x.1, x.2 + (s.size + 1))) = J := ⟨_, rfl⟩
    have hJl : J.length = ts.length + us.length - 1 := by rw [← hJ]; simp; omega
    have hJ1 : ∀ k, k < ts.length - 1 → J[k]? = ts[k]? := by
      intro k hk
      rw [← hJ, List.getElem?_append_left (by simp; omega)]
      simp [List.getElem?_dropLast]; omega
    have hJ2 : ∀ k, ts.length - 1 ≤ k → J[k]? = (us[k - (ts.length - 1)]?).map (fun x => (x.1, x.2 + (s.size + 1))) := by
      intro k hk
      rw [← hJ, List.getElem?_append_right (by simp; omega)]
      simp
    rw [hJ] at H3
    have HJl := Lib.hid hJl
    have HJ1 := Lib.hid hJ1
    have HJ2 := Lib.hid hJ2
    have li : (J.length : Int) = (ts.length : Int) + (us.length : Int) - 1 := by omega
    have l1 : (ts.length : Int) ≤ 4001 := by omega
    have l2 : (us.length : Int) ≤ 4001 := by omega
    have z1 : 0 < (ts.length : Int) := by omega
    have z2 : 0 < (us.length : Int) := by omega
    have HPL := Lib.hid (lexD_places h2)
    simp only [ByteArray.size_data, Array.length_toList] at HPL
    clear h1 h2 h3 hJ hJl hJ1 hJ2 hne hne2
    go_enter Tryd.func6, Tryd.ntmps6
    go_wp2_with (first
      | (go_at_call 9; ((with_reducible refine (H1.out _ ht0.out).mono ?_); rintro e w1 ⟨ga, ca, rfl, hb1, hca, hTa⟩; have ht1 := Lib.hid (ht0.out.below hb1)))
      | (go_at_call 9; ((with_reducible refine (H2.out _ ht1.out).mono ?_); rintro e w2 ⟨gb, cb, rfl, hb2, hcb, hTb⟩; have ht2 := Lib.hid (ht1.out.below hb2)))
      | (go_at_call 9; ((with_reducible refine (H3.out _ ht2.out).mono ?_); rintro e w3 ⟨gc, cc, rfl, hb3, hcc, hTc⟩; have ht3 := Lib.hid (ht2.out.below hb3)))
      | (go_at_call 12; refine (num_any _ _).mono ?_; rintro e w' ⟨rfl, rfl⟩))
    have hB3 := below_next (below_next hb1 hb2) hb3
    have TA := (hTa.below hb2).below hb3
    have TB := hTb.below hb3
    have TC := hTc
    clear hTa hTb hTc hb1 hb2
    go_loopw [14] (fun i wr => ∃ k : Nat, k ≤ J.length ∧ i = .int .i64 k ∧ Below w3.heap.size w3 wr) (fun i _ => J.length - (intOf i).toNat)
    case atStart => exact ⟨0, Nat.zero_le _, rfl, Below.refl _ _⟩
    case round =>
      obtain ⟨k, hk, rfl, hB⟩ := hrel
      obtain ⟨wo, rfl⟩ : ∃ wo : World, wo = wr := ⟨_, rfl⟩
      have k0 : (0 : Int) ≤ (k : Int) := by omega
      have TA := TA.below hB
      have TB := TB.below hB
      have TC := TC.below hB
      by_cases hlt : k < J.length
      · have k1 : (k : Int) < (J.length : Int) := by omega
        by_cases hka : k < ts.length - 1
        · have hj := HJ1.out k hka
          obtain ⟨x, hx⟩ : ∃ x, ts[k]? = some x := ⟨_, List.getElem?_eq_getElem (by omega)⟩
          rw [hx] at hj
          obtain ⟨a0, a1, a2, a3⟩ := TA.cell k x hx
          obtain ⟨c0, c1, c2, c3⟩ := TC.cell k x hj
          have gA := TA.lt
          have gC := TC.lt
          have k2 : (k : Int) < (ts.length : Int) - 1 := by omega
          clear hx hj TA TB TC
          go_wp2
          go_quiet (fail)
          go_wp2
          go_roundw
          case rel => exact ⟨k + 1, by omega, by go_num, below_drewN (hB.alloc hB.size _) _⟩
          case measure => simp [intOf]; omega
        · obtain ⟨j, hjk⟩ : ∃ j, k = j + (ts.length - 1) := ⟨k - (ts.length - 1), by omega⟩
          have hj := HJ2.out k (by omega)
          have hjl : j < us.length := by have := HJl.out; omega
          obtain ⟨x, hx⟩ : ∃ x, us[j]? = some x := ⟨_, List.getElem?_eq_getElem hjl⟩
          rw [show k - (ts.length - 1) = j by omega, hx] at hj
          obtain ⟨b0, b1, b2, b3⟩ := TB.cell j x hx
          obtain ⟨c0, c1, c2, c3⟩ := TC.cell k _ hj
          have gB := TB.lt
          have gC := TC.lt
          have e3 : ((x.2 + (s.size + 1) : Nat) : Int) = (x.2 : Int) + (s.size : Int) + 1 := by omega
          rw [e3] at c3
          have hjz : (k : Int) - (ts.length : Int) + 1 = (j : Int) := by omega
          have k2 : ¬ (k : Int) < (ts.length : Int) - 1 := by omega
          have j1 : (j : Int) < (us.length : Int) := by omega
          have hx2 : (x.2 : Int) ≤ 4001 := by have := HPL.out x (List.mem_of_getElem? hx); omega
          clear hx hj TA TB TC e3 hjk
          go_wp2
          go_quiet (fail)
          go_wp2
          go_roundw
          case rel => exact ⟨k + 1, by omega, by go_num, below_drewN (hB.alloc hB.size _) _⟩
          case measure => simp [intOf]; omega
      · obtain rfl : k = J.length := by omega
        have hB4 := below_next hB3 hB
        have ht4 := Lib.hid (ht0.out.below hB4)
        clear TA TB TC
        have hno : ¬ ((J.length : Int)) < (J.length : Int) := by omega
        go_wp2_with (go_at_call 13; refine (awake_any _ ht4.out).mono ?_; rintro e w5 ⟨rfl, hb5⟩)
        go_ret
        exact ⟨rfl, below_next hB4 hb5⟩

/-! ### The row's step. -/
set_option maxRecDepth 100000 in
theorem lifted (os : Os) (started : os.Started) (H : Type) (enc : TypeId × Value → H) :
    ReturnsInHanded {} Tryd.checked os 6 .any (fun w args => (Rows.lexJoinsSpec.pre enc Tryd.prog Tryd.f6 Rows.lexJoinsRow.domain false w args ∧ laidMet Tryd.prog Rows.lexJoinsRow.laid w) ∧ sizedMet enc Tryd.prog Tryd.f6 (OpenSpec.ofChange Rows.lexJoinsSpec) false w args)
      (Rows.lexJoinsSpec.post enc Tryd.prog Tryd.f6 false true false false) := by
  refine returnsInHanded_of_change_and (C := Tryd.checked) (X := fun w _ => laidMet Tryd.prog Rows.lexJoinsRow.laid w) (fun _ _ _ hh h => h.of_heap hh) own started (by kernel_rfl) Tryd.func6
    (ChangeSpec.witness_at (enc := enc) (C := Tryd.checked) (os := os) (X := fun w _ => laidMet Tryd.prog Rows.lexJoinsRow.laid w) false (laidWorld os) #[.string ⟨#[]⟩, .string ⟨#[]⟩] 8 rfl (by kernel_rfl) (by kernel_rfl) (by kernel_rfl) (by kernel_rfl) (by kernel_rfl) (laidWorld_met os _)) ?_
  intro W base args ds gs before hval0 hW _ _ hL _
  have hval : ∀ (j : Nat) t v, Tryd.f6.params[j]? = some t → args[j]? = some v → Value.okWide Tryd.prog W .any base t v := hval0
  have hW' := hW
  obtain ⟨p, q, hA0, hV, rfl, _, _⟩ := hW
  have hA : DataW.TrodAll enc Tryd.prog W 0 (fun _ => true) true Tryd.f6.params.toList args.toList ds p := hA0
  rw [Tryd.params6] at hA hval
  obtain ⟨v0, vs0, d0, ds0, p0, q0, hargs, rfl, rfl, h0, r0⟩ := trodAll_cons hA
  obtain ⟨v1, vs1, d1, ds1, p1, q1, rfl, rfl, rfl, h1, r1⟩ := trodAll_cons r0
  obtain ⟨rfl, rfl, rfl⟩ := trodAll_nil r1
  obtain rfl : args = #[v0, v1] := by cases args; simp_all
  obtain ⟨rfl, rfl⟩ := trodVars_none hV
  obtain ⟨s0, rfl, rfl, rfl, hs0⟩ := Go.ChangeMaps.open_string Tryd.underlying9 (hval 0 9 v0 rfl rfl) h0
  obtain ⟨s1, rfl, rfl, rfl, hs1⟩ := Go.ChangeMaps.open_string Tryd.underlying9 (hval 1 9 v1 rfl rfl) h1
  refine (walk W (errT_of_laid hL) s0 hs0 s1 hs1).mono fun e W' ⟨he, hb⟩ => ?_
  subst he
  exact ⟨_, rfl, post_law laidOut (by rw [Tryd.params6]; intro t ht; simp at ht; (first | (rcases ht with rfl | rfl | rfl) | (rcases ht with rfl | rfl) | subst ht) <;> exact ⟨by kernel_rfl, of_decide_eq_true (by kernel_rfl)⟩) rfl rfl Tryd.underlying4 rfl hW' hb⟩

theorem over : Rows.lexJoinsRow.holds Tryd.pinned (OpenSpec.ofChange Rows.lexJoinsSpec) :=
  OpenClaim.holds_of_wide 6 Tryd.f6 rfl rfl rfl rfl rfl rfl rfl ⟨rfl, rfl, rfl, rfl, rfl⟩ rfl rfl rfl rfl rfl (by kernel_rfl) Tryd.func6 (by kernel_rfl)
    (of_decide_eq_true (by kernel_rfl)) (by unfold Func.isWrapper; first | (rw [if_pos (by decide +kernel)]; kernel_rfl) | (rw [if_neg (by decide +kernel)]; exact ⟨rfl, rfl⟩))
    (fun os started H enc _ => lifted os started H enc)

/-- The statement. -/
theorem proved : Rows.LexJoinsCardSaid :=
  Claim7.holds_tied_plain_at .later [] _ true _ true
    over (fun _ h => by cases h) (by kernel_rfl) (fun _ h => by cases h) lexJoins_row_tie rfl ⟨rfl, rfl⟩ (by kernel_rfl) rfl
    (fun f fn hf hfn => by
      obtain rfl : f = 6 := Option.some.inj ((show Tryd.prog.funcNamed "mortise/mortiselaw4.LexJoins" = some 6 by kernel_rfl).symm.trans hf) |>.symm
      obtain rfl : fn = Tryd.f6 := (Option.some.inj (Tryd.func6.symm.trans hfn)).symm
      exact ⟨by kernel_rfl, fun j t ht => by
        have hm := Array.mem_of_getElem? ht
        rw [Tryd.params6] at hm
        simp at hm
        (first | (rcases hm with rfl | rfl | rfl) | (rcases hm with rfl | rfl) | subst hm) <;> exact (show Tryd.prog.wantsStandIn _ = false by kernel_rfl)⟩)
    (by kernel_rfl)
#print axioms proved
end Go.Proofs.YthkahjpflflecaaDoor.lexJoins
