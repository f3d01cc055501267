/-
  Tokens stand in order where they say, and between them nothing but blanks and remarks; the library's variables start as their texts lay them.
-/
import Derived.Test.YthkahjpflflecaaDoorRows
import Derived.Test.YthkahjpflflecaaDoorLexR
import Derived.Test.YthkahjpflflecaaDoorLexP
import Derived.Test.YthkahjpflflecaaDoorLexO
import Derived.BigQuiet
import Derived.IntWalk
import Derived.WalkKit
namespace Go.Proofs.YthkahjpflflecaaDoor.lexCovers
open Go.ChangeShapes Go.WideShapes Go.ChangeAt Go.RowKit
set_option linter.unusedVariables false

/-! ### The walk. -/
theorem q_at {t : ByteArray} {k : Nat} (hk : k < t.size) (acc : List UInt8) (i : Nat) : qL false acc i (t.data.toList.drop k) = if t[k] = 92 then qL true acc (i + 1) (t.data.toList.drop (k + 1)) else if t[k] = 34 then (if 100 < acc.length then none else some (acc, i + 2)) else if t[k] < 32 ∨ 126 < t[k] then none else qL false (acc ++ [t[k]]) (i + 1) (t.data.toList.drop (k + 1)) := by rw [drop_at hk]; rfl
theorem q_tat {t : ByteArray} {k : Nat} (hk : k < t.size) (acc : List UInt8) (i : Nat) : qL true acc i (t.data.toList.drop k) = if meanL t[k] = 0 then none else qL false (acc ++ [meanL t[k]]) (i + 1) (t.data.toList.drop (k + 1)) := by rw [drop_at hk]; rfl
set_option maxRecDepth 100000 in
set_option maxHeartbeats 4000000 in
theorem walk (w : World) (ht : ErrT w) (s : ByteArray) (hs : s.size ≤ maxLen) :
    Calls Tryd.prog 5 #[.string s] w fun e w' => e = .returned (.bool true) ∧ Below w.heap.size w w' := by
  have ht0 := Lib.hid ht
  have hLs : s.data.toList.length = s.size := by simp
  rcases lexD_cases s.data.toList with ⟨ts, hd⟩ | ⟨p, n, hd, hp, hn⟩
  · obtain ⟨hc1, hc2, hc3⟩ := lexD_count hd
    have hcov := cov_lexD hd
    rw [hLs] at hc1 hc3
    have H1 := Lib.hid (fun w ht => lex_toks s ts w ht hc2 hd)
    have HCOV := Lib.hid hcov
    have z1 : 0 < (ts.length : Int) := by have := List.length_pos_iff.2 hc2; omega
    have z2 : (ts.length : Int) ≤ 8193 := by omega
    have z3 : (s.size : Int) ≤ 8192 := by omega
    have HLS := Lib.hid hLs
    clear hd hcov hc1 hc2 hLs hs
    go_enter Tryd.func5, Tryd.ntmps5
    go_wp2_with (first
      | (go_at_call 9; ((with_reducible refine (H1.out _ ht0.out).mono ?_); rintro e w1 ⟨g, cg, rfl, hb1, hcg, hT⟩))
      | (go_at_call 12; refine (num_any _ _).mono ?_; rintro e w' ⟨rfl, rfl⟩))
    go_loopw [6, 7] (fun v i wr => ∃ k e : Nat, k ≤ ts.length ∧ i = .int .i64 k ∧ v = .int .i64 e ∧ e ≤ s.size ∧ (k < ts.length → cov s.data.toList e (ts.drop k)) ∧ (k = ts.length → e = s.size) ∧ Below w1.heap.size w1 wr) (fun _ i _ => ts.length - (intOf i).toNat)
    case atStart => exact ⟨0, 0, Nat.zero_le _, rfl, rfl, Nat.zero_le _, fun _ => HCOV.out, fun h => by omega, Below.refl _ _⟩
    case round =>
      obtain ⟨k, e, hk, rfl, rfl, he, hcv, hend, hB⟩ := hrel
      obtain ⟨wo, rfl⟩ : ∃ wo : World, wo = wr := ⟨_, rfl⟩
      have k0 : (0 : Int) ≤ (k : Int) := by omega
      have e0 : (0 : Int) ≤ (e : Int) := by omega
      have e1 : (e : Int) ≤ (s.size : Int) := by omega
      have hT := hT.below hB
      by_cases hlt : k < ts.length
      · have k1 : (k : Int) < (ts.length : Int) := by omega
        have hcv := hcv hlt
        clear hend
        obtain ⟨x, hx⟩ : ∃ x, ts[k]? = some x := ⟨_, List.getElem?_eq_getElem hlt⟩
        have hdr : ts.drop k = x :: ts.drop (k + 1) := by
          rw [List.drop_eq_getElem_cons hlt]
          congr 1
          rw [List.getElem?_eq_getElem hlt] at hx
          exact Option.some.inj hx
        rw [hdr] at hcv
        obtain ⟨q0, q1, q2, q3⟩ := hT.cell k x hx
        obtain ⟨⟨tk, tt, tn⟩, p⟩ := x
        dsimp only at q0 q1 q2 q3
        have gC := hT.lt
        have hat : p = e + gapL false (s.data.toList.drop e) := by
          cases hr : ts.drop (k + 1) with
          | nil => rw [hr] at hcv; exact hcv.2.2.2
          | cons y r => rw [hr] at hcv; obtain ⟨n, h1, _⟩ := hcv; exact h1
        have hgl := gapL_le false (s.data.toList.drop e)
        have hax : p ≤ s.size := by rw [List.length_drop, HLS.out] at hgl; omega
        have hea : e ≤ p := by omega
        have hbt : btw (s.extract e p).data.toList = true := by
          have h1 : (s.extract e p).data.toList = (s.data.toList.drop e).take (gapL false (s.data.toList.drop e)) := by
            rw [ext_list, hat]; congr 1; omega
          rw [h1]
          unfold btw
          rw [gap_take, List.length_take_of_le hgl]
          simp
        have hbz : (s.extract e p).size ≤ maxLen := by unfold maxLen; simp; omega
        have hbt := Lib.hid hbt
        have a0 : (0 : Int) ≤ (p : Int) := by omega
        have a1 : (p : Int) ≤ (s.size : Int) := by omega
        have a2 : (e : Int) ≤ (p : Int) := by omega
        have d1 : decide (p < e) = false := by simp; omega
        have d2 : decide (s.size < p) = false := by simp; omega
        have HCV := Lib.hid hcv
        have HDR := Lib.hid hdr
        have HX := Lib.hid hx
        have HAT := Lib.hid hat
        clear hcv hdr hx hat hgl hT
        by_cases hlast : k + 1 = ts.length
        · have hnil : ts.drop (k + 1) = [] := List.drop_eq_nil_of_le (by omega)
          have hc := HCV.out
          rw [hnil] at hc
          obtain ⟨x0, x1, x2, x3⟩ := hc
          have hk2 : ((k : Int) == (ts.length : Int) - 1) = true := by simp; omega
          dsimp only at x0 x1 x2
          subst x0 x1
          have hq : bs [] = (⟨#[]⟩ : ByteArray) := rfl
          rw [hq] at q1
          have HXS := Lib.hid (show p = s.size by rw [x2, HLS.out])
          clear x2 x3 hnil hq
          go_wp2_with (go_at_call 18; refine (between_any _ _ hbz hbt.out).mono ?_; rintro e w' ⟨rfl, rfl⟩)
          go_quiet (fail)
          go_wp2
          go_roundw
          case rel => exact ⟨k + 1, p, by omega, by go_num, rfl, by have := HXS.out; omega, fun h => absurd h (by omega), fun _ => HXS.out, below_drewN (hB.alloc hB.size _) _⟩
          case measure => simp [intOf]; omega
        · have hc := HCV.out
          obtain ⟨y, r, hyr⟩ : ∃ y r, ts.drop (k + 1) = y :: r := by
            cases hr : ts.drop (k + 1) with
            | nil =>
              have := congrArg List.length hr
              simp at this
              omega
            | cons y r => exact ⟨y, r, rfl⟩
          rw [hyr] at hc
          obtain ⟨n, -, hf, hc2⟩ := hc
          rw [← hyr] at hc2
          dsimp only at hf hc2
          have hfs := first_size hf
          have hk2 : ((k : Int) == (ts.length : Int) - 1) = false := by simp; omega
          have hn1 : p + n ≤ s.size := by
            have h2 := hfs.2
            rw [List.length_drop, HLS.out] at h2
            omega
          have n1 : (p : Int) + (n : Int) ≤ (s.size : Int) := by omega
          have n0 : 0 < (n : Int) := by omega
          have HC2 := Lib.hid hc2
          clear hc2 hyr y r
          rcases first_kind hf with ⟨hk4, r, x, hr1, hr2⟩ | ⟨hk4, hk0, htt⟩
          · dsimp only at hk4
            subst hk4
            have hps : p < s.size := by omega
            have hr : s.data.toList.drop (p + 1) = r := by
              rw [drop_at hps] at hr1
              injection hr1
            rw [← hr] at hr2
            have HQ := Lib.hid hr2
            clear hr1 hr2 hr hf hfs r
            have p1 : (p : Int) < (s.size : Int) := by omega
            go_wp2_with (go_at_call 18; refine (between_any _ _ hbz hbt.out).mono ?_; rintro e w' ⟨rfl, rfl⟩)
            go_loop [6] (fun v => ∃ (i : Nat) (acc : List UInt8), v = .int .i64 ((p + 1 + i : Nat) : Int) ∧ p + 1 + i ≤ s.size ∧ qL false acc i (s.data.toList.drop (p + 1 + i)) = some (x, n)) (fun v => s.size - (intOf v).toNat)
            case atStart => exact ⟨0, [], by go_num, by omega, HQ.out⟩
            case round =>
              obtain ⟨i, acc, rfl, hi, hq⟩ := hrel
              obtain ⟨j, hj⟩ : ∃ j, p + 1 + i = j := ⟨_, rfl⟩
              rw [hj] at hi hq ⊢
              have hjs : j < s.size := by
                rcases Nat.lt_or_ge j s.size with h | h
                · exact h
                · rw [List.drop_eq_nil_of_le (by simpa using h)] at hq; cases hq
              rw [q_at hjs] at hq
              have HJ := Lib.hid hj
              clear hj
              have j0 : (0 : Int) ≤ (j : Int) := by omega
              have j1 : (j : Int) < (s.size : Int) := by omega
              have hc0 : 0 ≤ (s[j].toNat : Int) ∧ (s[j].toNat : Int) ≤ 255 := by have := s[j].toNat_lt; omega
              by_cases h92 : s[j] = 92
              · rw [if_pos h92] at hq
                have hj2 : j + 1 < s.size := by
                  rcases Nat.lt_or_ge (j + 1) s.size with h | h
                  · exact h
                  · rw [List.drop_eq_nil_of_le (by simpa using h)] at hq; cases hq
                rw [q_tat hj2] at hq
                split at hq
                · cases hq
                · have y1 : ((s[j].toNat : Int) != 34) = true := by rw [h92]; rfl
                  have y2 : ((s[j].toNat : Int) == 92) = true := by rw [h92]; rfl
                  have HQ2 := Lib.hid hq
                  clear hq h92 hc0 HQ
                  go_wp2
                  go_round
                  case rel => exact ⟨i + 2, _, by have := HJ.out; go_num, by have := HJ.out; omega, by have := HJ.out; rw [show p + 1 + (i + 2) = j + 1 + 1 by omega]; exact HQ2.out⟩
                  case measure => simp [intOf]; omega
              · rw [if_neg h92] at hq
                have y2 : ((s[j].toNat : Int) == 92) = false := beq_eq_false_iff_ne.2 (byte_ne (d := 92) h92)
                by_cases h34 : s[j] = 34
                · rw [if_pos h34] at hq
                  split at hq
                  · cases hq
                  · simp only [Option.some.injEq, Prod.mk.injEq] at hq
                    have hn : n = i + 2 := hq.2.symm
                    have y1 : ((s[j].toNat : Int) != 34) = false := by rw [h34]; rfl
                    have HN := Lib.hid hn
                    clear hq h34 h92 hn hc0 HQ
                    go_wp2
                    go_roundw
                    case rel => exact ⟨k + 1, p + n, by omega, by go_num, by have := HJ.out; have := HN.out; go_num, hn1, fun _ => HC2.out, fun h => absurd h (by omega), hB.alloc hB.size _⟩
                    case measure => simp [intOf]; omega
                · rw [if_neg h34] at hq
                  split at hq
                  · cases hq
                  · have y1 : ((s[j].toNat : Int) != 34) = true := by simpa using byte_ne (d := 34) h34
                    have HQ2 := Lib.hid hq
                    clear hq h92 h34 hc0 HQ
                    go_wp2
                    go_round
                    case rel => exact ⟨i + 1, _, by have := HJ.out; go_num, by have := HJ.out; omega, by have := HJ.out; rw [show p + 1 + (i + 1) = j + 1 by omega]; exact HQ2.out⟩
                    case measure => simp [intOf]; omega
          · dsimp only at hk4 hk0 htt
            have f4 : (tk == 4) = false := by simpa using hk4
            have f0 : (tk == 0) = false := by simpa using hk0
            have g0 : (tk != 0) = true := by simpa using hk0
            have htl : tt.length = n := by rw [htt, List.length_take_of_le hfs.2]
            have hbs : (bs tt).size = n := by rw [bs_size, htl]
            have hX : s.extract p (p + n) = bs tt := by rw [ext_cut, htt]
            clear htt htl hf hfs hk4 hk0
            go_wp2_with (go_at_call 18; refine (between_any _ _ hbz hbt.out).mono ?_; rintro e w' ⟨rfl, rfl⟩)
            have hw1 : IntKind.i64.wrap ((s.size : Int) - (p : Int)) = (s.size : Int) - (p : Int) := IntWalk.i64_in _ (by omega)
            have dg : decide ((s.size : Int) - (p : Int) < (n : Int)) = false := by simp; omega
            have hpn : ((p : Int) + (n : Int)).toNat = p + n := by omega
            go_quiet (fail)
            go_wp2
            go_roundw
            case rel => exact ⟨k + 1, p + n, by omega, by go_num, by go_num, hn1, fun _ => HC2.out, fun h => absurd h (by omega), below_drewN (hB.alloc hB.size _) _⟩
            case measure => simp [intOf]; omega
      · obtain rfl : k = ts.length := by omega
        have hes := hend rfl
        subst hes
        clear hcv hend
        have hB4 := below_next hb1 hB
        have ht4 := Lib.hid (ht0.out.below hB4)
        have hno : ¬ ((ts.length : Int)) < (ts.length : Int) := by omega
        go_wp2_with (go_at_call 13; refine (awake_any _ ht4.out).mono ?_; rintro e w5 ⟨rfl, hb5⟩)
        go_ret
        exact ⟨rfl, below_next hB4 hb5⟩
  · have H1 := Lib.hid (fun w ht => lex_err s p n w ht hd)
    rw [hLs] at hp
    have p0 : (0 : Int) ≤ (p : Int) := by omega
    have p1 : (p : Int) ≤ (s.size : Int) := by omega
    unfold maxLen at hs
    clear hd hLs
    rcases hn with rfl | rfl
    all_goals
      go_enter Tryd.func5, Tryd.ntmps5
      go_wp2_with (first
        | (go_at_call 9; ((with_reducible refine (H1.out _ ht0.out).mono ?_); rintro e w1 ⟨A1, c1, rfl, hb1⟩; have ht1 := Lib.hid (ht0.out.below hb1)))
        | (go_at_call 12; refine (num_any _ _).mono ?_; rintro e w' ⟨rfl, rfl⟩)
        | (go_at_call 13; refine (awake_any _ ht1.out).mono ?_; rintro e w5 ⟨rfl, hb5⟩))
      go_ret
      exact ⟨rfl, below_next hb1 hb5⟩

/-! ### The row's step. -/
set_option maxRecDepth 100000 in
theorem lifted (os : Os) (started : os.Started) (H : Type) (enc : TypeId × Value → H) :
    ReturnsInHanded {} Tryd.checked os 5 .any (fun w args => (Rows.lexCoversSpec.pre enc Tryd.prog Tryd.f5 Rows.lexCoversRow.domain false w args ∧ laidMet Tryd.prog Rows.lexCoversRow.laid w) ∧ sizedMet enc Tryd.prog Tryd.f5 (OpenSpec.ofChange Rows.lexCoversSpec) false w args)
      (Rows.lexCoversSpec.post enc Tryd.prog Tryd.f5 false true false false) := by
  refine returnsInHanded_of_change_and (C := Tryd.checked) (X := fun w _ => laidMet Tryd.prog Rows.lexCoversRow.laid w) (fun _ _ _ hh h => h.of_heap hh) own started (by kernel_rfl) Tryd.func5
    (ChangeSpec.witness_at (enc := enc) (C := Tryd.checked) (os := os) (X := fun w _ => laidMet Tryd.prog Rows.lexCoversRow.laid w) false (laidWorld os) #[.string ⟨#[]⟩] 8 rfl (by kernel_rfl) (by kernel_rfl) (by kernel_rfl) (by kernel_rfl) (by kernel_rfl) (laidWorld_met os _)) ?_
  intro W base args ds gs before hval0 hW _ _ hL _
  have hval : ∀ (j : Nat) t v, Tryd.f5.params[j]? = some t → args[j]? = some v → Value.okWide Tryd.prog W .any base t v := hval0
  have hW' := hW
  obtain ⟨p, q, hA0, hV, rfl, _, _⟩ := hW
  have hA : DataW.TrodAll enc Tryd.prog W 0 (fun _ => true) true Tryd.f5.params.toList args.toList ds p := hA0
  rw [Tryd.params5] at hA hval
  obtain ⟨v0, vs0, d0, ds0, p0, q0, hargs, rfl, rfl, h0, r0⟩ := trodAll_cons hA
  obtain ⟨rfl, rfl, rfl⟩ := trodAll_nil r0
  obtain rfl : args = #[v0] := by cases args; simp_all
  obtain ⟨rfl, rfl⟩ := trodVars_none hV
  obtain ⟨s0, rfl, rfl, rfl, hs0⟩ := Go.ChangeMaps.open_string Tryd.underlying9 (hval 0 9 v0 rfl rfl) h0
  refine (walk W (errT_of_laid hL) s0 hs0).mono fun e W' ⟨he, hb⟩ => ?_
  subst he
  exact ⟨_, rfl, post_law laidOut (by rw [Tryd.params5]; intro t ht; simp at ht; (first | (rcases ht with rfl | rfl | rfl) | (rcases ht with rfl | rfl) | subst ht) <;> exact ⟨by kernel_rfl, of_decide_eq_true (by kernel_rfl)⟩) rfl rfl Tryd.underlying4 rfl hW' hb⟩

theorem over : Rows.lexCoversRow.holds Tryd.pinned (OpenSpec.ofChange Rows.lexCoversSpec) :=
  OpenClaim.holds_of_wide 5 Tryd.f5 rfl rfl rfl rfl rfl rfl rfl ⟨rfl, rfl, rfl, rfl, rfl⟩ rfl rfl rfl rfl rfl (by kernel_rfl) Tryd.func5 (by kernel_rfl)
    (of_decide_eq_true (by kernel_rfl)) (by unfold Func.isWrapper; first | (rw [if_pos (by decide +kernel)]; kernel_rfl) | (rw [if_neg (by decide +kernel)]; exact ⟨rfl, rfl⟩))
    (fun os started H enc _ => lifted os started H enc)

/-- The statement. -/
theorem proved : Rows.LexCoversCardSaid :=
  Claim7.holds_tied_plain_at .later [] _ true _ true
    over (fun _ h => by cases h) (by kernel_rfl) (fun _ h => by cases h) lexCovers_row_tie rfl ⟨rfl, rfl⟩ (by kernel_rfl) rfl
    (fun f fn hf hfn => by
      obtain rfl : f = 5 := Option.some.inj ((show Tryd.prog.funcNamed "mortise/mortiselaw4.LexCovers" = some 5 by kernel_rfl).symm.trans hf) |>.symm
      obtain rfl : fn = Tryd.f5 := (Option.some.inj (Tryd.func5.symm.trans hfn)).symm
      exact ⟨by kernel_rfl, fun j t ht => by
        have hm := Array.mem_of_getElem? ht
        rw [Tryd.params5] at hm
        simp at hm
        (first | (rcases hm with rfl | rfl | rfl) | (rcases hm with rfl | rfl) | subst hm) <;> exact (show Tryd.prog.wantsStandIn _ = false by kernel_rfl)⟩)
    (by kernel_rfl)
#print axioms proved
end Go.Proofs.YthkahjpflflecaaDoor.lexCovers
