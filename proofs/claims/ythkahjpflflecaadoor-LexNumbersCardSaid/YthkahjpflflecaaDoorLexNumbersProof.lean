/-
  Every number from 0 on is read from its digits; with a nought ahead, or a letter behind, it is none; the library's variables start as their texts lay them.
-/
import Derived.Test.YthkahjpflflecaaDoorRows
import Derived.Test.YthkahjpflflecaaDoorLexR
import Derived.Test.YthkahjpflflecaaDoorLexU
import Derived.Test.YthkahjpflflecaaDoorLexT
import Derived.WalkKit
namespace Go.Proofs.YthkahjpflflecaaDoor.lexNumbers
open Go.ChangeShapes Go.WideShapes Go.ChangeAt Go.RowKit
set_option linter.unusedVariables false

/-! ### The walk. -/
theorem lex_fault (s : ByteArray) (w : World) (ht : ErrT w) (p : Nat) (h : lexD s.data.toList = ([], p, 5)) :
    Calls Tryd.prog 9 #[.string s] w fun e w' => ∃ A c, e = .returned (.tuple #[.slice A 0 c, .int .i64 p, .int .i64 5]) ∧ Below w.heap.size w w' := by
  have := lex_any s w ht
  rw [h] at this
  exact this.mono fun e w' ⟨A, c, he, _, hb⟩ => ⟨A, c, he, hb⟩
theorem lex_number (u : Nat) (hu : u ≤ 9223372036854775807) (w : World) (ht : ErrT w) :
    Calls Tryd.prog 9 #[.string (bs (Lib.decDigits u))] w fun e w' => ∃ g c, e = .returned (.tuple #[.slice (some ⟨g, 0, none⟩) 2 c, .int .i64 0, .int .i64 0]) ∧ Below w.heap.size w w' ∧ 2 ≤ c ∧ g < w'.heap.size ∧
      w'.cell? ⟨g, 0, none⟩ = some (.int .i64 3) ∧ w'.cell? ⟨g, 1, none⟩ = some (.string (bs (Lib.decDigits u))) ∧ w'.cell? ⟨g, 2, none⟩ = some (.int .i64 u) ∧ w'.cell? ⟨g, 3, none⟩ = some (.int .i64 0) := by
  have := lex_any (bs (Lib.decDigits u)) w ht
  have hz := dec_len u (by omega)
  rw [bs_list, lexD_number (dec_ne u) (dec_all u) (by
    rintro ⟨h1, h2⟩
    rcases Nat.eq_zero_or_pos u with rfl | hp
    · rw [dec_small 0 (by omega)] at h1; simp at h1
    · rw [dec_head u hp] at h2; cases h2) (by rw [dec_value]; omega) (by omega), dec_value] at this
  refine this.mono ?_
  rintro e w1 ⟨A, c, rfl, hown, hB⟩
  obtain ⟨g, rfl, hgc, hgb, hgs, hfz, hcl⟩ := own_cells hown (by simp)
  exact ⟨g, c, rfl, hB, hgc, hgs, hcl 0 _ rfl, hcl 1 _ rfl, hcl 2 _ rfl, hcl 3 _ rfl⟩
theorem letter_byte (b : Int) (h : 0 ≤ b ∧ b ≤ 255) : ∃ c : UInt8, UInt8.ofNat (97 + b % 26).toNat = c ∧ isL c = true ∧ isD c = false := by
  obtain ⟨k, hk⟩ : ∃ k : Nat, b % 26 = k := ⟨(b % 26).toNat, by omega⟩
  have hk2 : k < 26 := by omega
  refine ⟨_, rfl, ?_, ?_⟩
  · rw [hk]
    have : (97 + (k : Int)).toNat = 97 + k := by omega
    rw [this]
    have e : (UInt8.ofNat (97 + k)).toNat = 97 + k := by simp; omega
    unfold isL; rw [e]; simp; omega
  · rw [hk]
    have : (97 + (k : Int)).toNat = 97 + k := by omega
    rw [this]
    have e : (UInt8.ofNat (97 + k)).toNat = 97 + k := by simp; omega
    unfold isD; rw [e]; simp; omega
set_option maxHeartbeats 1000000 in
theorem walk (w : World) (ht : ErrT w) (n : Int) (hn : I64 n) (b : Int) (hb : 0 ≤ b ∧ b ≤ 255) :
    Calls Tryd.prog 7 #[.int .i64 n, .int .u8 b] w fun e w' => e = .returned (.bool true) ∧ Below w.heap.size w w' := by
  obtain ⟨n0, n1⟩ := hn
  obtain ⟨b0, b1⟩ := hb
  have ht := Lib.hid ht
  by_cases hneg : n < 0
  · go_enter Tryd.func7, Tryd.ntmps7
    go_wp2_with (go_at_call 13; refine (awake_any _ ht.out).mono ?_; rintro e w1 ⟨rfl, hb⟩)
    go_ret
    exact ⟨rfl, hb⟩
  obtain ⟨u, rfl⟩ : ∃ u : Nat, n = u := ⟨n.toNat, by omega⟩
  have hu : u ≤ 9223372036854775807 := by omega
  have hz := dec_len u (by omega)
  obtain ⟨d, hd⟩ : ∃ d, bs (Lib.decDigits u) = d := ⟨_, rfl⟩
  have hds : d.size ≤ 20 := by rw [← hd, bs_size]; exact hz
  have h1 : lexD (⟨#[48]⟩ ++ d : ByteArray).data.toList = ([], 0, 5) := by
    have e : (⟨#[48]⟩ ++ d : ByteArray).data.toList = 48 :: Lib.decDigits u := by rw [← hd]; simp [bs]
    rw [e]
    have ha : ∀ c ∈ (48 :: Lib.decDigits u), isD c = true := by
      intro c hc
      rcases List.mem_cons.1 hc with rfl | hc
      · decide
      · exact dec_all u c hc
    refine lexD_none (by simp) rfl ?_ (by simp; omega)
    unfold numberL
    rw [run_all ha, if_pos (by
      have : 0 < (Lib.decDigits u).length := List.length_pos_iff.2 (dec_ne u)
      simp [headL]; omega)]
  obtain ⟨c, hc, hcl, hcd⟩ := letter_byte b ⟨b0, b1⟩
  have h2 : lexD (d ++ chr (97 + b % 26) : ByteArray).data.toList = ([], 0, 5) := by
    have e : (d ++ chr (97 + b % 26) : ByteArray).data.toList = Lib.decDigits u ++ c :: [] := by rw [← hd, ← hc]; simp [bs, chr]
    rw [e]
    refine lexD_none (by simp) (by rw [head_append _ (dec_ne u)]; exact head_D (dec_ne u) (dec_all u)) ?_ (by simp; omega)
    unfold numberL
    rw [run_stop (dec_all u) hcd]
    have : headL isL ((Lib.decDigits u ++ [c]).drop (Lib.decDigits u).length) = true := by simp [headL, hcl]
    rw [this, if_pos rfl, ite_self]
  have hnum := number_nat u hu
  have hlex := lex_number u hu
  rw [hd] at hnum hlex
  have HN := Lib.hid hnum
  have HL := Lib.hid hlex
  have H1 := Lib.hid (fun w ht => lex_fault (⟨#[48]⟩ ++ d) w ht 0 h1)
  have H2 := Lib.hid (fun w ht => lex_fault (d ++ chr (97 + b % 26)) w ht 0 h2)
  have hcv := fun w => chr_conv w (97 + b % 26)
  have hch : (chr (97 + b % 26)).size = 1 := rfl
  clear h1 h2 hnum hlex hd hz hc hcl hcd c
  have hneg' : decide ((u : Int) < 0) = false := by simp
  go_enter Tryd.func7, Tryd.ntmps7
  go_wp2_with (first
    | (go_at_call 19; refine (HN.out _).mono ?_; rintro e w1 ⟨rfl, hb1⟩; have ht1 := Lib.hid (ht.out.below hb1))
    | (go_at_call 9; ((with_reducible refine (HL.out _ ht1.out).mono ?_); rintro e w2 ⟨g, c2, rfl, hb2, hg2, hgs, q0, q1, q2, q3⟩; have hB2 := below_next hb1 hb2; have ht2 := Lib.hid (ht.out.below hB2)))
    | (go_at_call 9; ((with_reducible refine (H1.out _ ht2.out).mono ?_); rintro e w3 ⟨A3, c3, rfl, hb3⟩; have ht3 := Lib.hid ((ht2.out.below hb3).alloc (.cells #[.int .u8 (97 + b % 26)] 5))))
    | (go_at_call 9; ((with_reducible refine (H2.out _ ht3.out).mono ?_); rintro e w4 ⟨A4, c4, rfl, hb4⟩; have hC : Below w2.heap.size w2 w4 := ((hb3.alloc hb3.size _).trans (hb4.mono (by have := hb3.size; simp; omega))); have r0 := (hC.cell (p := ⟨g, 0, none⟩) hgs).trans q0; have r1 := (hC.cell (p := ⟨g, 1, none⟩) hgs).trans q1; have r2 := (hC.cell (p := ⟨g, 2, none⟩) hgs).trans q2; have r3 := (hC.cell (p := ⟨g, 3, none⟩) hgs).trans q3))
    | (go_at_call 12; refine (num_any _ _).mono ?_; rintro e w' ⟨rfl, rfl⟩))
  go_ret
  exact ⟨rfl, below_next hB2 hC⟩

/-! ### The row's step. -/
set_option maxRecDepth 100000 in
theorem lifted (os : Os) (started : os.Started) (H : Type) (enc : TypeId × Value → H) :
    ReturnsInHanded {} Tryd.checked os 7 .any (fun w args => (Rows.lexNumbersSpec.pre enc Tryd.prog Tryd.f7 Rows.lexNumbersRow.domain false w args ∧ laidMet Tryd.prog Rows.lexNumbersRow.laid w) ∧ sizedMet enc Tryd.prog Tryd.f7 (OpenSpec.ofChange Rows.lexNumbersSpec) false w args)
      (Rows.lexNumbersSpec.post enc Tryd.prog Tryd.f7 false true false false) := by
  refine returnsInHanded_of_change_and (C := Tryd.checked) (X := fun w _ => laidMet Tryd.prog Rows.lexNumbersRow.laid w) (fun _ _ _ hh h => h.of_heap hh) own started (by kernel_rfl) Tryd.func7
    (ChangeSpec.witness_at (enc := enc) (C := Tryd.checked) (os := os) (X := fun w _ => laidMet Tryd.prog Rows.lexNumbersRow.laid w) false (laidWorld os) #[.int .i64 0, .int .u8 0] 8 rfl (by kernel_rfl) (by kernel_rfl) (by kernel_rfl) (by kernel_rfl) (by kernel_rfl) (laidWorld_met os _)) ?_
  intro W base args ds gs before hval0 hW _ _ hL _
  have hval : ∀ (j : Nat) t v, Tryd.f7.params[j]? = some t → args[j]? = some v → Value.okWide Tryd.prog W .any base t v := hval0
  have hW' := hW
  obtain ⟨p, q, hA0, hV, rfl, _, _⟩ := hW
  have hA : DataW.TrodAll enc Tryd.prog W 0 (fun _ => true) true Tryd.f7.params.toList args.toList ds p := hA0
  rw [Tryd.params7] at hA hval
  obtain ⟨v0, vs0, d0, ds0, p0, q0, hargs, rfl, rfl, h0, r0⟩ := trodAll_cons hA
  obtain ⟨v1, vs1, d1, ds1, p1, q1, rfl, rfl, rfl, h1, r1⟩ := trodAll_cons r0
  obtain ⟨rfl, rfl, rfl⟩ := trodAll_nil r1
  obtain rfl : args = #[v0, v1] := by cases args; simp_all
  obtain ⟨rfl, rfl⟩ := trodVars_none hV
  obtain ⟨a0, rfl, rfl, rfl, w0⟩ := open_int Tryd.underlying2 (hval 0 2 v0 rfl rfl) h0
  have ha0 := i64_of w0
  obtain ⟨a1, rfl, rfl, rfl, w1⟩ := open_int Tryd.underlying5 (hval 1 5 v1 rfl rfl) h1
  have ha1 := u8_of w1
  refine (walk W (errT_of_laid hL) a0 ha0 a1 ha1).mono fun e W' ⟨he, hb⟩ => ?_
  subst he
  exact ⟨_, rfl, post_law laidOut (by rw [Tryd.params7]; intro t ht; simp at ht; (first | (rcases ht with rfl | rfl | rfl) | (rcases ht with rfl | rfl) | subst ht) <;> exact ⟨by kernel_rfl, of_decide_eq_true (by kernel_rfl)⟩) rfl rfl Tryd.underlying4 rfl hW' hb⟩

theorem over : Rows.lexNumbersRow.holds Tryd.pinned (OpenSpec.ofChange Rows.lexNumbersSpec) :=
  OpenClaim.holds_of_wide 7 Tryd.f7 rfl rfl rfl rfl rfl rfl rfl ⟨rfl, rfl, rfl, rfl, rfl⟩ rfl rfl rfl rfl rfl (by kernel_rfl) Tryd.func7 (by kernel_rfl)
    (of_decide_eq_true (by kernel_rfl)) (by unfold Func.isWrapper; first | (rw [if_pos (by decide +kernel)]; kernel_rfl) | (rw [if_neg (by decide +kernel)]; exact ⟨rfl, rfl⟩))
    (fun os started H enc _ => lifted os started H enc)

/-- The statement. -/
theorem proved : Rows.LexNumbersCardSaid :=
  Claim7.holds_tied_plain_at .later [] _ true _ true
    over (fun _ h => by cases h) (by kernel_rfl) (fun _ h => by cases h) lexNumbers_row_tie rfl ⟨rfl, rfl⟩ (by kernel_rfl) rfl
    (fun f fn hf hfn => by
      obtain rfl : f = 7 := Option.some.inj ((show Tryd.prog.funcNamed "mortise/mortiselaw4.LexNumbers" = some 7 by kernel_rfl).symm.trans hf) |>.symm
      obtain rfl : fn = Tryd.f7 := (Option.some.inj (Tryd.func7.symm.trans hfn)).symm
      exact ⟨by kernel_rfl, fun j t ht => by
        have hm := Array.mem_of_getElem? ht
        rw [Tryd.params7] at hm
        simp at hm
        (first | (rcases hm with rfl | rfl | rfl) | (rcases hm with rfl | rfl) | subst hm) <;> exact (show Tryd.prog.wantsStandIn _ = false by kernel_rfl)⟩)
    (by kernel_rfl)
#print axioms proved
end Go.Proofs.YthkahjpflflecaaDoor.lexNumbers
