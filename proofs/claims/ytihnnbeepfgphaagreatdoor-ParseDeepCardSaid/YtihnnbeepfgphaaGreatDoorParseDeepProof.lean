/-
  A tree is read as deep as it may be, one deeper is refused as a whole; the library's variables start as their texts lay them.
-/
import Derived.Test.YtihnnbeepfgphaaGreatDoorRows
import Derived.Test.YtihnnbeepfgphaaGreatDoorLexR5
import Derived.Test.YtihnnbeepfgphaaGreatDoorLawT
import Derived.WalkKit
namespace Go.Proofs.YtihnnbeepfgphaaGreatDoor.parseDeep
open Go.ChangeShapes Go.WideShapes Go.ChangeAt Go.RowKit
set_option linter.unusedVariables false
set_option linter.unusedSimpArgs false

/-! ### The walk. -/
theorem deep_text (k : Nat) : ((⟨#[112, 97, 99, 107, 97, 103, 101, 32, 97, 59, 32, 118, 97, 114, 32, 120, 32, 105, 110, 116, 32, 61, 32]⟩ : ByteArray) ++ bs (List.replicate k 45) ++ (⟨#[55, 59]⟩ : ByteArray)).data.toList = deepP k := by
  simp [preP, deepP, bs]
theorem bs_add (l m : List UInt8) : bs l ++ (⟨m.toArray⟩ : ByteArray) = bs (l ++ m) := by
  refine ByteArray.ext ?_
  simp [bs]
theorem rep_snoc (k : Nat) (c : UInt8) : bs (List.replicate k c) ++ (⟨#[c]⟩ : ByteArray) = bs (List.replicate (k + 1) c) := by
  rw [List.replicate_succ']
  exact bs_add (List.replicate k c) [c]
set_option maxRecDepth 100000 in
set_option maxHeartbeats 2000000 in
theorem walk (w : World) (ht : ErrT w) (b : Int) (hb : 0 ≤ b ∧ b ≤ 255) : Calls Tryz.prog 7 #[.int .u8 b] w fun e w' => e = .returned (.bool true) ∧ Below w.heap.size w w' := by
  have HT := Lib.hid ht
  clear ht
  obtain ⟨b0, b1⟩ := hb
  obtain ⟨k, hk⟩ : ∃ k : Nat, b % 130 = k := ⟨(b % 130).toNat, by omega⟩
  have hk2 : k < 130 := by omega
  have k0 : (0 : Int) ≤ (k : Int) := by omega
  go_enter Tryz.func7, Tryz.ntmps7
  have HK := Lib.hid hk
  clear hk
  go_wp2
  go_loop [4, 5] (fun s i => ∃ j : Nat, j ≤ k ∧ i = .int .i64 j ∧ s = .string (bs (List.replicate j 45))) (fun _ i => k - (intOf i).toNat)
  case atStart => exact ⟨0, Nat.zero_le _, rfl, rfl⟩
  case round =>
    have hk := HK.out
    obtain ⟨j, hj, rfl, rfl⟩ := hrel
    have hsz : (bs (List.replicate j 45)).size ≤ 130 := by rw [bs_size, List.length_replicate]; omega
    have j0 : (0 : Int) ≤ (j : Int) := by omega
    by_cases hlt : j < k
    · have hlt' : (j : Int) < b % 130 := by omega
      have hj2 : (j : Int) ≤ 130 := by omega
      clear hk
      go_wp2
      go_round
      case rel => exact ⟨j + 1, by omega, by go_num, congrArg Value.string (rep_snoc _ _)⟩
      case measure => simp [intOf]; omega
    · obtain rfl : j = k := by omega
      have hlt' : ¬ (j : Int) < b % 130 := by omega
      by_cases h97 : j ≤ 97
      · obtain ⟨k1, op, n, p, tx, a, ks, hp⟩ := deep_yes j h97
        rw [← deep_text] at hp
        have HP := Lib.hid hp
        have h97' : b % 130 ≤ 97 := by omega
        clear hp hk hk2 h97 hlt
        go_wp2_with (first
          | (go_at_call 13; refine (parse_tree _ _ HT.out _ _ _ _ _ _ _ HP.out).mono ?_; rintro e w1 ⟨A, c, rfl, hb1, hr⟩; have HT1 := Lib.hid (HT.out.below hb1))
          | (go_at_call 14; refine (lnum_any _ _).mono ?_; rintro e w' ⟨rfl, rfl⟩)
          | (go_at_call 12; refine (lawake_any _ (HT1.out.alloc _)).mono ?_; rintro e w9 ⟨rfl, hb9⟩))
        go_ret
        exact ⟨rfl, (hb1.alloc hb1.size _).trans (hb9.mono (by have := hb1.size; simp; omega))⟩
      · have hp := deep_no j (by omega) hk2
        rw [← deep_text] at hp
        have HP := Lib.hid hp
        have h97' : ¬ b % 130 ≤ 97 := by omega
        clear hp hk hk2 h97 hlt
        go_wp2_with (first
          | (go_at_call 13; refine (parse_fault _ _ HT.out _ _ HP.out).mono ?_; rintro e w1 ⟨rfl, hb1⟩; have HT1 := Lib.hid (HT.out.below hb1))
          | (go_at_call 14; refine (lnum_any _ _).mono ?_; rintro e w' ⟨rfl, rfl⟩)
          | (go_at_call 12; refine (lawake_any _ (HT1.out.alloc _)).mono ?_; rintro e w9 ⟨rfl, hb9⟩))
        go_ret
        exact ⟨rfl, (hb1.alloc hb1.size _).trans (hb9.mono (by have := hb1.size; simp; omega))⟩

/-! ### The row's step. -/
set_option maxRecDepth 100000 in
theorem lifted (os : Os) (started : os.Started) (H : Type) (enc : TypeId × Value → H) :
    ReturnsInHanded {} Tryz.checked os 7 .any (fun w args => (Rows.parseDeepSpec.pre enc Tryz.prog Tryz.f7 Rows.parseDeepRow.domain false w args ∧ laidMet Tryz.prog Rows.parseDeepRow.laid w) ∧ sizedMet enc Tryz.prog Tryz.f7 (OpenSpec.ofChange Rows.parseDeepSpec) false w args)
      (Rows.parseDeepSpec.post enc Tryz.prog Tryz.f7 false true false false) := by
  refine returnsInHanded_of_change_and (C := Tryz.checked) (X := fun w _ => laidMet Tryz.prog Rows.parseDeepRow.laid w) (fun _ _ _ hh h => h.of_heap hh) own started (by kernel_rfl) Tryz.func7
    (ChangeSpec.witness_at (enc := enc) (C := Tryz.checked) (os := os) (X := fun w _ => laidMet Tryz.prog Rows.parseDeepRow.laid w) false (laidWorld os) #[.int .u8 0] 8 rfl (by kernel_rfl) (by kernel_rfl) (by kernel_rfl) (by kernel_rfl) (by kernel_rfl) (laidWorld_met os _)) ?_
  intro W base args ds gs before hval0 hW _ _ hL _
  have hval : ∀ (j : Nat) t v, Tryz.f7.params[j]? = some t → args[j]? = some v → Value.okWide Tryz.prog W .any base t v := hval0
  have hW' := hW
  obtain ⟨p, q, hA0, hV, rfl, _, _⟩ := hW
  have hA : DataW.TrodAll enc Tryz.prog W 0 (fun _ => true) true Tryz.f7.params.toList args.toList ds p := hA0
  rw [Tryz.params7] at hA hval
  obtain ⟨v0, vs0, d0, ds0, p0, q0, hargs, rfl, rfl, h0, r0⟩ := trodAll_cons hA
  obtain ⟨rfl, rfl, rfl⟩ := trodAll_nil r0
  obtain rfl : args = #[v0] := by cases args; simp_all
  obtain ⟨rfl, rfl⟩ := trodVars_none hV
  obtain ⟨a0, rfl, rfl, rfl, w0⟩ := open_int Tryz.underlying5 (hval 0 5 v0 rfl rfl) h0
  have ha0 := u8_of w0
  refine (walk W (errT_of_laid hL) a0 ha0).mono fun e W' ⟨he, hb⟩ => ?_
  subst he
  exact ⟨_, rfl, post_law laidOut (by rw [Tryz.params7]; intro t ht; simp at ht; (first | (rcases ht with rfl | rfl | rfl) | (rcases ht with rfl | rfl) | subst ht) <;> exact ⟨by kernel_rfl, of_decide_eq_true (by kernel_rfl)⟩) rfl rfl Tryz.underlying4 rfl hW' hb⟩

theorem over : Rows.parseDeepRow.holds Tryz.pinned (OpenSpec.ofChange Rows.parseDeepSpec) :=
  OpenClaim.holds_of_wide 7 Tryz.f7 rfl rfl rfl rfl rfl rfl rfl ⟨rfl, rfl, rfl, rfl, rfl⟩ rfl rfl rfl rfl rfl (by kernel_rfl) Tryz.func7 (by kernel_rfl)
    (of_decide_eq_true (by kernel_rfl)) (by unfold Func.isWrapper; first | (rw [if_pos (by decide +kernel)]; kernel_rfl) | (rw [if_neg (by decide +kernel)]; exact ⟨rfl, rfl⟩))
    (fun os started H enc _ => lifted os started H enc)

/-- The statement. -/
theorem proved : Rows.ParseDeepCardSaid :=
  Claim7.holds_tied_plain_at .later [] _ true _ true
    over (fun _ h => by cases h) (by kernel_rfl) (fun _ h => by cases h) parseDeep_row_tie rfl ⟨rfl, rfl⟩ (by kernel_rfl) rfl
    (fun f fn hf hfn => by
      obtain rfl : f = 7 := Option.some.inj ((show Tryz.prog.funcNamed "mortise/mortiselaw5.ParseDeep" = some 7 by kernel_rfl).symm.trans hf) |>.symm
      obtain rfl : fn = Tryz.f7 := (Option.some.inj (Tryz.func7.symm.trans hfn)).symm
      exact ⟨by kernel_rfl, fun j t ht => by
        have hm := Array.mem_of_getElem? ht
        rw [Tryz.params7] at hm
        simp at hm
        (first | (rcases hm with rfl | rfl | rfl) | (rcases hm with rfl | rfl) | subst hm) <;> exact (show Tryz.prog.wantsStandIn _ = false by kernel_rfl)⟩)
    (by kernel_rfl)
#print axioms proved
end Go.Proofs.YtihnnbeepfgphaaGreatDoor.parseDeep
