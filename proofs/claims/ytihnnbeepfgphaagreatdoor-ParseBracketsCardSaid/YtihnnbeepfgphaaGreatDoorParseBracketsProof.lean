/-
  Brackets about an expression make no node; as many as may be open are read, one more is too deep, and said where; the library's variables start as their texts lay them.
-/
import Derived.Test.YtihnnbeepfgphaaGreatDoorRows
import Derived.Test.YtihnnbeepfgphaaGreatDoorLexR5
import Derived.Test.YtihnnbeepfgphaaGreatDoorLawT
import Derived.WalkKit
namespace Go.Proofs.YtihnnbeepfgphaaGreatDoor.parseBrackets
open Go.ChangeShapes Go.WideShapes Go.ChangeAt Go.RowKit
set_option linter.unusedVariables false
set_option linter.unusedSimpArgs false

/-! ### The walk. -/
theorem bs_add (l m : List UInt8) : bs l ++ (⟨m.toArray⟩ : ByteArray) = bs (l ++ m) := by
  refine ByteArray.ext ?_
  simp [bs]
theorem rep_snoc (k : Nat) (c : UInt8) : bs (List.replicate k c) ++ (⟨#[c]⟩ : ByteArray) = bs (List.replicate (k + 1) c) := by
  rw [List.replicate_succ']
  exact bs_add (List.replicate k c) [c]
theorem br_text (k : Nat) : preP ++ (bs (List.replicate k 40) ++ (⟨#[55]⟩ : ByteArray) ++ bs (List.replicate k 41)).data.toList ++ [59] = brP k := by
  simp [preP, brP, bs]
theorem br_text2 (k : Nat) : ((⟨#[112, 97, 99, 107, 97, 103, 101, 32, 97, 59, 32, 118, 97, 114, 32, 120, 32, 105, 110, 116, 32, 61, 32]⟩ : ByteArray) ++ bs (List.replicate k 40) ++ (⟨#[55]⟩ : ByteArray) ++ bs (List.replicate k 41) ++ (⟨#[59]⟩ : ByteArray)).data.toList = brP k := by
  simp [preP, brP, bs]
set_option maxRecDepth 100000 in
set_option maxHeartbeats 2000000 in
theorem walk (w : World) (ht : ErrT w) (b : Int) (hb : 0 ≤ b ∧ b ≤ 255) : Calls Tryz.prog 6 #[.int .u8 b] w fun e w' => e = .returned (.bool true) ∧ Below w.heap.size w w' := by
  have HT := Lib.hid ht
  clear ht
  obtain ⟨b0, b1⟩ := hb
  obtain ⟨k, hk⟩ : ∃ k : Nat, b % 60 = k := ⟨(b % 60).toNat, by omega⟩
  have hk2 : k < 60 := by omega
  have k0 : (0 : Int) ≤ (k : Int) := by omega
  go_enter Tryz.func6, Tryz.ntmps6
  have HK := Lib.hid hk
  clear hk
  go_wp2
  go_loop [4, 5, 6] (fun s t i => ∃ j : Nat, j ≤ k ∧ i = .int .i64 j ∧ s = .string (bs (List.replicate j 40)) ∧ t = .string (bs (List.replicate j 41))) (fun _ _ i => k - (intOf i).toNat)
  case atStart => exact ⟨0, Nat.zero_le _, rfl, rfl, rfl⟩
  case round =>
    have hk := HK.out
    obtain ⟨j, hj, rfl, rfl, rfl⟩ := hrel
    have hsz : (bs (List.replicate j 40)).size ≤ 60 := by rw [bs_size, List.length_replicate]; omega
    have hsz2 : (bs (List.replicate j 41)).size ≤ 60 := by rw [bs_size, List.length_replicate]; omega
    have j0 : (0 : Int) ≤ (j : Int) := by omega
    by_cases hlt : j < k
    · have hlt' : (j : Int) < b % 60 := by omega
      have hj2 : (j : Int) ≤ 60 := by omega
      clear hk
      go_wp2
      go_round
      case rel => exact ⟨j + 1, by omega, by go_num, congrArg Value.string (rep_snoc _ _), congrArg Value.string (rep_snoc _ _)⟩
      case measure => simp [intOf]; omega
    · obtain rfl : j = k := by omega
      have hlt' : ¬ (j : Int) < b % 60 := by omega
      have HS := Lib.hid (show (bs (List.replicate j 40) ++ (⟨#[55]⟩ : ByteArray) ++ bs (List.replicate j 41)).size ≤ 1000 by rw [ByteArray.size_append, ByteArray.size_append]; have : (⟨#[55]⟩ : ByteArray).size = 1 := rfl; omega)
      by_cases h40 : j ≤ 40
      · obtain ⟨op, p, tx, a, ks, hp⟩ := br_yes j h40
        rw [← br_text] at hp
        have HP := Lib.hid hp
        have h40' : b % 60 ≤ 40 := by omega
        clear hp hk hk2 h40 hlt
        go_wp2_with (first
          | (go_at_call 16; refine (expr_yes _ HS.out _ HT.out _ _ _ _ _ _ _ HP.out).mono ?_; rintro e w1 ⟨A, c, rfl, hb1, hr⟩))
        go_ret
        exact ⟨rfl, hb1.alloc hb1.size _⟩
      · have hp := br_no j (by omega) hk2
        have HP2 := Lib.hid ((congrArg parseD (br_text2 j)).trans hp)
        rw [← br_text] at hp
        have HP := Lib.hid hp
        have h40' : ¬ b % 60 ≤ 40 := by omega
        clear hp hk hk2 h40 hlt
        go_wp2_with (first
          | (go_at_call 16; refine (expr_no _ HS.out _ HT.out _ _ HP.out (by decide)).mono ?_; rintro e w1 ⟨rfl, hb1⟩; have HT1 := Lib.hid (HT.out.below hb1))
          | (go_at_call 13; refine (parse_fault _ _ (HT1.out.alloc _) _ _ HP2.out).mono ?_; rintro e w2 ⟨rfl, hb2⟩)
          | (go_at_call 14; refine (lnum_any _ _).mono ?_; rintro e w' ⟨rfl, rfl⟩))
        go_ret
        exact ⟨rfl, ((hb1.alloc hb1.size _).trans (hb2.mono (by have := hb1.size; simp; omega))).alloc (by have := hb1.size; have := hb2.size; simp at this; omega) _⟩

/-! ### The row's step. -/
set_option maxRecDepth 100000 in
theorem lifted (os : Os) (started : os.Started) (H : Type) (enc : TypeId × Value → H) :
    ReturnsInHanded {} Tryz.checked os 6 .any (fun w args => (Rows.parseBracketsSpec.pre enc Tryz.prog Tryz.f6 Rows.parseBracketsRow.domain false w args ∧ laidMet Tryz.prog Rows.parseBracketsRow.laid w) ∧ sizedMet enc Tryz.prog Tryz.f6 (OpenSpec.ofChange Rows.parseBracketsSpec) false w args)
      (Rows.parseBracketsSpec.post enc Tryz.prog Tryz.f6 false true false false) := by
  refine returnsInHanded_of_change_and (C := Tryz.checked) (X := fun w _ => laidMet Tryz.prog Rows.parseBracketsRow.laid w) (fun _ _ _ hh h => h.of_heap hh) own started (by kernel_rfl) Tryz.func6
    (ChangeSpec.witness_at (enc := enc) (C := Tryz.checked) (os := os) (X := fun w _ => laidMet Tryz.prog Rows.parseBracketsRow.laid w) false (laidWorld os) #[.int .u8 0] 8 rfl (by kernel_rfl) (by kernel_rfl) (by kernel_rfl) (by kernel_rfl) (by kernel_rfl) (laidWorld_met os _)) ?_
  intro W base args ds gs before hval0 hW _ _ hL _
  have hval : ∀ (j : Nat) t v, Tryz.f6.params[j]? = some t → args[j]? = some v → Value.okWide Tryz.prog W .any base t v := hval0
  have hW' := hW
  obtain ⟨p, q, hA0, hV, rfl, _, _⟩ := hW
  have hA : DataW.TrodAll enc Tryz.prog W 0 (fun _ => true) true Tryz.f6.params.toList args.toList ds p := hA0
  rw [Tryz.params6] at hA hval
  obtain ⟨v0, vs0, d0, ds0, p0, q0, hargs, rfl, rfl, h0, r0⟩ := trodAll_cons hA
  obtain ⟨rfl, rfl, rfl⟩ := trodAll_nil r0
  obtain rfl : args = #[v0] := by cases args; simp_all
  obtain ⟨rfl, rfl⟩ := trodVars_none hV
  obtain ⟨a0, rfl, rfl, rfl, w0⟩ := open_int Tryz.underlying5 (hval 0 5 v0 rfl rfl) h0
  have ha0 := u8_of w0
  refine (walk W (errT_of_laid hL) a0 ha0).mono fun e W' ⟨he, hb⟩ => ?_
  subst he
  exact ⟨_, rfl, post_law laidOut (by rw [Tryz.params6]; intro t ht; simp at ht; (first | (rcases ht with rfl | rfl | rfl) | (rcases ht with rfl | rfl) | subst ht) <;> exact ⟨by kernel_rfl, of_decide_eq_true (by kernel_rfl)⟩) rfl rfl Tryz.underlying4 rfl hW' hb⟩

theorem over : Rows.parseBracketsRow.holds Tryz.pinned (OpenSpec.ofChange Rows.parseBracketsSpec) :=
  OpenClaim.holds_of_wide 6 Tryz.f6 rfl rfl rfl rfl rfl rfl rfl ⟨rfl, rfl, rfl, rfl, rfl⟩ rfl rfl rfl rfl rfl (by kernel_rfl) Tryz.func6 (by kernel_rfl)
    (of_decide_eq_true (by kernel_rfl)) (by unfold Func.isWrapper; first | (rw [if_pos (by decide +kernel)]; kernel_rfl) | (rw [if_neg (by decide +kernel)]; exact ⟨rfl, rfl⟩))
    (fun os started H enc _ => lifted os started H enc)

/-- The statement. -/
theorem proved : Rows.ParseBracketsCardSaid :=
  Claim7.holds_tied_plain_at .later [] _ true _ true
    over (fun _ h => by cases h) (by kernel_rfl) (fun _ h => by cases h) parseBrackets_row_tie rfl ⟨rfl, rfl⟩ (by kernel_rfl) rfl
    (fun f fn hf hfn => by
      obtain rfl : f = 6 := Option.some.inj ((show Tryz.prog.funcNamed "mortise/mortiselaw5.ParseBrackets" = some 6 by kernel_rfl).symm.trans hf) |>.symm
      obtain rfl : fn = Tryz.f6 := (Option.some.inj (Tryz.func6.symm.trans hfn)).symm
      exact ⟨by kernel_rfl, fun j t ht => by
        have hm := Array.mem_of_getElem? ht
        rw [Tryz.params6] at hm
        simp at hm
        (first | (rcases hm with rfl | rfl | rfl) | (rcases hm with rfl | rfl) | subst hm) <;> exact (show Tryz.prog.wantsStandIn _ = false by kernel_rfl)⟩)
    (by kernel_rfl)
#print axioms proved
end Go.Proofs.YtihnnbeepfgphaaGreatDoor.parseBrackets
