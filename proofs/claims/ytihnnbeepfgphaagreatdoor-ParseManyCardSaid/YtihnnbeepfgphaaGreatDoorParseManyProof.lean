/-
  As many nodes as there may be are read, more are refused; the library's variables start as their texts lay them.
-/
import Derived.Test.YtihnnbeepfgphaaGreatDoorRows
import Derived.Test.YtihnnbeepfgphaaGreatDoorLexR5
import Derived.Test.YtihnnbeepfgphaaGreatDoorLawT
import Derived.Test.YtihnnbeepfgphaaGreatDoorLawM
import Derived.WalkKit
namespace Go.Proofs.YtihnnbeepfgphaaGreatDoor.parseMany
open Go.ChangeShapes Go.WideShapes Go.ChangeAt Go.RowKit
set_option linter.unusedVariables false
set_option linter.unusedSimpArgs false

/-! ### The walk. -/
def mid : Nat → List UInt8
  | 0 => []
  | k + 1 => 123 :: 125 :: 123 :: 125 :: mid k
theorem mid_len : ∀ k : Nat, (mid k).length = 4 * k
  | 0 => rfl
  | k + 1 => by simp only [mid, List.length_cons, mid_len k]; omega
theorem mid_snoc : ∀ k : Nat, mid k ++ [123, 125, 123, 125] = mid (k + 1)
  | 0 => rfl
  | k + 1 => by
    have := mid_snoc k
    simp only [mid, List.cons_append] at this ⊢
    rw [this]
theorem mid_end : ∀ k : Nat, mid k ++ [125] = brs k
  | 0 => rfl
  | k + 1 => by simp only [mid, brs, List.cons_append, mid_end k]
set_option maxRecDepth 100000 in
set_option maxHeartbeats 4000000 in
theorem walk (w : World) (ht : ErrT w) (b : Int) (hb : 0 ≤ b ∧ b ≤ 65535) : Calls Tryz.prog 8 #[.int .u16 b] w fun e w' => e = .returned (.bool true) ∧ Below w.heap.size w w' := by
  have HT := Lib.hid ht
  clear ht
  obtain ⟨b0, b1⟩ := hb
  obtain ⟨k, hk⟩ : ∃ k : Nat, b % 1600 = k := ⟨(b % 1600).toNat, by omega⟩
  have hk2 : k < 1600 := by omega
  have k0 : (0 : Int) ≤ (k : Int) := by omega
  have k1 : (k : Int) < 1600 := by omega
  have hbys0 : Bys (w.alloc (.cells #[.int .u8 112, .int .u8 97, .int .u8 99, .int .u8 107, .int .u8 97, .int .u8 103, .int .u8 101, .int .u8 32, .int .u8 97, .int .u8 59, .int .u8 118, .int .u8 97, .int .u8 114, .int .u8 32, .int .u8 120, .int .u8 32, .int .u8 105, .int .u8 110, .int .u8 116, .int .u8 59, .int .u8 102, .int .u8 117, .int .u8 110, .int .u8 99, .int .u8 32, .int .u8 102, .int .u8 40, .int .u8 41, .int .u8 123] 5 (29, 30))) w.heap.size (.slice (some ⟨w.heap.size, 0, none⟩) 29 29) 29 ((manyP ++ mid 0).map byteV) := by
    refine ⟨⟨_, _, rfl⟩, .inr ⟨w.heap.size, rfl, Nat.le_refl _, by simp, rfl, fun j u hu => ?_⟩⟩
    have e : (⟨w.heap.size, 0, none⟩ : Addr).add j = ⟨w.heap.size, j, none⟩ := by unfold Addr.add; by_cases hj : j = 0 <;> simp [hj]
    rw [e]
    exact (cell_of_row _ w.heap.size j _ _ (29, 30) (heap_alloc_new w _)).trans (by rw [← Array.getElem?_toList]; exact hu)
  have HO := Lib.hid hbys0
  clear hbys0
  go_enter Tryz.func8, Tryz.ntmps8
  have HK := Lib.hid hk
  clear hk
  have kc := fun (w : World) (C : Array Value) (n c : Nat) => Lib.run_convert_bytes_const (P := Tryz.prog) w 41 5 C n c Tryz.underlying41 Tryz.underlying5
  go_wp2
  go_loopw [4, 5] (fun v i wr => ∃ j : Nat, j ≤ k ∧ i = .int .i64 j ∧ Bys wr w.heap.size v (29 + 4 * j) ((manyP ++ mid j).map byteV) ∧ Below w.heap.size w wr) (fun _ i _ => k - (intOf i).toNat)
  case atStart => exact ⟨0, Nat.zero_le _, rfl, HO.out, (Below.refl _ _).alloc (Nat.le_refl _) _⟩
  case round =>
    have hk := HK.out
    obtain ⟨j, hj, rfl, hown, hB⟩ := hrel
    obtain ⟨wo, rfl⟩ : ∃ wo : World, wo = wr := ⟨_, rfl⟩
    obtain ⟨AO, cO, rfl⟩ := hown.1
    have HOWN := Lib.hid hown
    clear hown
    have j0 : (0 : Int) ≤ (j : Int) := by omega
    by_cases hlt : j < k
    · have hlt' : (j : Int) < b % 1600 := by omega
      have hj2 : (j : Int) ≤ 1600 := by omega
      have HTM := Lib.hid (show (manyP ++ mid (j + 1)).map byteV = (manyP ++ mid j).map byteV ++ (⟨#[123, 125, 123, 125]⟩ : ByteArray).data.toList.map byteV by rw [← mid_snoc, ← List.append_assoc, List.map_append])
      have hown2 := HOWN.out.string 41 ⟨#[123, 125, 123, 125]⟩ (by decide) (by show 29 + 4 * j + 4 ≤ _; omega) hB.size
      clear hk
      go_wp2_with (at_builtin; refine wpList_bys rfl (.tmp 19) (.const (.string ⟨#[123, 125, 123, 125]⟩)) _ _ rfl _ _ rfl rfl _ hown2 ?_; rintro v' w2 ⟨hown3, hg2⟩)
      have HO2 := Lib.hid hown3
      have hB2 : Below w.heap.size w w2 := hB.grown hg2 hB.size HOWN.out.own_lt
      obtain ⟨A2, c2, rfl⟩ := own_shape hown3
      clear hown3 hg2 hown2
      go_roundw
      case rel => exact ⟨j + 1, by omega, by go_num, ⟨⟨_, _, rfl⟩, .inl (by rw [HTM.out]; exact HO2.out)⟩, hB2⟩
      case measure => simp [intOf]; omega
    · obtain rfl : j = k := by omega
      have hlt' : ¬ (j : Int) < b % 1600 := by omega
      have hj1 : (j : Int) ≤ 1600 := by omega
      have h31 : 3000 < 2 * j + 5 → ¬ 2 * (b % 1600) + 5 ≤ 3000 := by omega
      have h32 : ¬ 3000 < 2 * j + 5 → 2 * (b % 1600) + 5 ≤ 3000 := by omega
      clear hk
      have HTM := Lib.hid (show (manyP ++ brs j).map byteV = (manyP ++ mid j).map byteV ++ [.int .u8 125] by rw [← mid_end, ← List.append_assoc, List.map_append]; rfl)
      have hal : Bys (wo.alloc (.cells #[.int .u8 125] 5)) w.heap.size (.slice AO (29 + 4 * j) cO) (29 + 4 * j) ((manyP ++ mid j).map byteV) := by
        refine ⟨⟨_, _, rfl⟩, ?_⟩
        rcases HOWN.out.2 with h | ⟨g, h1, h2, h3, h4, h5⟩
        · exact .inl (h.alloc _)
        · exact .inr ⟨g, h1, h2, by simp; omega, h4, fun j u hu => (World.cell?_alloc_lt wo _ _ (by rw [block_of_add]; exact h3)).trans (h5 j u hu)⟩
      have hown2 := hal.bytes 41 wo.heap.size 1 1 [.int .u8 125] (by omega) rfl (fun j u hu => (cell_of_row _ wo.heap.size j _ _ (0, 0) (heap_alloc_new wo _)).trans (by rw [← Array.getElem?_toList]; exact hu)) (by simp) (by simp [Value.oneCell']) (by omega) (by have := hB.size; simp; omega)
      have HAL := Lib.hid hal
      clear hal
      go_wp2_with (at_builtin; refine wpList_bys rfl (.tmp 21) (.tmp 22) _ _ rfl _ _ rfl rfl _ hown2 ?_; rintro v' w2 ⟨hown3, hg2⟩)
      have hlen : (manyP ++ brs j).length = 29 + 4 * j + 1 := by rw [List.length_append, brs_len]; rfl
      obtain ⟨A9, c9, rfl⟩ := own_shape hown3
      have hcv := own_string (w := w2) (base := w.heap.size) (v := .slice A9 (29 + 4 * j + 1) c9) (l := manyP ++ brs j) (by rw [hlen, HTM.out]; exact hown3)
      have hB2 : Below w.heap.size w w2 := (hB.alloc hB.size _).grown hg2 (by have := hB.size; simp; omega) HAL.out.own_lt
      have HT2 := Lib.hid (HT.out.below hB2)
      have hp := parse_many j hk2
      rw [← bs_list (manyP ++ brs j)] at hp
      clear hown2 hown3 hg2 hlt hk2 hlen
      by_cases h3 : 3000 < 2 * j + 5
      · rw [if_pos h3] at hp
        have HP := Lib.hid hp
        have h3' := h31 h3
        clear hp h3 h31 h32
        go_wp2_with fail
        rw [hcv]
        go_wp2_with (first
          | (go_at_call 13; refine (parse_fault _ _ HT2.out _ _ HP.out).mono ?_; rintro e w3 ⟨rfl, hb3⟩; have HT3 := Lib.hid (HT2.out.below hb3))
          | (go_at_call 14; refine (lnum_any _ _).mono ?_; rintro e w' ⟨rfl, rfl⟩)
          | (go_at_call 12; refine (lawake_any _ (HT3.out.alloc _)).mono ?_; rintro e w9 ⟨rfl, hb9⟩))
        go_ret
        exact ⟨rfl, (hB2.trans ((hb3.alloc hb3.size _).mono hB2.size)).trans (hb9.mono (by have := hB2.size; have := hb3.size; simp; omega))⟩
      · rw [if_neg h3] at hp
        have HP := Lib.hid (show _ = PR.tree (Tr.mk _ _ _ _ _ _ _) from hp)
        have h3' := h32 h3
        clear hp h3 h31 h32
        go_wp2_with fail
        rw [hcv]
        go_wp2_with (first
          | (go_at_call 13; refine (parse_tree _ _ HT2.out _ _ _ _ _ _ _ HP.out).mono ?_; rintro e w3 ⟨A3, c3, rfl, hb3, hr3⟩; have HT3 := Lib.hid (HT2.out.below hb3))
          | (go_at_call 14; refine (lnum_any _ _).mono ?_; rintro e w' ⟨rfl, rfl⟩)
          | (go_at_call 12; refine (lawake_any _ (HT3.out.alloc _)).mono ?_; rintro e w9 ⟨rfl, hb9⟩))
        go_ret
        exact ⟨rfl, (hB2.trans ((hb3.alloc hb3.size _).mono hB2.size)).trans (hb9.mono (by have := hB2.size; have := hb3.size; simp; omega))⟩

/-! ### The row's step. -/
set_option maxRecDepth 100000 in
theorem lifted (os : Os) (started : os.Started) (H : Type) (enc : TypeId × Value → H) :
    ReturnsInHanded {} Tryz.checked os 8 .any (fun w args => (Rows.parseManySpec.pre enc Tryz.prog Tryz.f8 Rows.parseManyRow.domain false w args ∧ laidMet Tryz.prog Rows.parseManyRow.laid w) ∧ sizedMet enc Tryz.prog Tryz.f8 (OpenSpec.ofChange Rows.parseManySpec) false w args)
      (Rows.parseManySpec.post enc Tryz.prog Tryz.f8 false true false false) := by
  refine returnsInHanded_of_change_and (C := Tryz.checked) (X := fun w _ => laidMet Tryz.prog Rows.parseManyRow.laid w) (fun _ _ _ hh h => h.of_heap hh) own started (by kernel_rfl) Tryz.func8
    (ChangeSpec.witness_at (enc := enc) (C := Tryz.checked) (os := os) (X := fun w _ => laidMet Tryz.prog Rows.parseManyRow.laid w) false (laidWorld os) #[.int .u16 0] 8 rfl (by kernel_rfl) (by kernel_rfl) (by kernel_rfl) (by kernel_rfl) (by kernel_rfl) (laidWorld_met os _)) ?_
  intro W base args ds gs before hval0 hW _ _ hL _
  have hval : ∀ (j : Nat) t v, Tryz.f8.params[j]? = some t → args[j]? = some v → Value.okWide Tryz.prog W .any base t v := hval0
  have hW' := hW
  obtain ⟨p, q, hA0, hV, rfl, _, _⟩ := hW
  have hA : DataW.TrodAll enc Tryz.prog W 0 (fun _ => true) true Tryz.f8.params.toList args.toList ds p := hA0
  rw [Tryz.params8] at hA hval
  obtain ⟨v0, vs0, d0, ds0, p0, q0, hargs, rfl, rfl, h0, r0⟩ := trodAll_cons hA
  obtain ⟨rfl, rfl, rfl⟩ := trodAll_nil r0
  obtain rfl : args = #[v0] := by cases args; simp_all
  obtain ⟨rfl, rfl⟩ := trodVars_none hV
  obtain ⟨a0, rfl, rfl, rfl, w0⟩ := open_int Tryz.underlying40 (hval 0 40 v0 rfl rfl) h0
  have ha0 := u16_of w0
  refine (walk W (errT_of_laid hL) a0 ha0).mono fun e W' ⟨he, hb⟩ => ?_
  subst he
  exact ⟨_, rfl, post_law laidOut (by rw [Tryz.params8]; intro t ht; simp at ht; (first | (rcases ht with rfl | rfl | rfl) | (rcases ht with rfl | rfl) | subst ht) <;> exact ⟨by kernel_rfl, of_decide_eq_true (by kernel_rfl)⟩) rfl rfl Tryz.underlying4 rfl hW' hb⟩

theorem over : Rows.parseManyRow.holds Tryz.pinned (OpenSpec.ofChange Rows.parseManySpec) :=
  OpenClaim.holds_of_wide 8 Tryz.f8 rfl rfl rfl rfl rfl rfl rfl ⟨rfl, rfl, rfl, rfl, rfl⟩ rfl rfl rfl rfl rfl (by kernel_rfl) Tryz.func8 (by kernel_rfl)
    (of_decide_eq_true (by kernel_rfl)) (by unfold Func.isWrapper; first | (rw [if_pos (by decide +kernel)]; kernel_rfl) | (rw [if_neg (by decide +kernel)]; exact ⟨rfl, rfl⟩))
    (fun os started H enc _ => lifted os started H enc)

/-- The statement. -/
theorem proved : Rows.ParseManyCardSaid :=
  Claim7.holds_tied_plain_at .later [] _ true _ true
    over (fun _ h => by cases h) (by kernel_rfl) (fun _ h => by cases h) parseMany_row_tie rfl ⟨rfl, rfl⟩ (by kernel_rfl) rfl
    (fun f fn hf hfn => by
      obtain rfl : f = 8 := Option.some.inj ((show Tryz.prog.funcNamed "mortise/mortiselaw5.ParseMany" = some 8 by kernel_rfl).symm.trans hf) |>.symm
      obtain rfl : fn = Tryz.f8 := (Option.some.inj (Tryz.func8.symm.trans hfn)).symm
      exact ⟨by kernel_rfl, fun j t ht => by
        have hm := Array.mem_of_getElem? ht
        rw [Tryz.params8] at hm
        simp at hm
        (first | (rcases hm with rfl | rfl | rfl) | (rcases hm with rfl | rfl) | subst hm) <;> exact (show Tryz.prog.wantsStandIn _ = false by kernel_rfl)⟩)
    (by kernel_rfl)
#print axioms proved
end Go.Proofs.YtihnnbeepfgphaaGreatDoor.parseMany
