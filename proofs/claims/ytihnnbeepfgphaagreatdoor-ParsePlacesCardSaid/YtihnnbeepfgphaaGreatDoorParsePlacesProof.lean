/-
  Every text is a tree that is neither too great nor too deep, or there is a place in it, or its end, that is told; the library's variables start as their texts lay them.
-/
import Derived.Test.YtihnnbeepfgphaaGreatDoorRows
import Derived.Test.YtihnnbeepfgphaaGreatDoorLexR5
import Derived.Test.YtihnnbeepfgphaaGreatDoorLawS
import Derived.WalkKit
namespace Go.Proofs.YtihnnbeepfgphaaGreatDoor.parsePlaces
open Go.ChangeShapes Go.WideShapes Go.ChangeAt Go.RowKit
set_option linter.unusedVariables false
set_option linter.unusedSimpArgs false

/-! ### The walk. -/
set_option maxRecDepth 100000 in
set_option maxHeartbeats 2000000 in
theorem walk (w : World) (ht : ErrT w) (s : ByteArray) (hs : s.size ≤ maxLen) : Calls Tryz.prog 4 #[.string s] w fun e w' => e = .returned (.bool true) ∧ Below w.heap.size w w' := by
  have HT := Lib.hid ht
  clear ht
  have hsl : s.data.toList.length = s.size := by simp
  rcases parseD_says s.data.toList with ⟨a, k, hp, ha, hk⟩ | ⟨tx, a, ks, hp, hn, hd⟩
  · have HP := Lib.hid hp
    have a0 : (0 : Int) ≤ (a : Int) := by omega
    have a1 : (a : Int) ≤ (s.size : Int) := by omega
    have hne : (k != 0) = true := by simpa using hk
    clear hp hk ha hsl
    go_enter Tryz.func4, Tryz.ntmps4
    go_wp2_with (first
      | (go_at_call 13; refine (parse_fault s _ HT.out a k HP.out).mono ?_; rintro e w1 ⟨rfl, hb1⟩; have HT1 := Lib.hid (HT.out.below hb1))
      | (go_at_call 14; refine (lnum_any _ _).mono ?_; rintro e w' ⟨rfl, rfl⟩)
      | (go_at_call 12; refine (lawake_any _ (HT1.out.alloc _)).mono ?_; rintro e w9 ⟨rfl, hb9⟩))
    go_ret
    exact ⟨rfl, (hb1.alloc hb1.size _).trans (hb9.mono (by have := hb1.size; simp; omega))⟩
  · have HP := Lib.hid hp
    have n0 : ((Tr.mk 1 0 0 [] tx a ks).nodes : Int) ≤ 3000 := by omega
    have d0 : ((Tr.mk 1 0 0 [] tx a ks).deep : Int) ≤ 100 := by omega
    have hn' : (Tr.mk 1 0 0 [] tx a ks).nodes ≤ 20000 := by omega
    clear hp hsl hn hd
    obtain ⟨N, hN⟩ : ∃ N, (Tr.mk 1 0 0 [] tx a ks).nodes = N := ⟨_, rfl⟩
    obtain ⟨D, hD⟩ : ∃ D, (Tr.mk 1 0 0 [] tx a ks).deep = D := ⟨_, rfl⟩
    have HM := fun (w : World) (F : Nat → Prop) (vs : List Value) (h : Rep w F (Tr.mk 1 0 0 [] tx a ks) vs) => meas_any 20000 _ hn' (Nat.le_refl _) 3000 w F vs h n0 (by omega)
    rw [hN, hD] at HM
    rw [hN] at n0
    rw [hD] at d0
    have HM := Lib.hid HM
    clear hN hD hn'
    go_enter Tryz.func4, Tryz.ntmps4
    go_wp2_with (first
      | (go_at_call 13; refine (parse_tree s _ HT.out _ _ _ _ _ _ _ HP.out).mono ?_; rintro e w1 ⟨A, c, rfl, hb1, hr⟩; have HR := Lib.hid hr; clear hr; have HT1 := Lib.hid (HT.out.below hb1))
      | (go_at_call 15; refine (HM.out _ _ _ (HR.out.bel ((Below.refl _ _).alloc (Nat.le_refl _) _))).mono ?_; rintro e w2 ⟨rfl, hb2⟩; have hbx := (Blk.new w1 28 #[.int .i64 1, .int .i64 0, .int .i64 0, .string (bs []), .string (bs tx), .int .i64 a, .slice A ks.length c]).bel hb2; have x0 := hbx.cell 0; have xl := hbx.lt)
      | (go_at_call 14; refine (lnum_any _ _).mono ?_; rintro e w' ⟨rfl, rfl⟩)
      | (go_at_call 12; refine (lawake_any _ ((HT1.out.alloc _).below hb2)).mono ?_; rintro e w9 ⟨rfl, hb9⟩))
    go_ret
    exact ⟨rfl, ((hb1.alloc hb1.size _).trans (hb2.mono (by have := hb1.size; simp; omega))).trans (hb9.mono (by have := hb1.size; have := hb2.size; simp at this; omega))⟩

/-! ### The row's step. -/
set_option maxRecDepth 100000 in
theorem lifted (os : Os) (started : os.Started) (H : Type) (enc : TypeId × Value → H) :
    ReturnsInHanded {} Tryz.checked os 4 .any (fun w args => (Rows.parsePlacesSpec.pre enc Tryz.prog Tryz.f4 Rows.parsePlacesRow.domain false w args ∧ laidMet Tryz.prog Rows.parsePlacesRow.laid w) ∧ sizedMet enc Tryz.prog Tryz.f4 (OpenSpec.ofChange Rows.parsePlacesSpec) false w args)
      (Rows.parsePlacesSpec.post enc Tryz.prog Tryz.f4 false true false false) := by
  refine returnsInHanded_of_change_and (C := Tryz.checked) (X := fun w _ => laidMet Tryz.prog Rows.parsePlacesRow.laid w) (fun _ _ _ hh h => h.of_heap hh) own started (by kernel_rfl) Tryz.func4
    (ChangeSpec.witness_at (enc := enc) (C := Tryz.checked) (os := os) (X := fun w _ => laidMet Tryz.prog Rows.parsePlacesRow.laid w) false (laidWorld os) #[.string ⟨#[]⟩] 8 rfl (by kernel_rfl) (by kernel_rfl) (by kernel_rfl) (by kernel_rfl) (by kernel_rfl) (laidWorld_met os _)) ?_
  intro W base args ds gs before hval0 hW _ _ hL _
  have hval : ∀ (j : Nat) t v, Tryz.f4.params[j]? = some t → args[j]? = some v → Value.okWide Tryz.prog W .any base t v := hval0
  have hW' := hW
  obtain ⟨p, q, hA0, hV, rfl, _, _⟩ := hW
  have hA : DataW.TrodAll enc Tryz.prog W 0 (fun _ => true) true Tryz.f4.params.toList args.toList ds p := hA0
  rw [Tryz.params4] at hA hval
  obtain ⟨v0, vs0, d0, ds0, p0, q0, hargs, rfl, rfl, h0, r0⟩ := trodAll_cons hA
  obtain ⟨rfl, rfl, rfl⟩ := trodAll_nil r0
  obtain rfl : args = #[v0] := by cases args; simp_all
  obtain ⟨rfl, rfl⟩ := trodVars_none hV
  obtain ⟨s0, rfl, rfl, rfl, hs0⟩ := Go.ChangeMaps.open_string Tryz.underlying9 (hval 0 9 v0 rfl rfl) h0
  refine (walk W (errT_of_laid hL) s0 hs0).mono fun e W' ⟨he, hb⟩ => ?_
  subst he
  exact ⟨_, rfl, post_law laidOut (by rw [Tryz.params4]; intro t ht; simp at ht; (first | (rcases ht with rfl | rfl | rfl) | (rcases ht with rfl | rfl) | subst ht) <;> exact ⟨by kernel_rfl, of_decide_eq_true (by kernel_rfl)⟩) rfl rfl Tryz.underlying4 rfl hW' hb⟩

theorem over : Rows.parsePlacesRow.holds Tryz.pinned (OpenSpec.ofChange Rows.parsePlacesSpec) :=
  OpenClaim.holds_of_wide 4 Tryz.f4 rfl rfl rfl rfl rfl rfl rfl ⟨rfl, rfl, rfl, rfl, rfl⟩ rfl rfl rfl rfl rfl (by kernel_rfl) Tryz.func4 (by kernel_rfl)
    (of_decide_eq_true (by kernel_rfl)) (by unfold Func.isWrapper; first | (rw [if_pos (by decide +kernel)]; kernel_rfl) | (rw [if_neg (by decide +kernel)]; exact ⟨rfl, rfl⟩))
    (fun os started H enc _ => lifted os started H enc)

/-- The statement. -/
theorem proved : Rows.ParsePlacesCardSaid :=
  Claim7.holds_tied_plain_at .later [] _ true _ true
    over (fun _ h => by cases h) (by kernel_rfl) (fun _ h => by cases h) parsePlaces_row_tie rfl ⟨rfl, rfl⟩ (by kernel_rfl) rfl
    (fun f fn hf hfn => by
      obtain rfl : f = 4 := Option.some.inj ((show Tryz.prog.funcNamed "mortise/mortiselaw5.ParsePlaces" = some 4 by kernel_rfl).symm.trans hf) |>.symm
      obtain rfl : fn = Tryz.f4 := (Option.some.inj (Tryz.func4.symm.trans hfn)).symm
      exact ⟨by kernel_rfl, fun j t ht => by
        have hm := Array.mem_of_getElem? ht
        rw [Tryz.params4] at hm
        simp at hm
        (first | (rcases hm with rfl | rfl | rfl) | (rcases hm with rfl | rfl) | subst hm) <;> exact (show Tryz.prog.wantsStandIn _ = false by kernel_rfl)⟩)
    (by kernel_rfl)
#print axioms proved
end Go.Proofs.YtihnnbeepfgphaaGreatDoor.parsePlaces
