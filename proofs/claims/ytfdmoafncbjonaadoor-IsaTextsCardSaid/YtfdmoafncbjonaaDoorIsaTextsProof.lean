/-
  For every instruction the program's Text answers what the document's Text answers; the library's tables as their texts lay them.
-/
import Derived.Test.YtfdmoafncbjonaaDoorRows
import Derived.Test.YtfdmoafncbjonaaDoorIsaG
import Derived.Deep.RegionWith
import Derived.WalkKit
namespace Go.Proofs.YtfdmoafncbjonaaDoor.isaTexts
open Go.ChangeShapes Go.WideShapes Go.ChangeAt Go.RowKit
set_option linter.unusedVariables false

/-! ### The walk. -/
set_option maxHeartbeats 1000000 in
theorem walk (op a b c n : Int) (h_op : I64 op) (h_a : I64 a) (h_b : I64 b) (h_c : I64 c) (h_n : I64 n) (w : World) (ht : Tab w) :
    Calls Tryd.prog 6 #[inst op a b c n] w fun e w' => e = .returned (.bool true) ∧ Below w.heap.size w w' := by
  have ht := Lib.hid ht
  have HT0 : ∀ o, Tab ((w.alloc o).drew) := fun o => tab_heap (tab_alloc ht.out o) rfl
  unfold inst
  cases hF : F op a b c n
  · have hF := Lib.hid hF
    go_enter Tryd.func6, Tryd.ntmps6
    go_wp2_with fail
    go_region_with (first
      | (go_at_call 18; refine (text_no _ _ _ _ _ hF.out _).mono ?_; rintro e w1 ⟨rfl, hb1⟩; have HT1 : Tab w1 := tab_below (by first | assumption | exact tab_heap (tab_alloc ht.out _) rfl) hb1; have HB1 : Below w.heap.size w w1 := below_next (by first | assumption | exact below_box _ _ _ | exact below_heap (below_box _ _ _) rfl rfl rfl rfl) hb1; have HZ1 : w.heap.size + 1 ≤ w1.heap.size := (by have := hb1.size; (try simp at this); omega); have HX1 := fun o => hb1.cell (p := ⟨w.heap.size, o, none⟩) (by first | (simp; done) | (show w.heap.size < _; omega)); clear hb1)
      | (go_at_call 19; refine (rtext_no _ _ _ _ _ hF.out _).mono ?_; rintro e w2 ⟨rfl, hb2⟩; have HT2 : Tab w2 := tab_below (by first | assumption | exact tab_heap (tab_alloc ht.out _) rfl) hb2; have HB2 : Below w.heap.size w w2 := below_next (by first | assumption | exact below_box _ _ _ | exact below_heap (below_box _ _ _) rfl rfl rfl rfl) hb2; have HZ2 : w.heap.size + 1 ≤ w2.heap.size := (by have := hb2.size; (try simp at this); omega); have HX2 := fun o => hb2.cell (p := ⟨w.heap.size, o, none⟩) (by first | (simp; done) | (show w.heap.size < _; omega)); clear hb2)
      | (go_at_call 12; (first | (with_reducible refine (awake_any _ HT3).mono ?_) | (with_reducible refine (awake_any _ HT2).mono ?_) | (with_reducible refine (awake_any _ HT1).mono ?_) | refine (awake_any _ (HT0 _)).mono ?_); rintro e w3 ⟨rfl, hb3⟩; have HT3 : Tab w3 := tab_below (by first | assumption | exact tab_heap (tab_alloc ht.out _) rfl) hb3; have HB3 : Below w.heap.size w w3 := below_next (by first | assumption | exact below_box _ _ _ | exact below_heap (below_box _ _ _) rfl rfl rfl rfl) hb3; have HZ3 : w.heap.size + 1 ≤ w3.heap.size := (by have := hb3.size; (try simp at this); omega); have HX3 := fun o => hb3.cell (p := ⟨w.heap.size, o, none⟩) (by first | (simp; done) | (show w.heap.size < _; omega)); clear hb3))
    all_goals (go_wp2; go_ret; exact ⟨rfl, by assumption⟩)
  · have hF := Lib.hid hF
    go_enter Tryd.func6, Tryd.ntmps6
    go_wp2_with fail
    go_region_with (first
      | (go_at_call 18; (first | (with_reducible refine (text_yes _ _ _ _ _ hF.out _ HT3).mono ?_) | (with_reducible refine (text_yes _ _ _ _ _ hF.out _ HT2).mono ?_) | (with_reducible refine (text_yes _ _ _ _ _ hF.out _ HT1).mono ?_) | refine (text_yes _ _ _ _ _ hF.out _ (HT0 _)).mono ?_); rintro e w1 ⟨rfl, hb1⟩; have HT1 : Tab w1 := tab_below (by first | assumption | exact tab_heap (tab_alloc ht.out _) rfl) hb1; have HB1 : Below w.heap.size w w1 := below_next (by first | assumption | exact below_box _ _ _ | exact below_heap (below_box _ _ _) rfl rfl rfl rfl) hb1; have HZ1 : w.heap.size + 1 ≤ w1.heap.size := (by have := hb1.size; (try simp at this); omega); have HX1 := fun o => hb1.cell (p := ⟨w.heap.size, o, none⟩) (by first | (simp; done) | (show w.heap.size < _; omega)); clear hb1)
      | (go_at_call 19; refine (rtext_yes _ _ _ _ _ hF.out _).mono ?_; rintro e w2 ⟨rfl, hb2⟩; have HT2 : Tab w2 := tab_below (by first | assumption | exact tab_heap (tab_alloc ht.out _) rfl) hb2; have HB2 : Below w.heap.size w w2 := below_next (by first | assumption | exact below_box _ _ _ | exact below_heap (below_box _ _ _) rfl rfl rfl rfl) hb2; have HZ2 : w.heap.size + 1 ≤ w2.heap.size := (by have := hb2.size; (try simp at this); omega); have HX2 := fun o => hb2.cell (p := ⟨w.heap.size, o, none⟩) (by first | (simp; done) | (show w.heap.size < _; omega)); clear hb2)
      | (go_at_call 12; (first | (with_reducible refine (awake_any _ HT3).mono ?_) | (with_reducible refine (awake_any _ HT2).mono ?_) | (with_reducible refine (awake_any _ HT1).mono ?_) | refine (awake_any _ (HT0 _)).mono ?_); rintro e w3 ⟨rfl, hb3⟩; have HT3 : Tab w3 := tab_below (by first | assumption | exact tab_heap (tab_alloc ht.out _) rfl) hb3; have HB3 : Below w.heap.size w w3 := below_next (by first | assumption | exact below_box _ _ _ | exact below_heap (below_box _ _ _) rfl rfl rfl rfl) hb3; have HZ3 : w.heap.size + 1 ≤ w3.heap.size := (by have := hb3.size; (try simp at this); omega); have HX3 := fun o => hb3.cell (p := ⟨w.heap.size, o, none⟩) (by first | (simp; done) | (show w.heap.size < _; omega)); clear hb3))
    all_goals (go_wp2; go_ret; exact ⟨rfl, by assumption⟩)

/-! ### The row's step. -/
set_option maxRecDepth 100000 in
theorem lifted (os : Os) (started : os.Started) (H : Type) (enc : TypeId × Value → H) :
    ReturnsInHanded {} Tryd.checked os 6 .any (fun w args => (Rows.isaTextsSpec.pre enc Tryd.prog Tryd.f6 Rows.isaTextsRow.domain false w args ∧ laidMet Tryd.prog Rows.isaTextsRow.laid w) ∧ sizedMet enc Tryd.prog Tryd.f6 (OpenSpec.ofChange Rows.isaTextsSpec) false w args)
      (Rows.isaTextsSpec.post enc Tryd.prog Tryd.f6 false true false false) := by
  refine returnsInHanded_of_change_and (C := Tryd.checked) (X := fun w _ => laidMet Tryd.prog Rows.isaTextsRow.laid w) (fun _ _ _ hh h => h.of_heap hh) own started (by kernel_rfl) Tryd.func6
    (ChangeSpec.witness_at (enc := enc) (C := Tryd.checked) (os := os) (X := fun w _ => laidMet Tryd.prog Rows.isaTextsRow.laid w) false (laidWorld os) #[.agg #[.int .i64 0, .int .i64 0, .int .i64 0, .int .i64 0, .int .i64 0]] 8 rfl (by kernel_rfl) (by kernel_rfl) (by kernel_rfl) (by kernel_rfl) (by kernel_rfl) (laidWorld_met os _)) ?_
  intro W base args ds gs before hval0 hW _ _ hL _
  have hval : ∀ (j : Nat) t v, Tryd.f6.params[j]? = some t → args[j]? = some v → Value.okWide Tryd.prog W .any base t v := hval0
  have hW' := hW
  obtain ⟨p, q, hA0, hV, rfl, _, _⟩ := hW
  have hA : DataW.TrodAll enc Tryd.prog W 0 (fun _ => true) true Tryd.f6.params.toList args.toList ds p := hA0
  rw [Tryd.params6] at hA hval
  obtain ⟨v0, vs0, d0, ds0, p0, q0, hargs, rfl, rfl, h0, r0⟩ := trodAll_cons hA
  obtain ⟨rfl, rfl, rfl⟩ := trodAll_nil r0
  obtain rfl : args = #[v0] := by cases args; simp_all
  obtain ⟨rfl, rfl⟩ := trodVars_none hV
  obtain ⟨op, a, b, c, n, rfl, h_op, h_a, h_b, h_c, h_n⟩ := open_inst (hval 0 27 v0 rfl rfl) h0
  refine (walk op a b c n h_op h_a h_b h_c h_n W (tab_of_laid hL)).mono fun e W' ⟨he, hb⟩ => ?_
  subst he
  exact ⟨_, rfl, post_law laidOut (by rw [Tryd.params6]; intro t ht; simp at ht; (first | (rcases ht with rfl | rfl) | subst ht) <;> exact ⟨by kernel_rfl, of_decide_eq_true (by kernel_rfl)⟩) rfl rfl Tryd.underlying4 rfl hW' hb⟩

theorem over : Rows.isaTextsRow.holds Tryd.pinned (OpenSpec.ofChange Rows.isaTextsSpec) :=
  OpenClaim.holds_of_wide 6 Tryd.f6 rfl rfl rfl rfl rfl rfl rfl ⟨rfl, rfl, rfl, rfl, rfl⟩ rfl rfl rfl rfl rfl (by kernel_rfl) Tryd.func6 (by kernel_rfl)
    (of_decide_eq_true (by kernel_rfl)) (by unfold Func.isWrapper; first | (rw [if_pos (by decide +kernel)]; kernel_rfl) | (rw [if_neg (by decide +kernel)]; exact ⟨rfl, rfl⟩))
    (fun os started H enc _ => lifted os started H enc)

/-- The statement. -/
theorem proved : Rows.IsaTextsCardSaid :=
  Claim7.holds_tied_plain_at .later [] _ true _ false
    over (fun _ h => by cases h) (by kernel_rfl) (fun _ h => by cases h) isaTexts_row_tie rfl ⟨rfl, rfl⟩ (by kernel_rfl) rfl
    (fun f fn hf hfn => by
      obtain rfl : f = 6 := Option.some.inj ((show Tryd.prog.funcNamed "mortise/mortiselaw2.IsaTexts" = some 6 by kernel_rfl).symm.trans hf) |>.symm
      obtain rfl : fn = Tryd.f6 := (Option.some.inj (Tryd.func6.symm.trans hfn)).symm
      exact ⟨by kernel_rfl, fun j t ht => by
        have hm := Array.mem_of_getElem? ht
        rw [Tryd.params6] at hm
        simp at hm
        (first | (rcases hm with rfl | rfl) | subst hm) <;> exact (show Tryd.prog.wantsStandIn _ = false by kernel_rfl)⟩)
    (by kernel_rfl)
#print axioms proved
end Go.Proofs.YtfdmoafncbjonaaDoor.isaTexts
