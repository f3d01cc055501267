/-
  An instruction of which the program's Encode makes a word is what its Decode tells of that word, and its Text is not empty; one that is refused has word 0, error 4 and the empty text; the library's tables as their texts lay them.
-/
import Derived.Test.YtfdmoafncbjonaaDoorRows
import Derived.Test.YtfdmoafncbjonaaDoorIsaG
import Derived.WalkKit
namespace Go.Proofs.YtfdmoafncbjonaaDoor.isaBack
open Go.ChangeShapes Go.WideShapes Go.ChangeAt Go.RowKit
set_option linter.unusedVariables false

/-! ### The walk. -/
set_option maxHeartbeats 1000000 in
theorem walk (op a b c n : Int) (h_op : I64 op) (h_a : I64 a) (h_b : I64 b) (h_c : I64 c) (h_n : I64 n) (w : World) (ht : Tab w) :
    Calls Tryd.prog 7 #[inst op a b c n] w fun e w' => e = .returned (.bool true) ∧ Below w.heap.size w w' := by
  unfold inst
  cases hF : F op a b c n
  · have HF := Lib.hid hF
    have HT := Lib.hid ht
    clear hF ht
    go_enter Tryd.func7, Tryd.ntmps7
    go_wp2_with (first
      | (go_at_call 13; refine (encode_no _ _ _ _ _ HF.out _).mono ?_; rintro e w1 ⟨rfl, hb1⟩; have hz1 : w.heap.size < w1.heap.size := (by have := hb1.size; simp at this; omega); have hx1 := fun o => hb1.cell (p := ⟨w.heap.size, o, none⟩) (by simp))
      | (go_at_call 18; refine (text_no _ _ _ _ _ HF.out _).mono ?_; rintro e w2 ⟨rfl, hb2⟩; have hz2 : w.heap.size < w2.heap.size := (by have := hb2.size; omega); have hx2 := fun o => hb2.cell (p := ⟨w.heap.size, o, none⟩) (by show w.heap.size < _; omega))
      | (go_at_call 15; refine (num_any _ _).mono ?_; rintro e w' ⟨rfl, rfl⟩)
      | (go_at_call 12; refine (awake_any _ (tab_below (tab_below (tab_alloc HT.out _) hb1) hb2)).mono ?_; rintro e w3 ⟨rfl, hb3⟩))
    go_ret
    exact ⟨rfl, below_next (below_next (below_next (below_box _ _ _) hb1) hb2) hb3⟩
  · have hn := txt_ne hF
    have hn2 : (txt op a b c n).toList.isEmpty = false := by simpa using hn
    have HF := Lib.hid hF
    have HT := Lib.hid ht
    clear hF ht
    go_enter Tryd.func7, Tryd.ntmps7
    go_wp2_with (first
      | (go_at_call 13; refine (encode_yes _ _ _ _ _ HF.out _).mono ?_; rintro e w1 ⟨rfl, hb1⟩; have hz1 : w.heap.size < w1.heap.size := (by have := hb1.size; simp at this; omega); have hx1 := fun o => hb1.cell (p := ⟨w.heap.size, o, none⟩) (by simp))
      | (go_at_call 16; refine (decode_back _ _ _ _ _ HF.out _).mono ?_; rintro e w2 ⟨rfl, hb2⟩; have hz2 := hb2.size; have hx2 := fun o => hb2.cell (p := ⟨w.heap.size, o, none⟩) (by show w.heap.size < _; omega); have hy2 := fun o ob => (World.cell?_of_block (w := w2) (w' := w2.alloc ob) (a := ⟨w.heap.size, o, none⟩) (Below.heap_alloc w2 ob _ (by show w.heap.size < _; omega))))
      | (go_at_call 18; refine (text_yes _ _ _ _ _ HF.out _ (tab_alloc (tab_below (tab_below (tab_alloc HT.out _) hb1) hb2) _)).mono ?_; rintro e w3 ⟨rfl, hb3⟩)
      | (go_at_call 15; refine (num_any _ _).mono ?_; rintro e w' ⟨rfl, rfl⟩)
      | (go_at_call 12; refine (awake_any _ (tab_below (tab_alloc (tab_below (tab_below (tab_alloc HT.out _) hb1) hb2) _) hb3)).mono ?_; rintro e w4 ⟨rfl, hb4⟩))
    go_ret
    exact ⟨rfl, below_next (below_next (below_next (below_next (below_next (below_box _ _ _) hb1) hb2) (below_box _ _ _)) hb3) hb4⟩

/-! ### The row's step. -/
set_option maxRecDepth 100000 in
theorem lifted (os : Os) (started : os.Started) (H : Type) (enc : TypeId × Value → H) :
    ReturnsInHanded {} Tryd.checked os 7 .any (fun w args => (Rows.isaBackSpec.pre enc Tryd.prog Tryd.f7 Rows.isaBackRow.domain false w args ∧ laidMet Tryd.prog Rows.isaBackRow.laid w) ∧ sizedMet enc Tryd.prog Tryd.f7 (OpenSpec.ofChange Rows.isaBackSpec) false w args)
      (Rows.isaBackSpec.post enc Tryd.prog Tryd.f7 false true false false) := by
  refine returnsInHanded_of_change_and (C := Tryd.checked) (X := fun w _ => laidMet Tryd.prog Rows.isaBackRow.laid w) (fun _ _ _ hh h => h.of_heap hh) own started (by kernel_rfl) Tryd.func7
    (ChangeSpec.witness_at (enc := enc) (C := Tryd.checked) (os := os) (X := fun w _ => laidMet Tryd.prog Rows.isaBackRow.laid w) false (laidWorld os) #[.agg #[.int .i64 0, .int .i64 0, .int .i64 0, .int .i64 0, .int .i64 0]] 8 rfl (by kernel_rfl) (by kernel_rfl) (by kernel_rfl) (by kernel_rfl) (by kernel_rfl) (laidWorld_met os _)) ?_
  intro W base args ds gs before hval0 hW _ _ hL _
  have hval : ∀ (j : Nat) t v, Tryd.f7.params[j]? = some t → args[j]? = some v → Value.okWide Tryd.prog W .any base t v := hval0
  have hW' := hW
  obtain ⟨p, q, hA0, hV, rfl, _, _⟩ := hW
  have hA : DataW.TrodAll enc Tryd.prog W 0 (fun _ => true) true Tryd.f7.params.toList args.toList ds p := hA0
  rw [Tryd.params7] at hA hval
  obtain ⟨v0, vs0, d0, ds0, p0, q0, hargs, rfl, rfl, h0, r0⟩ := trodAll_cons hA
  obtain ⟨rfl, rfl, rfl⟩ := trodAll_nil r0
  obtain rfl : args = #[v0] := by cases args; simp_all
  obtain ⟨rfl, rfl⟩ := trodVars_none hV
  obtain ⟨op, a, b, c, n, rfl, h_op, h_a, h_b, h_c, h_n⟩ := open_inst (hval 0 27 v0 rfl rfl) h0
  refine (walk op a b c n h_op h_a h_b h_c h_n W (tab_of_laid hL)).mono fun e W' ⟨he, hb⟩ => ?_
  subst he
  exact ⟨_, rfl, post_law laidOut (by rw [Tryd.params7]; intro t ht; simp at ht; (first | (rcases ht with rfl | rfl) | subst ht) <;> exact ⟨by kernel_rfl, of_decide_eq_true (by kernel_rfl)⟩) rfl rfl Tryd.underlying4 rfl hW' hb⟩

theorem over : Rows.isaBackRow.holds Tryd.pinned (OpenSpec.ofChange Rows.isaBackSpec) :=
  OpenClaim.holds_of_wide 7 Tryd.f7 rfl rfl rfl rfl rfl rfl rfl ⟨rfl, rfl, rfl, rfl, rfl⟩ rfl rfl rfl rfl rfl (by kernel_rfl) Tryd.func7 (by kernel_rfl)
    (of_decide_eq_true (by kernel_rfl)) (by unfold Func.isWrapper; first | (rw [if_pos (by decide +kernel)]; kernel_rfl) | (rw [if_neg (by decide +kernel)]; exact ⟨rfl, rfl⟩))
    (fun os started H enc _ => lifted os started H enc)

/-- The statement. -/
theorem proved : Rows.IsaBackCardSaid :=
  Claim7.holds_tied_plain_at .later [] _ true _ false
    over (fun _ h => by cases h) (by kernel_rfl) (fun _ h => by cases h) isaBack_row_tie rfl ⟨rfl, rfl⟩ (by kernel_rfl) rfl
    (fun f fn hf hfn => by
      obtain rfl : f = 7 := Option.some.inj ((show Tryd.prog.funcNamed "mortise/mortiselaw2.IsaBack" = some 7 by kernel_rfl).symm.trans hf) |>.symm
      obtain rfl : fn = Tryd.f7 := (Option.some.inj (Tryd.func7.symm.trans hfn)).symm
      exact ⟨by kernel_rfl, fun j t ht => by
        have hm := Array.mem_of_getElem? ht
        rw [Tryd.params7] at hm
        simp at hm
        (first | (rcases hm with rfl | rfl) | subst hm) <;> exact (show Tryd.prog.wantsStandIn _ = false by kernel_rfl)⟩)
    (by kernel_rfl)
#print axioms proved
end Go.Proofs.YtfdmoafncbjonaaDoor.isaBack
