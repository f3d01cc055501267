/-
  Of any two instructions of which the program's Encode makes words, the words are one just if the instructions are one, and so are the texts; the library's tables as their texts lay them.
-/
import Derived.Test.YtfdmoafncbjonaaDoorRows
import Derived.Test.YtfdmoafncbjonaaDoorIsaG
import Derived.Test.YtfdmoafncbjonaaDoorIsaH
import Derived.WalkKit
namespace Go.Proofs.YtfdmoafncbjonaaDoor.isaUnlike
open Go.ChangeShapes Go.WideShapes Go.ChangeAt Go.RowKit
set_option linter.unusedVariables false

/-! ### The walk. -/
set_option maxHeartbeats 1000000 in
theorem walk (op0 a0 b0 c0 n0 : Int) (h_op0 : I64 op0) (h_a0 : I64 a0) (h_b0 : I64 b0) (h_c0 : I64 c0) (h_n0 : I64 n0) (op1 a1 b1 c1 n1 : Int) (h_op1 : I64 op1) (h_a1 : I64 a1) (h_b1 : I64 b1) (h_c1 : I64 c1) (h_n1 : I64 n1) (w : World) (ht : Tab w) :
    Calls Tryd.prog 9 #[inst op0 a0 b0 c0 n0, inst op1 a1 b1 c1 n1] w fun e w' => e = .returned (.bool true) ∧ Below w.heap.size w w' := by
  unfold inst
  cases hF0 : F op0 a0 b0 c0 n0 <;> cases hF1 : F op1 a1 b1 c1 n1
  ·
    have HF0 := Lib.hid hF0
    have HF1 := Lib.hid hF1
    have HT := Lib.hid ht
    clear hF0 hF1 ht
    go_enter Tryd.func9, Tryd.ntmps9
    go_wp2_with (first
      | (go_at_call 13; ((with_reducible refine (encode_no op0 a0 b0 c0 n0 HF0.out _).mono ?_); rintro e w1 ⟨rfl, hb1⟩); have hz1 : w.heap.size + 1 < w1.heap.size := (by have := hb1.size; simp at this; omega); have hx1 := fun o => hb1.cell (p := ⟨w.heap.size, o, none⟩) (by simp; omega); have hy1 := fun o => hb1.cell (p := ⟨w.heap.size + 1, o, none⟩) (by simp))
      | (go_at_call 13; ((with_reducible refine (encode_no op1 a1 b1 c1 n1 HF1.out _).mono ?_); rintro e w2 ⟨rfl, hb2⟩); have hz2 : w.heap.size + 1 < w2.heap.size := (by have := hb2.size; omega); have hx2 := fun o => hb2.cell (p := ⟨w.heap.size, o, none⟩) (by show w.heap.size < _; omega); have hy2 := fun o => hb2.cell (p := ⟨w.heap.size + 1, o, none⟩) (by show w.heap.size + 1 < _; omega))
      | (go_at_call 15; refine (num_any _ _).mono ?_; rintro e w' ⟨rfl, rfl⟩)
      | (go_at_call 12; refine (awake_any _ (tab_below (tab_below (tab_alloc (tab_alloc HT.out _) _) hb1) hb2)).mono ?_; rintro e w3 ⟨rfl, hb3⟩))
    go_ret
    exact ⟨rfl, below_next (below_next (below_next (below_box2 _ _ _ _ _) hb1) hb2) hb3⟩
  ·
    have HF0 := Lib.hid hF0
    have HF1 := Lib.hid hF1
    have HT := Lib.hid ht
    clear hF0 hF1 ht
    go_enter Tryd.func9, Tryd.ntmps9
    go_wp2_with (first
      | (go_at_call 13; ((with_reducible refine (encode_no op0 a0 b0 c0 n0 HF0.out _).mono ?_); rintro e w1 ⟨rfl, hb1⟩); have hz1 : w.heap.size + 1 < w1.heap.size := (by have := hb1.size; simp at this; omega); have hx1 := fun o => hb1.cell (p := ⟨w.heap.size, o, none⟩) (by simp; omega); have hy1 := fun o => hb1.cell (p := ⟨w.heap.size + 1, o, none⟩) (by simp))
      | (go_at_call 13; ((with_reducible refine (encode_yes op1 a1 b1 c1 n1 HF1.out _).mono ?_); rintro e w2 ⟨rfl, hb2⟩); have hz2 : w.heap.size + 1 < w2.heap.size := (by have := hb2.size; omega); have hx2 := fun o => hb2.cell (p := ⟨w.heap.size, o, none⟩) (by show w.heap.size < _; omega); have hy2 := fun o => hb2.cell (p := ⟨w.heap.size + 1, o, none⟩) (by show w.heap.size + 1 < _; omega))
      | (go_at_call 15; refine (num_any _ _).mono ?_; rintro e w' ⟨rfl, rfl⟩)
      | (go_at_call 12; refine (awake_any _ (tab_below (tab_below (tab_alloc (tab_alloc HT.out _) _) hb1) hb2)).mono ?_; rintro e w3 ⟨rfl, hb3⟩))
    go_ret
    exact ⟨rfl, below_next (below_next (below_next (below_box2 _ _ _ _ _) hb1) hb2) hb3⟩
  ·
    have HF0 := Lib.hid hF0
    have HF1 := Lib.hid hF1
    have HT := Lib.hid ht
    clear hF0 hF1 ht
    go_enter Tryd.func9, Tryd.ntmps9
    go_wp2_with (first
      | (go_at_call 13; ((with_reducible refine (encode_yes op0 a0 b0 c0 n0 HF0.out _).mono ?_); rintro e w1 ⟨rfl, hb1⟩); have hz1 : w.heap.size + 1 < w1.heap.size := (by have := hb1.size; simp at this; omega); have hx1 := fun o => hb1.cell (p := ⟨w.heap.size, o, none⟩) (by simp; omega); have hy1 := fun o => hb1.cell (p := ⟨w.heap.size + 1, o, none⟩) (by simp))
      | (go_at_call 13; ((with_reducible refine (encode_no op1 a1 b1 c1 n1 HF1.out _).mono ?_); rintro e w2 ⟨rfl, hb2⟩); have hz2 : w.heap.size + 1 < w2.heap.size := (by have := hb2.size; omega); have hx2 := fun o => hb2.cell (p := ⟨w.heap.size, o, none⟩) (by show w.heap.size < _; omega); have hy2 := fun o => hb2.cell (p := ⟨w.heap.size + 1, o, none⟩) (by show w.heap.size + 1 < _; omega))
      | (go_at_call 15; refine (num_any _ _).mono ?_; rintro e w' ⟨rfl, rfl⟩)
      | (go_at_call 12; refine (awake_any _ (tab_below (tab_below (tab_alloc (tab_alloc HT.out _) _) hb1) hb2)).mono ?_; rintro e w3 ⟨rfl, hb3⟩))
    go_ret
    exact ⟨rfl, below_next (below_next (below_next (below_box2 _ _ _ _ _) hb1) hb2) hb3⟩
  · have hW : ¬ (op0 = op1 ∧ a0 = a1 ∧ b0 = b1 ∧ c0 = c1 ∧ n0 = n1) → (W op0 a0 b0 c0 n0 == W op1 a1 b1 c1 n1) = false := fun hE => by
      rw [beq_eq_false_iff_ne]; exact fun h => hE (W_inj (F_bd hF0) (F_bd hF1) h)
    have hX : ¬ (op0 = op1 ∧ a0 = a1 ∧ b0 = b1 ∧ c0 = c1 ∧ n0 = n1) → ((txt op0 a0 b0 c0 n0).toList == (txt op1 a1 b1 c1 n1).toList) = false := fun hE => by
      rw [beq_eq_false_iff_ne, toList_data, toList_data]; exact fun h => hE (txt_inj hF0 hF1 (ByteArray.ext (by simpa using h)))
    by_cases e0 : op0 = op1
    · subst e0
      by_cases e1 : a0 = a1
      · subst e1
        by_cases e2 : b0 = b1
        · subst e2
          by_cases e3 : c0 = c1
          · subst e3
            by_cases e4 : n0 = n1
            · subst e4
              exact unlike5 _ _ _ _ _ hF0 w ht
            · exact unlike4 _ _ _ _ _ _ hF0 hF1 (by simpa using e4) (hW (by simp [e4])) (hX (by simp [e4])) w ht
          · exact unlike3 _ _ _ _ _ _ _ hF0 hF1 (by simpa using e3) (hW (by simp [e3])) (hX (by simp [e3])) w ht
        · exact unlike2 _ _ _ _ _ _ _ _ hF0 hF1 (by simpa using e2) (hW (by simp [e2])) (hX (by simp [e2])) w ht
      · exact unlike1 _ _ _ _ _ _ _ _ _ hF0 hF1 (by simpa using e1) (hW (by simp [e1])) (hX (by simp [e1])) w ht
    · exact unlike0 _ _ _ _ _ _ _ _ _ _ hF0 hF1 (by simpa using e0) (hW (by simp [e0])) (hX (by simp [e0])) w ht

/-! ### The row's step. -/
set_option maxRecDepth 100000 in
theorem lifted (os : Os) (started : os.Started) (H : Type) (enc : TypeId × Value → H) :
    ReturnsInHanded {} Tryd.checked os 9 .any (fun w args => (Rows.isaUnlikeSpec.pre enc Tryd.prog Tryd.f9 Rows.isaUnlikeRow.domain false w args ∧ laidMet Tryd.prog Rows.isaUnlikeRow.laid w) ∧ sizedMet enc Tryd.prog Tryd.f9 (OpenSpec.ofChange Rows.isaUnlikeSpec) false w args)
      (Rows.isaUnlikeSpec.post enc Tryd.prog Tryd.f9 false true false false) := by
  refine returnsInHanded_of_change_and (C := Tryd.checked) (X := fun w _ => laidMet Tryd.prog Rows.isaUnlikeRow.laid w) (fun _ _ _ hh h => h.of_heap hh) own started (by kernel_rfl) Tryd.func9
    (ChangeSpec.witness_at (enc := enc) (C := Tryd.checked) (os := os) (X := fun w _ => laidMet Tryd.prog Rows.isaUnlikeRow.laid w) false (laidWorld os) #[.agg #[.int .i64 0, .int .i64 0, .int .i64 0, .int .i64 0, .int .i64 0], .agg #[.int .i64 0, .int .i64 0, .int .i64 0, .int .i64 0, .int .i64 0]] 8 rfl (by kernel_rfl) (by kernel_rfl) (by kernel_rfl) (by kernel_rfl) (by kernel_rfl) (laidWorld_met os _)) ?_
  intro W base args ds gs before hval0 hW _ _ hL _
  have hval : ∀ (j : Nat) t v, Tryd.f9.params[j]? = some t → args[j]? = some v → Value.okWide Tryd.prog W .any base t v := hval0
  have hW' := hW
  obtain ⟨p, q, hA0, hV, rfl, _, _⟩ := hW
  have hA : DataW.TrodAll enc Tryd.prog W 0 (fun _ => true) true Tryd.f9.params.toList args.toList ds p := hA0
  rw [Tryd.params9] at hA hval
  obtain ⟨v0, vs0, d0, ds0, p0, q0, hargs, rfl, rfl, h0, r0⟩ := trodAll_cons hA
  obtain ⟨v1, vs1, d1, ds1, p1, q1, rfl, rfl, rfl, h1, r1⟩ := trodAll_cons r0
  obtain ⟨rfl, rfl, rfl⟩ := trodAll_nil r1
  obtain rfl : args = #[v0, v1] := by cases args; simp_all
  obtain ⟨rfl, rfl⟩ := trodVars_none hV
  obtain ⟨op0, a0, b0, c0, n0, rfl, h_op0, h_a0, h_b0, h_c0, h_n0⟩ := open_inst (hval 0 27 v0 rfl rfl) h0
  obtain ⟨op1, a1, b1, c1, n1, rfl, h_op1, h_a1, h_b1, h_c1, h_n1⟩ := open_inst (hval 1 27 v1 rfl rfl) h1
  refine (walk op0 a0 b0 c0 n0 h_op0 h_a0 h_b0 h_c0 h_n0 op1 a1 b1 c1 n1 h_op1 h_a1 h_b1 h_c1 h_n1 W (tab_of_laid hL)).mono fun e W' ⟨he, hb⟩ => ?_
  subst he
  exact ⟨_, rfl, post_law laidOut (by rw [Tryd.params9]; intro t ht; simp at ht; (first | (rcases ht with rfl | rfl) | subst ht) <;> exact ⟨by kernel_rfl, of_decide_eq_true (by kernel_rfl)⟩) rfl rfl Tryd.underlying4 rfl hW' hb⟩

theorem over : Rows.isaUnlikeRow.holds Tryd.pinned (OpenSpec.ofChange Rows.isaUnlikeSpec) :=
  OpenClaim.holds_of_wide 9 Tryd.f9 rfl rfl rfl rfl rfl rfl rfl ⟨rfl, rfl, rfl, rfl, rfl⟩ rfl rfl rfl rfl rfl (by kernel_rfl) Tryd.func9 (by kernel_rfl)
    (of_decide_eq_true (by kernel_rfl)) (by unfold Func.isWrapper; first | (rw [if_pos (by decide +kernel)]; kernel_rfl) | (rw [if_neg (by decide +kernel)]; exact ⟨rfl, rfl⟩))
    (fun os started H enc _ => lifted os started H enc)

/-- The statement. -/
theorem proved : Rows.IsaUnlikeCardSaid :=
  Claim7.holds_tied_plain_at .later [] _ true _ false
    over (fun _ h => by cases h) (by kernel_rfl) (fun _ h => by cases h) isaUnlike_row_tie rfl ⟨rfl, rfl⟩ (by kernel_rfl) rfl
    (fun f fn hf hfn => by
      obtain rfl : f = 9 := Option.some.inj ((show Tryd.prog.funcNamed "mortise/mortiselaw2.IsaUnlike" = some 9 by kernel_rfl).symm.trans hf) |>.symm
      obtain rfl : fn = Tryd.f9 := (Option.some.inj (Tryd.func9.symm.trans hfn)).symm
      exact ⟨by kernel_rfl, fun j t ht => by
        have hm := Array.mem_of_getElem? ht
        rw [Tryd.params9] at hm
        simp at hm
        (first | (rcases hm with rfl | rfl) | subst hm) <;> exact (show Tryd.prog.wantsStandIn _ = false by kernel_rfl)⟩)
    (by kernel_rfl)
#print axioms proved
end Go.Proofs.YtfdmoafncbjonaaDoor.isaUnlike
