/-
  A call and its return come back behind the call, as deep as there is memory.
-/
import Derived.Test.YtpokhdnfclmifaaRows
import Derived.Test.YtpokhdnfclmifaaLawG
import Derived.Test.YtpokhdnfclmifaaLawF
import Derived.Test.YtpokhdnfclmifaaMachG
import Derived.WalkKit
namespace Go.Proofs.Ytpokhdnfclmifaa.machCalls
open Go.ChangeShapes Go.WideShapes Go.ChangeAt Go.RowKit
set_option linter.unusedVariables false

/-! ### The walk. -/
set_option maxHeartbeats 2000000 in
theorem walk_far (w : World) (n m : Nat) (hn : n ≤ 255) (hm : m ≤ 255) (h : n < m) :
    Calls Try.prog 10 #[.int .u8 (n : Int), .int .u8 (m : Int)] w fun e w' => e = .returned (.bool true) ∧ Below w.heap.size w w' := by
  have n0 : (0 : Int) ≤ (n : Int) := by omega
  have n1 : (n : Int) ≤ 255 := by omega
  have m0 : (0 : Int) ≤ (m : Int) := by omega
  have m1 : (m : Int) ≤ 255 := by omega
  have d0 : decide (m ≤ n) = false := by simp; omega
  have hok := Lib.hid (show okA [] [] (m : Int) from ⟨m0, by omega, by decide⟩)
  have hrun := calls_far hn hm h
  have HRUN := Lib.hid hrun
  clear hrun h
  go_enter Try.func10, Try.ntmps10
  go_wp2_with fail
  generalize hW : World.alloc _ _ = W
  have hB : Below w.heap.size w W := by rw [← hW]; exact (Below.refl _ w).alloc (Nat.le_refl _) _
  have hk : Blk W w.heap.size 52 #[.int .i64 3, .int .i64 1, .int .i64 0, .int .i64 0, .int .i64 (n : Int), .int .i64 3, .int .i64 2, .int .i64 0, .int .i64 0, .int .i64 1, .int .i64 10, .int .i64 0, .int .i64 0, .int .i64 0, .int .i64 4, .int .i64 0, .int .i64 0, .int .i64 0, .int .i64 0, .int .i64 0, .int .i64 8, .int .i64 1, .int .i64 0, .int .i64 0, .int .i64 3, .int .i64 18, .int .i64 1, .int .i64 1, .int .i64 2, .int .i64 0, .int .i64 10, .int .i64 0, .int .i64 0, .int .i64 0, .int .i64 4, .int .i64 12, .int .i64 0, .int .i64 0, .int .i64 0, .int .i64 0, .int .i64 12, .int .i64 0, .int .i64 0, .int .i64 0, .int .i64 0] := by rw [← hW]; exact Blk.new w _ _
  have hcell : ∀ (j : Nat) (t : In), (callL (n : Int))[j]? = some t → ∀ f, f < 5 → W.cell? ⟨w.heap.size, j * 5 + f, none⟩ = (instL t)[f]? := by
    intro j t hj f hf
    have hj3 : j < 9 := by
      rcases Nat.lt_or_ge j 9 with h | h
      · exact h
      · rw [List.getElem?_eq_none (by simpa [callL] using h)] at hj; cases hj
    rw [hk.cell]
    have ej : j = 0 ∨ j = 1 ∨ j = 2 ∨ j = 3 ∨ j = 4 ∨ j = 5 ∨ j = 6 ∨ j = 7 ∨ j = 8 := by omega
    have ef : f = 0 ∨ f = 1 ∨ f = 2 ∨ f = 3 ∨ f = 4 := by omega
    rcases ej with rfl | rfl | rfl | rfl | rfl | rfl | rfl | rfl | rfl <;> (obtain rfl := Option.some.inj hj; rcases ef with rfl | rfl | rfl | rfl | rfl <;> rfl)
  refine (code_any W w.heap.size 9 (callL (n : Int)) hk.lt (show 9 ≤ 2000 by omega) hcell).mono ?_
  rintro e w1 ⟨A, c, rfl, hown, hb1⟩
  have hB1 := below_next' hB hb1
  have HI := Lib.hid (in3_own hown (fun t _ => encw_bd t))
  have hlen : (callL (n : Int)).length = 9 := rfl
  have hcl : ((callL (n : Int)).map encw).length = 9 := rfl
  rw [hlen]
  clear hW hB hk hcell hown hb1 hlen
  generalize (callL (n : Int)).map encw = cd at *
  go_wp2_with fail
  have hn2 := new_rep (HI.out.below ((Below.refl _ _).alloc (Nat.le_refl _) (.cells #[.slice A 9 c, .slice none 0 0, .int .i64 0] 24))) c 0 0 0 m (by unfold okF; rw [hcl]; decide) hok.out
  rw [hcl] at hn2
  refine Calls.mono hn2 ?_
  rintro e w2 ⟨L, iv, rfl, hR, hb2⟩
  have hB2 := below_next' (hB1.alloc hB1.size (.cells #[.slice A 9 c, .slice none 0 0, .int .i64 0] 24)) hb2
  have HR := Lib.hid hR
  clear hn2 hR hb2
  go_wp2_with fail
  refine (num_any _ _).mono ?_
  rintro e w3 ⟨rfl, rfl⟩
  go_wp2_with fail
  refine (runm_k w2 _ L cd _ iv _ HR.out 3000 (by omega) 3000 rfl).mono ?_
  generalize iter cd 3000 (st0 [] [] 0 m) = z at *
  rintro e w4 ⟨A2, c2, w5, iv2, ov2, rfl, hown2, hR2, hb3, hb4⟩
  obtain ⟨z1, z2, z3, z4⟩ := HRUN.out
  rw [z1, z4]
  have hR4 := (hR2.keep hb4).keep ((Below.refl _ _).alloc (Nat.le_refl _) (.cells #[.int .i64 1, .int .i64 z.code, .slice A2 z.out.length c2, .int .i64 (4 * (n : Int) + 6)] 29))
  have f5 : (mcells L cd.length z iv2 ov2)[3 + 15]? = some (.int .i64 (m : Int)) := by rw [mcells_reg _ _ _ _ _ (by omega), z2]
  have f6 : (mcells L cd.length z iv2 ov2)[3 + 1]? = some (.int .i64 0) := by rw [mcells_reg _ _ _ _ _ (by omega), z3]
  have hsz := hR2.mach.lt
  have hB4 : Below w.heap.size w w4 := (hB2.trans (hb3.mono (by have := hB1.size; simp; omega))).trans (hb4.mono (by have := hR2.gB; have := hB1.size; simp at *; omega))
  have HM := Lib.hid hR4.mach
  clear hR2 hown2 hb3 hb4 hR4 z1 z2 z3 z4
  go_wp2_with fail
  refine (reg_in _ L.g _ HM.out 15 (by omega) (m : Int) f5).mono ?_
  rintro e w6 ⟨rfl, rfl⟩
  go_wp2_with fail
  refine (reg_in _ L.g _ HM.out 1 (by omega) 0 f6).mono ?_
  rintro e w6 ⟨rfl, rfl⟩
  go_wp2
  go_ret
  exact ⟨rfl, hB4.alloc hB4.size _⟩
set_option maxHeartbeats 2000000 in
theorem walk_fall (w : World) (n m : Nat) (hn : n ≤ 255) (hm : m ≤ 255) (h : m ≤ n) :
    Calls Try.prog 10 #[.int .u8 (n : Int), .int .u8 (m : Int)] w fun e w' => e = .returned (.bool true) ∧ Below w.heap.size w w' := by
  have n0 : (0 : Int) ≤ (n : Int) := by omega
  have n1 : (n : Int) ≤ 255 := by omega
  have m0 : (0 : Int) ≤ (m : Int) := by omega
  have m1 : (m : Int) ≤ 255 := by omega
  have d0 : decide (m ≤ n) = true := by simp; omega
  have hok := Lib.hid (show okA [] [] (m : Int) from ⟨m0, by omega, by decide⟩)
  have hrun := calls_fall hn hm h
  have HRUN := Lib.hid hrun
  clear hrun h
  go_enter Try.func10, Try.ntmps10
  go_wp2_with fail
  generalize hW : World.alloc _ _ = W
  have hB : Below w.heap.size w W := by rw [← hW]; exact (Below.refl _ w).alloc (Nat.le_refl _) _
  have hk : Blk W w.heap.size 52 #[.int .i64 3, .int .i64 1, .int .i64 0, .int .i64 0, .int .i64 (n : Int), .int .i64 3, .int .i64 2, .int .i64 0, .int .i64 0, .int .i64 1, .int .i64 10, .int .i64 0, .int .i64 0, .int .i64 0, .int .i64 4, .int .i64 0, .int .i64 0, .int .i64 0, .int .i64 0, .int .i64 0, .int .i64 8, .int .i64 1, .int .i64 0, .int .i64 0, .int .i64 3, .int .i64 18, .int .i64 1, .int .i64 1, .int .i64 2, .int .i64 0, .int .i64 10, .int .i64 0, .int .i64 0, .int .i64 0, .int .i64 4, .int .i64 12, .int .i64 0, .int .i64 0, .int .i64 0, .int .i64 0, .int .i64 12, .int .i64 0, .int .i64 0, .int .i64 0, .int .i64 0] := by rw [← hW]; exact Blk.new w _ _
  have hcell : ∀ (j : Nat) (t : In), (callL (n : Int))[j]? = some t → ∀ f, f < 5 → W.cell? ⟨w.heap.size, j * 5 + f, none⟩ = (instL t)[f]? := by
    intro j t hj f hf
    have hj3 : j < 9 := by
      rcases Nat.lt_or_ge j 9 with h | h
      · exact h
      · rw [List.getElem?_eq_none (by simpa [callL] using h)] at hj; cases hj
    rw [hk.cell]
    have ej : j = 0 ∨ j = 1 ∨ j = 2 ∨ j = 3 ∨ j = 4 ∨ j = 5 ∨ j = 6 ∨ j = 7 ∨ j = 8 := by omega
    have ef : f = 0 ∨ f = 1 ∨ f = 2 ∨ f = 3 ∨ f = 4 := by omega
    rcases ej with rfl | rfl | rfl | rfl | rfl | rfl | rfl | rfl | rfl <;> (obtain rfl := Option.some.inj hj; rcases ef with rfl | rfl | rfl | rfl | rfl <;> rfl)
  refine (code_any W w.heap.size 9 (callL (n : Int)) hk.lt (show 9 ≤ 2000 by omega) hcell).mono ?_
  rintro e w1 ⟨A, c, rfl, hown, hb1⟩
  have hB1 := below_next' hB hb1
  have HI := Lib.hid (in3_own hown (fun t _ => encw_bd t))
  have hlen : (callL (n : Int)).length = 9 := rfl
  have hcl : ((callL (n : Int)).map encw).length = 9 := rfl
  rw [hlen]
  clear hW hB hk hcell hown hb1 hlen
  generalize (callL (n : Int)).map encw = cd at *
  go_wp2_with fail
  have hn2 := new_rep (HI.out.below ((Below.refl _ _).alloc (Nat.le_refl _) (.cells #[.slice A 9 c, .slice none 0 0, .int .i64 0] 24))) c 0 0 0 m (by unfold okF; rw [hcl]; decide) hok.out
  rw [hcl] at hn2
  refine Calls.mono hn2 ?_
  rintro e w2 ⟨L, iv, rfl, hR, hb2⟩
  have hB2 := below_next' (hB1.alloc hB1.size (.cells #[.slice A 9 c, .slice none 0 0, .int .i64 0] 24)) hb2
  have HR := Lib.hid hR
  clear hn2 hR hb2
  go_wp2_with fail
  refine (num_any _ _).mono ?_
  rintro e w3 ⟨rfl, rfl⟩
  go_wp2_with fail
  refine (runm_k w2 _ L cd _ iv _ HR.out 3000 (by omega) 3000 rfl).mono ?_
  generalize iter cd 3000 (st0 [] [] 0 m) = z at *
  rintro e w4 ⟨A2, c2, w5, iv2, ov2, rfl, hown2, hR2, hb3, hb4⟩
  have z1 := HRUN.out
  rw [z1]
  have hsz := hR2.mach.lt
  have hB4 : Below w.heap.size w w4 := (hB2.trans (hb3.mono (by have := hB1.size; simp; omega))).trans (hb4.mono (by have := hR2.gB; have := hB1.size; simp at *; omega))
  clear hR2 hown2 hb3 hb4 z1
  go_wp2
  go_ret
  exact ⟨rfl, hB4.alloc hB4.size _⟩
theorem walk (w : World) (a0 : Int) (ha0 : 0 ≤ a0 ∧ a0 ≤ 255) (a1 : Int) (ha1 : 0 ≤ a1 ∧ a1 ≤ 255) :
    Calls Try.prog 10 #[.int .u8 a0, .int .u8 a1] w fun e w' => e = .returned (.bool true) ∧ Below w.heap.size w w' := by
  obtain ⟨n, rfl⟩ : ∃ n : Nat, a0 = n := ⟨a0.toNat, by omega⟩
  obtain ⟨m, rfl⟩ : ∃ m : Nat, a1 = m := ⟨a1.toNat, by omega⟩
  by_cases h : n < m
  · exact walk_far w n m (by omega) (by omega) h
  · exact walk_fall w n m (by omega) (by omega) (by omega)

/-! ### The row's step. -/
set_option maxRecDepth 100000 in
theorem lifted (os : Os) (started : os.Started) (H : Type) (enc : TypeId × Value → H) :
    ReturnsInHanded {} Try.checked os 10 .any (Rows.machCallsSpec.pre6 enc Try.prog Try.f10 Rows.machCallsRow.domain false) (Rows.machCallsSpec.post enc Try.prog Try.f10 false true false false) := by
  refine returnsInHanded_of_change (C := Try.checked) own started (by kernel_rfl) Try.func10
    (ChangeSpec.witness6 (enc := enc) (C := Try.checked) false ⟨#[], #[.int .u8 0, .int .u8 0], []⟩ 8 (by kernel_rfl) (by kernel_rfl) (by kernel_rfl) (by kernel_rfl)) ?_
  intro W base args ds gs before hval0 hW hcnd _
  have hval : ∀ (j : Nat) t v, Try.f10.params[j]? = some t → args[j]? = some v → Value.okWide Try.prog W .any base t v := hval0
  have hW' := hW
  obtain ⟨p, q, hA0, hV, rfl, hfz, hnd⟩ := hW
  have hA : DataW.TrodAll enc Try.prog W 0 (fun _ => true) true Try.f10.params.toList args.toList ds p := hA0
  rw [Try.params10] at hA hval
  obtain ⟨v0, vs0, d0, ds0, p0, q0, hargs, rfl, rfl, h0, r0⟩ := trodAll_cons hA
  obtain ⟨v1, vs1, d1, ds1, p1, q1, rfl, rfl, rfl, h1, r1⟩ := trodAll_cons r0
  obtain ⟨rfl, rfl, rfl⟩ := trodAll_nil r1
  obtain rfl : args = #[v0, v1] := by cases args; simp_all
  obtain ⟨rfl, rfl⟩ := trodVars_none hV
  obtain ⟨a0, rfl, rfl, rfl, w0⟩ := open_int Try.underlying5 (hval 0 5 v0 rfl rfl) h0
  have ha0 := u8_of w0
  obtain ⟨a1, rfl, rfl, rfl, w1⟩ := open_int Try.underlying5 (hval 1 5 v1 rfl rfl) h1
  have ha1 := u8_of w1
  refine (walk W a0 ha0 a1 ha1).mono fun e W' ⟨he, hb⟩ => ?_
  subst he
  exact ⟨_, rfl, post_law laidOut (by rw [Try.params10]; intro t ht; simp at ht; (first | (rcases ht with rfl | rfl | rfl | rfl | rfl) | (rcases ht with rfl | rfl | rfl | rfl) | (rcases ht with rfl | rfl | rfl) | (rcases ht with rfl | rfl) | subst ht) <;> exact ⟨by kernel_rfl, of_decide_eq_true (by kernel_rfl)⟩) rfl rfl Try.underlying4 rfl hW' hb⟩

theorem over : Rows.machCallsRow.holds Try.pinned (OpenSpec.ofChange Rows.machCallsSpec) :=
  OpenClaim.holds_of_wide 10 Try.f10 rfl rfl rfl rfl rfl rfl rfl ⟨rfl, rfl, rfl, rfl, rfl⟩ rfl rfl rfl rfl rfl (by kernel_rfl) Try.func10 (by kernel_rfl)
    (of_decide_eq_true (by kernel_rfl)) (by unfold Func.isWrapper; first | (rw [if_pos (by decide +kernel)]; kernel_rfl) | (rw [if_neg (by decide +kernel)]; exact ⟨rfl, rfl⟩))
    (fun os started H enc _ => lifted os started H enc)

/-- The statement. -/
theorem proved : Rows.MachCallsSaid :=
  over
#print axioms proved
end Go.Proofs.Ytpokhdnfclmifaa.machCalls
