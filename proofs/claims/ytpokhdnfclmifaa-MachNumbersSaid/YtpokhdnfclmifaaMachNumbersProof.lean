/-
  For every number a const and a high make it in two steps.
-/
import Derived.Test.YtpokhdnfclmifaaRows
import Derived.Test.YtpokhdnfclmifaaLawG
import Derived.Test.YtpokhdnfclmifaaLawE
import Derived.Test.YtpokhdnfclmifaaMachG
import Derived.WalkKit
namespace Go.Proofs.Ytpokhdnfclmifaa.machNumbers
open Go.ChangeShapes Go.WideShapes Go.ChangeAt Go.RowKit
set_option linter.unusedVariables false

/-! ### The walk. -/
def numL (hi lo : Int) : List In := [⟨3, 5, 0, 0, hi⟩, ⟨4, 5, 0, 0, lo⟩, ⟨0, 0, 0, 0, 0⟩]
theorem F_imm (o n : Int) (h0 : -2147483648 ≤ n) (h1 : n ≤ 2147483647) (ho : o = 3 ∨ o = 4) : F o 5 0 0 n = true := by
  have e : ni true n = true := by simp [ni]; omega
  rcases ho with rfl | rfl
  · have : F 3 5 0 0 n = (K 3 && rg (hA 3) 5 && rg (hB 3) 0 && rg (hC 3) 0 && ni true n) := rfl
    rw [this, e]
    rfl
  · have : F 4 5 0 0 n = (K 4 && rg (hA 4) 5 && rg (hB 4) 0 && rg (hC 4) 0 && ni true n) := rfl
    rw [this, e]
    rfl
theorem num_run (v lo : Int) (hv : I64 v) (h0 : -2147483648 ≤ lo) (h1 : lo ≤ 2147483647) (hl : lo % 4294967296 = v % 4294967296) :
    let s := iter ((numL (v / 4294967296) lo).map encw) 3 (st0 [] [] 0 0)
    s.kind = 1 ∧ s.steps = 3 ∧ s.r 5 = v ∧ s.r 6 = 0 := by
  obtain ⟨hv0, hv1⟩ := hv
  have F0 := F_imm 3 (v / 4294967296) (by omega) (by omega) (.inl rfl)
  have F1 := F_imm 4 lo h0 h1 (.inr rfl)
  have s1 := step_enc (l := numL (v / 4294967296) lo) (s := st0 [] [] 0 0) (k := 0) rfl rfl rfl F0 rfl
  have s2 := step_enc (l := numL (v / 4294967296) lo) (s := step ((numL (v / 4294967296) lo).map encw) (st0 [] [] 0 0)) (k := 1) (by rw [s1]; rfl) (by rw [s1]; rfl) rfl F1 rfl
  have s3 := step_enc (l := numL (v / 4294967296) lo) (s := step ((numL (v / 4294967296) lo).map encw) (step ((numL (v / 4294967296) lo).map encw) (st0 [] [] 0 0))) (k := 2) (by rw [s2, s1]; rfl) (by rw [s2, s1]; rfl) rfl (by rfl) rfl
  simp only [iter]
  rw [s3, s2, s1]
  refine ⟨rfl, by kernel_rfl, ?_, rfl⟩
  show wrap64 (wrap64 (v / 4294967296 * 4294967296) + wrap64 (lo % 4294967296)) = v
  rw [hl, wrap_in (n := v / 4294967296 * 4294967296) (by omega) (by omega), wrap_in (n := v % 4294967296) (by omega) (by omega), wrap_in (by omega) (by omega)]
  omega
set_option maxHeartbeats 1000000 in
theorem walk_lo (w : World) (a0 : Int) (ha0 : I64 a0) (hlo : a0 % 4294967296 ≤ 2147483647) :
    Calls Try.prog 9 #[.int .i64 a0] w fun e w' => e = .returned (.bool true) ∧ Below w.heap.size w w' := by
  have hand := i64_and32 a0
  have l0 : 0 ≤ a0 % 4294967296 := by omega
  have l1 : a0 % 4294967296 < 4294967296 := by omega
  have d1 : decide (2147483647 < a0 % 4294967296) = false := by simp; omega
  obtain ⟨lo, hLO⟩ : ∃ lo, lo = a0 % 4294967296 := ⟨_, rfl⟩
  have hrun := num_run a0 lo ha0 (by omega) (by omega) (by omega)
  have HRUN := Lib.hid hrun
  have HL := Lib.hid hLO
  clear ha0 hlo hrun hLO
  go_enter Try.func9, Try.ntmps9
  go_wp2_with fail
  generalize hW : World.alloc _ _ = W
  have hB : Below w.heap.size w W := by rw [← hW]; exact (Below.refl _ w).alloc (Nat.le_refl _) _
  have hk : Blk W w.heap.size 52 #[.int .i64 3, .int .i64 5, .int .i64 0, .int .i64 0, .int .i64 (a0 / 4294967296), .int .i64 4, .int .i64 5, .int .i64 0, .int .i64 0, .int .i64 lo, .int .i64 0, .int .i64 0, .int .i64 0, .int .i64 0, .int .i64 0] := by rw [HL.out, ← hW]; exact Blk.new w _ _
  have hcell : ∀ (j : Nat) (t : In), (numL (a0 / 4294967296) lo)[j]? = some t → ∀ f, f < 5 → W.cell? ⟨w.heap.size, j * 5 + f, none⟩ = (instL t)[f]? := by
    intro j t hj f hf
    have hj3 : j < 3 := by
      rcases Nat.lt_or_ge j 3 with h | h
      · exact h
      · rw [List.getElem?_eq_none (by simpa [numL] using h)] at hj; cases hj
    rw [hk.cell]
    have ej : j = 0 ∨ j = 1 ∨ j = 2 := by omega
    have ef : f = 0 ∨ f = 1 ∨ f = 2 ∨ f = 3 ∨ f = 4 := by omega
    rcases ej with rfl | rfl | rfl <;> (obtain rfl := Option.some.inj hj; rcases ef with rfl | rfl | rfl | rfl | rfl <;> rfl)
  refine (code_any W w.heap.size 3 (numL (a0 / 4294967296) lo) hk.lt (show 3 ≤ 2000 by omega) hcell).mono ?_
  rintro e w1 ⟨A, c, rfl, hown, hb1⟩
  have hB1 := below_next' hB hb1
  have HI := Lib.hid (in3_own hown (fun t _ => encw_bd t))
  have hlen : (numL (a0 / 4294967296) lo).length = 3 := rfl
  have hcl : ((numL (a0 / 4294967296) lo).map encw).length = 3 := rfl
  rw [hlen]
  clear hW hB hk hcell hown hb1 hlen
  generalize (numL (a0 / 4294967296) lo).map encw = cd at *
  go_wp2_with fail
  have hn := new_rep (HI.out.below ((Below.refl _ _).alloc (Nat.le_refl _) (.cells #[.slice A 3 c, .slice none 0 0, .int .i64 0] 24))) c 0 0 0 0 (by unfold okF; rw [hcl]; decide) (by decide)
  rw [hcl] at hn
  refine Calls.mono hn ?_
  rintro e w2 ⟨L, iv, rfl, hR, hb2⟩
  have hB2 := below_next' (hB1.alloc hB1.size (.cells #[.slice A 3 c, .slice none 0 0, .int .i64 0] 24)) hb2
  have HR := Lib.hid hR
  clear hn hR hb2
  go_wp2_with fail
  refine (num_any _ _).mono ?_
  rintro e w3 ⟨rfl, rfl⟩
  go_wp2_with fail
  refine (runm_k w2 _ L cd _ iv _ HR.out 3 (by omega) 3 rfl).mono ?_
  generalize iter cd 3 (st0 [] [] 0 0) = z at *
  rintro e w4 ⟨A2, c2, w5, iv2, ov2, rfl, hown2, hR2, hb3, hb4⟩
  obtain ⟨z1, z2, z3, z4⟩ := HRUN.out
  rw [z1, z2]
  have hR4 := (hR2.keep hb4).keep ((Below.refl _ _).alloc (Nat.le_refl _) (.cells #[.int .i64 1, .int .i64 z.code, .slice A2 z.out.length c2, .int .i64 3] 29))
  have f5 : (mcells L cd.length z iv2 ov2)[3 + 5]? = some (.int .i64 a0) := by rw [mcells_reg _ _ _ _ _ (by omega), z3]
  have f6 : (mcells L cd.length z iv2 ov2)[3 + 6]? = some (.int .i64 0) := by rw [mcells_reg _ _ _ _ _ (by omega), z4]
  have hsz := hR2.mach.lt
  have hB4 : Below w.heap.size w w4 := (hB2.trans (hb3.mono (by have := hB1.size; simp; omega))).trans (hb4.mono (by have := hR2.gB; have := hB1.size; simp at *; omega))
  have HM := Lib.hid hR4.mach
  clear hR2 hown2 hb3 hb4 hR4 z1 z2 z3 z4
  go_wp2_with fail
  refine (reg_in _ L.g _ HM.out 5 (by omega) a0 f5).mono ?_
  rintro e w6 ⟨rfl, rfl⟩
  go_wp2_with fail
  refine (reg_in _ L.g _ HM.out 6 (by omega) 0 f6).mono ?_
  rintro e w6 ⟨rfl, rfl⟩
  go_wp2
  go_ret
  exact ⟨rfl, hB4.alloc hB4.size _⟩
set_option maxHeartbeats 1000000 in
theorem walk_hi (w : World) (a0 : Int) (ha0 : I64 a0) (hlo : ¬ a0 % 4294967296 ≤ 2147483647) :
    Calls Try.prog 9 #[.int .i64 a0] w fun e w' => e = .returned (.bool true) ∧ Below w.heap.size w w' := by
  have hand := i64_and32 a0
  have l0 : 0 ≤ a0 % 4294967296 := by omega
  have l1 : a0 % 4294967296 < 4294967296 := by omega
  have d1 : decide (2147483647 < a0 % 4294967296) = true := by simp; omega
  obtain ⟨lo, hLO⟩ : ∃ lo, lo = a0 % 4294967296 - 4294967296 := ⟨_, rfl⟩
  have hrun := num_run a0 lo ha0 (by omega) (by omega) (by omega)
  have HRUN := Lib.hid hrun
  have HL := Lib.hid hLO
  clear ha0 hlo hrun hLO
  go_enter Try.func9, Try.ntmps9
  go_wp2_with fail
  generalize hW : World.alloc _ _ = W
  have hB : Below w.heap.size w W := by rw [← hW]; exact (Below.refl _ w).alloc (Nat.le_refl _) _
  have hk : Blk W w.heap.size 52 #[.int .i64 3, .int .i64 5, .int .i64 0, .int .i64 0, .int .i64 (a0 / 4294967296), .int .i64 4, .int .i64 5, .int .i64 0, .int .i64 0, .int .i64 lo, .int .i64 0, .int .i64 0, .int .i64 0, .int .i64 0, .int .i64 0] := by rw [HL.out, ← hW]; exact Blk.new w _ _
  have hcell : ∀ (j : Nat) (t : In), (numL (a0 / 4294967296) lo)[j]? = some t → ∀ f, f < 5 → W.cell? ⟨w.heap.size, j * 5 + f, none⟩ = (instL t)[f]? := by
    intro j t hj f hf
    have hj3 : j < 3 := by
      rcases Nat.lt_or_ge j 3 with h | h
      · exact h
      · rw [List.getElem?_eq_none (by simpa [numL] using h)] at hj; cases hj
    rw [hk.cell]
    have ej : j = 0 ∨ j = 1 ∨ j = 2 := by omega
    have ef : f = 0 ∨ f = 1 ∨ f = 2 ∨ f = 3 ∨ f = 4 := by omega
    rcases ej with rfl | rfl | rfl <;> (obtain rfl := Option.some.inj hj; rcases ef with rfl | rfl | rfl | rfl | rfl <;> rfl)
  refine (code_any W w.heap.size 3 (numL (a0 / 4294967296) lo) hk.lt (show 3 ≤ 2000 by omega) hcell).mono ?_
  rintro e w1 ⟨A, c, rfl, hown, hb1⟩
  have hB1 := below_next' hB hb1
  have HI := Lib.hid (in3_own hown (fun t _ => encw_bd t))
  have hlen : (numL (a0 / 4294967296) lo).length = 3 := rfl
  have hcl : ((numL (a0 / 4294967296) lo).map encw).length = 3 := rfl
  rw [hlen]
  clear hW hB hk hcell hown hb1 hlen
  generalize (numL (a0 / 4294967296) lo).map encw = cd at *
  go_wp2_with fail
  have hn := new_rep (HI.out.below ((Below.refl _ _).alloc (Nat.le_refl _) (.cells #[.slice A 3 c, .slice none 0 0, .int .i64 0] 24))) c 0 0 0 0 (by unfold okF; rw [hcl]; decide) (by decide)
  rw [hcl] at hn
  refine Calls.mono hn ?_
  rintro e w2 ⟨L, iv, rfl, hR, hb2⟩
  have hB2 := below_next' (hB1.alloc hB1.size (.cells #[.slice A 3 c, .slice none 0 0, .int .i64 0] 24)) hb2
  have HR := Lib.hid hR
  clear hn hR hb2
  go_wp2_with fail
  refine (num_any _ _).mono ?_
  rintro e w3 ⟨rfl, rfl⟩
  go_wp2_with fail
  refine (runm_k w2 _ L cd _ iv _ HR.out 3 (by omega) 3 rfl).mono ?_
  generalize iter cd 3 (st0 [] [] 0 0) = z at *
  rintro e w4 ⟨A2, c2, w5, iv2, ov2, rfl, hown2, hR2, hb3, hb4⟩
  obtain ⟨z1, z2, z3, z4⟩ := HRUN.out
  rw [z1, z2]
  have hR4 := (hR2.keep hb4).keep ((Below.refl _ _).alloc (Nat.le_refl _) (.cells #[.int .i64 1, .int .i64 z.code, .slice A2 z.out.length c2, .int .i64 3] 29))
  have f5 : (mcells L cd.length z iv2 ov2)[3 + 5]? = some (.int .i64 a0) := by rw [mcells_reg _ _ _ _ _ (by omega), z3]
  have f6 : (mcells L cd.length z iv2 ov2)[3 + 6]? = some (.int .i64 0) := by rw [mcells_reg _ _ _ _ _ (by omega), z4]
  have hsz := hR2.mach.lt
  have hB4 : Below w.heap.size w w4 := (hB2.trans (hb3.mono (by have := hB1.size; simp; omega))).trans (hb4.mono (by have := hR2.gB; have := hB1.size; simp at *; omega))
  have HM := Lib.hid hR4.mach
  clear hR2 hown2 hb3 hb4 hR4 z1 z2 z3 z4
  go_wp2_with fail
  refine (reg_in _ L.g _ HM.out 5 (by omega) a0 f5).mono ?_
  rintro e w6 ⟨rfl, rfl⟩
  go_wp2_with fail
  refine (reg_in _ L.g _ HM.out 6 (by omega) 0 f6).mono ?_
  rintro e w6 ⟨rfl, rfl⟩
  go_wp2
  go_ret
  exact ⟨rfl, hB4.alloc hB4.size _⟩
theorem walk (w : World) (a0 : Int) (ha0 : I64 a0) :
    Calls Try.prog 9 #[.int .i64 a0] w fun e w' => e = .returned (.bool true) ∧ Below w.heap.size w w' := by
  by_cases h : a0 % 4294967296 ≤ 2147483647
  · exact walk_lo w a0 ha0 h
  · exact walk_hi w a0 ha0 h

/-! ### The row's step. -/
set_option maxRecDepth 100000 in
theorem lifted (os : Os) (started : os.Started) (H : Type) (enc : TypeId × Value → H) :
    ReturnsInHanded {} Try.checked os 9 .any (Rows.machNumbersSpec.pre6 enc Try.prog Try.f9 Rows.machNumbersRow.domain false) (Rows.machNumbersSpec.post enc Try.prog Try.f9 false true false false) := by
  refine returnsInHanded_of_change (C := Try.checked) own started (by kernel_rfl) Try.func9
    (ChangeSpec.witness6 (enc := enc) (C := Try.checked) false ⟨#[], #[.int .i64 0], []⟩ 8 (by kernel_rfl) (by kernel_rfl) (by kernel_rfl) (by kernel_rfl)) ?_
  intro W base args ds gs before hval0 hW hcnd _
  have hval : ∀ (j : Nat) t v, Try.f9.params[j]? = some t → args[j]? = some v → Value.okWide Try.prog W .any base t v := hval0
  have hW' := hW
  obtain ⟨p, q, hA0, hV, rfl, hfz, hnd⟩ := hW
  have hA : DataW.TrodAll enc Try.prog W 0 (fun _ => true) true Try.f9.params.toList args.toList ds p := hA0
  rw [Try.params9] at hA hval
  obtain ⟨v0, vs0, d0, ds0, p0, q0, hargs, rfl, rfl, h0, r0⟩ := trodAll_cons hA
  obtain ⟨rfl, rfl, rfl⟩ := trodAll_nil r0
  obtain rfl : args = #[v0] := by cases args; simp_all
  obtain ⟨rfl, rfl⟩ := trodVars_none hV
  obtain ⟨a0, rfl, rfl, rfl, w0⟩ := open_int Try.underlying2 (hval 0 2 v0 rfl rfl) h0
  have ha0 := i64_of w0
  refine (walk W a0 ha0).mono fun e W' ⟨he, hb⟩ => ?_
  subst he
  exact ⟨_, rfl, post_law laidOut (by rw [Try.params9]; intro t ht; simp at ht; (first | (rcases ht with rfl | rfl | rfl | rfl | rfl) | (rcases ht with rfl | rfl | rfl | rfl) | (rcases ht with rfl | rfl | rfl) | (rcases ht with rfl | rfl) | subst ht) <;> exact ⟨by kernel_rfl, of_decide_eq_true (by kernel_rfl)⟩) rfl rfl Try.underlying4 rfl hW' hb⟩

theorem over : Rows.machNumbersRow.holds Try.pinned (OpenSpec.ofChange Rows.machNumbersSpec) :=
  OpenClaim.holds_of_wide 9 Try.f9 rfl rfl rfl rfl rfl rfl rfl ⟨rfl, rfl, rfl, rfl, rfl⟩ rfl rfl rfl rfl rfl (by kernel_rfl) Try.func9 (by kernel_rfl)
    (of_decide_eq_true (by kernel_rfl)) (by unfold Func.isWrapper; first | (rw [if_pos (by decide +kernel)]; kernel_rfl) | (rw [if_neg (by decide +kernel)]; exact ⟨rfl, rfl⟩))
    (fun os started H enc _ => lifted os started H enc)

/-- The statement. -/
theorem proved : Rows.MachNumbersSaid :=
  over
#print axioms proved
end Go.Proofs.Ytpokhdnfclmifaa.machNumbers
