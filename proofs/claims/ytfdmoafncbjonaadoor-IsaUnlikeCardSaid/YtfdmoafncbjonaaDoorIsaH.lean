/-
  Two instructions that have words, held against each other: walks.
-/
import Derived.Test.YtfdmoafncbjonaaDoorIsaG
import Derived.WalkKit
import Derived.Deep.RegionHeld3
namespace Go.Proofs.YtfdmoafncbjonaaDoor
open Go.ChangeShapes Go.WideShapes Go.ChangeAt Go.RowKit
set_option linter.unusedVariables false

set_option maxHeartbeats 1000000 in
theorem unlike0 (op0 op1 a0 a1 b0 b1 c0 c1 n0 n1 : Int) (hF0 : F op0 a0 b0 c0 n0 = true) (hF1 : F op1 a1 b1 c1 n1 = true) (hne : (op0 == op1) = false) (hW : (W op0 a0 b0 c0 n0 == W op1 a1 b1 c1 n1) = false) (hX : ((txt op0 a0 b0 c0 n0).toList == (txt op1 a1 b1 c1 n1).toList) = false) (w : World) (ht : Tab w) :
    Calls Tryd.prog 9 #[.agg #[.int .i64 op0, .int .i64 a0, .int .i64 b0, .int .i64 c0, .int .i64 n0], .agg #[.int .i64 op1, .int .i64 a1, .int .i64 b1, .int .i64 c1, .int .i64 n1]] w fun e w' => e = .returned (.bool true) ∧ Below w.heap.size w w' := by
  have HF0 := Lib.hid hF0
  have HF1 := Lib.hid hF1
  have HT := Lib.hid ht
  clear hF0 hF1 ht
  go_enter Tryd.func9, Tryd.ntmps9
  go_wp2_with (first
    | (go_at_call 13; ((with_reducible refine (encode_yes op0 a0 b0 c0 n0 HF0.out _).mono ?_); rintro e w1 ⟨rfl, hb1⟩); have hz1 : w.heap.size + 1 < w1.heap.size := (by have := hb1.size; simp at this; omega); have hx1 := fun o => hb1.cell (p := ⟨w.heap.size, o, none⟩) (by simp; omega); have hy1 := fun o => hb1.cell (p := ⟨w.heap.size + 1, o, none⟩) (by simp))
    | (go_at_call 13; ((with_reducible refine (encode_yes op1 a1 b1 c1 n1 HF1.out _).mono ?_); rintro e w2 ⟨rfl, hb2⟩); have hz2 : w.heap.size + 1 < w2.heap.size := (by have := hb2.size; omega); have hx2 := fun o => hb2.cell (p := ⟨w.heap.size, o, none⟩) (by show w.heap.size < _; omega); have hy2 := fun o => hb2.cell (p := ⟨w.heap.size + 1, o, none⟩) (by show w.heap.size + 1 < _; omega))
    | (go_at_call 15; refine (num_any _ _).mono ?_; rintro e w' ⟨rfl, rfl⟩))
  have k00 : w2.cell? ⟨w.heap.size, 0, none⟩ = some (.int .i64 op0) := by rw [hx2 0, hx1 0]; simp
  have k01 : w2.cell? ⟨w.heap.size, 1, none⟩ = some (.int .i64 a0) := by rw [hx2 1, hx1 1]; simp
  have k02 : w2.cell? ⟨w.heap.size, 2, none⟩ = some (.int .i64 b0) := by rw [hx2 2, hx1 2]; simp
  have k03 : w2.cell? ⟨w.heap.size, 3, none⟩ = some (.int .i64 c0) := by rw [hx2 3, hx1 3]; simp
  have k04 : w2.cell? ⟨w.heap.size, 4, none⟩ = some (.int .i64 n0) := by rw [hx2 4, hx1 4]; simp
  have k10 : w2.cell? ⟨w.heap.size + 1, 0, none⟩ = some (.int .i64 op1) := by rw [hy2 0, hy1 0]; simp
  have k11 : w2.cell? ⟨w.heap.size + 1, 1, none⟩ = some (.int .i64 a1) := by rw [hy2 1, hy1 1]; simp
  have k12 : w2.cell? ⟨w.heap.size + 1, 2, none⟩ = some (.int .i64 b1) := by rw [hy2 2, hy1 2]; simp
  have k13 : w2.cell? ⟨w.heap.size + 1, 3, none⟩ = some (.int .i64 c1) := by rw [hy2 3, hy1 3]; simp
  have k14 : w2.cell? ⟨w.heap.size + 1, 4, none⟩ = some (.int .i64 n1) := by rw [hy2 4, hy1 4]; simp
  have hT2 : Tab w2 := tab_below (tab_below (tab_alloc (tab_alloc HT.out _) _) hb1) hb2
  have hB2 : Below w.heap.size w w2 := below_next (below_next (below_box2 _ _ _ _ _) hb1) hb2
  have hB2' : Below w.heap.size w w2.drew := below_heap hB2 rfl rfl rfl rfl
  have hT2' : Tab w2.drew := tab_heap hT2 rfl
  have hz2' : w.heap.size + 1 < w2.drew.heap.size := hz2
  clear hx1 hy1 hx2 hy2 hb1 hb2 hz1
  go_region_held3 (fun w' => w'.cell? ⟨w.heap.size, 0, none⟩ = some (.int .i64 op0) ∧ w'.cell? ⟨w.heap.size, 1, none⟩ = some (.int .i64 a0) ∧ w'.cell? ⟨w.heap.size, 2, none⟩ = some (.int .i64 b0) ∧ w'.cell? ⟨w.heap.size, 3, none⟩ = some (.int .i64 c0) ∧ w'.cell? ⟨w.heap.size, 4, none⟩ = some (.int .i64 n0) ∧ w'.cell? ⟨w.heap.size + 1, 0, none⟩ = some (.int .i64 op1) ∧ w'.cell? ⟨w.heap.size + 1, 1, none⟩ = some (.int .i64 a1) ∧ w'.cell? ⟨w.heap.size + 1, 2, none⟩ = some (.int .i64 b1) ∧ w'.cell? ⟨w.heap.size + 1, 3, none⟩ = some (.int .i64 c1) ∧ w'.cell? ⟨w.heap.size + 1, 4, none⟩ = some (.int .i64 n1) ∧ Tab w' ∧ Below w.heap.size w w' ∧ w.heap.size + 1 < w'.heap.size) ((first | exact ⟨k00, k01, k02, k03, k04, k10, k11, k12, k13, k14, tab_heap hT2 rfl, below_heap hB2 rfl rfl rfl rfl, hz2⟩ | exact hS3 | exact hS4 | exact hS5)) (first
    | (go_at_call 18; ((with_reducible refine (text_yes op0 a0 b0 c0 n0 HF0.out _ ?_).mono ?_); assumption; rintro e w3 ⟨rfl, hb3⟩); have hS3 := keepS (by first | exact hS3 | exact hS4 | (refine ⟨?_, ?_, ?_, ?_, ?_, ?_, ?_, ?_, ?_, ?_, ?_, ?_, ?_⟩ <;> assumption)) hb3; have hT3 := hS3.2.2.2.2.2.2.2.2.2.2.1; clear hb3)
    | (go_at_call 18; ((with_reducible refine (text_yes op1 a1 b1 c1 n1 HF1.out _ ?_).mono ?_); assumption; rintro e w4 ⟨rfl, hb4⟩); have hS4 := keepS (by first | exact hS3 | exact hS4 | (refine ⟨?_, ?_, ?_, ?_, ?_, ?_, ?_, ?_, ?_, ?_, ?_, ?_, ?_⟩ <;> assumption)) hb4; have hT4 := hS4.2.2.2.2.2.2.2.2.2.2.1; clear hb4)
    | (go_at_call 12; refine (awake_any _ ?_).mono ?_; assumption; rintro e w5 ⟨rfl, hb5⟩; have hS5 := keepS (by first | exact hS3 | exact hS4 | (refine ⟨?_, ?_, ?_, ?_, ?_, ?_, ?_, ?_, ?_, ?_, ?_, ?_, ?_⟩ <;> assumption)) hb5; clear hb5))
  all_goals (go_wp2; go_ret; exact ⟨rfl, hS5.2.2.2.2.2.2.2.2.2.2.2.1⟩)

set_option maxHeartbeats 1000000 in
theorem unlike1 (op a0 a1 b0 b1 c0 c1 n0 n1 : Int) (hF0 : F op a0 b0 c0 n0 = true) (hF1 : F op a1 b1 c1 n1 = true) (hne : (a0 == a1) = false) (hW : (W op a0 b0 c0 n0 == W op a1 b1 c1 n1) = false) (hX : ((txt op a0 b0 c0 n0).toList == (txt op a1 b1 c1 n1).toList) = false) (w : World) (ht : Tab w) :
    Calls Tryd.prog 9 #[.agg #[.int .i64 op, .int .i64 a0, .int .i64 b0, .int .i64 c0, .int .i64 n0], .agg #[.int .i64 op, .int .i64 a1, .int .i64 b1, .int .i64 c1, .int .i64 n1]] w fun e w' => e = .returned (.bool true) ∧ Below w.heap.size w w' := by
  have HF0 := Lib.hid hF0
  have HF1 := Lib.hid hF1
  have HT := Lib.hid ht
  clear hF0 hF1 ht
  go_enter Tryd.func9, Tryd.ntmps9
  go_wp2_with (first
    | (go_at_call 13; ((with_reducible refine (encode_yes op a0 b0 c0 n0 HF0.out _).mono ?_); rintro e w1 ⟨rfl, hb1⟩); have hz1 : w.heap.size + 1 < w1.heap.size := (by have := hb1.size; simp at this; omega); have hx1 := fun o => hb1.cell (p := ⟨w.heap.size, o, none⟩) (by simp; omega); have hy1 := fun o => hb1.cell (p := ⟨w.heap.size + 1, o, none⟩) (by simp))
    | (go_at_call 13; ((with_reducible refine (encode_yes op a1 b1 c1 n1 HF1.out _).mono ?_); rintro e w2 ⟨rfl, hb2⟩); have hz2 : w.heap.size + 1 < w2.heap.size := (by have := hb2.size; omega); have hx2 := fun o => hb2.cell (p := ⟨w.heap.size, o, none⟩) (by show w.heap.size < _; omega); have hy2 := fun o => hb2.cell (p := ⟨w.heap.size + 1, o, none⟩) (by show w.heap.size + 1 < _; omega))
    | (go_at_call 15; refine (num_any _ _).mono ?_; rintro e w' ⟨rfl, rfl⟩))
  have k00 : w2.cell? ⟨w.heap.size, 0, none⟩ = some (.int .i64 op) := by rw [hx2 0, hx1 0]; simp
  have k01 : w2.cell? ⟨w.heap.size, 1, none⟩ = some (.int .i64 a0) := by rw [hx2 1, hx1 1]; simp
  have k02 : w2.cell? ⟨w.heap.size, 2, none⟩ = some (.int .i64 b0) := by rw [hx2 2, hx1 2]; simp
  have k03 : w2.cell? ⟨w.heap.size, 3, none⟩ = some (.int .i64 c0) := by rw [hx2 3, hx1 3]; simp
  have k04 : w2.cell? ⟨w.heap.size, 4, none⟩ = some (.int .i64 n0) := by rw [hx2 4, hx1 4]; simp
  have k10 : w2.cell? ⟨w.heap.size + 1, 0, none⟩ = some (.int .i64 op) := by rw [hy2 0, hy1 0]; simp
  have k11 : w2.cell? ⟨w.heap.size + 1, 1, none⟩ = some (.int .i64 a1) := by rw [hy2 1, hy1 1]; simp
  have k12 : w2.cell? ⟨w.heap.size + 1, 2, none⟩ = some (.int .i64 b1) := by rw [hy2 2, hy1 2]; simp
  have k13 : w2.cell? ⟨w.heap.size + 1, 3, none⟩ = some (.int .i64 c1) := by rw [hy2 3, hy1 3]; simp
  have k14 : w2.cell? ⟨w.heap.size + 1, 4, none⟩ = some (.int .i64 n1) := by rw [hy2 4, hy1 4]; simp
  have hT2 : Tab w2 := tab_below (tab_below (tab_alloc (tab_alloc HT.out _) _) hb1) hb2
  have hB2 : Below w.heap.size w w2 := below_next (below_next (below_box2 _ _ _ _ _) hb1) hb2
  have hB2' : Below w.heap.size w w2.drew := below_heap hB2 rfl rfl rfl rfl
  have hT2' : Tab w2.drew := tab_heap hT2 rfl
  have hz2' : w.heap.size + 1 < w2.drew.heap.size := hz2
  clear hx1 hy1 hx2 hy2 hb1 hb2 hz1
  go_region_held3 (fun w' => w'.cell? ⟨w.heap.size, 0, none⟩ = some (.int .i64 op) ∧ w'.cell? ⟨w.heap.size, 1, none⟩ = some (.int .i64 a0) ∧ w'.cell? ⟨w.heap.size, 2, none⟩ = some (.int .i64 b0) ∧ w'.cell? ⟨w.heap.size, 3, none⟩ = some (.int .i64 c0) ∧ w'.cell? ⟨w.heap.size, 4, none⟩ = some (.int .i64 n0) ∧ w'.cell? ⟨w.heap.size + 1, 0, none⟩ = some (.int .i64 op) ∧ w'.cell? ⟨w.heap.size + 1, 1, none⟩ = some (.int .i64 a1) ∧ w'.cell? ⟨w.heap.size + 1, 2, none⟩ = some (.int .i64 b1) ∧ w'.cell? ⟨w.heap.size + 1, 3, none⟩ = some (.int .i64 c1) ∧ w'.cell? ⟨w.heap.size + 1, 4, none⟩ = some (.int .i64 n1) ∧ Tab w' ∧ Below w.heap.size w w' ∧ w.heap.size + 1 < w'.heap.size) ((first | exact ⟨k00, k01, k02, k03, k04, k10, k11, k12, k13, k14, tab_heap hT2 rfl, below_heap hB2 rfl rfl rfl rfl, hz2⟩ | exact hS3 | exact hS4 | exact hS5)) (first
    | (go_at_call 18; ((with_reducible refine (text_yes op a0 b0 c0 n0 HF0.out _ ?_).mono ?_); assumption; rintro e w3 ⟨rfl, hb3⟩); have hS3 := keepS (by first | exact hS3 | exact hS4 | (refine ⟨?_, ?_, ?_, ?_, ?_, ?_, ?_, ?_, ?_, ?_, ?_, ?_, ?_⟩ <;> assumption)) hb3; have hT3 := hS3.2.2.2.2.2.2.2.2.2.2.1; clear hb3)
    | (go_at_call 18; ((with_reducible refine (text_yes op a1 b1 c1 n1 HF1.out _ ?_).mono ?_); assumption; rintro e w4 ⟨rfl, hb4⟩); have hS4 := keepS (by first | exact hS3 | exact hS4 | (refine ⟨?_, ?_, ?_, ?_, ?_, ?_, ?_, ?_, ?_, ?_, ?_, ?_, ?_⟩ <;> assumption)) hb4; have hT4 := hS4.2.2.2.2.2.2.2.2.2.2.1; clear hb4)
    | (go_at_call 12; refine (awake_any _ ?_).mono ?_; assumption; rintro e w5 ⟨rfl, hb5⟩; have hS5 := keepS (by first | exact hS3 | exact hS4 | (refine ⟨?_, ?_, ?_, ?_, ?_, ?_, ?_, ?_, ?_, ?_, ?_, ?_, ?_⟩ <;> assumption)) hb5; clear hb5))
  all_goals (go_wp2; go_ret; exact ⟨rfl, hS5.2.2.2.2.2.2.2.2.2.2.2.1⟩)

set_option maxHeartbeats 1000000 in
theorem unlike2 (op a b0 b1 c0 c1 n0 n1 : Int) (hF0 : F op a b0 c0 n0 = true) (hF1 : F op a b1 c1 n1 = true) (hne : (b0 == b1) = false) (hW : (W op a b0 c0 n0 == W op a b1 c1 n1) = false) (hX : ((txt op a b0 c0 n0).toList == (txt op a b1 c1 n1).toList) = false) (w : World) (ht : Tab w) :
    Calls Tryd.prog 9 #[.agg #[.int .i64 op, .int .i64 a, .int .i64 b0, .int .i64 c0, .int .i64 n0], .agg #[.int .i64 op, .int .i64 a, .int .i64 b1, .int .i64 c1, .int .i64 n1]] w fun e w' => e = .returned (.bool true) ∧ Below w.heap.size w w' := by
  have HF0 := Lib.hid hF0
  have HF1 := Lib.hid hF1
  have HT := Lib.hid ht
  clear hF0 hF1 ht
  go_enter Tryd.func9, Tryd.ntmps9
  go_wp2_with (first
    | (go_at_call 13; ((with_reducible refine (encode_yes op a b0 c0 n0 HF0.out _).mono ?_); rintro e w1 ⟨rfl, hb1⟩); have hz1 : w.heap.size + 1 < w1.heap.size := (by have := hb1.size; simp at this; omega); have hx1 := fun o => hb1.cell (p := ⟨w.heap.size, o, none⟩) (by simp; omega); have hy1 := fun o => hb1.cell (p := ⟨w.heap.size + 1, o, none⟩) (by simp))
    | (go_at_call 13; ((with_reducible refine (encode_yes op a b1 c1 n1 HF1.out _).mono ?_); rintro e w2 ⟨rfl, hb2⟩); have hz2 : w.heap.size + 1 < w2.heap.size := (by have := hb2.size; omega); have hx2 := fun o => hb2.cell (p := ⟨w.heap.size, o, none⟩) (by show w.heap.size < _; omega); have hy2 := fun o => hb2.cell (p := ⟨w.heap.size + 1, o, none⟩) (by show w.heap.size + 1 < _; omega))
    | (go_at_call 15; refine (num_any _ _).mono ?_; rintro e w' ⟨rfl, rfl⟩))
  have k00 : w2.cell? ⟨w.heap.size, 0, none⟩ = some (.int .i64 op) := by rw [hx2 0, hx1 0]; simp
  have k01 : w2.cell? ⟨w.heap.size, 1, none⟩ = some (.int .i64 a) := by rw [hx2 1, hx1 1]; simp
  have k02 : w2.cell? ⟨w.heap.size, 2, none⟩ = some (.int .i64 b0) := by rw [hx2 2, hx1 2]; simp
  have k03 : w2.cell? ⟨w.heap.size, 3, none⟩ = some (.int .i64 c0) := by rw [hx2 3, hx1 3]; simp
  have k04 : w2.cell? ⟨w.heap.size, 4, none⟩ = some (.int .i64 n0) := by rw [hx2 4, hx1 4]; simp
  have k10 : w2.cell? ⟨w.heap.size + 1, 0, none⟩ = some (.int .i64 op) := by rw [hy2 0, hy1 0]; simp
  have k11 : w2.cell? ⟨w.heap.size + 1, 1, none⟩ = some (.int .i64 a) := by rw [hy2 1, hy1 1]; simp
  have k12 : w2.cell? ⟨w.heap.size + 1, 2, none⟩ = some (.int .i64 b1) := by rw [hy2 2, hy1 2]; simp
  have k13 : w2.cell? ⟨w.heap.size + 1, 3, none⟩ = some (.int .i64 c1) := by rw [hy2 3, hy1 3]; simp
  have k14 : w2.cell? ⟨w.heap.size + 1, 4, none⟩ = some (.int .i64 n1) := by rw [hy2 4, hy1 4]; simp
  have hT2 : Tab w2 := tab_below (tab_below (tab_alloc (tab_alloc HT.out _) _) hb1) hb2
  have hB2 : Below w.heap.size w w2 := below_next (below_next (below_box2 _ _ _ _ _) hb1) hb2
  have hB2' : Below w.heap.size w w2.drew := below_heap hB2 rfl rfl rfl rfl
  have hT2' : Tab w2.drew := tab_heap hT2 rfl
  have hz2' : w.heap.size + 1 < w2.drew.heap.size := hz2
  clear hx1 hy1 hx2 hy2 hb1 hb2 hz1
  go_region_held3 (fun w' => w'.cell? ⟨w.heap.size, 0, none⟩ = some (.int .i64 op) ∧ w'.cell? ⟨w.heap.size, 1, none⟩ = some (.int .i64 a) ∧ w'.cell? ⟨w.heap.size, 2, none⟩ = some (.int .i64 b0) ∧ w'.cell? ⟨w.heap.size, 3, none⟩ = some (.int .i64 c0) ∧ w'.cell? ⟨w.heap.size, 4, none⟩ = some (.int .i64 n0) ∧ w'.cell? ⟨w.heap.size + 1, 0, none⟩ = some (.int .i64 op) ∧ w'.cell? ⟨w.heap.size + 1, 1, none⟩ = some (.int .i64 a) ∧ w'.cell? ⟨w.heap.size + 1, 2, none⟩ = some (.int .i64 b1) ∧ w'.cell? ⟨w.heap.size + 1, 3, none⟩ = some (.int .i64 c1) ∧ w'.cell? ⟨w.heap.size + 1, 4, none⟩ = some (.int .i64 n1) ∧ Tab w' ∧ Below w.heap.size w w' ∧ w.heap.size + 1 < w'.heap.size) ((first | exact ⟨k00, k01, k02, k03, k04, k10, k11, k12, k13, k14, tab_heap hT2 rfl, below_heap hB2 rfl rfl rfl rfl, hz2⟩ | exact hS3 | exact hS4 | exact hS5)) (first
    | (go_at_call 18; ((with_reducible refine (text_yes op a b0 c0 n0 HF0.out _ ?_).mono ?_); assumption; rintro e w3 ⟨rfl, hb3⟩); have hS3 := keepS (by first | exact hS3 | exact hS4 | (refine ⟨?_, ?_, ?_, ?_, ?_, ?_, ?_, ?_, ?_, ?_, ?_, ?_, ?_⟩ <;> assumption)) hb3; have hT3 := hS3.2.2.2.2.2.2.2.2.2.2.1; clear hb3)
    | (go_at_call 18; ((with_reducible refine (text_yes op a b1 c1 n1 HF1.out _ ?_).mono ?_); assumption; rintro e w4 ⟨rfl, hb4⟩); have hS4 := keepS (by first | exact hS3 | exact hS4 | (refine ⟨?_, ?_, ?_, ?_, ?_, ?_, ?_, ?_, ?_, ?_, ?_, ?_, ?_⟩ <;> assumption)) hb4; have hT4 := hS4.2.2.2.2.2.2.2.2.2.2.1; clear hb4)
    | (go_at_call 12; refine (awake_any _ ?_).mono ?_; assumption; rintro e w5 ⟨rfl, hb5⟩; have hS5 := keepS (by first | exact hS3 | exact hS4 | (refine ⟨?_, ?_, ?_, ?_, ?_, ?_, ?_, ?_, ?_, ?_, ?_, ?_, ?_⟩ <;> assumption)) hb5; clear hb5))
  all_goals (go_wp2; go_ret; exact ⟨rfl, hS5.2.2.2.2.2.2.2.2.2.2.2.1⟩)

set_option maxHeartbeats 1000000 in
theorem unlike3 (op a b c0 c1 n0 n1 : Int) (hF0 : F op a b c0 n0 = true) (hF1 : F op a b c1 n1 = true) (hne : (c0 == c1) = false) (hW : (W op a b c0 n0 == W op a b c1 n1) = false) (hX : ((txt op a b c0 n0).toList == (txt op a b c1 n1).toList) = false) (w : World) (ht : Tab w) :
    Calls Tryd.prog 9 #[.agg #[.int .i64 op, .int .i64 a, .int .i64 b, .int .i64 c0, .int .i64 n0], .agg #[.int .i64 op, .int .i64 a, .int .i64 b, .int .i64 c1, .int .i64 n1]] w fun e w' => e = .returned (.bool true) ∧ Below w.heap.size w w' := by
  have HF0 := Lib.hid hF0
  have HF1 := Lib.hid hF1
  have HT := Lib.hid ht
  clear hF0 hF1 ht
  go_enter Tryd.func9, Tryd.ntmps9
  go_wp2_with (first
    | (go_at_call 13; ((with_reducible refine (encode_yes op a b c0 n0 HF0.out _).mono ?_); rintro e w1 ⟨rfl, hb1⟩); have hz1 : w.heap.size + 1 < w1.heap.size := (by have := hb1.size; simp at this; omega); have hx1 := fun o => hb1.cell (p := ⟨w.heap.size, o, none⟩) (by simp; omega); have hy1 := fun o => hb1.cell (p := ⟨w.heap.size + 1, o, none⟩) (by simp))
    | (go_at_call 13; ((with_reducible refine (encode_yes op a b c1 n1 HF1.out _).mono ?_); rintro e w2 ⟨rfl, hb2⟩); have hz2 : w.heap.size + 1 < w2.heap.size := (by have := hb2.size; omega); have hx2 := fun o => hb2.cell (p := ⟨w.heap.size, o, none⟩) (by show w.heap.size < _; omega); have hy2 := fun o => hb2.cell (p := ⟨w.heap.size + 1, o, none⟩) (by show w.heap.size + 1 < _; omega))
    | (go_at_call 15; refine (num_any _ _).mono ?_; rintro e w' ⟨rfl, rfl⟩))
  have k00 : w2.cell? ⟨w.heap.size, 0, none⟩ = some (.int .i64 op) := by rw [hx2 0, hx1 0]; simp
  have k01 : w2.cell? ⟨w.heap.size, 1, none⟩ = some (.int .i64 a) := by rw [hx2 1, hx1 1]; simp
  have k02 : w2.cell? ⟨w.heap.size, 2, none⟩ = some (.int .i64 b) := by rw [hx2 2, hx1 2]; simp
  have k03 : w2.cell? ⟨w.heap.size, 3, none⟩ = some (.int .i64 c0) := by rw [hx2 3, hx1 3]; simp
  have k04 : w2.cell? ⟨w.heap.size, 4, none⟩ = some (.int .i64 n0) := by rw [hx2 4, hx1 4]; simp
  have k10 : w2.cell? ⟨w.heap.size + 1, 0, none⟩ = some (.int .i64 op) := by rw [hy2 0, hy1 0]; simp
  have k11 : w2.cell? ⟨w.heap.size + 1, 1, none⟩ = some (.int .i64 a) := by rw [hy2 1, hy1 1]; simp
  have k12 : w2.cell? ⟨w.heap.size + 1, 2, none⟩ = some (.int .i64 b) := by rw [hy2 2, hy1 2]; simp
  have k13 : w2.cell? ⟨w.heap.size + 1, 3, none⟩ = some (.int .i64 c1) := by rw [hy2 3, hy1 3]; simp
  have k14 : w2.cell? ⟨w.heap.size + 1, 4, none⟩ = some (.int .i64 n1) := by rw [hy2 4, hy1 4]; simp
  have hT2 : Tab w2 := tab_below (tab_below (tab_alloc (tab_alloc HT.out _) _) hb1) hb2
  have hB2 : Below w.heap.size w w2 := below_next (below_next (below_box2 _ _ _ _ _) hb1) hb2
  have hB2' : Below w.heap.size w w2.drew := below_heap hB2 rfl rfl rfl rfl
  have hT2' : Tab w2.drew := tab_heap hT2 rfl
  have hz2' : w.heap.size + 1 < w2.drew.heap.size := hz2
  clear hx1 hy1 hx2 hy2 hb1 hb2 hz1
  go_region_held3 (fun w' => w'.cell? ⟨w.heap.size, 0, none⟩ = some (.int .i64 op) ∧ w'.cell? ⟨w.heap.size, 1, none⟩ = some (.int .i64 a) ∧ w'.cell? ⟨w.heap.size, 2, none⟩ = some (.int .i64 b) ∧ w'.cell? ⟨w.heap.size, 3, none⟩ = some (.int .i64 c0) ∧ w'.cell? ⟨w.heap.size, 4, none⟩ = some (.int .i64 n0) ∧ w'.cell? ⟨w.heap.size + 1, 0, none⟩ = some (.int .i64 op) ∧ w'.cell? ⟨w.heap.size + 1, 1, none⟩ = some (.int .i64 a) ∧ w'.cell? ⟨w.heap.size + 1, 2, none⟩ = some (.int .i64 b) ∧ w'.cell? ⟨w.heap.size + 1, 3, none⟩ = some (.int .i64 c1) ∧ w'.cell? ⟨w.heap.size + 1, 4, none⟩ = some (.int .i64 n1) ∧ Tab w' ∧ Below w.heap.size w w' ∧ w.heap.size + 1 < w'.heap.size) ((first | exact ⟨k00, k01, k02, k03, k04, k10, k11, k12, k13, k14, tab_heap hT2 rfl, below_heap hB2 rfl rfl rfl rfl, hz2⟩ | exact hS3 | exact hS4 | exact hS5)) (first
    | (go_at_call 18; ((with_reducible refine (text_yes op a b c0 n0 HF0.out _ ?_).mono ?_); assumption; rintro e w3 ⟨rfl, hb3⟩); have hS3 := keepS (by first | exact hS3 | exact hS4 | (refine ⟨?_, ?_, ?_, ?_, ?_, ?_, ?_, ?_, ?_, ?_, ?_, ?_, ?_⟩ <;> assumption)) hb3; have hT3 := hS3.2.2.2.2.2.2.2.2.2.2.1; clear hb3)
    | (go_at_call 18; ((with_reducible refine (text_yes op a b c1 n1 HF1.out _ ?_).mono ?_); assumption; rintro e w4 ⟨rfl, hb4⟩); have hS4 := keepS (by first | exact hS3 | exact hS4 | (refine ⟨?_, ?_, ?_, ?_, ?_, ?_, ?_, ?_, ?_, ?_, ?_, ?_, ?_⟩ <;> assumption)) hb4; have hT4 := hS4.2.2.2.2.2.2.2.2.2.2.1; clear hb4)
    | (go_at_call 12; refine (awake_any _ ?_).mono ?_; assumption; rintro e w5 ⟨rfl, hb5⟩; have hS5 := keepS (by first | exact hS3 | exact hS4 | (refine ⟨?_, ?_, ?_, ?_, ?_, ?_, ?_, ?_, ?_, ?_, ?_, ?_, ?_⟩ <;> assumption)) hb5; clear hb5))
  all_goals (go_wp2; go_ret; exact ⟨rfl, hS5.2.2.2.2.2.2.2.2.2.2.2.1⟩)

set_option maxHeartbeats 1000000 in
theorem unlike4 (op a b c n0 n1 : Int) (hF0 : F op a b c n0 = true) (hF1 : F op a b c n1 = true) (hne : (n0 == n1) = false) (hW : (W op a b c n0 == W op a b c n1) = false) (hX : ((txt op a b c n0).toList == (txt op a b c n1).toList) = false) (w : World) (ht : Tab w) :
    Calls Tryd.prog 9 #[.agg #[.int .i64 op, .int .i64 a, .int .i64 b, .int .i64 c, .int .i64 n0], .agg #[.int .i64 op, .int .i64 a, .int .i64 b, .int .i64 c, .int .i64 n1]] w fun e w' => e = .returned (.bool true) ∧ Below w.heap.size w w' := by
  have HF0 := Lib.hid hF0
  have HF1 := Lib.hid hF1
  have HT := Lib.hid ht
  clear hF0 hF1 ht
  go_enter Tryd.func9, Tryd.ntmps9
  go_wp2_with (first
    | (go_at_call 13; ((with_reducible refine (encode_yes op a b c n0 HF0.out _).mono ?_); rintro e w1 ⟨rfl, hb1⟩); have hz1 : w.heap.size + 1 < w1.heap.size := (by have := hb1.size; simp at this; omega); have hx1 := fun o => hb1.cell (p := ⟨w.heap.size, o, none⟩) (by simp; omega); have hy1 := fun o => hb1.cell (p := ⟨w.heap.size + 1, o, none⟩) (by simp))
    | (go_at_call 13; ((with_reducible refine (encode_yes op a b c n1 HF1.out _).mono ?_); rintro e w2 ⟨rfl, hb2⟩); have hz2 : w.heap.size + 1 < w2.heap.size := (by have := hb2.size; omega); have hx2 := fun o => hb2.cell (p := ⟨w.heap.size, o, none⟩) (by show w.heap.size < _; omega); have hy2 := fun o => hb2.cell (p := ⟨w.heap.size + 1, o, none⟩) (by show w.heap.size + 1 < _; omega))
    | (go_at_call 15; refine (num_any _ _).mono ?_; rintro e w' ⟨rfl, rfl⟩))
  have k00 : w2.cell? ⟨w.heap.size, 0, none⟩ = some (.int .i64 op) := by rw [hx2 0, hx1 0]; simp
  have k01 : w2.cell? ⟨w.heap.size, 1, none⟩ = some (.int .i64 a) := by rw [hx2 1, hx1 1]; simp
  have k02 : w2.cell? ⟨w.heap.size, 2, none⟩ = some (.int .i64 b) := by rw [hx2 2, hx1 2]; simp
  have k03 : w2.cell? ⟨w.heap.size, 3, none⟩ = some (.int .i64 c) := by rw [hx2 3, hx1 3]; simp
  have k04 : w2.cell? ⟨w.heap.size, 4, none⟩ = some (.int .i64 n0) := by rw [hx2 4, hx1 4]; simp
  have k10 : w2.cell? ⟨w.heap.size + 1, 0, none⟩ = some (.int .i64 op) := by rw [hy2 0, hy1 0]; simp
  have k11 : w2.cell? ⟨w.heap.size + 1, 1, none⟩ = some (.int .i64 a) := by rw [hy2 1, hy1 1]; simp
  have k12 : w2.cell? ⟨w.heap.size + 1, 2, none⟩ = some (.int .i64 b) := by rw [hy2 2, hy1 2]; simp
  have k13 : w2.cell? ⟨w.heap.size + 1, 3, none⟩ = some (.int .i64 c) := by rw [hy2 3, hy1 3]; simp
  have k14 : w2.cell? ⟨w.heap.size + 1, 4, none⟩ = some (.int .i64 n1) := by rw [hy2 4, hy1 4]; simp
  have hT2 : Tab w2 := tab_below (tab_below (tab_alloc (tab_alloc HT.out _) _) hb1) hb2
  have hB2 : Below w.heap.size w w2 := below_next (below_next (below_box2 _ _ _ _ _) hb1) hb2
  have hB2' : Below w.heap.size w w2.drew := below_heap hB2 rfl rfl rfl rfl
  have hT2' : Tab w2.drew := tab_heap hT2 rfl
  have hz2' : w.heap.size + 1 < w2.drew.heap.size := hz2
  clear hx1 hy1 hx2 hy2 hb1 hb2 hz1
  go_region_held3 (fun w' => w'.cell? ⟨w.heap.size, 0, none⟩ = some (.int .i64 op) ∧ w'.cell? ⟨w.heap.size, 1, none⟩ = some (.int .i64 a) ∧ w'.cell? ⟨w.heap.size, 2, none⟩ = some (.int .i64 b) ∧ w'.cell? ⟨w.heap.size, 3, none⟩ = some (.int .i64 c) ∧ w'.cell? ⟨w.heap.size, 4, none⟩ = some (.int .i64 n0) ∧ w'.cell? ⟨w.heap.size + 1, 0, none⟩ = some (.int .i64 op) ∧ w'.cell? ⟨w.heap.size + 1, 1, none⟩ = some (.int .i64 a) ∧ w'.cell? ⟨w.heap.size + 1, 2, none⟩ = some (.int .i64 b) ∧ w'.cell? ⟨w.heap.size + 1, 3, none⟩ = some (.int .i64 c) ∧ w'.cell? ⟨w.heap.size + 1, 4, none⟩ = some (.int .i64 n1) ∧ Tab w' ∧ Below w.heap.size w w' ∧ w.heap.size + 1 < w'.heap.size) ((first | exact ⟨k00, k01, k02, k03, k04, k10, k11, k12, k13, k14, tab_heap hT2 rfl, below_heap hB2 rfl rfl rfl rfl, hz2⟩ | exact hS3 | exact hS4 | exact hS5)) (first
    | (go_at_call 18; ((with_reducible refine (text_yes op a b c n0 HF0.out _ ?_).mono ?_); assumption; rintro e w3 ⟨rfl, hb3⟩); have hS3 := keepS (by first | exact hS3 | exact hS4 | (refine ⟨?_, ?_, ?_, ?_, ?_, ?_, ?_, ?_, ?_, ?_, ?_, ?_, ?_⟩ <;> assumption)) hb3; have hT3 := hS3.2.2.2.2.2.2.2.2.2.2.1; clear hb3)
    | (go_at_call 18; ((with_reducible refine (text_yes op a b c n1 HF1.out _ ?_).mono ?_); assumption; rintro e w4 ⟨rfl, hb4⟩); have hS4 := keepS (by first | exact hS3 | exact hS4 | (refine ⟨?_, ?_, ?_, ?_, ?_, ?_, ?_, ?_, ?_, ?_, ?_, ?_, ?_⟩ <;> assumption)) hb4; have hT4 := hS4.2.2.2.2.2.2.2.2.2.2.1; clear hb4)
    | (go_at_call 12; refine (awake_any _ ?_).mono ?_; assumption; rintro e w5 ⟨rfl, hb5⟩; have hS5 := keepS (by first | exact hS3 | exact hS4 | (refine ⟨?_, ?_, ?_, ?_, ?_, ?_, ?_, ?_, ?_, ?_, ?_, ?_, ?_⟩ <;> assumption)) hb5; clear hb5))
  all_goals (go_wp2; go_ret; exact ⟨rfl, hS5.2.2.2.2.2.2.2.2.2.2.2.1⟩)

set_option maxHeartbeats 1000000 in
theorem unlike5 (op a b c n : Int) (hF0 : F op a b c n = true) (w : World) (ht : Tab w) :
    Calls Tryd.prog 9 #[.agg #[.int .i64 op, .int .i64 a, .int .i64 b, .int .i64 c, .int .i64 n], .agg #[.int .i64 op, .int .i64 a, .int .i64 b, .int .i64 c, .int .i64 n]] w fun e w' => e = .returned (.bool true) ∧ Below w.heap.size w w' := by
  have HF0 := Lib.hid hF0
  have HF1 := Lib.hid hF0
  have HT := Lib.hid ht
  clear hF0 ht
  go_enter Tryd.func9, Tryd.ntmps9
  go_wp2_with (first
    | (go_at_call 13; ((with_reducible refine (encode_yes op a b c n HF0.out (World.alloc _ _)).mono ?_); rintro e w1 ⟨rfl, hb1⟩); have hz1 : w.heap.size + 1 < w1.heap.size := (by have := hb1.size; simp at this; omega); have hx1 := fun o => hb1.cell (p := ⟨w.heap.size, o, none⟩) (by simp; omega); have hy1 := fun o => hb1.cell (p := ⟨w.heap.size + 1, o, none⟩) (by simp))
    | (go_at_call 13; ((with_reducible refine (encode_yes op a b c n HF1.out w1).mono ?_); rintro e w2 ⟨rfl, hb2⟩); have hz2 : w.heap.size + 1 < w2.heap.size := (by have := hb2.size; omega); have hx2 := fun o => hb2.cell (p := ⟨w.heap.size, o, none⟩) (by show w.heap.size < _; omega); have hy2 := fun o => hb2.cell (p := ⟨w.heap.size + 1, o, none⟩) (by show w.heap.size + 1 < _; omega))
    | (go_at_call 15; refine (num_any _ _).mono ?_; rintro e w' ⟨rfl, rfl⟩))
  have k00 : w2.cell? ⟨w.heap.size, 0, none⟩ = some (.int .i64 op) := by rw [hx2 0, hx1 0]; simp
  have k01 : w2.cell? ⟨w.heap.size, 1, none⟩ = some (.int .i64 a) := by rw [hx2 1, hx1 1]; simp
  have k02 : w2.cell? ⟨w.heap.size, 2, none⟩ = some (.int .i64 b) := by rw [hx2 2, hx1 2]; simp
  have k03 : w2.cell? ⟨w.heap.size, 3, none⟩ = some (.int .i64 c) := by rw [hx2 3, hx1 3]; simp
  have k04 : w2.cell? ⟨w.heap.size, 4, none⟩ = some (.int .i64 n) := by rw [hx2 4, hx1 4]; simp
  have k10 : w2.cell? ⟨w.heap.size + 1, 0, none⟩ = some (.int .i64 op) := by rw [hy2 0, hy1 0]; simp
  have k11 : w2.cell? ⟨w.heap.size + 1, 1, none⟩ = some (.int .i64 a) := by rw [hy2 1, hy1 1]; simp
  have k12 : w2.cell? ⟨w.heap.size + 1, 2, none⟩ = some (.int .i64 b) := by rw [hy2 2, hy1 2]; simp
  have k13 : w2.cell? ⟨w.heap.size + 1, 3, none⟩ = some (.int .i64 c) := by rw [hy2 3, hy1 3]; simp
  have k14 : w2.cell? ⟨w.heap.size + 1, 4, none⟩ = some (.int .i64 n) := by rw [hy2 4, hy1 4]; simp
  have hT2 : Tab w2 := tab_below (tab_below (tab_alloc (tab_alloc HT.out _) _) hb1) hb2
  have hB2 : Below w.heap.size w w2 := below_next (below_next (below_box2 _ _ _ _ _) hb1) hb2
  have hB2' : Below w.heap.size w w2.drew := below_heap hB2 rfl rfl rfl rfl
  have hT2' : Tab w2.drew := tab_heap hT2 rfl
  have hz2' : w.heap.size + 1 < w2.drew.heap.size := hz2
  clear hx1 hy1 hx2 hy2 hb1 hb2 hz1
  go_region_held3 (fun w' => w'.cell? ⟨w.heap.size, 0, none⟩ = some (.int .i64 op) ∧ w'.cell? ⟨w.heap.size, 1, none⟩ = some (.int .i64 a) ∧ w'.cell? ⟨w.heap.size, 2, none⟩ = some (.int .i64 b) ∧ w'.cell? ⟨w.heap.size, 3, none⟩ = some (.int .i64 c) ∧ w'.cell? ⟨w.heap.size, 4, none⟩ = some (.int .i64 n) ∧ w'.cell? ⟨w.heap.size + 1, 0, none⟩ = some (.int .i64 op) ∧ w'.cell? ⟨w.heap.size + 1, 1, none⟩ = some (.int .i64 a) ∧ w'.cell? ⟨w.heap.size + 1, 2, none⟩ = some (.int .i64 b) ∧ w'.cell? ⟨w.heap.size + 1, 3, none⟩ = some (.int .i64 c) ∧ w'.cell? ⟨w.heap.size + 1, 4, none⟩ = some (.int .i64 n) ∧ Tab w' ∧ Below w.heap.size w w' ∧ w.heap.size + 1 < w'.heap.size) ((first | exact ⟨k00, k01, k02, k03, k04, k10, k11, k12, k13, k14, tab_heap hT2 rfl, below_heap hB2 rfl rfl rfl rfl, hz2⟩ | exact hS3 | exact hS4 | exact hS5)) (first
    | (go_at_call 18; ((with_reducible refine (text_yes op a b c n HF0.out _ ?_).mono ?_); assumption; rintro e w3 ⟨rfl, hb3⟩); have hS3 := keepS (by first | exact hS3 | exact hS4 | (refine ⟨?_, ?_, ?_, ?_, ?_, ?_, ?_, ?_, ?_, ?_, ?_, ?_, ?_⟩ <;> assumption)) hb3; have hT3 := hS3.2.2.2.2.2.2.2.2.2.2.1; clear hb3)
    
    | (go_at_call 12; refine (awake_any _ ?_).mono ?_; assumption; rintro e w5 ⟨rfl, hb5⟩; have hS5 := keepS (by first | exact hS3 | exact hS4 | (refine ⟨?_, ?_, ?_, ?_, ?_, ?_, ?_, ?_, ?_, ?_, ?_, ?_, ?_⟩ <;> assumption)) hb5; clear hb5))
  all_goals (go_wp2; go_ret; exact ⟨rfl, hS5.2.2.2.2.2.2.2.2.2.2.2.1⟩)

end Go.Proofs.YtfdmoafncbjonaaDoor
