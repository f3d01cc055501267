/-
  A text, parsed: walks.
-/
import Derived.Test.YtihnnbeepfgphaaGreatDoorParC
import Derived.Test.YtihnnbeepfgphaaGreatDoorParP0
import Derived.Test.YtihnnbeepfgphaaGreatDoorLexQ
import Derived.Test.YtihnnbeepfgphaaGreatDoorParH
namespace Go.Proofs.YtihnnbeepfgphaaGreatDoor
open Go.RowKit
set_option linter.unusedVariables false
set_option linter.unusedSimpArgs false

/-- What Parse comes to. -/
def ParseP (w : World) (p : PR) (e : Ending) (w' : World) : Prop :=
  Below w.heap.size w w' ∧ ((∃ t vs, p = .tree t ∧ Rep w' (Fp w.heap.size) t vs ∧ e = .returned (.tuple #[.agg vs.toArray, .int .i64 0, .int .i64 0])) ∨
    ∃ (a : Nat) (k : Int), p = .fault a k ∧ e = .returned (.tuple #[.agg #[.int .i64 0, .int .i64 0, .int .i64 0, .string ⟨#[]⟩, .string ⟨#[]⟩, .int .i64 0, .slice none 0 0], .int .i64 a, .int .i64 k]))
set_option maxRecDepth 100000 in
set_option maxHeartbeats 2000000 in
theorem parse_err (s : ByteArray) (p : Nat) (k : Int) (w : World) (ht : ErrT w) (h : lexD s.data.toList = ([], p, k)) (hk : k = 2 ∨ k = 5) :
    Calls Tryz.prog 13 #[.string s] w (ParseP w (.fault p k)) := by
  have HT := Lib.hid ht
  have HH := Lib.hid h
  have hne : (k != 0) = true := by rcases hk with rfl | rfl <;> rfl
  have hne2 : ¬ k = 0 := by rcases hk with rfl | rfl <;> decide
  clear ht h hk
  go_enter_defers Tryz.func13, Tryz.ntmps13
  go_wp2_with (go_at_call 18; refine (lex_err _ p k _ (((HT.out.alloc _).alloc _).alloc _) HH.out).mono ?_; rintro e w1 ⟨A, c, rfl, hb1⟩; have hs1 : w.heap.size + 3 ≤ w1.heap.size := (by have := hb1.size; simpa using this); have hb_z1 : Blk w1 (w.heap.size) 28 #[.int .i64 0, .int .i64 0, .int .i64 0, .string ⟨#[]⟩, .string ⟨#[]⟩, .int .i64 0, .slice none 0 0] := Blk.bel bkA hb1; have hb_i1 : Blk w1 (w.heap.size + 1) 3 #[.int .i64 0] := Blk.bel bkA hb1; have hb_e1 : Blk w1 (w.heap.size + 2) 29 #[.int .i64 0] := Blk.bel bkA hb1; have q1 := hb_i1.cell 0; have f1 := hb_i1.frozen 0; have q2 := hb_e1.cell 0; have f2 := hb_e1.frozen 0)
  have nz1 : w.heap.size ≠ w.heap.size + 1 := by omega
  have nz2 : w.heap.size ≠ w.heap.size + 1 + 1 := by omega
  have nz3 : w.heap.size + 1 ≠ w.heap.size + 1 + 1 := by omega
  obtain ⟨V, hV⟩ : ∃ V, V = (w1.setCell ⟨w.heap.size + 1, 0, none⟩ (.int .i64 p)).setCell ⟨w.heap.size + 1 + 1, 0, none⟩ (.int .i64 k) := ⟨_, rfl⟩
  have v2 : Blk V w.heap.size 28 #[.int .i64 0, .int .i64 0, .int .i64 0, .string ⟨#[]⟩, .string ⟨#[]⟩, .int .i64 0, .slice none 0 0] := by rw [hV]; exact Blk.far (Blk.far hb_z1 nz1 _) nz2 _
  have v3 : Blk V (w.heap.size + 1) 3 #[.int .i64 p] := by rw [hV]; exact Blk.far (hb_i1.set_ 0 (.int .i64 p)) nz3 _
  have v4 : Blk V (w.heap.size + 1 + 1) 29 #[.int .i64 k] := by rw [hV]; exact (Blk.far (p := ⟨w.heap.size + 1, 0, none⟩) hb_e1 nz3.symm (.int .i64 p)).set_ 0 (.int .i64 k)
  have hB : Below w.heap.size w V := by rw [hV]; exact ((((((Below.refl _ w).alloc (Nat.le_refl _) _).alloc (by simp) _).alloc (by simp; omega) _).trans (hb1.mono (by simp; omega))).setCell (by simp) _).setCell (by simp; omega) _
  rw [← hV]
  clear hV hb_z1 hb_i1 hb_e1 q1 f1 q2 f2 hb1
  refine Code.wp_mono (Q := fun e a' w' => e = .normal ∧ a'.defers = [] ∧ a'.tmps.getD 2 undef = .pointer (some ⟨w.heap.size, 0, none⟩) ∧ a'.tmps.getD 3 undef = .pointer (some ⟨w.heap.size + 1, 0, none⟩) ∧ a'.tmps.getD 4 undef = .pointer (some ⟨w.heap.size + 1 + 1, 0, none⟩) ∧ Blk w' w.heap.size 28 #[.int .i64 0, .int .i64 0, .int .i64 0, .string ⟨#[]⟩, .string ⟨#[]⟩, .int .i64 0, .slice none 0 0] ∧ Blk w' (w.heap.size + 1) 3 #[.int .i64 p] ∧ Blk w' (w.heap.size + 1 + 1) 29 #[.int .i64 k] ∧ Below w.heap.size w w') ?_ ?_
  · rintro e a' w' ⟨rfl, hd, t2, t3, t4, b2, b3, b4, hB'⟩
    go_wp2
    obtain ⟨tm, df⟩ := a'
    simp only at hd t2 t3 t4
    subst hd
    exact ⟨_, res_parse tm w' _ _ _ _ _ _ _ _ _ _ _ _ t2 t3 t4 b2 b3 b4, hB', .inr ⟨p, k, rfl, rfl⟩⟩
  · have hn3 := v3.lt
    refine wp_region_held_drew (S := fun W => Blk W (w.heap.size + 1) 3 #[.int .i64 p] ∧ Blk W (w.heap.size + 1 + 1) 29 #[.int .i64 k]) (by kernel_rfl) ⟨v3.drew, v4.drew⟩ (fun hS0 => ?_)
    refine wpAnyH_take (i := 0) (v := .agg #[.int .i64 0, .int .i64 0, .int .i64 0, .string ⟨#[]⟩, .string ⟨#[]⟩, .int .i64 0, .slice none 0 0]) rfl (by kernel_rfl) (by kernel_rfl) (by kernel_rfl) (fun _ _ _ h => by cases h.1) (Or.inl ⟨rfl, fun w' hS => by (unfold execOp; go_simp)⟩) hS0 ?_
    simp only [Act.put, List.getElem_toArray, List.getElem_cons_zero, List.getElem_cons_succ, List.setIfInBounds_toArray, List.set_cons_zero, List.set_cons_succ]
    refine wpAnyH_take (i := 1) (v := .int .i64 p) rfl (by kernel_rfl) (by kernel_rfl) (by kernel_rfl) (fun _ _ _ h => by cases h.1) (Or.inl ⟨rfl, fun w' hS => by (have s0 := hS.1.cell 0; unfold execOp; go_simp)⟩) hS0 ?_
    simp only [Act.put, List.getElem_toArray, List.getElem_cons_zero, List.getElem_cons_succ, List.setIfInBounds_toArray, List.set_cons_zero, List.set_cons_succ]
    refine wpAnyH_take (i := 2) (v := .int .i64 k) rfl (by kernel_rfl) (by kernel_rfl) (by kernel_rfl) (fun _ _ _ h => by cases h.1) (Or.inl ⟨rfl, fun w' hS => by (have s0 := hS.2.cell 0; unfold execOp; go_simp)⟩) hS0 ?_
    simp only [Act.put, List.getElem_toArray, List.getElem_cons_zero, List.getElem_cons_succ, List.setIfInBounds_toArray, List.set_cons_zero, List.set_cons_succ]
    have v2 := v2.drew
    have v3 := v3.drew
    have v4 := v4.drew
    have hB := hB.drew
    generalize V.drew = W at *
    have q0 := v2.cell 0
    have q1 := v2.cell 1
    have q2 := v2.cell 2
    have q3 := v2.cell 3
    have q4 := v2.cell 4
    have q5 := v2.cell 5
    have q6 := v2.cell 6
    have qf := v2.frozen
    refine wpAnyH_one (i := 3) (by kernel_rfl) rfl rfl (op_put (w' := ((((((W.setCell ⟨w.heap.size, 0, none⟩ (.int .i64 0)).setCell ⟨w.heap.size, 1, none⟩ (.int .i64 0)).setCell ⟨w.heap.size, 2, none⟩ (.int .i64 0)).setCell ⟨w.heap.size, 3, none⟩ (.string ⟨#[]⟩)).setCell ⟨w.heap.size, 4, none⟩ (.string ⟨#[]⟩)).setCell ⟨w.heap.size, 5, none⟩ (.int .i64 0)).setCell ⟨w.heap.size, 6, none⟩ (.slice none 0 0)) (by unfold execOp; go_simp) (And.intro ⟨?_, ?_⟩ ?_) rfl)
    · exact Blk.far (Blk.far (Blk.far (Blk.far (Blk.far (Blk.far (Blk.far v3 nz1.symm _) nz1.symm _) nz1.symm _) nz1.symm _) nz1.symm _) nz1.symm _) nz1.symm _
    · exact Blk.far (Blk.far (Blk.far (Blk.far (Blk.far (Blk.far (Blk.far v4 nz2.symm _) nz2.symm _) nz2.symm _) nz2.symm _) nz2.symm _) nz2.symm _) nz2.symm _
    obtain ⟨W5, hW5⟩ : ∃ W5, W5 = ((((((W.setCell ⟨w.heap.size, 0, none⟩ (.int .i64 0)).setCell ⟨w.heap.size, 1, none⟩ (.int .i64 0)).setCell ⟨w.heap.size, 2, none⟩ (.int .i64 0)).setCell ⟨w.heap.size, 3, none⟩ (.string ⟨#[]⟩)).setCell ⟨w.heap.size, 4, none⟩ (.string ⟨#[]⟩)).setCell ⟨w.heap.size, 5, none⟩ (.int .i64 0)).setCell ⟨w.heap.size, 6, none⟩ (.slice none 0 0) := ⟨_, rfl⟩
    have x2 : Blk W5 w.heap.size 28 #[.int .i64 0, .int .i64 0, .int .i64 0, .string ⟨#[]⟩, .string ⟨#[]⟩, .int .i64 0, .slice none 0 0] := by rw [hW5]; exact v2.seven _ _ _ _ _ _ _
    have x3 : Blk W5 (w.heap.size + 1) 3 #[.int .i64 p] := by rw [hW5]; exact Blk.far (Blk.far (Blk.far (Blk.far (Blk.far (Blk.far (Blk.far v3 nz1.symm _) nz1.symm _) nz1.symm _) nz1.symm _) nz1.symm _) nz1.symm _) nz1.symm _
    have x4 : Blk W5 (w.heap.size + 1 + 1) 29 #[.int .i64 k] := by rw [hW5]; exact Blk.far (Blk.far (Blk.far (Blk.far (Blk.far (Blk.far (Blk.far v4 nz2.symm _) nz2.symm _) nz2.symm _) nz2.symm _) nz2.symm _) nz2.symm _) nz2.symm _
    have xB : Below w.heap.size w W5 := by rw [hW5]; exact ((((((hB.setCell (by simp) _).setCell (by simp) _).setCell (by simp) _).setCell (by simp) _).setCell (by simp) _).setCell (by simp) _).setCell (by simp) _
    rw [← hW5]
    clear hW5 q0 q1 q2 q3 q4 q5 q6 qf v2 v3 v4 hB
    simp only [Act.put, List.getElem_toArray, List.getElem_cons_zero, List.getElem_cons_succ, List.setIfInBounds_toArray, List.set_cons_zero, List.set_cons_succ]
    have r3 := x3.cell 0
    have f3 := x3.frozen 0
    refine wpAnyH_one (i := 4) (by kernel_rfl) rfl rfl (op_put (w' := W5.setCell ⟨w.heap.size + 1, 0, none⟩ (.int .i64 p)) (by unfold execOp; go_simp) (And.intro ⟨x3.set_ 0 (.int .i64 p), Blk.far x4 nz3.symm _⟩ ?_) rfl)
    simp only [Act.put, List.getElem_toArray, List.getElem_cons_zero, List.getElem_cons_succ, List.setIfInBounds_toArray, List.set_cons_zero, List.set_cons_succ]
    have x4' := Blk.far (p := ⟨w.heap.size + 1, 0, none⟩) x4 nz3.symm (.int .i64 p)
    have r4 := x4'.cell 0
    have f4 := x4'.frozen 0
    refine wpAnyH_one (i := 5) (by kernel_rfl) rfl rfl (op_put (w' := (W5.setCell ⟨w.heap.size + 1, 0, none⟩ (.int .i64 p)).setCell ⟨w.heap.size + 1 + 1, 0, none⟩ (.int .i64 k)) (by unfold execOp; go_simp) (And.intro ⟨Blk.far (x3.set_ 0 (.int .i64 p)) nz3 _, x4'.set_ 0 (.int .i64 k)⟩ ?_) rfl)
    simp only [Act.put, List.getElem_toArray, List.getElem_cons_zero, List.getElem_cons_succ, List.setIfInBounds_toArray, List.set_cons_zero, List.set_cons_succ]
    refine wpAnyH_done (by kernel_rfl) ?_ _
    exact ⟨rfl, rfl, rfl, rfl, rfl, Blk.far (Blk.far x2 nz1 _) nz2 _, Blk.far (x3.set_ 0 (.int .i64 p)) nz3 _, x4'.set_ 0 (.int .i64 k), (xB.setCell (by simp) _).setCell (by simp; omega) _⟩
end Go.Proofs.YtihnnbeepfgphaaGreatDoor
