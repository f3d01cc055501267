/-
  What the reader gives up with is taken up: walks.
-/
import Derived.Test.YtcjnpaihbebboaaRh
import Derived.Recover
namespace Go.Proofs.Ytcjnpaihbebboaa
open Go.RowKit
set_option linter.unusedVariables false
set_option linter.unusedSimpArgs false

theorem catch_idle (p q : Addr) (w : World) :
    CallsD Try.prog 30 #[.pointer (some p), .pointer (some q)] .returning w fun e u' w' => e = .returned (.tuple #[]) ∧ u' = .returning ∧ w' = w := by
  refine callsD_of_wpS Try.func30 rfl fun c₀ cs hu => ?_
  apply wpS_seq
  apply wpS_region
  simp [wpOpsS, go_sem, recoverD, hu, Try.ntmps30, Exit.thenS]
  apply wpS_seq
  apply wpS_region
  simp [wpOpsS, go_sem, Exit.thenS]
  refine wpS_cond (t := false) (by simp [Act.eval, Array.replicate]) ?_
  simp only [Bool.false_eq_true, if_false]
  refine wpS_of_wp (wp_skip ?_)
  cases c₀
  simp_all [bodyPostS, results, Try.results30]
theorem op_put {P : Program} {o : Oper} {a : Act} {w w' : World} {K : Act → World → Prop} {Q : Exit → Act → World → Prop} (h : (execOp a.eval o).run P w = .ok .skip w') (hk : K (a.put none undef) w') (hd : o.dst = none) : o.wp P a w K Q := by
  unfold Oper.wp
  rw [h]
  rw [← hd] at hk
  exact hk
theorem assert_errno (v : Value) (w : World) : (Instr.typeAssert (.iface 30 v) 20 30 false).run Try.prog w = .ok v w := by
  have h : Try.prog.underlying 30 = _ := Try.underlying30
  simp [Instr.typeAssert, run_underlying h]
theorem Blk.four {w : World} {b : Nat} {t : TypeId} {x0 x1 x2 x3 : Value} (h : Blk w b t #[x0, x1, x2, x3]) (a0 a1 a2 a3 : Value) : Blk ((((w.setCell ⟨b, 0, none⟩ a0).setCell ⟨b, 1, none⟩ a1).setCell ⟨b, 2, none⟩ a2).setCell ⟨b, 3, none⟩ a3) b t #[a0, a1, a2, a3] := by
  simpa using (((h.set_ 0 a0).set_ 1 a1).set_ 2 a2).set_ 3 a3
def Z4u : Array Value := #[.string ⟨#[]⟩, .slice none 0 0, .slice none 0 0, .slice none 0 0]
/-- Where the catching function stands, once it has taken up what was given up with. -/
def CatchP (b2 b3 : Nat) (w : World) (e : Ending) (u' : FrameMode) (w' : World) : Prop :=
  e = .returned (.tuple #[]) ∧ u' = .panicking [{ v := .iface 30 (.int .i64 4), recovered := true }] ∧
        Blk w' b2 26 Z4u ∧ Blk w' b3 30 #[.int .i64 4] ∧ ∀ B, B ≤ b2 → B ≤ b3 → B ≤ w.heap.size → Below B w w'
set_option maxRecDepth 100000 in
set_option maxHeartbeats 2000000 in
theorem catch_fault (b2 b3 : Nat) (u1 : Int) (x0 x1 x2 x3 : Value) (w : World)
    (h2 : Blk w b2 26 #[x0, x1, x2, x3]) (h3 : Blk w b3 30 #[.int .i64 u1]) :
    CallsD Try.prog 30 #[.pointer (some ⟨b2, 0, none⟩), .pointer (some ⟨b3, 0, none⟩)]
      (.panicking [{ v := .iface 30 (.int .i64 4), recovered := false }]) w (CatchP b2 b3 w) := by
  refine callsD_of_wpS Try.func30 rfl fun c₀ cs hu => ?_
  apply wpS_seq
  apply wpS_region
  simp [wpOpsS, go_sem, recoverD, hu, Try.ntmps30, Exit.thenS]
  refine wpS_of_wp ?_
  have hta := fun w => assert_errno (.int .i64 4) w
  change Code.wp _ _ _ { tmps := #[.pointer (some ⟨b2, 0, none⟩), .pointer (some ⟨b3, 0, none⟩), .iface 30 (.int .i64 4), .iface 30 (.int .i64 4), undef, undef, undef, undef, undef], defers := [] } _
  go_wp2
  refine wp_region_held_drew (S := fun W => Blk W b2 26 #[x0, x1, x2, x3] ∨ Blk W b2 26 Z4u) (by kernel_rfl) (.inl h2.drew) (fun hS0 => ?_)
  refine wpAnyH_take (i := 0) (v := .agg Z4u) rfl (by kernel_rfl) (by kernel_rfl) (by kernel_rfl) (fun _ _ _ h => h) (Or.inl ⟨rfl, fun w' hS => by (unfold execOp; go_simp; try rfl)⟩) hS0 ?_
  simp only [Act.put, List.getElem_toArray, List.getElem_cons_zero, List.getElem_cons_succ, List.setIfInBounds_toArray, List.set_cons_zero, List.set_cons_succ]
  refine wpAnyH_take (i := 1) (v := .iface 30 (.int .i64 4)) rfl (by kernel_rfl) (by kernel_rfl) (by kernel_rfl) (fun _ _ _ h => h) (Or.inl ⟨rfl, fun w' hS => by (unfold execOp; go_simp)⟩) hS0 ?_
  simp only [Act.put, List.getElem_toArray, List.getElem_cons_zero, List.getElem_cons_succ, List.setIfInBounds_toArray, List.set_cons_zero, List.set_cons_succ]
  refine wpAnyH_take (i := 2) (v := .int .i64 4) rfl (by kernel_rfl) (by kernel_rfl) (by kernel_rfl) (fun _ _ _ h => h) (Or.inl ⟨rfl, fun w' hS => by (unfold execOp; go_simp)⟩) hS0 ?_
  simp only [Act.put, List.getElem_toArray, List.getElem_cons_zero, List.getElem_cons_succ, List.setIfInBounds_toArray, List.set_cons_zero, List.set_cons_succ]
  have q0 : w.drew.cell? ⟨b2, 0, none⟩ = some x0 := h2.drew.cell 0
  have q1 : w.drew.cell? ⟨b2, 1, none⟩ = some x1 := h2.drew.cell 1
  have q2 : w.drew.cell? ⟨b2, 2, none⟩ = some x2 := h2.drew.cell 2
  have q3 : w.drew.cell? ⟨b2, 3, none⟩ = some x3 := h2.drew.cell 3
  have qf : ∀ j, w.drew.frozen? ⟨b2, j, none⟩ = false := fun j => h2.drew.frozen j
  have h2' : Blk w.drew b2 26 #[x0, x1, x2, x3] := h2.drew
  have h3' : Blk w.drew b3 30 #[.int .i64 u1] := h3.drew
  have hWB : ∀ B, B ≤ w.heap.size → Below B w w.drew := fun B hB => (Below.refl _ w).drew
  generalize w.drew = W at *
  have n23 : b2 ≠ b3 := h2.ne_ h3 (by decide)
  refine wpAnyH_one (i := 3) (by kernel_rfl) rfl rfl (op_put (w' := (((W.setCell ⟨b2, 0, none⟩ (.string ⟨#[]⟩)).setCell ⟨b2, 1, none⟩ (.slice none 0 0)).setCell ⟨b2, 2, none⟩ (.slice none 0 0)).setCell ⟨b2, 3, none⟩ (.slice none 0 0)) (by unfold execOp; unfold Z4u; go_simp) (And.intro (.inr ?_) ?_) rfl)
  · exact h2'.four _ _ _ _
  have k2 : Blk ((((W.setCell ⟨b2, 0, none⟩ (.string ⟨#[]⟩)).setCell ⟨b2, 1, none⟩ (.slice none 0 0)).setCell ⟨b2, 2, none⟩ (.slice none 0 0)).setCell ⟨b2, 3, none⟩ (.slice none 0 0)) b2 26 Z4u := h2'.four _ _ _ _
  have k3 := Blk.far (Blk.far (Blk.far (Blk.far h3' (p := ⟨b2, 0, none⟩) n23.symm (.string ⟨#[]⟩)) (p := ⟨b2, 1, none⟩) n23.symm (.slice none 0 0)) (p := ⟨b2, 2, none⟩) n23.symm (.slice none 0 0)) (p := ⟨b2, 3, none⟩) n23.symm (.slice none 0 0)
  have kB : ∀ B, B ≤ b2 → B ≤ w.heap.size → Below B w ((((W.setCell ⟨b2, 0, none⟩ (.string ⟨#[]⟩)).setCell ⟨b2, 1, none⟩ (.slice none 0 0)).setCell ⟨b2, 2, none⟩ (.slice none 0 0)).setCell ⟨b2, 3, none⟩ (.slice none 0 0)) := fun B hb hw => (((((hWB B hw).setCell hb _).setCell hb _).setCell hb _).setCell hb _)
  generalize ((((W.setCell ⟨b2, 0, none⟩ (.string ⟨#[]⟩)).setCell ⟨b2, 1, none⟩ (.slice none 0 0)).setCell ⟨b2, 2, none⟩ (.slice none 0 0)).setCell ⟨b2, 3, none⟩ (.slice none 0 0)) = W5 at *
  simp only [Act.put, List.getElem_toArray, List.getElem_cons_zero, List.getElem_cons_succ, List.setIfInBounds_toArray, List.set_cons_zero, List.set_cons_succ]
  have r3 := k3.cell 0
  have f3 := k3.frozen 0
  refine wpAnyH_one (i := 4) (by kernel_rfl) rfl rfl (op_put (w' := W5.setCell ⟨b3, 0, none⟩ (.int .i64 4)) (by unfold execOp; go_simp) (And.intro (.inr (Blk.far k2 n23 _)) ?_) rfl)
  simp only [Act.put, List.getElem_toArray, List.getElem_cons_zero, List.getElem_cons_succ, List.setIfInBounds_toArray, List.set_cons_zero, List.set_cons_succ]
  refine wpAnyH_done (by kernel_rfl) ?_ _
  refine ⟨rfl, _, rfl, .tuple #[], results_none Try.results30 _ _ _, rfl, rfl, ?_, ?_, fun B hb2 hb3 hw => (kB B hb2 hw).setCell hb3 _⟩
  · exact Blk.far k2 n23 _
  · exact k3.set_ 0 (.int .i64 4)
set_option maxRecDepth 100000 in
set_option maxHeartbeats 2000000 in
/-- The two results, read. -/
theorem res_dec (tmps : Array Value) (w : World) (b2 b3 : Nat) (x0 x1 x2 x3 v3 : Value) (t2 : tmps.getD 2 undef = .pointer (some ⟨b2, 0, none⟩)) (t3 : tmps.getD 3 undef = .pointer (some ⟨b3, 0, none⟩))
    (h2 : Blk w b2 26 #[x0, x1, x2, x3]) (h3 : Blk w b3 30 #[v3]) :
    (results Try.f18 tmps).run Try.prog w = .ok (.tuple #[.agg #[x0, x1, x2, x3], v3]) w := by
  have q0 := h2.cell 0
  have q1 := h2.cell 1
  have q2 := h2.cell 2
  have q3 := h2.cell 3
  have q7 := h3.cell 0
  rw [Array.getD_eq_getD_getElem?] at t2 t3
  simp [results, Try.results18, t2, t3, go_sem, q0, q1, q2, q3, q7]
/-- The body gives up: the catching function tells it. -/
theorem leave_gave {R : Ending → World → Prop} (tmps : Array Value) (b2 b3 : Nat) (u1 : Int) (x0 x1 x2 x3 : Value) (w : World) (B : Nat) (t2 : tmps.getD 2 undef = .pointer (some ⟨b2, 0, none⟩)) (t3 : tmps.getD 3 undef = .pointer (some ⟨b3, 0, none⟩))
    (h2 : Blk w b2 26 #[x0, x1, x2, x3]) (h3 : Blk w b3 30 #[.int .i64 u1]) (e2 : B ≤ b2) (e3 : B ≤ b3)
    (hR : ∀ w', Below B w w' → R (.returned (.tuple #[.agg Z4u, .int .i64 4])) w') :
    Leaves Try.prog Try.f18 tmps R [{ target := .fn (Fn.func 30) #[.pointer (some ⟨b2, 0, none⟩), .pointer (some ⟨b3, 0, none⟩)], args := #[] }] (.panicking [{ v := .iface 30 (.int .i64 4), recovered := false }]) w := by
  refine leaves_cons (f := 30) (args := #[.pointer (some ⟨b2, 0, none⟩), .pointer (some ⟨b3, 0, none⟩)]) (by simp) (by simp [go_sem]) ?_
  refine (catch_fault b2 b3 u1 x0 x1 x2 x3 w h2 h3).mono ?_
  rintro e u' w' ⟨rfl, rfl, k2, k3, hb⟩
  refine ⟨_, ?_, hR w' (hb B e2 e3 (Nat.le_trans e2 (Nat.le_of_lt h2.lt)))⟩
  exact res_dec tmps w' b2 b3 _ _ _ _ _ t2 t3 k2 k3
/-- The body comes to its end. -/
theorem leave_back {R : Ending → World → Prop} (tmps : Array Value) (b2 b3 : Nat) (x0 x1 x2 x3 v3 : Value) (w : World) (t2 : tmps.getD 2 undef = .pointer (some ⟨b2, 0, none⟩)) (t3 : tmps.getD 3 undef = .pointer (some ⟨b3, 0, none⟩))
    (h2 : Blk w b2 26 #[x0, x1, x2, x3]) (h3 : Blk w b3 30 #[v3])
    (hR : R (.returned (.tuple #[.agg #[x0, x1, x2, x3], v3])) w) :
    Leaves Try.prog Try.f18 tmps R [{ target := .fn (Fn.func 30) #[.pointer (some ⟨b2, 0, none⟩), .pointer (some ⟨b3, 0, none⟩)], args := #[] }] .returning w := by
  refine leaves_cons (f := 30) (args := #[.pointer (some ⟨b2, 0, none⟩), .pointer (some ⟨b3, 0, none⟩)]) (by simp) (by simp [go_sem]) ?_
  refine (catch_idle ⟨b2, 0, none⟩ ⟨b3, 0, none⟩ w).mono ?_
  rintro e u' w' ⟨rfl, rfl, rfl⟩
  exact ⟨_, res_dec tmps w' b2 b3 _ _ _ _ _ t2 t3 h2 h3, hR⟩
end Go.Proofs.Ytcjnpaihbebboaa
