/-
  The function that takes up what the parser gives up with: walks.
-/
import Derived.Test.YtihnnbeepfgphaaGreatDoorParT
import Derived.Recover
namespace Go.Proofs.YtihnnbeepfgphaaGreatDoor
open Go.RowKit
set_option linter.unusedVariables false
set_option linter.unusedSimpArgs false

theorem catch_idle (p q r : Addr) (w : World) :
    CallsD Tryz.prog 19 #[.pointer (some p), .pointer (some q), .pointer (some r)] .returning w fun e u' w' => e = .returned (.tuple #[]) ∧ u' = .returning ∧ w' = w := by
  refine callsD_of_wpS Tryz.func19 rfl fun c₀ cs hu => ?_
  apply wpS_seq
  apply wpS_region
  simp [wpOpsS, go_sem, recoverD, hu, Tryz.ntmps19, Exit.thenS]
  apply wpS_seq
  apply wpS_region
  simp [wpOpsS, go_sem, Exit.thenS]
  refine wpS_cond (t := false) (by simp [Act.eval, Array.replicate]) ?_
  simp only [Bool.false_eq_true, if_false]
  refine wpS_of_wp (wp_skip ?_)
  cases c₀
  simp_all [bodyPostS, results, Tryz.results19]
theorem op_put {P : Program} {o : Oper} {a : Act} {w w' : World} {K : Act → World → Prop} {Q : Exit → Act → World → Prop} (h : (execOp a.eval o).run P w = .ok .skip w') (hk : K (a.put none undef) w') (hd : o.dst = none) : o.wp P a w K Q := by
  unfold Oper.wp
  rw [h]
  rw [← hd] at hk
  exact hk
theorem assert_fault (v : Value) (w : World) : (Instr.typeAssert (.iface 48 v) 20 48 false).run Tryz.prog w = .ok v w := by
  have h : Tryz.prog.underlying 48 = _ := Tryz.underlying48
  simp [Instr.typeAssert, run_underlying h]
/-- Where the catching function stands, once it has taken up the fault. -/
def CatchP (b2 b3 b4 : Nat) (at_ k : Int) (w : World) (e : Ending) (u' : FrameMode) (w' : World) : Prop :=
  e = .returned (.tuple #[]) ∧ u' = .panicking [{ v := .iface 48 (.agg #[.int .i64 at_, .int .i64 k]), recovered := true }] ∧
        Blk w' b2 28 #[.int .i64 0, .int .i64 0, .int .i64 0, .string ⟨#[]⟩, .string ⟨#[]⟩, .int .i64 0, .slice none 0 0] ∧ Blk w' b3 3 #[.int .i64 at_] ∧ Blk w' b4 29 #[.int .i64 k] ∧ ∀ B, B ≤ b2 → B ≤ b3 → B ≤ b4 → B ≤ w.heap.size → Below B w w'
set_option maxRecDepth 100000 in
set_option maxHeartbeats 2000000 in
theorem catch_fault (b2 b3 b4 : Nat) (u0 : Int) (u1 : Int) (at_ k : Int) (vs : Array Value) (w : World)
    (h2 : Blk w b2 28 vs) (hv : ∃ x0 x1 x2 x3 x4 x5 x6, vs = #[x0, x1, x2, x3, x4, x5, x6]) (h3 : Blk w b3 3 #[.int .i64 u0]) (h4 : Blk w b4 29 #[.int .i64 u1]) :
    CallsD Tryz.prog 19 #[.pointer (some ⟨b2, 0, none⟩), .pointer (some ⟨b3, 0, none⟩), .pointer (some ⟨b4, 0, none⟩)]
      (.panicking [{ v := .iface 48 (.agg #[.int .i64 at_, .int .i64 k]), recovered := false }]) w (CatchP b2 b3 b4 at_ k w) := by
  obtain ⟨x0, x1, x2, x3, x4, x5, x6, rfl⟩ := hv
  refine callsD_of_wpS Tryz.func19 rfl fun c₀ cs hu => ?_
  apply wpS_seq
  apply wpS_region
  simp [wpOpsS, go_sem, recoverD, hu, Tryz.ntmps19, Exit.thenS]
  refine wpS_of_wp ?_
  have hta := fun w => assert_fault (.agg #[.int .i64 at_, .int .i64 k]) w
  change Code.wp _ _ _ { tmps := #[.pointer (some ⟨b2, 0, none⟩), .pointer (some ⟨b3, 0, none⟩), .pointer (some ⟨b4, 0, none⟩), .iface 48 (.agg #[.int .i64 at_, .int .i64 k]), undef, .iface 48 (.agg #[.int .i64 at_, .int .i64 k]), undef, undef, undef, undef, undef, undef, undef, undef, undef], defers := [] } _
  go_wp2
  have hn := h2.lt
  refine wp_region_held_drew (S := fun W => Blk W w.heap.size 48 #[.int .i64 at_, .int .i64 k]) (by kernel_rfl) (Blk.new _ _ _).drew (fun hS0 => ?_)
  refine wpAnyH_take (i := 0) (v := .agg #[.int .i64 0, .int .i64 0, .int .i64 0, .string ⟨#[]⟩, .string ⟨#[]⟩, .int .i64 0, .slice none 0 0]) rfl (by kernel_rfl) (by kernel_rfl) (by kernel_rfl) (fun _ _ _ h => h) (Or.inl ⟨rfl, fun w' hS => by (unfold execOp; go_simp)⟩) hS0 ?_
  simp only [Act.put, List.getElem_toArray, List.getElem_cons_zero, List.getElem_cons_succ, List.setIfInBounds_toArray, List.set_cons_zero, List.set_cons_succ]
  refine wpAnyH_take (i := 1) (v := .pointer (some ⟨w.heap.size, 0, none⟩)) rfl (by kernel_rfl) (by kernel_rfl) (by kernel_rfl) (fun _ _ _ h => h) (Or.inl ⟨rfl, fun w' hS => by (unfold execOp; go_simp)⟩) hS0 ?_
  simp only [Act.put, List.getElem_toArray, List.getElem_cons_zero, List.getElem_cons_succ, List.setIfInBounds_toArray, List.set_cons_zero, List.set_cons_succ]
  refine wpAnyH_take (i := 2) (v := .int .i64 at_) rfl (by kernel_rfl) (by kernel_rfl) (by kernel_rfl) (fun _ _ _ h => h) (Or.inl ⟨rfl, fun w' hS => by ((have s0 := hS.cell 0; have sl := hS.lt); unfold execOp; go_simp)⟩) hS0 ?_
  simp only [Act.put, List.getElem_toArray, List.getElem_cons_zero, List.getElem_cons_succ, List.setIfInBounds_toArray, List.set_cons_zero, List.set_cons_succ]
  refine wpAnyH_take (i := 3) (v := .pointer (some ⟨w.heap.size, 1, none⟩)) rfl (by kernel_rfl) (by kernel_rfl) (by kernel_rfl) (fun _ _ _ h => h) (Or.inl ⟨rfl, fun w' hS => by (unfold execOp; go_simp)⟩) hS0 ?_
  simp only [Act.put, List.getElem_toArray, List.getElem_cons_zero, List.getElem_cons_succ, List.setIfInBounds_toArray, List.set_cons_zero, List.set_cons_succ]
  refine wpAnyH_take (i := 4) (v := .int .i64 k) rfl (by kernel_rfl) (by kernel_rfl) (by kernel_rfl) (fun _ _ _ h => h) (Or.inl ⟨rfl, fun w' hS => by ((have s0 := hS.cell 1; have sl := hS.lt); unfold execOp; go_simp)⟩) hS0 ?_
  simp only [Act.put, List.getElem_toArray, List.getElem_cons_zero, List.getElem_cons_succ, List.setIfInBounds_toArray, List.set_cons_zero, List.set_cons_succ]
  have c2 := fun i => h2.cell i
  have q0 : (w.alloc (.cells #[.int .i64 at_, .int .i64 k] 48)).drew.cell? ⟨b2, 0, none⟩ = some x0 := (h2.alloc _).cell 0
  have q1 : (w.alloc (.cells #[.int .i64 at_, .int .i64 k] 48)).drew.cell? ⟨b2, 1, none⟩ = some x1 := (h2.alloc _).cell 1
  have q2 : (w.alloc (.cells #[.int .i64 at_, .int .i64 k] 48)).drew.cell? ⟨b2, 2, none⟩ = some x2 := (h2.alloc _).cell 2
  have q3 : (w.alloc (.cells #[.int .i64 at_, .int .i64 k] 48)).drew.cell? ⟨b2, 3, none⟩ = some x3 := (h2.alloc _).cell 3
  have q4 : (w.alloc (.cells #[.int .i64 at_, .int .i64 k] 48)).drew.cell? ⟨b2, 4, none⟩ = some x4 := (h2.alloc _).cell 4
  have q5 : (w.alloc (.cells #[.int .i64 at_, .int .i64 k] 48)).drew.cell? ⟨b2, 5, none⟩ = some x5 := (h2.alloc _).cell 5
  have q6 : (w.alloc (.cells #[.int .i64 at_, .int .i64 k] 48)).drew.cell? ⟨b2, 6, none⟩ = some x6 := (h2.alloc _).cell 6
  have qf : ∀ j, (w.alloc (.cells #[.int .i64 at_, .int .i64 k] 48)).drew.frozen? ⟨b2, j, none⟩ = false := fun j => (h2.alloc _).frozen j
  have h2' : Blk (w.alloc (.cells #[.int .i64 at_, .int .i64 k] 48)).drew b2 28 #[x0, x1, x2, x3, x4, x5, x6] := (h2.alloc _).drew
  have h3' : Blk (w.alloc (.cells #[.int .i64 at_, .int .i64 k] 48)).drew b3 3 #[.int .i64 u0] := (h3.alloc _).drew
  have h4' : Blk (w.alloc (.cells #[.int .i64 at_, .int .i64 k] 48)).drew b4 29 #[.int .i64 u1] := (h4.alloc _).drew
  have hN : w.heap.size < (w.alloc (.cells #[.int .i64 at_, .int .i64 k] 48)).drew.heap.size := hS0.lt
  have hWB : ∀ B, B ≤ w.heap.size → Below B w (w.alloc (.cells #[.int .i64 at_, .int .i64 k] 48)).drew := fun B hB => ((Below.refl _ w).alloc hB _).drew
  generalize (w.alloc (.cells #[.int .i64 at_, .int .i64 k] 48)).drew = W at *
  have n23 : b2 ≠ b3 := h2.ne_ h3 (by decide)
  have n24 : b2 ≠ b4 := h2.ne_ h4 (by decide)
  have n34 : b3 ≠ b4 := h3.ne_ h4 (by decide)
  have n2 : w.heap.size ≠ b2 := Nat.ne_of_gt h2.lt
  have n3 : w.heap.size ≠ b3 := Nat.ne_of_gt h3.lt
  have n4 : w.heap.size ≠ b4 := Nat.ne_of_gt h4.lt
  refine wpAnyH_one (i := 5) (by kernel_rfl) rfl rfl (op_put (w' := ((((((W.setCell ⟨b2, 0, none⟩ (.int .i64 0)).setCell ⟨b2, 1, none⟩ (.int .i64 0)).setCell ⟨b2, 2, none⟩ (.int .i64 0)).setCell ⟨b2, 3, none⟩ (.string ⟨#[]⟩)).setCell ⟨b2, 4, none⟩ (.string ⟨#[]⟩)).setCell ⟨b2, 5, none⟩ (.int .i64 0)).setCell ⟨b2, 6, none⟩ (.slice none 0 0)) (by unfold execOp; go_simp) (And.intro (Blk.far (Blk.far (Blk.far (Blk.far (Blk.far (Blk.far (Blk.far hS0 n2 _) n2 _) n2 _) n2 _) n2 _) n2 _) n2 _) ?_) rfl)
  have k2 := h2'.seven (.int .i64 0) (.int .i64 0) (.int .i64 0) (.string ⟨#[]⟩) (.string ⟨#[]⟩) (.int .i64 0) (.slice none 0 0)
  have k3 := Blk.far (Blk.far (Blk.far (Blk.far (Blk.far (Blk.far (Blk.far h3' (p := ⟨b2, 0, none⟩) n23.symm (.int .i64 0)) (p := ⟨b2, 1, none⟩) n23.symm (.int .i64 0)) (p := ⟨b2, 2, none⟩) n23.symm (.int .i64 0)) (p := ⟨b2, 3, none⟩) n23.symm (.string ⟨#[]⟩)) (p := ⟨b2, 4, none⟩) n23.symm (.string ⟨#[]⟩)) (p := ⟨b2, 5, none⟩) n23.symm (.int .i64 0)) (p := ⟨b2, 6, none⟩) n23.symm (.slice none 0 0)
  have k4 := Blk.far (Blk.far (Blk.far (Blk.far (Blk.far (Blk.far (Blk.far h4' (p := ⟨b2, 0, none⟩) n24.symm (.int .i64 0)) (p := ⟨b2, 1, none⟩) n24.symm (.int .i64 0)) (p := ⟨b2, 2, none⟩) n24.symm (.int .i64 0)) (p := ⟨b2, 3, none⟩) n24.symm (.string ⟨#[]⟩)) (p := ⟨b2, 4, none⟩) n24.symm (.string ⟨#[]⟩)) (p := ⟨b2, 5, none⟩) n24.symm (.int .i64 0)) (p := ⟨b2, 6, none⟩) n24.symm (.slice none 0 0)
  have kS := Blk.far (Blk.far (Blk.far (Blk.far (Blk.far (Blk.far (Blk.far hS0 (p := ⟨b2, 0, none⟩) n2 (.int .i64 0)) (p := ⟨b2, 1, none⟩) n2 (.int .i64 0)) (p := ⟨b2, 2, none⟩) n2 (.int .i64 0)) (p := ⟨b2, 3, none⟩) n2 (.string ⟨#[]⟩)) (p := ⟨b2, 4, none⟩) n2 (.string ⟨#[]⟩)) (p := ⟨b2, 5, none⟩) n2 (.int .i64 0)) (p := ⟨b2, 6, none⟩) n2 (.slice none 0 0)
  have kB : ∀ B, B ≤ b2 → B ≤ w.heap.size → Below B w (((((((W.setCell ⟨b2, 0, none⟩ (.int .i64 0)).setCell ⟨b2, 1, none⟩ (.int .i64 0)).setCell ⟨b2, 2, none⟩ (.int .i64 0)).setCell ⟨b2, 3, none⟩ (.string ⟨#[]⟩)).setCell ⟨b2, 4, none⟩ (.string ⟨#[]⟩)).setCell ⟨b2, 5, none⟩ (.int .i64 0)).setCell ⟨b2, 6, none⟩ (.slice none 0 0)) := fun B hb hw => ((((((((hWB B hw).setCell hb _).setCell hb _).setCell hb _).setCell hb _).setCell hb _).setCell hb _).setCell hb _)
  generalize (((((((W.setCell ⟨b2, 0, none⟩ (.int .i64 0)).setCell ⟨b2, 1, none⟩ (.int .i64 0)).setCell ⟨b2, 2, none⟩ (.int .i64 0)).setCell ⟨b2, 3, none⟩ (.string ⟨#[]⟩)).setCell ⟨b2, 4, none⟩ (.string ⟨#[]⟩)).setCell ⟨b2, 5, none⟩ (.int .i64 0)).setCell ⟨b2, 6, none⟩ (.slice none 0 0)) = W5 at *
  simp only [Act.put, List.getElem_toArray, List.getElem_cons_zero, List.getElem_cons_succ, List.setIfInBounds_toArray, List.set_cons_zero, List.set_cons_succ]
  have r3 := k3.cell 0
  have f3 := k3.frozen 0
  refine wpAnyH_one (i := 6) (by kernel_rfl) rfl rfl (op_put (w' := W5.setCell ⟨b3, 0, none⟩ (.int .i64 at_)) (by unfold execOp; go_simp) (And.intro (Blk.far kS n3 _) ?_) rfl)
  simp only [Act.put, List.getElem_toArray, List.getElem_cons_zero, List.getElem_cons_succ, List.setIfInBounds_toArray, List.set_cons_zero, List.set_cons_succ]
  have k4' := Blk.far k4 (p := ⟨b3, 0, none⟩) n34.symm (.int .i64 at_)
  have r4 := k4'.cell 0
  have f4 := k4'.frozen 0
  refine wpAnyH_one (i := 7) (by kernel_rfl) rfl rfl (op_put (w' := (W5.setCell ⟨b3, 0, none⟩ (.int .i64 at_)).setCell ⟨b4, 0, none⟩ (.int .i64 k)) (by unfold execOp; go_simp) (And.intro (Blk.far (Blk.far kS n3 _) n4 _) ?_) rfl)
  simp only [Act.put, List.getElem_toArray, List.getElem_cons_zero, List.getElem_cons_succ, List.setIfInBounds_toArray, List.set_cons_zero, List.set_cons_succ]
  refine wpAnyH_done (by kernel_rfl) ?_ _
  refine ⟨rfl, _, rfl, .tuple #[], results_none Tryz.results19 _ _ _, rfl, rfl, ?_, ?_, ?_, fun B hb2 hb3 hb4 hw => ((kB B hb2 hw).setCell hb3 _).setCell hb4 _⟩
  · exact Blk.far (Blk.far k2 n23 _) n24 _
  · exact Blk.far (k3.set_ 0 (.int .i64 at_)) n34 _
  · exact k4'.set_ 0 (.int .i64 k)
set_option maxRecDepth 100000 in
set_option maxHeartbeats 2000000 in
/-- The three results, read. -/
theorem res_parse (tmps : Array Value) (w : World) (b2 b3 b4 : Nat) (x0 x1 x2 x3 x4 x5 x6 v3 v4 : Value) (t2 : tmps.getD 2 undef = .pointer (some ⟨b2, 0, none⟩)) (t3 : tmps.getD 3 undef = .pointer (some ⟨b3, 0, none⟩)) (t4 : tmps.getD 4 undef = .pointer (some ⟨b4, 0, none⟩))
    (h2 : Blk w b2 28 #[x0, x1, x2, x3, x4, x5, x6]) (h3 : Blk w b3 3 #[v3]) (h4 : Blk w b4 29 #[v4]) :
    (results Tryz.f13 tmps).run Tryz.prog w = .ok (.tuple #[.agg #[x0, x1, x2, x3, x4, x5, x6], v3, v4]) w := by
  have q0 := h2.cell 0
  have q1 := h2.cell 1
  have q2 := h2.cell 2
  have q3 := h2.cell 3
  have q4 := h2.cell 4
  have q5 := h2.cell 5
  have q6 := h2.cell 6
  have q7 := h3.cell 0
  have q8 := h4.cell 0
  rw [Array.getD_eq_getD_getElem?] at t2 t3 t4
  simp [results, Tryz.results13, t2, t3, t4, go_sem, q0, q1, q2, q3, q4, q5, q6, q7, q8]
/-- The body gives up: the catching function tells the fault. -/
theorem leave_gave {R : Ending → World → Prop} (tmps : Array Value) (b2 b3 b4 : Nat) (u0 u1 at_ k : Int) (vs : Array Value) (w : World) (B : Nat) (t2 : tmps.getD 2 undef = .pointer (some ⟨b2, 0, none⟩)) (t3 : tmps.getD 3 undef = .pointer (some ⟨b3, 0, none⟩)) (t4 : tmps.getD 4 undef = .pointer (some ⟨b4, 0, none⟩))
    (h2 : Blk w b2 28 vs) (hv : ∃ x0 x1 x2 x3 x4 x5 x6, vs = #[x0, x1, x2, x3, x4, x5, x6]) (h3 : Blk w b3 3 #[.int .i64 u0]) (h4 : Blk w b4 29 #[.int .i64 u1]) (e2 : B ≤ b2) (e3 : B ≤ b3) (e4 : B ≤ b4)
    (hR : ∀ w', Below B w w' → R (.returned (.tuple #[.agg #[.int .i64 0, .int .i64 0, .int .i64 0, .string ⟨#[]⟩, .string ⟨#[]⟩, .int .i64 0, .slice none 0 0], .int .i64 at_, .int .i64 k])) w') :
    Leaves Tryz.prog Tryz.f13 tmps R [{ target := .fn (Fn.func 19) #[.pointer (some ⟨b2, 0, none⟩), .pointer (some ⟨b3, 0, none⟩), .pointer (some ⟨b4, 0, none⟩)], args := #[] }] (.panicking [{ v := .iface 48 (.agg #[.int .i64 at_, .int .i64 k]), recovered := false }]) w := by
  refine leaves_cons (f := 19) (args := #[.pointer (some ⟨b2, 0, none⟩), .pointer (some ⟨b3, 0, none⟩), .pointer (some ⟨b4, 0, none⟩)]) (by simp) (by simp [go_sem]) ?_
  refine (catch_fault b2 b3 b4 u0 u1 at_ k vs w h2 hv h3 h4).mono ?_
  rintro e u' w' ⟨rfl, rfl, k2, k3, k4, hb⟩
  refine ⟨_, ?_, hR w' (hb B e2 e3 e4 (Nat.le_trans e2 (Nat.le_of_lt h2.lt)))⟩
  exact res_parse tmps w' b2 b3 b4 _ _ _ _ _ _ _ _ _ t2 t3 t4 k2 k3 k4
/-- The body comes to its end. -/
theorem leave_back {R : Ending → World → Prop} (tmps : Array Value) (b2 b3 b4 : Nat) (x0 x1 x2 x3 x4 x5 x6 v3 v4 : Value) (w : World) (t2 : tmps.getD 2 undef = .pointer (some ⟨b2, 0, none⟩)) (t3 : tmps.getD 3 undef = .pointer (some ⟨b3, 0, none⟩)) (t4 : tmps.getD 4 undef = .pointer (some ⟨b4, 0, none⟩))
    (h2 : Blk w b2 28 #[x0, x1, x2, x3, x4, x5, x6]) (h3 : Blk w b3 3 #[v3]) (h4 : Blk w b4 29 #[v4])
    (hR : R (.returned (.tuple #[.agg #[x0, x1, x2, x3, x4, x5, x6], v3, v4])) w) :
    Leaves Tryz.prog Tryz.f13 tmps R [{ target := .fn (Fn.func 19) #[.pointer (some ⟨b2, 0, none⟩), .pointer (some ⟨b3, 0, none⟩), .pointer (some ⟨b4, 0, none⟩)], args := #[] }] .returning w := by
  refine leaves_cons (f := 19) (args := #[.pointer (some ⟨b2, 0, none⟩), .pointer (some ⟨b3, 0, none⟩), .pointer (some ⟨b4, 0, none⟩)]) (by simp) (by simp [go_sem]) ?_
  refine (catch_idle ⟨b2, 0, none⟩ ⟨b3, 0, none⟩ ⟨b4, 0, none⟩ w).mono ?_
  rintro e u' w' ⟨rfl, rfl, rfl⟩
  exact ⟨_, res_parse tmps w' b2 b3 b4 _ _ _ _ _ _ _ _ _ t2 t3 t4 h2 h3 h4, hR⟩
end Go.Proofs.YtihnnbeepfgphaaGreatDoor
