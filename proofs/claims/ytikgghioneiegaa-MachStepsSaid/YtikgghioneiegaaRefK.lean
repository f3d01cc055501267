/-
  The document's machine: what no machine is made of; a machine made, as a state; a whole run.
-/
import Derived.Test.YtikgghioneiegaaRefJ
namespace Go.Proofs.Ytikgghioneiegaa
open Go.RowKit
set_option linter.unusedVariables false
theorem i64_one (l : List Int) : ∀ u ∈ l.map (Value.int .i64), u.oneCell' = true := by
  intro u hu
  obtain ⟨x, _, rfl⟩ := List.mem_map.1 hu
  rfl
theorem rcells_one (L : RLay) (N : Nat) (s : St) (j : Nat) (A1 A2 : Option Addr) (n1 n2 c1 c2 : Nat) : (rcells L N s j (.slice A1 n1 c1) (.slice A2 n2 c2)).all (·.oneCell') = true := by simp [rcells, Value.oneCell']
theorem x_build0 (ρ : Operand → Value) (w : World) (dst : Option Tmp) (ty : TypeId) (pos : String) (after : Array Edge) :
   (execOp ρ { dst := dst, op := .build 38 #[], type := ty, pos := pos, after := after, guard := none }).run Try.prog w = .ok (.value (.agg (rC (.slice none 0 0) (.slice none 0 0) (.slice none 0 0) 0 0))) w := by
  unfold execOp rC; go_simp
set_option maxRecDepth 100000 in
set_option maxHeartbeats 1600000 in
theorem rnew_form0 (w : World) (CA DA IA : Option Addr) (N M I c0 c1 c2 : Nat) (E q : Int)  (h : N = 0) :
    Calls Try.prog 18 #[.agg #[.slice CA N c0, .slice DA M c1, .int .i64 E], .int .i64 q, .slice IA I c2] w fun e w' => e = .returned (.tuple #[.agg (rC (.slice none 0 0) (.slice none 0 0) (.slice none 0 0) 0 0), .int .i64 4]) ∧ Below w.heap.size w w' := by
  have n0 : ((N : Int) == 0) = true := by simp; omega
  go_enter Try.func18, Try.ntmps18
  go_upto_region 2 with fail
  generalize hW : World.alloc _ _ = W
  have kR : Blk W (w.heap.size + 1) 38 (rC (.slice none 0 0) (.slice none 0 0) (.slice none 0 0) 0 0) := by rw [← hW]; exact (two_new w _ _ _ _).2.1
  have kB : Below w.heap.size w W := by rw [← hW]; exact (two_new w _ _ _ _).2.2
  clear hW n0
  refine wp_region_lit ?_
  refine wpList_plain rfl fun _ hK => op_val (x_build0 _ _ _ _ _ _) (hK _ _ ?_)
  refine wpList_store_row rfl _ _ _ rfl (w.heap.size + 1) (rC (.slice none 0 0) (.slice none 0 0) (.slice none 0 0) 0 0) rfl rfl _ _ kR (by kernel_rfl) rfl (rC_one _ _ _ _ _ _ _ _ _ _ _) ?_
  have zR := setRow_heap W (w.heap.size + 1) _ (rC (.slice none 0 0) (.slice none 0 0) (.slice none 0 0) 0 0) _ _ kR
  have zB : Below w.heap.size w (W.setRow (w.heap.size + 1) (rC (.slice none 0 0) (.slice none 0 0) (.slice none 0 0) 0 0)) := below_setRow kB (by omega) _
  generalize hZ : World.setRow _ _ _ = Z at *
  have HR := Lib.hid zR
  clear hZ zR kR kB
  go_wp2
  exact bodyPost_ret (rnew_res _ _ _ _ 4 rfl rfl HR.out (by kernel_rfl)) rfl ⟨rfl, zB⟩
set_option maxRecDepth 100000 in
set_option maxHeartbeats 1600000 in
theorem rnew_form1 (w : World) (CA DA IA : Option Addr) (N M I c0 c1 c2 : Nat) (E q : Int) (g0 : 0 < N) (h : 65536 < N) :
    Calls Try.prog 18 #[.agg #[.slice CA N c0, .slice DA M c1, .int .i64 E], .int .i64 q, .slice IA I c2] w fun e w' => e = .returned (.tuple #[.agg (rC (.slice none 0 0) (.slice none 0 0) (.slice none 0 0) 0 0), .int .i64 4]) ∧ Below w.heap.size w w' := by
  have n0 : ((N : Int) == 0) = false := by simp; omega
  have n1 : decide ((65536 : Int) < (N : Int)) = true := by simp; omega
  go_enter Try.func18, Try.ntmps18
  go_upto_region 2 with fail
  generalize hW : World.alloc _ _ = W
  have kR : Blk W (w.heap.size + 1) 38 (rC (.slice none 0 0) (.slice none 0 0) (.slice none 0 0) 0 0) := by rw [← hW]; exact (two_new w _ _ _ _).2.1
  have kB : Below w.heap.size w W := by rw [← hW]; exact (two_new w _ _ _ _).2.2
  clear hW n0 n1
  refine wp_region_lit ?_
  refine wpList_plain rfl fun _ hK => op_val (x_build0 _ _ _ _ _ _) (hK _ _ ?_)
  refine wpList_store_row rfl _ _ _ rfl (w.heap.size + 1) (rC (.slice none 0 0) (.slice none 0 0) (.slice none 0 0) 0 0) rfl rfl _ _ kR (by kernel_rfl) rfl (rC_one _ _ _ _ _ _ _ _ _ _ _) ?_
  have zR := setRow_heap W (w.heap.size + 1) _ (rC (.slice none 0 0) (.slice none 0 0) (.slice none 0 0) 0 0) _ _ kR
  have zB : Below w.heap.size w (W.setRow (w.heap.size + 1) (rC (.slice none 0 0) (.slice none 0 0) (.slice none 0 0) 0 0)) := below_setRow kB (by omega) _
  generalize hZ : World.setRow _ _ _ = Z at *
  have HR := Lib.hid zR
  clear hZ zR kR kB
  go_wp2
  exact bodyPost_ret (rnew_res _ _ _ _ 4 rfl rfl HR.out (by kernel_rfl)) rfl ⟨rfl, zB⟩
set_option maxRecDepth 100000 in
set_option maxHeartbeats 1600000 in
theorem rnew_form2 (w : World) (CA DA IA : Option Addr) (N M I c0 c1 c2 : Nat) (E q : Int) (g0 : 0 < N) (g1 : N ≤ 65536) (h : 16384 < M) :
    Calls Try.prog 18 #[.agg #[.slice CA N c0, .slice DA M c1, .int .i64 E], .int .i64 q, .slice IA I c2] w fun e w' => e = .returned (.tuple #[.agg (rC (.slice none 0 0) (.slice none 0 0) (.slice none 0 0) 0 0), .int .i64 4]) ∧ Below w.heap.size w w' := by
  have n0 : ((N : Int) == 0) = false := by simp; omega
  have n1 : decide ((65536 : Int) < (N : Int)) = false := by simp; omega
  have n2 : decide ((16384 : Int) < (M : Int)) = true := by simp; omega
  go_enter Try.func18, Try.ntmps18
  go_upto_region 2 with fail
  generalize hW : World.alloc _ _ = W
  have kR : Blk W (w.heap.size + 1) 38 (rC (.slice none 0 0) (.slice none 0 0) (.slice none 0 0) 0 0) := by rw [← hW]; exact (two_new w _ _ _ _).2.1
  have kB : Below w.heap.size w W := by rw [← hW]; exact (two_new w _ _ _ _).2.2
  clear hW n0 n1 n2
  refine wp_region_lit ?_
  refine wpList_plain rfl fun _ hK => op_val (x_build0 _ _ _ _ _ _) (hK _ _ ?_)
  refine wpList_store_row rfl _ _ _ rfl (w.heap.size + 1) (rC (.slice none 0 0) (.slice none 0 0) (.slice none 0 0) 0 0) rfl rfl _ _ kR (by kernel_rfl) rfl (rC_one _ _ _ _ _ _ _ _ _ _ _) ?_
  have zR := setRow_heap W (w.heap.size + 1) _ (rC (.slice none 0 0) (.slice none 0 0) (.slice none 0 0) 0 0) _ _ kR
  have zB : Below w.heap.size w (W.setRow (w.heap.size + 1) (rC (.slice none 0 0) (.slice none 0 0) (.slice none 0 0) 0 0)) := below_setRow kB (by omega) _
  generalize hZ : World.setRow _ _ _ = Z at *
  have HR := Lib.hid zR
  clear hZ zR kR kB
  go_wp2
  exact bodyPost_ret (rnew_res _ _ _ _ 4 rfl rfl HR.out (by kernel_rfl)) rfl ⟨rfl, zB⟩
set_option maxRecDepth 100000 in
set_option maxHeartbeats 1600000 in
theorem rnew_form3 (w : World) (CA DA IA : Option Addr) (N M I c0 c1 c2 : Nat) (E q : Int) (g0 : 0 < N) (g1 : N ≤ 65536) (g2 : M ≤ 16384) (h : E < 0) :
    Calls Try.prog 18 #[.agg #[.slice CA N c0, .slice DA M c1, .int .i64 E], .int .i64 q, .slice IA I c2] w fun e w' => e = .returned (.tuple #[.agg (rC (.slice none 0 0) (.slice none 0 0) (.slice none 0 0) 0 0), .int .i64 4]) ∧ Below w.heap.size w w' := by
  have n0 : ((N : Int) == 0) = false := by simp; omega
  have n1 : decide ((65536 : Int) < (N : Int)) = false := by simp; omega
  have n2 : decide ((16384 : Int) < (M : Int)) = false := by simp; omega
  have n3 : decide (E < 0) = true := by simp; omega
  go_enter Try.func18, Try.ntmps18
  go_upto_region 2 with fail
  generalize hW : World.alloc _ _ = W
  have kR : Blk W (w.heap.size + 1) 38 (rC (.slice none 0 0) (.slice none 0 0) (.slice none 0 0) 0 0) := by rw [← hW]; exact (two_new w _ _ _ _).2.1
  have kB : Below w.heap.size w W := by rw [← hW]; exact (two_new w _ _ _ _).2.2
  clear hW n0 n1 n2 n3
  refine wp_region_lit ?_
  refine wpList_plain rfl fun _ hK => op_val (x_build0 _ _ _ _ _ _) (hK _ _ ?_)
  refine wpList_store_row rfl _ _ _ rfl (w.heap.size + 1) (rC (.slice none 0 0) (.slice none 0 0) (.slice none 0 0) 0 0) rfl rfl _ _ kR (by kernel_rfl) rfl (rC_one _ _ _ _ _ _ _ _ _ _ _) ?_
  have zR := setRow_heap W (w.heap.size + 1) _ (rC (.slice none 0 0) (.slice none 0 0) (.slice none 0 0) 0 0) _ _ kR
  have zB : Below w.heap.size w (W.setRow (w.heap.size + 1) (rC (.slice none 0 0) (.slice none 0 0) (.slice none 0 0) 0 0)) := below_setRow kB (by omega) _
  generalize hZ : World.setRow _ _ _ = Z at *
  have HR := Lib.hid zR
  clear hZ zR kR kB
  go_wp2
  exact bodyPost_ret (rnew_res _ _ _ _ 4 rfl rfl HR.out (by kernel_rfl)) rfl ⟨rfl, zB⟩
set_option maxRecDepth 100000 in
set_option maxHeartbeats 1600000 in
theorem rnew_form4 (w : World) (CA DA IA : Option Addr) (N M I c0 c1 c2 : Nat) (E q : Int) (g0 : 0 < N) (g1 : N ≤ 65536) (g2 : M ≤ 16384) (g3 : 0 ≤ E) (h : (N : Int) ≤ E) :
    Calls Try.prog 18 #[.agg #[.slice CA N c0, .slice DA M c1, .int .i64 E], .int .i64 q, .slice IA I c2] w fun e w' => e = .returned (.tuple #[.agg (rC (.slice none 0 0) (.slice none 0 0) (.slice none 0 0) 0 0), .int .i64 4]) ∧ Below w.heap.size w w' := by
  have n0 : ((N : Int) == 0) = false := by simp; omega
  have n1 : decide ((65536 : Int) < (N : Int)) = false := by simp; omega
  have n2 : decide ((16384 : Int) < (M : Int)) = false := by simp; omega
  have n3 : decide (E < 0) = false := by simp; omega
  have n4 : decide ((N : Int) ≤ E) = true := by simp; omega
  go_enter Try.func18, Try.ntmps18
  go_upto_region 2 with fail
  generalize hW : World.alloc _ _ = W
  have kR : Blk W (w.heap.size + 1) 38 (rC (.slice none 0 0) (.slice none 0 0) (.slice none 0 0) 0 0) := by rw [← hW]; exact (two_new w _ _ _ _).2.1
  have kB : Below w.heap.size w W := by rw [← hW]; exact (two_new w _ _ _ _).2.2
  clear hW n0 n1 n2 n3 n4
  refine wp_region_lit ?_
  refine wpList_plain rfl fun _ hK => op_val (x_build0 _ _ _ _ _ _) (hK _ _ ?_)
  refine wpList_store_row rfl _ _ _ rfl (w.heap.size + 1) (rC (.slice none 0 0) (.slice none 0 0) (.slice none 0 0) 0 0) rfl rfl _ _ kR (by kernel_rfl) rfl (rC_one _ _ _ _ _ _ _ _ _ _ _) ?_
  have zR := setRow_heap W (w.heap.size + 1) _ (rC (.slice none 0 0) (.slice none 0 0) (.slice none 0 0) 0 0) _ _ kR
  have zB : Below w.heap.size w (W.setRow (w.heap.size + 1) (rC (.slice none 0 0) (.slice none 0 0) (.slice none 0 0) 0 0)) := below_setRow kB (by omega) _
  generalize hZ : World.setRow _ _ _ = Z at *
  have HR := Lib.hid zR
  clear hZ zR kR kB
  go_wp2
  exact bodyPost_ret (rnew_res _ _ _ _ 4 rfl rfl HR.out (by kernel_rfl)) rfl ⟨rfl, zB⟩
set_option maxRecDepth 100000 in
set_option maxHeartbeats 1600000 in
theorem rnew_arg0 (w : World) (CA DA IA : Option Addr) (N M I c0 c1 c2 : Nat) (E q : Int) (g0 : 0 < N) (g1 : N ≤ 65536) (g2 : M ≤ 16384) (g3 : 0 ≤ E) (g4 : E < (N : Int)) (h : q < (M : Int)) :
    Calls Try.prog 18 #[.agg #[.slice CA N c0, .slice DA M c1, .int .i64 E], .int .i64 q, .slice IA I c2] w fun e w' => e = .returned (.tuple #[.agg (rC (.slice none 0 0) (.slice none 0 0) (.slice none 0 0) 0 0), .int .i64 1]) ∧ Below w.heap.size w w' := by
  have n0 : ((N : Int) == 0) = false := by simp; omega
  have n1 : decide ((65536 : Int) < (N : Int)) = false := by simp; omega
  have n2 : decide ((16384 : Int) < (M : Int)) = false := by simp; omega
  have n3 : decide (E < 0) = false := by simp; omega
  have n4 : decide ((N : Int) ≤ E) = false := by simp; omega
  have m0 : decide (q < (M : Int)) = true := by simp; omega
  go_enter Try.func18, Try.ntmps18
  go_upto_region 4 with fail
  generalize hW : World.alloc _ _ = W
  have kR : Blk W (w.heap.size + 1) 38 (rC (.slice none 0 0) (.slice none 0 0) (.slice none 0 0) 0 0) := by rw [← hW]; exact (two_new w _ _ _ _).2.1
  have kB : Below w.heap.size w W := by rw [← hW]; exact (two_new w _ _ _ _).2.2
  clear hW n0 n1 n2 n3 n4 m0
  refine wp_region_lit ?_
  refine wpList_plain rfl fun _ hK => op_val (x_build0 _ _ _ _ _ _) (hK _ _ ?_)
  refine wpList_store_row rfl _ _ _ rfl (w.heap.size + 1) (rC (.slice none 0 0) (.slice none 0 0) (.slice none 0 0) 0 0) rfl rfl _ _ kR (by kernel_rfl) rfl (rC_one _ _ _ _ _ _ _ _ _ _ _) ?_
  have zR := setRow_heap W (w.heap.size + 1) _ (rC (.slice none 0 0) (.slice none 0 0) (.slice none 0 0) 0 0) _ _ kR
  have zB : Below w.heap.size w (W.setRow (w.heap.size + 1) (rC (.slice none 0 0) (.slice none 0 0) (.slice none 0 0) 0 0)) := below_setRow kB (by omega) _
  generalize hZ : World.setRow _ _ _ = Z at *
  have HR := Lib.hid zR
  clear hZ zR kR kB
  go_wp2
  exact bodyPost_ret (rnew_res _ _ _ _ 1 rfl rfl HR.out (by kernel_rfl)) rfl ⟨rfl, zB⟩
set_option maxRecDepth 100000 in
set_option maxHeartbeats 1600000 in
theorem rnew_arg1 (w : World) (CA DA IA : Option Addr) (N M I c0 c1 c2 : Nat) (E q : Int) (g0 : 0 < N) (g1 : N ≤ 65536) (g2 : M ≤ 16384) (g3 : 0 ≤ E) (g4 : E < (N : Int)) (p0 : (M : Int) ≤ q) (h : 262144 < q) :
    Calls Try.prog 18 #[.agg #[.slice CA N c0, .slice DA M c1, .int .i64 E], .int .i64 q, .slice IA I c2] w fun e w' => e = .returned (.tuple #[.agg (rC (.slice none 0 0) (.slice none 0 0) (.slice none 0 0) 0 0), .int .i64 1]) ∧ Below w.heap.size w w' := by
  have n0 : ((N : Int) == 0) = false := by simp; omega
  have n1 : decide ((65536 : Int) < (N : Int)) = false := by simp; omega
  have n2 : decide ((16384 : Int) < (M : Int)) = false := by simp; omega
  have n3 : decide (E < 0) = false := by simp; omega
  have n4 : decide ((N : Int) ≤ E) = false := by simp; omega
  have m0 : decide (q < (M : Int)) = false := by simp; omega
  have m1 : decide ((262144 : Int) < q) = true := by simp; omega
  go_enter Try.func18, Try.ntmps18
  go_upto_region 4 with fail
  generalize hW : World.alloc _ _ = W
  have kR : Blk W (w.heap.size + 1) 38 (rC (.slice none 0 0) (.slice none 0 0) (.slice none 0 0) 0 0) := by rw [← hW]; exact (two_new w _ _ _ _).2.1
  have kB : Below w.heap.size w W := by rw [← hW]; exact (two_new w _ _ _ _).2.2
  clear hW n0 n1 n2 n3 n4 m0 m1
  refine wp_region_lit ?_
  refine wpList_plain rfl fun _ hK => op_val (x_build0 _ _ _ _ _ _) (hK _ _ ?_)
  refine wpList_store_row rfl _ _ _ rfl (w.heap.size + 1) (rC (.slice none 0 0) (.slice none 0 0) (.slice none 0 0) 0 0) rfl rfl _ _ kR (by kernel_rfl) rfl (rC_one _ _ _ _ _ _ _ _ _ _ _) ?_
  have zR := setRow_heap W (w.heap.size + 1) _ (rC (.slice none 0 0) (.slice none 0 0) (.slice none 0 0) 0 0) _ _ kR
  have zB : Below w.heap.size w (W.setRow (w.heap.size + 1) (rC (.slice none 0 0) (.slice none 0 0) (.slice none 0 0) 0 0)) := below_setRow kB (by omega) _
  generalize hZ : World.setRow _ _ _ = Z at *
  have HR := Lib.hid zR
  clear hZ zR kR kB
  go_wp2
  exact bodyPost_ret (rnew_res _ _ _ _ 1 rfl rfl HR.out (by kernel_rfl)) rfl ⟨rfl, zB⟩
set_option maxRecDepth 100000 in
set_option maxHeartbeats 1600000 in
theorem rnew_arg2 (w : World) (CA DA IA : Option Addr) (N M I c0 c1 c2 : Nat) (E q : Int) (g0 : 0 < N) (g1 : N ≤ 65536) (g2 : M ≤ 16384) (g3 : 0 ≤ E) (g4 : E < (N : Int)) (p0 : (M : Int) ≤ q) (p1 : q ≤ 262144) (h : 4096 < I) :
    Calls Try.prog 18 #[.agg #[.slice CA N c0, .slice DA M c1, .int .i64 E], .int .i64 q, .slice IA I c2] w fun e w' => e = .returned (.tuple #[.agg (rC (.slice none 0 0) (.slice none 0 0) (.slice none 0 0) 0 0), .int .i64 1]) ∧ Below w.heap.size w w' := by
  have n0 : ((N : Int) == 0) = false := by simp; omega
  have n1 : decide ((65536 : Int) < (N : Int)) = false := by simp; omega
  have n2 : decide ((16384 : Int) < (M : Int)) = false := by simp; omega
  have n3 : decide (E < 0) = false := by simp; omega
  have n4 : decide ((N : Int) ≤ E) = false := by simp; omega
  have m0 : decide (q < (M : Int)) = false := by simp; omega
  have m1 : decide ((262144 : Int) < q) = false := by simp; omega
  have m2 : decide ((4096 : Int) < (I : Int)) = true := by simp; omega
  go_enter Try.func18, Try.ntmps18
  go_upto_region 4 with fail
  generalize hW : World.alloc _ _ = W
  have kR : Blk W (w.heap.size + 1) 38 (rC (.slice none 0 0) (.slice none 0 0) (.slice none 0 0) 0 0) := by rw [← hW]; exact (two_new w _ _ _ _).2.1
  have kB : Below w.heap.size w W := by rw [← hW]; exact (two_new w _ _ _ _).2.2
  clear hW n0 n1 n2 n3 n4 m0 m1 m2
  refine wp_region_lit ?_
  refine wpList_plain rfl fun _ hK => op_val (x_build0 _ _ _ _ _ _) (hK _ _ ?_)
  refine wpList_store_row rfl _ _ _ rfl (w.heap.size + 1) (rC (.slice none 0 0) (.slice none 0 0) (.slice none 0 0) 0 0) rfl rfl _ _ kR (by kernel_rfl) rfl (rC_one _ _ _ _ _ _ _ _ _ _ _) ?_
  have zR := setRow_heap W (w.heap.size + 1) _ (rC (.slice none 0 0) (.slice none 0 0) (.slice none 0 0) 0 0) _ _ kR
  have zB : Below w.heap.size w (W.setRow (w.heap.size + 1) (rC (.slice none 0 0) (.slice none 0 0) (.slice none 0 0) 0 0)) := below_setRow kB (by omega) _
  generalize hZ : World.setRow _ _ _ = Z at *
  have HR := Lib.hid zR
  clear hZ zR kR kB
  go_wp2
  exact bodyPost_ret (rnew_res _ _ _ _ 1 rfl rfl HR.out (by kernel_rfl)) rfl ⟨rfl, zB⟩
theorem rnew_form (w : World) (CA DA IA : Option Addr) (c0 c1 c2 : Nat) (E q : Int) (cd dd bs : List Int) (hn : ¬ okF cd dd E) :
    Calls Try.prog 18 #[.agg #[.slice CA cd.length c0, .slice DA dd.length c1, .int .i64 E], .int .i64 q, .slice IA bs.length c2] w fun e w' => e = .returned (.tuple #[.agg (rC (.slice none 0 0) (.slice none 0 0) (.slice none 0 0) 0 0), .int .i64 4]) ∧ Below w.heap.size w w' := by
  by_cases h0 : cd.length = 0
  · exact rnew_form0 w CA DA IA _ _ _ c0 c1 c2 E q h0
  · by_cases h1 : 65536 < cd.length
    · exact rnew_form1 w CA DA IA _ _ _ c0 c1 c2 E q (by omega) h1
    · by_cases h2 : 16384 < dd.length
      · exact rnew_form2 w CA DA IA _ _ _ c0 c1 c2 E q (by omega) (by omega) h2
      · by_cases h3 : E < 0
        · exact rnew_form3 w CA DA IA _ _ _ c0 c1 c2 E q (by omega) (by omega) (by omega) h3
        · by_cases h4 : (cd.length : Int) ≤ E
          · exact rnew_form4 w CA DA IA _ _ _ c0 c1 c2 E q (by omega) (by omega) (by omega) (by omega) h4
          · exact absurd ⟨by omega, by omega, by omega, by omega, by omega⟩ hn
theorem rnew_arg (w : World) (CA DA IA : Option Addr) (c0 c1 c2 : Nat) (E q : Int) (cd dd bs : List Int) (hf : okF cd dd E) (hn : ¬ okA dd bs q) :
    Calls Try.prog 18 #[.agg #[.slice CA cd.length c0, .slice DA dd.length c1, .int .i64 E], .int .i64 q, .slice IA bs.length c2] w fun e w' => e = .returned (.tuple #[.agg (rC (.slice none 0 0) (.slice none 0 0) (.slice none 0 0) 0 0), .int .i64 1]) ∧ Below w.heap.size w w' := by
  obtain ⟨f1, f2, f3, f4, f5⟩ := hf
  by_cases h0 : q < (dd.length : Int)
  · exact rnew_arg0 w CA DA IA _ _ _ c0 c1 c2 E q f1 f2 f3 f4 f5 h0
  · by_cases h1 : 262144 < q
    · exact rnew_arg1 w CA DA IA _ _ _ c0 c1 c2 E q f1 f2 f3 f4 f5 (by omega) h1
    · by_cases h2 : 4096 < bs.length
      · exact rnew_arg2 w CA DA IA _ _ _ c0 c1 c2 E q f1 f2 f3 f4 f5 (by omega) (by omega) h2
      · exact absurd ⟨by omega, by omega, by omega⟩ hn
section
variable {w : World} {B : Nat} {CA DA IA : Option Addr} {cd dd bs : List Int}
/-- A machine made, handed out by value: laid into a block it is the new state. -/
theorem rnew_rep (h : In3 w B CA DA IA cd dd bs) (c0 c1 c2 : Nat) (E : Int) (m : Nat) (hf : okF cd dd E) (ha : okA dd bs (m : Int)) :
    Calls Try.prog 18 #[.agg #[.slice CA cd.length c0, .slice DA dd.length c1, .int .i64 E], .int .i64 (m : Int), .slice IA bs.length c2] w fun e w' => ∃ cb cc mb m2 iA ic, e = .returned (.tuple #[.agg (rcells ⟨0, cb, cc, mb, m2⟩ cd.length (st0 dd bs E m) 0 (.slice iA bs.length ic) (.slice none 0 0)), .int .i64 0]) ∧ Below w.heap.size w w' ∧
      (∀ k, (Value.slice iA bs.length ic).ownBlock = some k → w.heap.size ≤ k ∧ k < w'.heap.size) ∧ (w.heap.size ≤ mb ∧ w.heap.size ≤ cb) ∧
      ∀ (w2 : World) (g B0 : Nat), (∀ t cs, Blk w' g t cs → t = 38) → (∀ k, k ≠ g → k < w'.heap.size → w2.heap[k]? = w'.heap[k]?) → Blk w2 g 38 (rcells ⟨0, cb, cc, mb, m2⟩ cd.length (st0 dd bs E m) 0 (.slice iA bs.length ic) (.slice none 0 0)) → B0 ≤ g → B0 ≤ w.heap.size →
        RepR w2 B0 ⟨g, cb, cc, mb, m2⟩ cd bs (st0 dd bs E m) 0 (.slice iA bs.length ic) (.slice none 0 0) := by
  obtain ⟨f1, f2, f3, f4, f5⟩ := hf
  obtain ⟨a1, a2, a3⟩ := ha
  refine (rnew_ok w CA DA IA B cd.length dd.length bs.length m c0 c1 c2 E _ _ _ h.code h.data h.inn h.size (u8_one _) (i64_one _) (fun u hu => by obtain ⟨x, _, rfl⟩ := List.mem_map.1 hu; exact ⟨x, rfl⟩) f1 f2 f3 f4 f5 (by omega) (by omega) a3).mono ?_
  rintro e w' ⟨A, c, mb, A2, ic, rfl, hC, ⟨ms, hM, hms⟩, lm, am, hI, hB⟩
  have hml : (st0 dd bs E m).mem.length = m := by simp [st0]; omega
  obtain ⟨g0, cap, hv, hg0, hlt⟩ := hC.form f1
  have hA : A = some ⟨g0, 0, none⟩ := by injection hv
  subst hA
  have hcells : rcells ⟨0, g0, c, mb, m⟩ cd.length (st0 dd bs E m) 0 (.slice A2 bs.length ic) (.slice none 0 0) = rC (.slice (some ⟨g0, 0, none⟩) cd.length c) (.slice (some ⟨mb, 0, none⟩) m m) (.slice A2 bs.length ic) E m := by
    unfold rcells
    rw [hml]
    rfl
  refine ⟨g0, c, mb, m, A2, ic, by rw [hcells], hB, fun k hk => hI.lt k hk, ⟨lm, hg0⟩, ?_⟩
  intro w2 g B0 hg hk hm hBg hBw
  have hne : g0 ≠ mb := fun e => am (by rw [e]; rfl)
  obtain ⟨ccs, hcb⟩ : ∃ ccs, Blk w' g0 2 ccs ∧ ∀ (i : Nat) (v : Int), cd[i]? = some v → ccs[i]? = some (.int .i64 v) := by
    rcases hC.2 with ⟨e1, e2⟩ | ⟨b, cap, cur, e1, hb1, hb2, hb3, hb4, hb5, hb6⟩
    · omega
    · injection e1 with e3 e4 e5
      injection e3 with e3
      injection e3 with e3
      subst e3
      refine ⟨cur, hb2, fun i v hi => ?_⟩
      have hi' : (cd.map (Value.int .i64))[i]? = some (.int .i64 v) := by simp [hi]
      rw [← hb6, List.getElem?_take] at hi'
      split at hi'
      · simpa using hi'
      · cases hi'
  have n1 : g0 ≠ g := fun e => absurd (hg _ _ (e ▸ hcb.1)) (by decide)
  have n2 : mb ≠ g := fun e => absurd (hg _ _ (e ▸ hM)) (by decide)
  refine ⟨hm, ⟨ccs, (hk g0 n1 hcb.1.lt).trans hcb.1, hcb.2⟩, hne, h.words, ?_, ?_, rfl, Nat.zero_le _, World.ownsRow_nil _ _ _ _, by simp [st0], by rw [hml]; omega, f2, hBg, by show B0 ≤ mb; omega, fun _ => rfl⟩
  · have e2 : ((st0 dd bs E m).mem.map (Value.int .i64)).toArray = ms := by
      rw [← Array.toList_inj]
      rw [hms]
      simp [st0]
    rw [e2]
    exact (hk mb n2 hM.lt).trans hM
  · rcases hI.2 with ⟨e1, e2⟩ | ⟨b, cap, cur, e1, hb1, hb2, hb3, hb4, hb5, hb6⟩
    · exact ⟨A2, ic, rfl, a3, h.bytes, fun hl => absurd hl (by omega)⟩
    · injection e1 with e3 e4 e5
      subst e5
      refine ⟨A2, ic, rfl, a3, h.bytes, fun hl => ⟨b, cur, e3, ?_, by simp [Value.ownBlock], fun j x hj => ?_⟩⟩
      · have hbb : Blk w' b 5 cur := hb2
        exact (hk b (fun e => absurd (hg _ _ (e ▸ hbb)) (by decide)) hbb.lt).trans hbb
      · have hj' : (bs.map (Value.int .u8))[j]? = some (.int .u8 x) := by
          have : bs[j]? = some x := hj
          simp [this]
        rw [← hb6, List.getElem?_take] at hj'
        split at hj'
        · simpa using hj'
        · cases hj'
end
end Go.Proofs.Ytikgghioneiegaa
