/-
  A machine that may not be made: walks.
-/
import Derived.Test.YtikgghioneiegaaMachC
import Derived.Outline
namespace Go.Proofs.Ytikgghioneiegaa
open Go.RowKit
set_option linter.unusedVariables false

theorem new_form0 (w : World) (CA DA IA : Option Addr) (N M I c0 c1 c2 : Nat) (E q : Int) (h : N = 0) :
    Calls Try.prog 17 #[.agg #[.slice CA N c0, .slice DA M c1, .int .i64 E], .int .i64 q, .slice IA I c2] w fun e w' => e = .returned (.tuple #[.pointer none, .int .i64 4]) ∧ Below w.heap.size w w' := by
  have n0 : ((N : Int) == 0) = true := by simp; omega
  go_enter Try.func17, Try.ntmps17
  go_wp2
  go_ret2
  exact ⟨rfl, (Below.refl _ w).alloc (Nat.le_refl _) _⟩

theorem new_form1 (w : World) (CA DA IA : Option Addr) (N M I c0 c1 c2 : Nat) (E q : Int) (g0 : 0 < N) (h : 65536 < N) :
    Calls Try.prog 17 #[.agg #[.slice CA N c0, .slice DA M c1, .int .i64 E], .int .i64 q, .slice IA I c2] w fun e w' => e = .returned (.tuple #[.pointer none, .int .i64 4]) ∧ Below w.heap.size w w' := by
  have n0 : ((N : Int) == 0) = false := by simp; omega
  have n1 : decide ((65536 : Int) < (N : Int)) = true := by simp; omega
  go_enter Try.func17, Try.ntmps17
  go_wp2
  go_ret2
  exact ⟨rfl, (Below.refl _ w).alloc (Nat.le_refl _) _⟩

theorem new_form2 (w : World) (CA DA IA : Option Addr) (N M I c0 c1 c2 : Nat) (E q : Int) (g0 : 0 < N) (g1 : N ≤ 65536) (h : 16384 < M) :
    Calls Try.prog 17 #[.agg #[.slice CA N c0, .slice DA M c1, .int .i64 E], .int .i64 q, .slice IA I c2] w fun e w' => e = .returned (.tuple #[.pointer none, .int .i64 4]) ∧ Below w.heap.size w w' := by
  have n0 : ((N : Int) == 0) = false := by simp; omega
  have n1 : decide ((65536 : Int) < (N : Int)) = false := by simp; omega
  have n2 : decide ((16384 : Int) < (M : Int)) = true := by simp; omega
  go_enter Try.func17, Try.ntmps17
  go_wp2
  go_ret2
  exact ⟨rfl, (Below.refl _ w).alloc (Nat.le_refl _) _⟩

theorem new_form3 (w : World) (CA DA IA : Option Addr) (N M I c0 c1 c2 : Nat) (E q : Int) (g0 : 0 < N) (g1 : N ≤ 65536) (g2 : M ≤ 16384) (h : E < 0) :
    Calls Try.prog 17 #[.agg #[.slice CA N c0, .slice DA M c1, .int .i64 E], .int .i64 q, .slice IA I c2] w fun e w' => e = .returned (.tuple #[.pointer none, .int .i64 4]) ∧ Below w.heap.size w w' := by
  have n0 : ((N : Int) == 0) = false := by simp; omega
  have n1 : decide ((65536 : Int) < (N : Int)) = false := by simp; omega
  have n2 : decide ((16384 : Int) < (M : Int)) = false := by simp; omega
  have n3 : decide (E < 0) = true := by simp; omega
  go_enter Try.func17, Try.ntmps17
  go_wp2
  go_ret2
  exact ⟨rfl, (Below.refl _ w).alloc (Nat.le_refl _) _⟩

theorem new_form4 (w : World) (CA DA IA : Option Addr) (N M I c0 c1 c2 : Nat) (E q : Int) (g0 : 0 < N) (g1 : N ≤ 65536) (g2 : M ≤ 16384) (g3 : 0 ≤ E) (h : (N : Int) ≤ E) :
    Calls Try.prog 17 #[.agg #[.slice CA N c0, .slice DA M c1, .int .i64 E], .int .i64 q, .slice IA I c2] w fun e w' => e = .returned (.tuple #[.pointer none, .int .i64 4]) ∧ Below w.heap.size w w' := by
  have n0 : ((N : Int) == 0) = false := by simp; omega
  have n1 : decide ((65536 : Int) < (N : Int)) = false := by simp; omega
  have n2 : decide ((16384 : Int) < (M : Int)) = false := by simp; omega
  have n3 : decide (E < 0) = false := by simp; omega
  have n4 : decide ((N : Int) ≤ E) = true := by simp; omega
  go_enter Try.func17, Try.ntmps17
  go_wp2
  go_ret2
  exact ⟨rfl, (Below.refl _ w).alloc (Nat.le_refl _) _⟩

theorem new_arg0 (w : World) (CA DA IA : Option Addr) (N M I c0 c1 c2 : Nat) (E q : Int) (g0 : 0 < N) (g1 : N ≤ 65536) (g2 : M ≤ 16384) (g3 : 0 ≤ E) (g4 : E < (N : Int)) (h : q < (M : Int)) :
    Calls Try.prog 17 #[.agg #[.slice CA N c0, .slice DA M c1, .int .i64 E], .int .i64 q, .slice IA I c2] w fun e w' => e = .returned (.tuple #[.pointer none, .int .i64 1]) ∧ Below w.heap.size w w' := by
  have n0 : ((N : Int) == 0) = false := by simp; omega
  have n1 : decide ((65536 : Int) < (N : Int)) = false := by simp; omega
  have n2 : decide ((16384 : Int) < (M : Int)) = false := by simp; omega
  have n3 : decide (E < 0) = false := by simp; omega
  have n4 : decide ((N : Int) ≤ E) = false := by simp; omega
  have m0 : decide (q < (M : Int)) = true := by simp; omega
  go_enter Try.func17, Try.ntmps17
  go_wp2
  go_ret2
  exact ⟨rfl, (Below.refl _ w).alloc (Nat.le_refl _) _⟩

theorem new_arg1 (w : World) (CA DA IA : Option Addr) (N M I c0 c1 c2 : Nat) (E q : Int) (g0 : 0 < N) (g1 : N ≤ 65536) (g2 : M ≤ 16384) (g3 : 0 ≤ E) (g4 : E < (N : Int)) (p0 : (M : Int) ≤ q) (h : 262144 < q) :
    Calls Try.prog 17 #[.agg #[.slice CA N c0, .slice DA M c1, .int .i64 E], .int .i64 q, .slice IA I c2] w fun e w' => e = .returned (.tuple #[.pointer none, .int .i64 1]) ∧ Below w.heap.size w w' := by
  have n0 : ((N : Int) == 0) = false := by simp; omega
  have n1 : decide ((65536 : Int) < (N : Int)) = false := by simp; omega
  have n2 : decide ((16384 : Int) < (M : Int)) = false := by simp; omega
  have n3 : decide (E < 0) = false := by simp; omega
  have n4 : decide ((N : Int) ≤ E) = false := by simp; omega
  have m0 : decide (q < (M : Int)) = false := by simp; omega
  have m1 : decide ((262144 : Int) < q) = true := by simp; omega
  go_enter Try.func17, Try.ntmps17
  go_wp2
  go_ret2
  exact ⟨rfl, (Below.refl _ w).alloc (Nat.le_refl _) _⟩

theorem new_arg2 (w : World) (CA DA IA : Option Addr) (N M I c0 c1 c2 : Nat) (E q : Int) (g0 : 0 < N) (g1 : N ≤ 65536) (g2 : M ≤ 16384) (g3 : 0 ≤ E) (g4 : E < (N : Int)) (p0 : (M : Int) ≤ q) (p1 : q ≤ 262144) (h : 4096 < I) :
    Calls Try.prog 17 #[.agg #[.slice CA N c0, .slice DA M c1, .int .i64 E], .int .i64 q, .slice IA I c2] w fun e w' => e = .returned (.tuple #[.pointer none, .int .i64 1]) ∧ Below w.heap.size w w' := by
  have n0 : ((N : Int) == 0) = false := by simp; omega
  have n1 : decide ((65536 : Int) < (N : Int)) = false := by simp; omega
  have n2 : decide ((16384 : Int) < (M : Int)) = false := by simp; omega
  have n3 : decide (E < 0) = false := by simp; omega
  have n4 : decide ((N : Int) ≤ E) = false := by simp; omega
  have m0 : decide (q < (M : Int)) = false := by simp; omega
  have m1 : decide ((262144 : Int) < q) = false := by simp; omega
  have m2 : decide ((4096 : Int) < (I : Int)) = true := by simp; omega
  go_enter Try.func17, Try.ntmps17
  go_wp2
  go_ret2
  exact ⟨rfl, (Below.refl _ w).alloc (Nat.le_refl _) _⟩

theorem new_form (w : World) (CA DA IA : Option Addr) (N M I c0 c1 c2 : Nat) (E q : Int) (h : ¬ (0 < N ∧ N ≤ 65536 ∧ M ≤ 16384 ∧ 0 ≤ E ∧ E < (N : Int))) :
    Calls Try.prog 17 #[.agg #[.slice CA N c0, .slice DA M c1, .int .i64 E], .int .i64 q, .slice IA I c2] w fun e w' => e = .returned (.tuple #[.pointer none, .int .i64 4]) ∧ Below w.heap.size w w' := by
  by_cases a0 : N = 0
  · exact new_form0 w CA DA IA N M I c0 c1 c2 E q a0
  by_cases a1 : 65536 < N
  · exact new_form1 w CA DA IA N M I c0 c1 c2 E q (by omega) a1
  by_cases a2 : 16384 < M
  · exact new_form2 w CA DA IA N M I c0 c1 c2 E q (by omega) (by omega) a2
  by_cases a3 : E < 0
  · exact new_form3 w CA DA IA N M I c0 c1 c2 E q (by omega) (by omega) (by omega) a3
  by_cases a4 : (N : Int) ≤ E
  · exact new_form4 w CA DA IA N M I c0 c1 c2 E q (by omega) (by omega) (by omega) (by omega) a4
  exact absurd (by omega) h
theorem new_arg (w : World) (CA DA IA : Option Addr) (N M I c0 c1 c2 : Nat) (E q : Int) (g0 : 0 < N) (g1 : N ≤ 65536) (g2 : M ≤ 16384) (g3 : 0 ≤ E) (g4 : E < (N : Int)) (h : ¬ ((M : Int) ≤ q ∧ q ≤ 262144 ∧ I ≤ 4096)) :
    Calls Try.prog 17 #[.agg #[.slice CA N c0, .slice DA M c1, .int .i64 E], .int .i64 q, .slice IA I c2] w fun e w' => e = .returned (.tuple #[.pointer none, .int .i64 1]) ∧ Below w.heap.size w w' := by
  by_cases a0 : q < (M : Int)
  · exact new_arg0 w CA DA IA N M I c0 c1 c2 E q g0 g1 g2 g3 g4 a0
  by_cases a1 : 262144 < q
  · exact new_arg1 w CA DA IA N M I c0 c1 c2 E q g0 g1 g2 g3 g4 (by omega) a1
  by_cases a2 : 4096 < I
  · exact new_arg2 w CA DA IA N M I c0 c1 c2 E q g0 g1 g2 g3 g4 (by omega) (by omega) a2
  exact absurd (by omega) h
end Go.Proofs.Ytikgghioneiegaa
