/-
  The machine's instructions: walks.
-/
import Derived.Test.YtikgghioneiegaaMachW
import Derived.Lib.Hide
import Derived.Deep.QuietTactic
import Derived.BigQuiet
import Derived.StillTailTactics
import Derived.Outline
namespace Go.Proofs.Ytikgghioneiegaa
open Go.RowKit
set_option linter.unusedVariables false

def instC (o : Int) (a b c : Nat) (n : Int) : Array Value := #[.int .i64 o, .int .i64 a, .int .i64 b, .int .i64 c, .int .i64 n]

theorem box_cells (w : World) (cs : Array Value) (t : TypeId) (W : World) (hW : (w.alloc (.cells cs t)).drew = W) : ∀ i, W.cell? ⟨w.heap.size, i, none⟩ = cs[i]? := by
  intro i
  subst hW
  exact (Blk.new w t cs).cell i
theorem old_cells {w : World} {g : Nat} {t : TypeId} {cs : Array Value} (h : Blk w g t cs) (o : Obj) (W : World) (hW : (w.alloc o).drew = W) : Blk W g t cs := by
  subst hW
  exact h.alloc o

theorem move_any (w : World) (g : Nat) (cs : Array Value) (hb : Blk w g 62 cs) (o n : Int) (a b c : Nat) (x : Int) (va : Value) (ha : a < 16) (hb2 : b < 16) (hca : cs[3 + a]? = some va) (hcb : cs[3 + b]? = some (.int .i64 x)) :
    Calls Try.prog 43 #[.pointer (some ⟨g, 0, none⟩), .agg #[.int .i64 o, .int .i64 a, .int .i64 b, .int .i64 c, .int .i64 n]] w fun e w' => e = .returned (.tuple #[]) ∧ w' = (w.alloc (.cells (instC o a b c n) 52)).drew.setCell ⟨g, 3 + a, none⟩ (.int .i64 x) := by
  have hlt := hb.lt
  go_enter Try.func43, Try.ntmps43
  go_wp2
  refine st_tail 13 (by kernel_rfl) (by kernel_rfl) ?_
  intro W hW
  have kb := old_cells hb _ W hW
  have kc := box_cells w _ _ W hW
  have h1 : W.cell? ⟨g, 3 + a, none⟩ = some (va) := (kb.cell _).trans hca
  have h2 : W.cell? ⟨g, 3 + b, none⟩ = some (.int .i64 x) := (kb.cell _).trans hcb
  have k1 : W.cell? ⟨w.heap.size, 1, none⟩ = some (.int .i64 a) := kc 1
  have k2 : W.cell? ⟨w.heap.size, 2, none⟩ = some (.int .i64 b) := kc 2
  have hf : W.frozen? ⟨g, 3 + a, none⟩ = false := kb.frozen _
  have HW := Lib.hid hW
  clear hW kc kb
  have a1 : (a : Int) < 16 := by omega
  have b1 : (b : Int) < 16 := by omega
  simp only [List.take_succ_cons, List.take_zero, List.drop_succ_cons, List.drop_zero]
  repeat still_step
  refine wpStill_nil ?_
  go_wp2
  go_end0
  exact ⟨rfl, by rw [← HW.out]; rfl⟩

theorem const_any (w : World) (g : Nat) (cs : Array Value) (hb : Blk w g 62 cs) (o n : Int) (a b c : Nat) (va : Value) (ha : a < 16) (hca : cs[3 + a]? = some va) :
    Calls Try.prog 44 #[.pointer (some ⟨g, 0, none⟩), .agg #[.int .i64 o, .int .i64 a, .int .i64 b, .int .i64 c, .int .i64 n]] w fun e w' => e = .returned (.tuple #[]) ∧ w' = (w.alloc (.cells (instC o a b c n) 52)).drew.setCell ⟨g, 3 + a, none⟩ (.int .i64 n) := by
  have hlt := hb.lt
  go_enter Try.func44, Try.ntmps44
  go_wp2
  refine st_tail 8 (by kernel_rfl) (by kernel_rfl) ?_
  intro W hW
  have kb := old_cells hb _ W hW
  have kc := box_cells w _ _ W hW
  have h1 : W.cell? ⟨g, 3 + a, none⟩ = some (va) := (kb.cell _).trans hca
  have k1 : W.cell? ⟨w.heap.size, 1, none⟩ = some (.int .i64 a) := kc 1
  have k4 : W.cell? ⟨w.heap.size, 4, none⟩ = some (.int .i64 n) := kc 4
  have hf : W.frozen? ⟨g, 3 + a, none⟩ = false := kb.frozen _
  have HW := Lib.hid hW
  clear hW kc kb
  have a1 : (a : Int) < 16 := by omega
  simp only [List.take_succ_cons, List.take_zero, List.drop_succ_cons, List.drop_zero]
  repeat still_step
  refine wpStill_nil ?_
  go_wp2
  go_end0
  exact ⟨rfl, by rw [← HW.out]; rfl⟩

theorem high_any (w : World) (g : Nat) (cs : Array Value) (hb : Blk w g 62 cs) (o n : Int) (a b c : Nat) (x : Int) (ha : a < 16) (hca : cs[3 + a]? = some (.int .i64 x)) :
    Calls Try.prog 45 #[.pointer (some ⟨g, 0, none⟩), .agg #[.int .i64 o, .int .i64 a, .int .i64 b, .int .i64 c, .int .i64 n]] w fun e w' => e = .returned (.tuple #[]) ∧ w' = (w.alloc (.cells (instC o a b c n) 52)).drew.setCell ⟨g, 3 + a, none⟩ (.int .i64 (wrap64 (wrap64 (x * 4294967296) + wrap64 (n % 4294967296)))) := by
  have hlt := hb.lt
  go_enter Try.func45, Try.ntmps45
  go_wp2
  refine st_tail 19 (by kernel_rfl) (by kernel_rfl) ?_
  intro W hW
  have kb := old_cells hb _ W hW
  have kc := box_cells w _ _ W hW
  have h1 : W.cell? ⟨g, 3 + a, none⟩ = some (.int .i64 x) := (kb.cell _).trans hca
  have k1 : W.cell? ⟨w.heap.size, 1, none⟩ = some (.int .i64 a) := kc 1
  have k4 : W.cell? ⟨w.heap.size, 4, none⟩ = some (.int .i64 n) := kc 4
  have hf : W.frozen? ⟨g, 3 + a, none⟩ = false := kb.frozen _
  have HW := Lib.hid hW
  clear hW kc kb
  have a1 : (a : Int) < 16 := by omega
  simp only [List.take_succ_cons, List.take_zero, List.drop_succ_cons, List.drop_zero]
  repeat still_step
  refine wpStill_nil ?_
  go_wp2
  go_end0
  exact ⟨rfl, by rw [← HW.out]; rfl⟩

theorem room_any (w : World) (g : Nat) (cs : Array Value) (hb : Blk w g 62 cs) (o n : Int) (a b c : Nat) (va : Value) (A : Option Addr) (m m2 : Nat) (ha : a < 16) (hca : cs[3 + a]? = some va) (hcm : cs[19]? = some (.slice A m m2)) :
    Calls Try.prog 56 #[.pointer (some ⟨g, 0, none⟩), .agg #[.int .i64 o, .int .i64 a, .int .i64 b, .int .i64 c, .int .i64 n]] w fun e w' => e = .returned (.tuple #[]) ∧ w' = (w.alloc (.cells (instC o a b c n) 52)).drew.setCell ⟨g, 3 + a, none⟩ (.int .i64 m) := by
  have hlt := hb.lt
  go_enter Try.func56, Try.ntmps56
  go_wp2
  refine st_tail 11 (by kernel_rfl) (by kernel_rfl) ?_
  intro W hW
  have kb := old_cells hb _ W hW
  have kc := box_cells w _ _ W hW
  have h1 : W.cell? ⟨g, 3 + a, none⟩ = some (va) := (kb.cell _).trans hca
  have h2 : W.cell? ⟨g, 19, none⟩ = some (.slice A m m2) := (kb.cell _).trans hcm
  have k1 : W.cell? ⟨w.heap.size, 1, none⟩ = some (.int .i64 a) := kc 1
  have hf : W.frozen? ⟨g, 3 + a, none⟩ = false := kb.frozen _
  have HW := Lib.hid hW
  clear hW kc kb
  have a1 : (a : Int) < 16 := by omega
  simp only [List.take_succ_cons, List.take_zero, List.drop_succ_cons, List.drop_zero]
  repeat still_step
  refine wpStill_nil ?_
  go_wp2
  go_end0
  exact ⟨rfl, by rw [← HW.out]; rfl⟩

theorem jump_any (w : World) (g : Nat) (cs : Array Value) (hb : Blk w g 62 cs) (o n : Int) (a b c : Nat) (p : Int) (hcp : cs[2]? = some (.int .i64 p)) :
    Calls Try.prog 48 #[.pointer (some ⟨g, 0, none⟩), .agg #[.int .i64 o, .int .i64 a, .int .i64 b, .int .i64 c, .int .i64 n]] w fun e w' => e = .returned (.tuple #[]) ∧ w' = (w.alloc (.cells (instC o a b c n) 52)).drew.setCell ⟨g, 2, none⟩ (.int .i64 (wrap64 (p + n))) := by
  have hlt := hb.lt
  go_enter Try.func48, Try.ntmps48
  go_wp2
  refine st_tail 9 (by kernel_rfl) (by kernel_rfl) ?_
  intro W hW
  have kb := old_cells hb _ W hW
  have kc := box_cells w _ _ W hW
  have h1 : W.cell? ⟨g, 2, none⟩ = some (.int .i64 p) := (kb.cell _).trans hcp
  have k4 : W.cell? ⟨w.heap.size, 4, none⟩ = some (.int .i64 n) := kc 4
  have hf : W.frozen? ⟨g, 2, none⟩ = false := kb.frozen _
  have HW := Lib.hid hW
  clear hW kc kb
  simp only [List.take_succ_cons, List.take_zero, List.drop_succ_cons, List.drop_zero]
  repeat still_step
  refine wpStill_nil ?_
  go_wp2
  go_end0
  exact ⟨rfl, by rw [← HW.out]; rfl⟩

theorem halt_any (w : World) (g : Nat) (cs : Array Value) (hb : Blk w g 62 cs) (o n : Int) (a b c : Nat) (p q : Value) (hcp : cs[22]? = some p) (hcq : cs[23]? = some q) :
    Calls Try.prog 41 #[.pointer (some ⟨g, 0, none⟩), .agg #[.int .i64 o, .int .i64 a, .int .i64 b, .int .i64 c, .int .i64 n]] w fun e w' => e = .returned (.tuple #[]) ∧ w' = ((w.setCell ⟨g, 22, none⟩ (.int .i64 1)).setCell ⟨g, 23, none⟩ (.int .i64 0)).alloc (.cells (instC o a b c n) 52) := by
  have hlt := hb.lt
  have h1 : w.cell? ⟨g, 22, none⟩ = some p := (hb.cell _).trans hcp
  have h2 : w.cell? ⟨g, 23, none⟩ = some q := (hb.cell _).trans hcq
  have f1 : w.frozen? ⟨g, 22, none⟩ = false := hb.frozen _
  have f2 : w.frozen? ⟨g, 23, none⟩ = false := hb.frozen _
  go_enter Try.func41, Try.ntmps41
  go_wp2
  go_end0
  exact ⟨rfl, rfl⟩

theorem trap_code (w : World) (g : Nat) (o n : Int) (a b c : Nat) (h1 : 1 ≤ n) (h2 : n ≤ 999) :
    Calls Try.prog 42 #[.pointer (some ⟨g, 0, none⟩), .agg #[.int .i64 o, .int .i64 a, .int .i64 b, .int .i64 c, .int .i64 n]] w fun e w' => e = .panicked [{ v := .iface 60 (.agg #[.int .i64 2, .int .i64 n]), recovered := false }] ∧ w' = (w.alloc (.cells (instC o a b c n) 52)) := by
  have d1 : decide (1 ≤ n) = true := by simpa using h1
  have d2 : decide (n ≤ 999) = true := by simpa using h2
  go_enter Try.func42, Try.ntmps42
  go_wp2
  exact ⟨rfl, rfl, rfl⟩

theorem trap_mem (w : World) (g : Nat) (o n : Int) (a b c : Nat) (h1 : n = 1000) :
    Calls Try.prog 42 #[.pointer (some ⟨g, 0, none⟩), .agg #[.int .i64 o, .int .i64 a, .int .i64 b, .int .i64 c, .int .i64 n]] w fun e w' => e = .panicked [{ v := .iface 60 (.agg #[.int .i64 3, .int .i64 0]), recovered := false }] ∧ w' = (w.alloc (.cells (instC o a b c n) 52)) := by
  subst h1
  go_enter Try.func42, Try.ntmps42
  go_wp2
  exact ⟨rfl, rfl, rfl⟩

theorem trap_stack (w : World) (g : Nat) (o n : Int) (a b c : Nat) (h1 : n = 1001) :
    Calls Try.prog 42 #[.pointer (some ⟨g, 0, none⟩), .agg #[.int .i64 o, .int .i64 a, .int .i64 b, .int .i64 c, .int .i64 n]] w fun e w' => e = .panicked [{ v := .iface 60 (.agg #[.int .i64 4, .int .i64 0]), recovered := false }] ∧ w' = (w.alloc (.cells (instC o a b c n) 52)) := by
  subst h1
  go_enter Try.func42, Try.ntmps42
  go_wp2
  exact ⟨rfl, rfl, rfl⟩

theorem trap_low (w : World) (g : Nat) (o n : Int) (a b c : Nat) (h1 : n < 1) :
    Calls Try.prog 42 #[.pointer (some ⟨g, 0, none⟩), .agg #[.int .i64 o, .int .i64 a, .int .i64 b, .int .i64 c, .int .i64 n]] w fun e w' => e = .panicked [{ v := .iface 60 (.agg #[.int .i64 5, .int .i64 0]), recovered := false }] ∧ w' = (w.alloc (.cells (instC o a b c n) 52)) := by
  have d1 : decide (1 ≤ n) = false := by simp; omega
  have d3 : (n == 1000) = false := by simp; omega
  have d4 : (n == 1001) = false := by simp; omega
  go_enter Try.func42, Try.ntmps42
  go_wp2
  exact ⟨rfl, rfl, rfl⟩

theorem trap_high (w : World) (g : Nat) (o n : Int) (a b c : Nat) (h1 : 999 < n) (h2 : (n == 1000) = false) (h3 : (n == 1001) = false) :
    Calls Try.prog 42 #[.pointer (some ⟨g, 0, none⟩), .agg #[.int .i64 o, .int .i64 a, .int .i64 b, .int .i64 c, .int .i64 n]] w fun e w' => e = .panicked [{ v := .iface 60 (.agg #[.int .i64 5, .int .i64 0]), recovered := false }] ∧ w' = (w.alloc (.cells (instC o a b c n) 52)) := by
  have d1 : decide (1 ≤ n) = true := by simp; omega
  have d2 : decide (n ≤ 999) = false := by simp; omega
  go_enter Try.func42, Try.ntmps42
  go_wp2
  exact ⟨rfl, rfl, rfl⟩

theorem cell_in (w : World) (g mb m : Nat) (cs : Array Value) (hb : Blk w g 62 cs) (k m2 : Nat) (hcm : cs[19]? = some (.slice (some ⟨mb, 0, none⟩) m m2)) (hk : k < m) :
    Calls Try.prog 66 #[.pointer (some ⟨g, 0, none⟩), .int .i64 (k : Int)] w fun e w' => e = .returned (.pointer (some ⟨mb, k, none⟩)) ∧ w' = w := by
  have h1 : w.cell? ⟨g, 19, none⟩ = some (.slice (some ⟨mb, 0, none⟩) m m2) := (hb.cell _).trans hcm
  have hlt := hb.lt
  have d1 : decide ((k : Int) < 0) = false := by simp
  have d2 : decide (m ≤ k) = false := by simp; omega
  have d3 : (k : Int) < (m : Int) := by omega
  go_enter Try.func66, Try.ntmps66
  go_wp2
  go_ret
  exact ⟨rfl, rfl⟩

theorem cell_neg (w : World) (g : Nat) (k : Int) (hk : k < 0) :
    Calls Try.prog 66 #[.pointer (some ⟨g, 0, none⟩), .int .i64 k] w fun e w' => e = .panicked [{ v := .iface 60 (.agg #[.int .i64 5, .int .i64 0]), recovered := false }] ∧ w' = w := by
  have d1 : decide (k < 0) = true := by simpa using hk
  go_enter Try.func66, Try.ntmps66
  go_wp2
  exact ⟨rfl, rfl, rfl⟩

theorem cell_far (w : World) (g m : Nat) (cs : Array Value) (hb : Blk w g 62 cs) (A : Option Addr) (k m2 : Nat) (hcm : cs[19]? = some (.slice A m m2)) (hk : m ≤ k) :
    Calls Try.prog 66 #[.pointer (some ⟨g, 0, none⟩), .int .i64 (k : Int)] w fun e w' => e = .panicked [{ v := .iface 60 (.agg #[.int .i64 5, .int .i64 0]), recovered := false }] ∧ w' = w := by
  have h1 : w.cell? ⟨g, 19, none⟩ = some (.slice A m m2) := (hb.cell _).trans hcm
  have hlt := hb.lt
  have d1 : decide ((k : Int) < 0) = false := by simp
  have d2 : decide (m ≤ k) = true := by simp; omega
  go_enter Try.func66, Try.ntmps66
  go_wp2
  exact ⟨rfl, rfl, rfl⟩

theorem cell_out (w : World) (g m : Nat) (cs : Array Value) (hb : Blk w g 62 cs) (A : Option Addr) (m2 : Nat) (hcm : cs[19]? = some (.slice A m m2)) (k : Int) (hk : k < 0 ∨ (m : Int) ≤ k) :
    Calls Try.prog 66 #[.pointer (some ⟨g, 0, none⟩), .int .i64 k] w fun e w' => e = .panicked [{ v := .iface 60 (.agg #[.int .i64 5, .int .i64 0]), recovered := false }] ∧ w' = w := by
  by_cases h0 : k < 0
  · exact cell_neg w g k h0
  · obtain ⟨j, rfl⟩ : ∃ j : Nat, k = j := ⟨k.toNat, by omega⟩
    exact cell_far w g m cs hb A j m2 hcm (by omega)

end Go.Proofs.Ytikgghioneiegaa
