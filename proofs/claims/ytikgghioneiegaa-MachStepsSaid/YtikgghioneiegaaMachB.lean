/-
  The machine's instructions that call others: walks.
-/
import Derived.Test.YtikgghioneiegaaMachC
namespace Go.Proofs.Ytikgghioneiegaa
open Go.RowKit
set_option linter.unusedVariables false


theorem load_in (w : World) (g : Nat) (cs : Array Value) (hb : Blk w g 62 cs) (o n : Int) (a b c : Nat) (x y : Int) (va : Value) (ha : a < 16) (hb2 : b < 16) (hca : cs[3 + a]? = some va) (hcb : cs[3 + b]? = some (.int .i64 x)) (mb m m2 k : Nat) (ms : Array Value) (hm : Blk w mb 2 ms) (hcm : cs[19]? = some (.slice (some ⟨mb, 0, none⟩) m m2)) (hk : k < m) (hmk : ms[k]? = some (.int .i64 y)) (hsum : wrap64 (x + n) = (k : Int)) :
    Calls Try.prog 46 #[.pointer (some ⟨g, 0, none⟩), .agg #[.int .i64 o, .int .i64 a, .int .i64 b, .int .i64 c, .int .i64 n]] w fun e w' => e = .returned (.tuple #[]) ∧ w' = (w.alloc (.cells (instC o a b c n) 52)).drew.setCell ⟨g, 3 + a, none⟩ (.int .i64 y) := by
  have hlt := hb.lt
  go_enter Try.func46, Try.ntmps46
  go_wp2
  refine st_tail 20 (by kernel_rfl) (by kernel_rfl) ?_
  intro W hW
  have kb := old_cells hb _ W hW
  have kc := box_cells w _ _ W hW
  have h1 : W.cell? ⟨g, 3 + a, none⟩ = some (va) := (kb.cell _).trans hca
  have h2 : W.cell? ⟨g, 3 + b, none⟩ = some (.int .i64 x) := (kb.cell _).trans hcb
  have k1 : W.cell? ⟨w.heap.size, 1, none⟩ = some (.int .i64 a) := kc 1
  have k2 : W.cell? ⟨w.heap.size, 2, none⟩ = some (.int .i64 b) := kc 2
  have k4 : W.cell? ⟨w.heap.size, 4, none⟩ = some (.int .i64 n) := kc 4
  have hf : W.frozen? ⟨g, 3 + a, none⟩ = false := kb.frozen _
  have m1 : W.cell? ⟨mb, k, none⟩ = some (.int .i64 y) := ((old_cells hm _ W hW).cell _).trans hmk
  have HW := Lib.hid hW
  clear hW kc
  have a1 : (a : Int) < 16 := by omega
  have b1 : (b : Int) < 16 := by omega
  have s1 := (wrap_is _).trans hsum
  clear hsum
  simp only [List.take_succ_cons, List.take_zero, List.drop_succ_cons, List.drop_zero]
  repeat still_step
  still_call (cell_in W g mb m cs kb k m2 hcm hk)
  repeat still_step
  refine wpStill_nil ?_
  go_wp2
  go_end0
  exact ⟨rfl, by rw [← HW.out]; rfl⟩

theorem store_in (w : World) (g : Nat) (cs : Array Value) (hb : Blk w g 62 cs) (o n : Int) (a b c : Nat) (x y : Int) (vm : Value) (ha : a < 16) (hb2 : b < 16) (hca : cs[3 + a]? = some (.int .i64 y)) (hcb : cs[3 + b]? = some (.int .i64 x)) (mb m m2 k : Nat) (ms : Array Value) (hm : Blk w mb 2 ms) (hcm : cs[19]? = some (.slice (some ⟨mb, 0, none⟩) m m2)) (hk : k < m) (hmk : ms[k]? = some vm) (hsum : wrap64 (x + n) = (k : Int)) :
    Calls Try.prog 47 #[.pointer (some ⟨g, 0, none⟩), .agg #[.int .i64 o, .int .i64 a, .int .i64 b, .int .i64 c, .int .i64 n]] w fun e w' => e = .returned (.tuple #[]) ∧ w' = (w.alloc (.cells (instC o a b c n) 52)).drew.setCell ⟨mb, k, none⟩ (.int .i64 y) := by
  have hlt := hb.lt
  go_enter Try.func47, Try.ntmps47
  go_wp2
  refine st_tail 20 (by kernel_rfl) (by kernel_rfl) ?_
  intro W hW
  have kb := old_cells hb _ W hW
  have kc := box_cells w _ _ W hW
  have h1 : W.cell? ⟨g, 3 + a, none⟩ = some (.int .i64 y) := (kb.cell _).trans hca
  have h2 : W.cell? ⟨g, 3 + b, none⟩ = some (.int .i64 x) := (kb.cell _).trans hcb
  have k1 : W.cell? ⟨w.heap.size, 1, none⟩ = some (.int .i64 a) := kc 1
  have k2 : W.cell? ⟨w.heap.size, 2, none⟩ = some (.int .i64 b) := kc 2
  have k4 : W.cell? ⟨w.heap.size, 4, none⟩ = some (.int .i64 n) := kc 4
  have m1 : W.cell? ⟨mb, k, none⟩ = some (vm) := ((old_cells hm _ W hW).cell _).trans hmk
  have mf : W.frozen? ⟨mb, k, none⟩ = false := (old_cells hm _ W hW).frozen _
  have HW := Lib.hid hW
  clear hW kc
  have a1 : (a : Int) < 16 := by omega
  have b1 : (b : Int) < 16 := by omega
  have s1 := (wrap_is _).trans hsum
  clear hsum
  simp only [List.take_succ_cons, List.take_zero, List.drop_succ_cons, List.drop_zero]
  repeat still_step
  still_call (cell_in W g mb m cs kb k m2 hcm hk)
  repeat still_step
  refine wpStill_nil ?_
  go_wp2
  go_end0
  exact ⟨rfl, by rw [← HW.out]; rfl⟩

set_option maxHeartbeats 4000000 in
theorem inst_one (w : World) (g : Nat) (cs : Array Value) (hb : Blk w g 62 cs) (o n : Int) (a b c : Nat) (x q : Int) (va : Value) (ha : a < 16) (hb2 : b < 16) (hca : cs[3 + a]? = some va) (hcb : cs[3 + b]? = some (.int .i64 x)) (hq : wrap64 (o - 40) = q) :
    Calls Try.prog 57 #[.pointer (some ⟨g, 0, none⟩), .agg #[.int .i64 o, .int .i64 a, .int .i64 b, .int .i64 c, .int .i64 n]] w fun e w' => e = .returned (.tuple #[]) ∧ w' = (w.alloc (.cells (instC o a b c n) 52)).drew.setCell ⟨g, 3 + a, none⟩ (.int .i64 (VU q x)) := by
  have hlt := hb.lt
  go_enter Try.func57, Try.ntmps57
  go_wp2
  generalize hW : World.alloc _ _ = W
  have kb : Blk W g 62 cs := by rw [← hW]; exact hb.alloc _
  have kc : ∀ i, W.cell? ⟨w.heap.size, i, none⟩ = (instC o a b c n)[i]? := by intro i; rw [← hW]; exact (Blk.new w _ _).cell i
  have h1 : W.cell? ⟨g, 3 + a, none⟩ = some (va) := (kb.cell _).trans hca
  have h2 : W.cell? ⟨g, 3 + b, none⟩ = some (.int .i64 x) := (kb.cell _).trans hcb
  have k0 : W.cell? ⟨w.heap.size, 0, none⟩ = some (.int .i64 o) := kc 0
  have k1 : W.cell? ⟨w.heap.size, 1, none⟩ = some (.int .i64 a) := kc 1
  have k2 : W.cell? ⟨w.heap.size, 2, none⟩ = some (.int .i64 b) := kc 2
  have hf : W.frozen? ⟨g, 3 + a, none⟩ = false := kb.frozen _
  have HW := Lib.hid hW
  clear hW kc kb
  have a1 : (a : Int) < 16 := by omega
  have b1 : (b : Int) < 16 := by omega
  have s1 := (wrap_is _).trans hq
  clear hq hb hca hcb
  go_region_with (go_at_call 68; refine (un_any _ _ _).mono ?_; rintro e w' ⟨rfl, rfl⟩)
  all_goals
    go_end0
    exact ⟨rfl, by rw [← HW.out]; rfl⟩

set_option maxHeartbeats 4000000 in
theorem load_out (w : World) (g : Nat) (cs : Array Value) (hb : Blk w g 62 cs) (o n : Int) (a b c : Nat) (x : Int) (va : Value) (ha : a < 16) (hb2 : b < 16) (hca : cs[3 + a]? = some va) (hcb : cs[3 + b]? = some (.int .i64 x)) (A : Option Addr) (m m2 : Nat) (hcm : cs[19]? = some (.slice A m m2)) (k : Int) (hk : k < 0 ∨ (m : Int) ≤ k) (hsum : wrap64 (x + n) = k) :
    Calls Try.prog 46 #[.pointer (some ⟨g, 0, none⟩), .agg #[.int .i64 o, .int .i64 a, .int .i64 b, .int .i64 c, .int .i64 n]] w fun e w' => e = .panicked [{ v := .iface 60 (.agg #[.int .i64 5, .int .i64 0]), recovered := false }] ∧ w' = (w.alloc (.cells (instC o a b c n) 52)).drew := by
  have hlt := hb.lt
  go_enter Try.func46, Try.ntmps46
  go_wp2
  generalize hW : World.alloc _ _ = W
  have kb : Blk W g 62 cs := by rw [← hW]; exact hb.alloc _
  have kc : ∀ i, W.cell? ⟨w.heap.size, i, none⟩ = (instC o a b c n)[i]? := by intro i; rw [← hW]; exact (Blk.new w _ _).cell i
  have h1 : W.cell? ⟨g, 3 + a, none⟩ = some (va) := (kb.cell _).trans hca
  have h2 : W.cell? ⟨g, 3 + b, none⟩ = some (.int .i64 x) := (kb.cell _).trans hcb
  have k1 : W.cell? ⟨w.heap.size, 1, none⟩ = some (.int .i64 a) := kc 1
  have k2 : W.cell? ⟨w.heap.size, 2, none⟩ = some (.int .i64 b) := kc 2
  have k4 : W.cell? ⟨w.heap.size, 4, none⟩ = some (.int .i64 n) := kc 4
  have HW := Lib.hid hW
  clear hW kc
  have a1 : (a : Int) < 16 := by omega
  have b1 : (b : Int) < 16 := by omega
  have s1 := (wrap_is _).trans hsum
  clear hsum hb hca hcb
  go_region_dies
  all_goals
    refine (cell_out W.drew g m cs kb.drew A m2 hcm k hk).mono ?_
    rintro e w' ⟨rfl, rfl⟩
    exact ⟨rfl, rfl, by rw [← HW.out]; rfl⟩

set_option maxHeartbeats 4000000 in
theorem store_out (w : World) (g : Nat) (cs : Array Value) (hb : Blk w g 62 cs) (o n : Int) (a b c : Nat) (x : Int) (va : Value) (ha : a < 16) (hb2 : b < 16) (hca : cs[3 + a]? = some va) (hcb : cs[3 + b]? = some (.int .i64 x)) (A : Option Addr) (m m2 : Nat) (hcm : cs[19]? = some (.slice A m m2)) (k : Int) (hk : k < 0 ∨ (m : Int) ≤ k) (hsum : wrap64 (x + n) = k) :
    Calls Try.prog 47 #[.pointer (some ⟨g, 0, none⟩), .agg #[.int .i64 o, .int .i64 a, .int .i64 b, .int .i64 c, .int .i64 n]] w fun e w' => e = .panicked [{ v := .iface 60 (.agg #[.int .i64 5, .int .i64 0]), recovered := false }] ∧ w' = (w.alloc (.cells (instC o a b c n) 52)).drew := by
  have hlt := hb.lt
  go_enter Try.func47, Try.ntmps47
  go_wp2
  generalize hW : World.alloc _ _ = W
  have kb : Blk W g 62 cs := by rw [← hW]; exact hb.alloc _
  have kc : ∀ i, W.cell? ⟨w.heap.size, i, none⟩ = (instC o a b c n)[i]? := by intro i; rw [← hW]; exact (Blk.new w _ _).cell i
  have h1 : W.cell? ⟨g, 3 + a, none⟩ = some (va) := (kb.cell _).trans hca
  have h2 : W.cell? ⟨g, 3 + b, none⟩ = some (.int .i64 x) := (kb.cell _).trans hcb
  have k1 : W.cell? ⟨w.heap.size, 1, none⟩ = some (.int .i64 a) := kc 1
  have k2 : W.cell? ⟨w.heap.size, 2, none⟩ = some (.int .i64 b) := kc 2
  have k4 : W.cell? ⟨w.heap.size, 4, none⟩ = some (.int .i64 n) := kc 4
  have HW := Lib.hid hW
  clear hW kc
  have a1 : (a : Int) < 16 := by omega
  have b1 : (b : Int) < 16 := by omega
  have s1 := (wrap_is _).trans hsum
  clear hsum hb hca hcb
  go_region_dies
  all_goals
    refine (cell_out W.drew g m cs kb.drew A m2 hcm k hk).mono ?_
    rintro e w' ⟨rfl, rfl⟩
    exact ⟨rfl, rfl, by rw [← HW.out]; rfl⟩

end Go.Proofs.Ytikgghioneiegaa
