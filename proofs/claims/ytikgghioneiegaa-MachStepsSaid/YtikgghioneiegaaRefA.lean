/-
  The document's machine: its plain instructions: walks.
-/
import Derived.Test.YtikgghioneiegaaMachC
import Derived.Test.YtikgghioneiegaaIsaF
namespace Go.Proofs.Ytikgghioneiegaa
open Go.RowKit
set_option linter.unusedVariables false

theorem rcell_in (w : World) (g mb m : Nat) (cs : Array Value) (hb : Blk w g 38 cs) (k m2 : Nat) (hcm : cs[1]? = some (.slice (some ⟨mb, 0, none⟩) m m2)) (hk : k < m) :
    Calls Try.prog 61 #[.pointer (some ⟨g, 0, none⟩), .int .i64 (k : Int)] w fun e w' => e = .returned (.int .i64 (k : Int)) ∧ w' = w := by
  have h1 : w.cell? ⟨g, 1, none⟩ = some (.slice (some ⟨mb, 0, none⟩) m m2) := (hb.cell _).trans hcm
  have hlt := hb.lt
  have d1 : decide ((k : Int) < 0) = false := by simp
  have d2 : decide (m ≤ k) = false := by simp; omega
  have d3 : (k : Int) < (m : Int) := by omega
  go_enter Try.func61, Try.ntmps61
  go_wp2
  go_ret
  exact ⟨rfl, rfl⟩
theorem rcell_neg (w : World) (g : Nat) (cs : Array Value) (hb : Blk w g 38 cs) (k : Int) (hk : k < 0) (v : Value) (hv : cs[21]? = some v) :
    Calls Try.prog 61 #[.pointer (some ⟨g, 0, none⟩), .int .i64 k] w fun e w' => e = .returned (.int .i64 (-1)) ∧ w' = w.setCell ⟨g, 21, none⟩ (.int .i64 5) := by
  have h1 : w.cell? ⟨g, 21, none⟩ = some v := (hb.cell _).trans hv
  have h2 : w.frozen? ⟨g, 21, none⟩ = false := hb.frozen _
  have d1 : decide (k < 0) = true := by simpa using hk
  go_enter Try.func61, Try.ntmps61
  go_wp2
  go_ret
  exact ⟨rfl, rfl⟩
theorem rcell_far (w : World) (g m : Nat) (cs : Array Value) (hb : Blk w g 38 cs) (A : Option Addr) (k m2 : Nat) (hcm : cs[1]? = some (.slice A m m2)) (hk : m ≤ k) (v : Value) (hv : cs[21]? = some v) :
    Calls Try.prog 61 #[.pointer (some ⟨g, 0, none⟩), .int .i64 (k : Int)] w fun e w' => e = .returned (.int .i64 (-1)) ∧ w' = w.setCell ⟨g, 21, none⟩ (.int .i64 5) := by
  have h0 : w.cell? ⟨g, 1, none⟩ = some (.slice A m m2) := (hb.cell _).trans hcm
  have h1 : w.cell? ⟨g, 21, none⟩ = some v := (hb.cell _).trans hv
  have h2 : w.frozen? ⟨g, 21, none⟩ = false := hb.frozen _
  have d1 : decide ((k : Int) < 0) = false := by simp
  have d2 : decide (m ≤ k) = true := by simp; omega
  go_enter Try.func61, Try.ntmps61
  go_wp2
  go_ret
  exact ⟨rfl, rfl⟩
theorem rcell_out (w : World) (g m : Nat) (cs : Array Value) (hb : Blk w g 38 cs) (A : Option Addr) (m2 : Nat) (hcm : cs[1]? = some (.slice A m m2)) (k : Int) (hk : k < 0 ∨ (m : Int) ≤ k) (v : Value) (hv : cs[21]? = some v) :
    Calls Try.prog 61 #[.pointer (some ⟨g, 0, none⟩), .int .i64 k] w fun e w' => e = .returned (.int .i64 (-1)) ∧ w' = w.setCell ⟨g, 21, none⟩ (.int .i64 5) := by
  by_cases h0 : k < 0
  · exact rcell_neg w g cs hb k h0 v hv
  · obtain ⟨j, rfl⟩ : ∃ j : Nat, k = j := ⟨k.toNat, by omega⟩
    exact rcell_far w g m cs hb A j m2 hcm (by omega) v hv
theorem rcell_out' (w : World) (g m : Nat) (cs : Array Value) (hb : Blk w g 38 cs) (A : Option Addr) (m2 : Nat) (hcm : cs[1]? = some (.slice A m m2)) (x k : Int) (hk : k < 0 ∨ (m : Int) ≤ k) (v : Value) (hv : cs[21]? = some v) (hx : x = k) :
    Calls Try.prog 61 #[.pointer (some ⟨g, 0, none⟩), .int .i64 x] w fun e w' => e = .returned (.int .i64 (-1)) ∧ w' = w.setCell ⟨g, 21, none⟩ (.int .i64 5) := by
  subst hx
  exact rcell_out w g m cs hb A m2 hcm x hk v hv

theorem rtrap_code (w : World) (g : Nat) (cs : Array Value) (hb : Blk w g 38 cs) (n : Int) (h1 : 1 ≤ n) (h2 : n ≤ 999) (p q : Value) (hp : cs[21]? = some p) (hq : cs[22]? = some q) :
    Calls Try.prog 60 #[.pointer (some ⟨g, 0, none⟩), .int .i64 n] w fun e w' => e = .returned (.tuple #[]) ∧ Blk w' g 38 (((cs.setIfInBounds 21 (.int .i64 5)).setIfInBounds 21 (.int .i64 2)).setIfInBounds 22 (.int .i64 n)) ∧ Fr g g none w w' := by
  have z1 : w.cell? ⟨g, 21, none⟩ = some p := hb.get hp
  have z2 : w.cell? ⟨g, 22, none⟩ = some q := hb.get hq
  have f1 : w.frozen? ⟨g, 21, none⟩ = false := hb.frozen _
  have f2 : w.frozen? ⟨g, 22, none⟩ = false := hb.frozen _
  have d1 : decide (1 ≤ n) = true := by simpa using h1
  have d2 : decide (n ≤ 999) = true := by simpa using h2
  go_enter Try.func60, Try.ntmps60
  go_wp2
  first | go_end0 | refine bodyPost_ret (results_none rfl _ _ _) rfl ?_
  exact ⟨rfl, (((hb).set_ 21 _).set_ 21 _).set_ 22 _, (((Fr.refl g g none w).set_ (p := ⟨g, 21, none⟩) (.inl rfl) _).set_ (p := ⟨g, 21, none⟩) (.inl rfl) _).set_ (p := ⟨g, 22, none⟩) (.inl rfl) _⟩

theorem rtrap_mem (w : World) (g : Nat) (cs : Array Value) (hb : Blk w g 38 cs) (n : Int) (h1 : n = 1000) (p q : Value) (hp : cs[21]? = some p) (hq : cs[22]? = some q) :
    Calls Try.prog 60 #[.pointer (some ⟨g, 0, none⟩), .int .i64 n] w fun e w' => e = .returned (.tuple #[]) ∧ Blk w' g 38 ((cs.setIfInBounds 21 (.int .i64 5)).setIfInBounds 21 (.int .i64 3)) ∧ Fr g g none w w' := by
  have z1 : w.cell? ⟨g, 21, none⟩ = some p := hb.get hp
  have z2 : w.cell? ⟨g, 22, none⟩ = some q := hb.get hq
  have f1 : w.frozen? ⟨g, 21, none⟩ = false := hb.frozen _
  have f2 : w.frozen? ⟨g, 22, none⟩ = false := hb.frozen _
  subst h1
  go_enter Try.func60, Try.ntmps60
  go_wp2
  first | go_end0 | refine bodyPost_ret (results_none rfl _ _ _) rfl ?_
  exact ⟨rfl, ((hb).set_ 21 _).set_ 21 _, ((Fr.refl g g none w).set_ (p := ⟨g, 21, none⟩) (.inl rfl) _).set_ (p := ⟨g, 21, none⟩) (.inl rfl) _⟩

theorem rtrap_stack (w : World) (g : Nat) (cs : Array Value) (hb : Blk w g 38 cs) (n : Int) (h1 : n = 1001) (p q : Value) (hp : cs[21]? = some p) (hq : cs[22]? = some q) :
    Calls Try.prog 60 #[.pointer (some ⟨g, 0, none⟩), .int .i64 n] w fun e w' => e = .returned (.tuple #[]) ∧ Blk w' g 38 ((cs.setIfInBounds 21 (.int .i64 5)).setIfInBounds 21 (.int .i64 4)) ∧ Fr g g none w w' := by
  have z1 : w.cell? ⟨g, 21, none⟩ = some p := hb.get hp
  have z2 : w.cell? ⟨g, 22, none⟩ = some q := hb.get hq
  have f1 : w.frozen? ⟨g, 21, none⟩ = false := hb.frozen _
  have f2 : w.frozen? ⟨g, 22, none⟩ = false := hb.frozen _
  subst h1
  go_enter Try.func60, Try.ntmps60
  go_wp2
  first | go_end0 | refine bodyPost_ret (results_none rfl _ _ _) rfl ?_
  exact ⟨rfl, ((hb).set_ 21 _).set_ 21 _, ((Fr.refl g g none w).set_ (p := ⟨g, 21, none⟩) (.inl rfl) _).set_ (p := ⟨g, 21, none⟩) (.inl rfl) _⟩

theorem rtrap_low (w : World) (g : Nat) (cs : Array Value) (hb : Blk w g 38 cs) (n : Int) (h1 : n < 1) (p q : Value) (hp : cs[21]? = some p) (hq : cs[22]? = some q) :
    Calls Try.prog 60 #[.pointer (some ⟨g, 0, none⟩), .int .i64 n] w fun e w' => e = .returned (.tuple #[]) ∧ Blk w' g 38 (cs.setIfInBounds 21 (.int .i64 5)) ∧ Fr g g none w w' := by
  have z1 : w.cell? ⟨g, 21, none⟩ = some p := hb.get hp
  have z2 : w.cell? ⟨g, 22, none⟩ = some q := hb.get hq
  have f1 : w.frozen? ⟨g, 21, none⟩ = false := hb.frozen _
  have f2 : w.frozen? ⟨g, 22, none⟩ = false := hb.frozen _
  have d1 : decide (1 ≤ n) = false := by simp; omega
  have d3 : (n == 1000) = false := by simp; omega
  have d4 : (n == 1001) = false := by simp; omega
  go_enter Try.func60, Try.ntmps60
  go_wp2
  first | go_end0 | refine bodyPost_ret (results_none rfl _ _ _) rfl ?_
  exact ⟨rfl, (hb).set_ 21 _, (Fr.refl g g none w).set_ (p := ⟨g, 21, none⟩) (.inl rfl) _⟩

theorem rtrap_high (w : World) (g : Nat) (cs : Array Value) (hb : Blk w g 38 cs) (n : Int) (h1 : 999 < n) (h2 : (n == 1000) = false) (h3 : (n == 1001) = false) (p q : Value) (hp : cs[21]? = some p) (hq : cs[22]? = some q) :
    Calls Try.prog 60 #[.pointer (some ⟨g, 0, none⟩), .int .i64 n] w fun e w' => e = .returned (.tuple #[]) ∧ Blk w' g 38 (cs.setIfInBounds 21 (.int .i64 5)) ∧ Fr g g none w w' := by
  have z1 : w.cell? ⟨g, 21, none⟩ = some p := hb.get hp
  have z2 : w.cell? ⟨g, 22, none⟩ = some q := hb.get hq
  have f1 : w.frozen? ⟨g, 21, none⟩ = false := hb.frozen _
  have f2 : w.frozen? ⟨g, 22, none⟩ = false := hb.frozen _
  have d1 : decide (1 ≤ n) = true := by simp; omega
  have d2 : decide (n ≤ 999) = false := by simp; omega
  go_enter Try.func60, Try.ntmps60
  go_wp2
  first | go_end0 | refine bodyPost_ret (results_none rfl _ _ _) rfl ?_
  exact ⟨rfl, (hb).set_ 21 _, (Fr.refl g g none w).set_ (p := ⟨g, 21, none⟩) (.inl rfl) _⟩

set_option maxRecDepth 100000 in
set_option maxHeartbeats 1600000 in
theorem rp_halt (w : World) (g : Nat) (cs : Array Value) (hb : Blk w g 38 cs) (a b c : Nat) (n : Int) (p : Value) (hp : cs[21]? = some p) :
    Calls Try.prog 38 #[.pointer (some ⟨g, 0, none⟩), .agg #[.int .i64 0, .int .i64 a, .int .i64 b, .int .i64 c, .int .i64 n]] w fun e w' => e = .returned (.tuple #[]) ∧ Blk w' g 38 (cs.setIfInBounds 21 (.int .i64 1)) ∧ Fr g g none w w' := by
  have hlt := hb.lt
  have z1 : w.cell? ⟨g, 21, none⟩ = some p := hb.get hp
  have f1 : w.frozen? ⟨g, 21, none⟩ = false := hb.frozen _
  go_enter Try.func38, Try.ntmps38
  go_wp2
  first | go_end0 | refine bodyPost_ret (results_none rfl _ _ _) rfl ?_
  exact ⟨rfl, (hb.set_ 21 _).alloc _, ((Fr.refl g g none w).set_ (p := ⟨g, 21, none⟩) (.inl rfl) _).alloc _⟩

set_option maxRecDepth 100000 in
set_option maxHeartbeats 1600000 in
theorem rp_move (w : World) (g : Nat) (cs : Array Value) (hb : Blk w g 38 cs) (a b c : Nat) (n : Int) (x : Int) (va : Value) (ha : a < 16) (hca : cs[2 + a]? = some va) (hb2 : b < 16) (hcb : cs[2 + b]? = some (.int .i64 x)) :
    Calls Try.prog 38 #[.pointer (some ⟨g, 0, none⟩), .agg #[.int .i64 2, .int .i64 a, .int .i64 b, .int .i64 c, .int .i64 n]] w fun e w' => e = .returned (.tuple #[]) ∧ Blk w' g 38 (cs.setIfInBounds (2 + a) (.int .i64 x)) ∧ Fr g g none w w' := by
  have hlt := hb.lt
  go_enter Try.func38, Try.ntmps38
  go_wp2
  refine st_tail 13 (by kernel_rfl) (by kernel_rfl) ?_
  intro W hW
  have kb : Blk W g 38 cs := by rw [← hW]; exact (hb.alloc _).drew
  have kc : Blk W w.heap.size 52 (instC 2 a b c n) := by rw [← hW]; exact (Blk.new w _ _).drew
  have jF : Fr g g none w W := by rw [← hW]; exact ((Fr.refl _ _ _ w).alloc _).drew
  have h1 : W.cell? ⟨g, 2 + a, none⟩ = some (va) := kb.get hca
  have h2 : W.cell? ⟨g, 2 + b, none⟩ = some (.int .i64 x) := kb.get hcb
  have k1 : W.cell? ⟨w.heap.size, 1, none⟩ = some (.int .i64 a) := kc.get (i := 1) rfl
  have k2 : W.cell? ⟨w.heap.size, 2, none⟩ = some (.int .i64 b) := kc.get (i := 2) rfl
  have hf : W.frozen? ⟨g, 2 + a, none⟩ = false := kb.frozen _
  have a1 : (a : Int) < 16 := by omega
  have b1 : (b : Int) < 16 := by omega
  clear hW kc hb
  simp only [List.take_succ_cons, List.take_zero, List.drop_succ_cons, List.drop_zero]
  repeat still_step
  refine wpStill_nil ?_
  go_wp2
  first | go_end0 | refine bodyPost_ret (results_none rfl _ _ _) rfl ?_
  exact ⟨rfl, kb.set_ _ _, jF.set_ (.inl rfl) _⟩

set_option maxRecDepth 100000 in
set_option maxHeartbeats 1600000 in
theorem rp_const (w : World) (g : Nat) (cs : Array Value) (hb : Blk w g 38 cs) (a b c : Nat) (n : Int) (va : Value) (ha : a < 16) (hca : cs[2 + a]? = some va) :
    Calls Try.prog 38 #[.pointer (some ⟨g, 0, none⟩), .agg #[.int .i64 3, .int .i64 a, .int .i64 b, .int .i64 c, .int .i64 n]] w fun e w' => e = .returned (.tuple #[]) ∧ Blk w' g 38 (cs.setIfInBounds (2 + a) (.int .i64 n)) ∧ Fr g g none w w' := by
  have hlt := hb.lt
  go_enter Try.func38, Try.ntmps38
  go_wp2
  refine st_tail 8 (by kernel_rfl) (by kernel_rfl) ?_
  intro W hW
  have kb : Blk W g 38 cs := by rw [← hW]; exact (hb.alloc _).drew
  have kc : Blk W w.heap.size 52 (instC 3 a b c n) := by rw [← hW]; exact (Blk.new w _ _).drew
  have jF : Fr g g none w W := by rw [← hW]; exact ((Fr.refl _ _ _ w).alloc _).drew
  have h1 : W.cell? ⟨g, 2 + a, none⟩ = some (va) := kb.get hca
  have k1 : W.cell? ⟨w.heap.size, 1, none⟩ = some (.int .i64 a) := kc.get (i := 1) rfl
  have k4 : W.cell? ⟨w.heap.size, 4, none⟩ = some (.int .i64 n) := kc.get (i := 4) rfl
  have hf : W.frozen? ⟨g, 2 + a, none⟩ = false := kb.frozen _
  have a1 : (a : Int) < 16 := by omega
  clear hW kc hb
  simp only [List.take_succ_cons, List.take_zero, List.drop_succ_cons, List.drop_zero]
  repeat still_step
  refine wpStill_nil ?_
  go_wp2
  first | go_end0 | refine bodyPost_ret (results_none rfl _ _ _) rfl ?_
  exact ⟨rfl, kb.set_ _ _, jF.set_ (.inl rfl) _⟩

set_option maxRecDepth 100000 in
set_option maxHeartbeats 1600000 in
theorem rp_high (w : World) (g : Nat) (cs : Array Value) (hb : Blk w g 38 cs) (a b c : Nat) (n : Int) (x : Int) (ha : a < 16) (hca : cs[2 + a]? = some (.int .i64 x)) :
    Calls Try.prog 38 #[.pointer (some ⟨g, 0, none⟩), .agg #[.int .i64 4, .int .i64 a, .int .i64 b, .int .i64 c, .int .i64 n]] w fun e w' => e = .returned (.tuple #[]) ∧ Blk w' g 38 (cs.setIfInBounds (2 + a) (.int .i64 (wrap64 (wrap64 (x * 4294967296) + n % 4294967296)))) ∧ Fr g g none w w' := by
  have hlt := hb.lt
  have hand := i64_and32 n
  go_enter Try.func38, Try.ntmps38
  go_wp2
  refine st_tail 18 (by kernel_rfl) (by kernel_rfl) ?_
  intro W hW
  have kb : Blk W g 38 cs := by rw [← hW]; exact (hb.alloc _).drew
  have kc : Blk W w.heap.size 52 (instC 4 a b c n) := by rw [← hW]; exact (Blk.new w _ _).drew
  have jF : Fr g g none w W := by rw [← hW]; exact ((Fr.refl _ _ _ w).alloc _).drew
  have h1 : W.cell? ⟨g, 2 + a, none⟩ = some (.int .i64 x) := kb.get hca
  have k1 : W.cell? ⟨w.heap.size, 1, none⟩ = some (.int .i64 a) := kc.get (i := 1) rfl
  have k4 : W.cell? ⟨w.heap.size, 4, none⟩ = some (.int .i64 n) := kc.get (i := 4) rfl
  have hf : W.frozen? ⟨g, 2 + a, none⟩ = false := kb.frozen _
  have a1 : (a : Int) < 16 := by omega
  clear hW kc hb
  simp only [List.take_succ_cons, List.take_zero, List.drop_succ_cons, List.drop_zero]
  repeat still_step
  refine wpStill_nil ?_
  go_wp2
  first | go_end0 | refine bodyPost_ret (results_none rfl _ _ _) rfl ?_
  exact ⟨rfl, kb.set_ _ _, jF.set_ (.inl rfl) _⟩

set_option maxRecDepth 100000 in
set_option maxHeartbeats 1600000 in
theorem rp_load (w : World) (g : Nat) (cs : Array Value) (hb : Blk w g 38 cs) (a b c : Nat) (n : Int) (x y : Int) (hb2 : b < 16) (ha : a < 16) (hcb : cs[2 + b]? = some (.int .i64 x)) (va : Value) (hca : cs[2 + a]? = some va) (mb m m2 k : Nat) (ms : Array Value) (hm : Blk w mb 2 ms) (hcm : cs[1]? = some (.slice (some ⟨mb, 0, none⟩) m m2)) (hk : k < m) (hmk : ms[k]? = some (.int .i64 y)) (hsum : wrap64 (x + n) = (k : Int)) :
    Calls Try.prog 38 #[.pointer (some ⟨g, 0, none⟩), .agg #[.int .i64 5, .int .i64 a, .int .i64 b, .int .i64 c, .int .i64 n]] w fun e w' => e = .returned (.tuple #[]) ∧ Blk w' g 38 (cs.setIfInBounds (2 + a) (.int .i64 y)) ∧ Blk w' mb 2 (ms) ∧ Fr g mb none w w' := by
  have hlt := hb.lt
  have hgm : g ≠ mb := hb.ne_ hm (by decide)
  have hmg := hgm.symm
  go_enter Try.func38, Try.ntmps38
  go_wp2
  refine st_tail 11 (by kernel_rfl) (by kernel_rfl) ?_
  intro W hW
  have kb : Blk W g 38 cs := by rw [← hW]; exact (hb.alloc _).drew
  have kc : Blk W w.heap.size 52 (instC 5 a b c n) := by rw [← hW]; exact (Blk.new w _ _).drew
  have jF : Fr g mb none w W := by rw [← hW]; exact ((Fr.refl _ _ _ w).alloc _).drew
  have h1 : W.cell? ⟨g, 2 + b, none⟩ = some (.int .i64 x) := kb.get hcb
  have k2 : W.cell? ⟨w.heap.size, 2, none⟩ = some (.int .i64 b) := kc.get (i := 2) rfl
  have k4 : W.cell? ⟨w.heap.size, 4, none⟩ = some (.int .i64 n) := kc.get (i := 4) rfl
  have km : Blk W mb 2 ms := by rw [← hW]; exact (hm.alloc _).drew
  have hk2 : (k : Int) < (m : Int) := by omega
  have b1 : (b : Int) < 16 := by omega
  clear hW
  have s1 := (wrap_is _).trans hsum
  clear hsum
  simp only [List.take_succ_cons, List.take_zero, List.drop_succ_cons, List.drop_zero]
  repeat still_step
  refine wpStill_nil ?_
  go_wp2_with (go_at_call 61; refine (rcell_in W g mb m cs kb k m2 hcm hk).mono ?_; rintro e w' ⟨rfl, rfl⟩)
  clear h1 k2 k4 s1
  refine st_tail 13 (by kernel_rfl) (by kernel_rfl) ?_
  intro U hU
  have ub : Blk U g 38 cs := by rw [← hU]; exact kb.drew
  have uc : Blk U w.heap.size 52 (instC 5 a b c n) := by rw [← hU]; exact kc.drew
  have um : Blk U mb 2 ms := by rw [← hU]; exact km.drew
  have uF : Fr g mb none w U := by rw [← hU]; exact jF.drew
  have u1 : U.cell? ⟨g, 1, none⟩ = some (.slice (some ⟨mb, 0, none⟩) m m2) := ub.get hcm
  have u2 : U.cell? ⟨g, 2 + a, none⟩ = some (va) := ub.get hca
  have c1 : U.cell? ⟨w.heap.size, 1, none⟩ = some (.int .i64 a) := uc.get (i := 1) rfl
  have um1 : U.cell? ⟨mb, k, none⟩ = some (.int .i64 y) := um.get hmk
  have uf : U.frozen? ⟨g, 2 + a, none⟩ = false := ub.frozen _
  clear hU kb kc km jF
  have a1 : (a : Int) < 16 := by omega
  simp only [List.take_succ_cons, List.take_zero, List.drop_succ_cons, List.drop_zero]
  repeat still_step
  refine wpStill_nil ?_
  go_wp2
  first | go_end0 | refine bodyPost_ret (results_none rfl _ _ _) rfl ?_
  exact ⟨rfl, ub.set_ _ _, um.far (p := ⟨g, 2 + a, none⟩) hmg _, uF.set_ (.inl rfl) _⟩

set_option maxRecDepth 100000 in
set_option maxHeartbeats 1600000 in
theorem rp_load_out (w : World) (g : Nat) (cs : Array Value) (hb : Blk w g 38 cs) (a b c : Nat) (n : Int) (x : Int) (hb2 : b < 16) (hcb : cs[2 + b]? = some (.int .i64 x)) (A : Option Addr) (m m2 : Nat) (hcm : cs[1]? = some (.slice A m m2)) (k : Int) (hk : k < 0 ∨ (m : Int) ≤ k) (hsum : wrap64 (x + n) = k) (v : Value) (hv : cs[21]? = some v) :
    Calls Try.prog 38 #[.pointer (some ⟨g, 0, none⟩), .agg #[.int .i64 5, .int .i64 a, .int .i64 b, .int .i64 c, .int .i64 n]] w fun e w' => e = .returned (.tuple #[]) ∧ Blk w' g 38 (cs.setIfInBounds 21 (.int .i64 5)) ∧ Fr g g none w w' := by
  have hlt := hb.lt
  go_enter Try.func38, Try.ntmps38
  go_wp2
  refine st_tail 11 (by kernel_rfl) (by kernel_rfl) ?_
  intro W hW
  have kb : Blk W g 38 cs := by rw [← hW]; exact (hb.alloc _).drew
  have kc : Blk W w.heap.size 52 (instC 5 a b c n) := by rw [← hW]; exact (Blk.new w _ _).drew
  have jF : Fr g g none w W := by rw [← hW]; exact ((Fr.refl _ _ _ w).alloc _).drew
  have h1 : W.cell? ⟨g, 2 + b, none⟩ = some (.int .i64 x) := kb.get hcb
  have k2 : W.cell? ⟨w.heap.size, 2, none⟩ = some (.int .i64 b) := kc.get (i := 2) rfl
  have k4 : W.cell? ⟨w.heap.size, 4, none⟩ = some (.int .i64 n) := kc.get (i := 4) rfl
  have b1 : (b : Int) < 16 := by omega
  clear hW kc hb
  have s1 := (wrap_is _).trans hsum
  clear hsum
  simp only [List.take_succ_cons, List.take_zero, List.drop_succ_cons, List.drop_zero]
  repeat still_step
  refine wpStill_nil ?_
  go_wp2_with (go_at_call 61; refine (rcell_out W g m cs kb A m2 hcm k hk v hv).mono ?_; rintro e w' ⟨rfl, rfl⟩)
  first | go_end0 | refine bodyPost_ret (results_none rfl _ _ _) rfl ?_
  exact ⟨rfl, kb.set_ _ _, jF.set_ (.inl rfl) _⟩

set_option maxRecDepth 100000 in
set_option maxHeartbeats 1600000 in
theorem rp_store (w : World) (g : Nat) (cs : Array Value) (hb : Blk w g 38 cs) (a b c : Nat) (n : Int) (x y : Int) (hb2 : b < 16) (ha : a < 16) (hcb : cs[2 + b]? = some (.int .i64 x)) (vm : Value) (hca : cs[2 + a]? = some (.int .i64 y)) (mb m m2 k : Nat) (ms : Array Value) (hm : Blk w mb 2 ms) (hcm : cs[1]? = some (.slice (some ⟨mb, 0, none⟩) m m2)) (hk : k < m) (hmk : ms[k]? = some vm) (hsum : wrap64 (x + n) = (k : Int)) :
    Calls Try.prog 38 #[.pointer (some ⟨g, 0, none⟩), .agg #[.int .i64 6, .int .i64 a, .int .i64 b, .int .i64 c, .int .i64 n]] w fun e w' => e = .returned (.tuple #[]) ∧ Blk w' g 38 (cs) ∧ Blk w' mb 2 (ms.setIfInBounds k (.int .i64 y)) ∧ Fr g mb none w w' := by
  have hlt := hb.lt
  have hgm : g ≠ mb := hb.ne_ hm (by decide)
  have hmg := hgm.symm
  go_enter Try.func38, Try.ntmps38
  go_wp2
  refine st_tail 11 (by kernel_rfl) (by kernel_rfl) ?_
  intro W hW
  have kb : Blk W g 38 cs := by rw [← hW]; exact (hb.alloc _).drew
  have kc : Blk W w.heap.size 52 (instC 6 a b c n) := by rw [← hW]; exact (Blk.new w _ _).drew
  have jF : Fr g mb none w W := by rw [← hW]; exact ((Fr.refl _ _ _ w).alloc _).drew
  have h1 : W.cell? ⟨g, 2 + b, none⟩ = some (.int .i64 x) := kb.get hcb
  have k2 : W.cell? ⟨w.heap.size, 2, none⟩ = some (.int .i64 b) := kc.get (i := 2) rfl
  have k4 : W.cell? ⟨w.heap.size, 4, none⟩ = some (.int .i64 n) := kc.get (i := 4) rfl
  have km : Blk W mb 2 ms := by rw [← hW]; exact (hm.alloc _).drew
  have hk2 : (k : Int) < (m : Int) := by omega
  have b1 : (b : Int) < 16 := by omega
  clear hW
  have s1 := (wrap_is _).trans hsum
  clear hsum
  simp only [List.take_succ_cons, List.take_zero, List.drop_succ_cons, List.drop_zero]
  repeat still_step
  refine wpStill_nil ?_
  go_wp2_with (go_at_call 61; refine (rcell_in W g mb m cs kb k m2 hcm hk).mono ?_; rintro e w' ⟨rfl, rfl⟩)
  clear h1 k2 k4 s1
  refine st_tail 13 (by kernel_rfl) (by kernel_rfl) ?_
  intro U hU
  have ub : Blk U g 38 cs := by rw [← hU]; exact kb.drew
  have uc : Blk U w.heap.size 52 (instC 6 a b c n) := by rw [← hU]; exact kc.drew
  have um : Blk U mb 2 ms := by rw [← hU]; exact km.drew
  have uF : Fr g mb none w U := by rw [← hU]; exact jF.drew
  have u1 : U.cell? ⟨g, 1, none⟩ = some (.slice (some ⟨mb, 0, none⟩) m m2) := ub.get hcm
  have u2 : U.cell? ⟨g, 2 + a, none⟩ = some (.int .i64 y) := ub.get hca
  have c1 : U.cell? ⟨w.heap.size, 1, none⟩ = some (.int .i64 a) := uc.get (i := 1) rfl
  have um1 : U.cell? ⟨mb, k, none⟩ = some (vm) := um.get hmk
  have umf : U.frozen? ⟨mb, k, none⟩ = false := um.frozen _
  clear hU kb kc km jF
  have a1 : (a : Int) < 16 := by omega
  simp only [List.take_succ_cons, List.take_zero, List.drop_succ_cons, List.drop_zero]
  repeat still_step
  refine wpStill_nil ?_
  go_wp2
  first | go_end0 | refine bodyPost_ret (results_none rfl _ _ _) rfl ?_
  exact ⟨rfl, ub.far (p := ⟨mb, k, none⟩) hgm _, um.set_ k _, uF.set_ (.inr (.inl rfl)) _⟩

set_option maxRecDepth 100000 in
set_option maxHeartbeats 1600000 in
theorem rp_store_out (w : World) (g : Nat) (cs : Array Value) (hb : Blk w g 38 cs) (a b c : Nat) (n : Int) (x : Int) (hb2 : b < 16) (hcb : cs[2 + b]? = some (.int .i64 x)) (A : Option Addr) (m m2 : Nat) (hcm : cs[1]? = some (.slice A m m2)) (k : Int) (hk : k < 0 ∨ (m : Int) ≤ k) (hsum : wrap64 (x + n) = k) (v : Value) (hv : cs[21]? = some v) :
    Calls Try.prog 38 #[.pointer (some ⟨g, 0, none⟩), .agg #[.int .i64 6, .int .i64 a, .int .i64 b, .int .i64 c, .int .i64 n]] w fun e w' => e = .returned (.tuple #[]) ∧ Blk w' g 38 (cs.setIfInBounds 21 (.int .i64 5)) ∧ Fr g g none w w' := by
  have hlt := hb.lt
  go_enter Try.func38, Try.ntmps38
  go_wp2
  refine st_tail 11 (by kernel_rfl) (by kernel_rfl) ?_
  intro W hW
  have kb : Blk W g 38 cs := by rw [← hW]; exact (hb.alloc _).drew
  have kc : Blk W w.heap.size 52 (instC 6 a b c n) := by rw [← hW]; exact (Blk.new w _ _).drew
  have jF : Fr g g none w W := by rw [← hW]; exact ((Fr.refl _ _ _ w).alloc _).drew
  have h1 : W.cell? ⟨g, 2 + b, none⟩ = some (.int .i64 x) := kb.get hcb
  have k2 : W.cell? ⟨w.heap.size, 2, none⟩ = some (.int .i64 b) := kc.get (i := 2) rfl
  have k4 : W.cell? ⟨w.heap.size, 4, none⟩ = some (.int .i64 n) := kc.get (i := 4) rfl
  have b1 : (b : Int) < 16 := by omega
  clear hW kc hb
  have s1 := (wrap_is _).trans hsum
  clear hsum
  simp only [List.take_succ_cons, List.take_zero, List.drop_succ_cons, List.drop_zero]
  repeat still_step
  refine wpStill_nil ?_
  go_wp2_with (go_at_call 61; refine (rcell_out W g m cs kb A m2 hcm k hk v hv).mono ?_; rintro e w' ⟨rfl, rfl⟩)
  first | go_end0 | refine bodyPost_ret (results_none rfl _ _ _) rfl ?_
  exact ⟨rfl, kb.set_ _ _, jF.set_ (.inl rfl) _⟩

set_option maxRecDepth 100000 in
set_option maxHeartbeats 1600000 in
theorem rp_jump (w : World) (g : Nat) (cs : Array Value) (hb : Blk w g 38 cs) (a b c : Nat) (n : Int) (p : Int) (hcp : cs[18]? = some (.int .i64 p)) :
    Calls Try.prog 38 #[.pointer (some ⟨g, 0, none⟩), .agg #[.int .i64 7, .int .i64 a, .int .i64 b, .int .i64 c, .int .i64 n]] w fun e w' => e = .returned (.tuple #[]) ∧ Blk w' g 38 (cs.setIfInBounds 18 (.int .i64 (wrap64 (p + n)))) ∧ Fr g g none w w' := by
  have hlt := hb.lt
  go_enter Try.func38, Try.ntmps38
  go_wp2
  refine st_tail 10 (by kernel_rfl) (by kernel_rfl) ?_
  intro W hW
  have kb : Blk W g 38 cs := by rw [← hW]; exact (hb.alloc _).drew
  have kc : Blk W w.heap.size 52 (instC 7 a b c n) := by rw [← hW]; exact (Blk.new w _ _).drew
  have jF : Fr g g none w W := by rw [← hW]; exact ((Fr.refl _ _ _ w).alloc _).drew
  have h1 : W.cell? ⟨g, 18, none⟩ = some (.int .i64 p) := kb.get hcp
  have k4 : W.cell? ⟨w.heap.size, 4, none⟩ = some (.int .i64 n) := kc.get (i := 4) rfl
  have hf : W.frozen? ⟨g, 18, none⟩ = false := kb.frozen _
  clear hW kc hb
  simp only [List.take_succ_cons, List.take_zero, List.drop_succ_cons, List.drop_zero]
  repeat still_step
  refine wpStill_nil ?_
  go_wp2
  first | go_end0 | refine bodyPost_ret (results_none rfl _ _ _) rfl ?_
  exact ⟨rfl, kb.set_ _ _, jF.set_ (.inl rfl) _⟩

set_option maxRecDepth 100000 in
set_option maxHeartbeats 1600000 in
theorem rp_zero_yes (w : World) (g : Nat) (cs : Array Value) (hb : Blk w g 38 cs) (a b c : Nat) (n : Int) (x p : Int) (ha : a < 16) (hca : cs[2 + a]? = some (.int .i64 x)) (hcp : cs[18]? = some (.int .i64 p)) (hx : (x == 0) = true) :
    Calls Try.prog 38 #[.pointer (some ⟨g, 0, none⟩), .agg #[.int .i64 8, .int .i64 a, .int .i64 b, .int .i64 c, .int .i64 n]] w fun e w' => e = .returned (.tuple #[]) ∧ Blk w' g 38 (cs.setIfInBounds 18 (.int .i64 (wrap64 (p + n)))) ∧ Fr g g none w w' := by
  have hlt := hb.lt
  go_enter Try.func38, Try.ntmps38
  go_wp2
  refine st_all (by kernel_rfl) (by kernel_rfl) ?_
  intro W hW
  have kb : Blk W g 38 cs := by rw [← hW]; exact (hb.alloc _).drew
  have kc : Blk W w.heap.size 52 (instC 8 a b c n) := by rw [← hW]; exact (Blk.new w _ _).drew
  have jF : Fr g g none w W := by rw [← hW]; exact ((Fr.refl _ _ _ w).alloc _).drew
  have h1 : W.cell? ⟨g, 2 + a, none⟩ = some (.int .i64 x) := kb.get hca
  have k1 : W.cell? ⟨w.heap.size, 1, none⟩ = some (.int .i64 a) := kc.get (i := 1) rfl
  have a1 : (a : Int) < 16 := by omega
  clear hW
  repeat still_step
  refine wpStill_nil ?_
  clear h1 k1
  go_wp2
  refine st_tail 10 (by kernel_rfl) (by kernel_rfl) ?_
  intro U hU
  have ub : Blk U g 38 cs := by rw [← hU]; exact kb.drew
  have uF : Fr g g none w U := by rw [← hU]; exact jF.drew
  have u1 : U.cell? ⟨g, 18, none⟩ = some (.int .i64 p) := ub.get hcp
  have u2 : U.frozen? ⟨g, 18, none⟩ = false := ub.frozen _
  have u4 : U.cell? ⟨w.heap.size, 4, none⟩ = some (.int .i64 n) := by rw [← hU]; exact kc.drew.get (i := 4) rfl
  clear hU kb kc jF hb
  simp only [List.take_succ_cons, List.take_zero, List.drop_succ_cons, List.drop_zero]
  repeat still_step
  refine wpStill_nil ?_
  go_wp2
  first | go_end0 | refine bodyPost_ret (results_none rfl _ _ _) rfl ?_
  exact ⟨rfl, ub.set_ _ _, uF.set_ (.inl rfl) _⟩

set_option maxRecDepth 100000 in
set_option maxHeartbeats 1600000 in
theorem rp_zero_no (w : World) (g : Nat) (cs : Array Value) (hb : Blk w g 38 cs) (a b c : Nat) (n : Int) (x : Int) (ha : a < 16) (hca : cs[2 + a]? = some (.int .i64 x)) (hx : (x == 0) = false) :
    Calls Try.prog 38 #[.pointer (some ⟨g, 0, none⟩), .agg #[.int .i64 8, .int .i64 a, .int .i64 b, .int .i64 c, .int .i64 n]] w fun e w' => e = .returned (.tuple #[]) ∧ Blk w' g 38 (cs) ∧ Fr g g none w w' := by
  have hlt := hb.lt
  go_enter Try.func38, Try.ntmps38
  go_wp2
  refine st_all (by kernel_rfl) (by kernel_rfl) ?_
  intro W hW
  have kb : Blk W g 38 cs := by rw [← hW]; exact (hb.alloc _).drew
  have kc : Blk W w.heap.size 52 (instC 8 a b c n) := by rw [← hW]; exact (Blk.new w _ _).drew
  have jF : Fr g g none w W := by rw [← hW]; exact ((Fr.refl _ _ _ w).alloc _).drew
  have h1 : W.cell? ⟨g, 2 + a, none⟩ = some (.int .i64 x) := kb.get hca
  have k1 : W.cell? ⟨w.heap.size, 1, none⟩ = some (.int .i64 a) := kc.get (i := 1) rfl
  have a1 : (a : Int) < 16 := by omega
  clear hW kc
  repeat still_step
  refine wpStill_nil ?_
  clear h1 k1
  go_wp2
  first | go_end0 | refine bodyPost_ret (results_none rfl _ _ _) rfl ?_
  exact ⟨rfl, kb, jF⟩

set_option maxRecDepth 100000 in
set_option maxHeartbeats 1600000 in
theorem rp_some_yes (w : World) (g : Nat) (cs : Array Value) (hb : Blk w g 38 cs) (a b c : Nat) (n : Int) (x p : Int) (ha : a < 16) (hca : cs[2 + a]? = some (.int .i64 x)) (hcp : cs[18]? = some (.int .i64 p)) (hx : (x != 0) = true) :
    Calls Try.prog 38 #[.pointer (some ⟨g, 0, none⟩), .agg #[.int .i64 9, .int .i64 a, .int .i64 b, .int .i64 c, .int .i64 n]] w fun e w' => e = .returned (.tuple #[]) ∧ Blk w' g 38 (cs.setIfInBounds 18 (.int .i64 (wrap64 (p + n)))) ∧ Fr g g none w w' := by
  have hlt := hb.lt
  go_enter Try.func38, Try.ntmps38
  go_wp2
  refine st_all (by kernel_rfl) (by kernel_rfl) ?_
  intro W hW
  have kb : Blk W g 38 cs := by rw [← hW]; exact (hb.alloc _).drew
  have kc : Blk W w.heap.size 52 (instC 9 a b c n) := by rw [← hW]; exact (Blk.new w _ _).drew
  have jF : Fr g g none w W := by rw [← hW]; exact ((Fr.refl _ _ _ w).alloc _).drew
  have h1 : W.cell? ⟨g, 2 + a, none⟩ = some (.int .i64 x) := kb.get hca
  have k1 : W.cell? ⟨w.heap.size, 1, none⟩ = some (.int .i64 a) := kc.get (i := 1) rfl
  have a1 : (a : Int) < 16 := by omega
  clear hW
  repeat still_step
  refine wpStill_nil ?_
  clear h1 k1
  go_wp2
  refine st_tail 10 (by kernel_rfl) (by kernel_rfl) ?_
  intro U hU
  have ub : Blk U g 38 cs := by rw [← hU]; exact kb.drew
  have uF : Fr g g none w U := by rw [← hU]; exact jF.drew
  have u1 : U.cell? ⟨g, 18, none⟩ = some (.int .i64 p) := ub.get hcp
  have u2 : U.frozen? ⟨g, 18, none⟩ = false := ub.frozen _
  have u4 : U.cell? ⟨w.heap.size, 4, none⟩ = some (.int .i64 n) := by rw [← hU]; exact kc.drew.get (i := 4) rfl
  clear hU kb kc jF hb
  simp only [List.take_succ_cons, List.take_zero, List.drop_succ_cons, List.drop_zero]
  repeat still_step
  refine wpStill_nil ?_
  go_wp2
  first | go_end0 | refine bodyPost_ret (results_none rfl _ _ _) rfl ?_
  exact ⟨rfl, ub.set_ _ _, uF.set_ (.inl rfl) _⟩

set_option maxRecDepth 100000 in
set_option maxHeartbeats 1600000 in
theorem rp_some_no (w : World) (g : Nat) (cs : Array Value) (hb : Blk w g 38 cs) (a b c : Nat) (n : Int) (x : Int) (ha : a < 16) (hca : cs[2 + a]? = some (.int .i64 x)) (hx : (x != 0) = false) :
    Calls Try.prog 38 #[.pointer (some ⟨g, 0, none⟩), .agg #[.int .i64 9, .int .i64 a, .int .i64 b, .int .i64 c, .int .i64 n]] w fun e w' => e = .returned (.tuple #[]) ∧ Blk w' g 38 (cs) ∧ Fr g g none w w' := by
  have hlt := hb.lt
  go_enter Try.func38, Try.ntmps38
  go_wp2
  refine st_all (by kernel_rfl) (by kernel_rfl) ?_
  intro W hW
  have kb : Blk W g 38 cs := by rw [← hW]; exact (hb.alloc _).drew
  have kc : Blk W w.heap.size 52 (instC 9 a b c n) := by rw [← hW]; exact (Blk.new w _ _).drew
  have jF : Fr g g none w W := by rw [← hW]; exact ((Fr.refl _ _ _ w).alloc _).drew
  have h1 : W.cell? ⟨g, 2 + a, none⟩ = some (.int .i64 x) := kb.get hca
  have k1 : W.cell? ⟨w.heap.size, 1, none⟩ = some (.int .i64 a) := kc.get (i := 1) rfl
  have a1 : (a : Int) < 16 := by omega
  clear hW kc
  repeat still_step
  refine wpStill_nil ?_
  clear h1 k1
  go_wp2
  first | go_end0 | refine bodyPost_ret (results_none rfl _ _ _) rfl ?_
  exact ⟨rfl, kb, jF⟩

end Go.Proofs.Ytikgghioneiegaa
