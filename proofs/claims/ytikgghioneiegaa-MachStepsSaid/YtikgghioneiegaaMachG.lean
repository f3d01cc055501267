/-
  Bytes written; what a machine tells of its place, registers and words: walks.
-/
import Derived.Test.YtikgghioneiegaaMachC
import Derived.Deep.RegionHeld3
import Derived.Deep.RegionLaw
import Derived.WalkSpells
import Derived.Laws.Pointers
import Derived.KernelRfl
namespace Go.Proofs.Ytikgghioneiegaa
open Go.RowKit
set_option linter.unusedVariables false

theorem byte_info' : (Try.prog.info? 5).map (fun i => (i.zero, i.size, i.bytes)) = some (some (.int .u8 0), 1, 1) := by kernel_rfl

theorem pc_any (w : World) (g : Nat) (cs : Array Value) (hb : Blk w g 62 cs) (p : Int) (hcp : cs[2]? = some (.int .i64 p)) :
    Calls Try.prog 20 #[.pointer (some ⟨g, 0, none⟩)] w fun e w' => e = .returned (.int .i64 p) ∧ w = w' := by
  have q : w.cell? ⟨g, 2, none⟩ = some (.int .i64 p) := hb.get hcp
  clear hb hcp
  go_enter Try.func20, Try.ntmps20
  go_wp2
  go_ret
  exact ⟨rfl, rfl⟩
theorem pc_nil (w : World) : Calls Try.prog 20 #[.pointer none] w fun e w' => e = .returned (.int .i64 0) ∧ w = w' := by
  go_enter Try.func20, Try.ntmps20
  go_wp2
  go_ret
  exact ⟨rfl, rfl⟩
theorem reg_in (w : World) (g : Nat) (cs : Array Value) (hb : Blk w g 62 cs) (a : Nat) (ha : a < 16) (x : Int) (hca : cs[3 + a]? = some (.int .i64 x)) :
    Calls Try.prog 21 #[.pointer (some ⟨g, 0, none⟩), .int .i64 (a : Int)] w fun e w' => e = .returned (.int .i64 x) ∧ w = w' := by
  have q : w.cell? ⟨g, 3 + a, none⟩ = some (.int .i64 x) := hb.get hca
  have a1 : (a : Int) < 16 := by omega
  have d1 : decide ((a : Int) < 0) = false := by simp
  have d2 : decide (16 ≤ (a : Int)) = false := by simp; omega
  clear hb hca
  go_enter Try.func21, Try.ntmps21
  go_wp2
  go_ret
  exact ⟨rfl, rfl⟩
theorem reg_neg (w : World) (g : Nat) (a : Int) (ha : a < 0) :
    Calls Try.prog 21 #[.pointer (some ⟨g, 0, none⟩), .int .i64 a] w fun e w' => e = .returned (.int .i64 0) ∧ w = w' := by
  have d1 : decide (a < 0) = true := by simpa using ha
  go_enter Try.func21, Try.ntmps21
  go_wp2
  go_ret
  exact ⟨rfl, rfl⟩
theorem reg_far (w : World) (g : Nat) (a : Int) (ha : 16 ≤ a) :
    Calls Try.prog 21 #[.pointer (some ⟨g, 0, none⟩), .int .i64 a] w fun e w' => e = .returned (.int .i64 0) ∧ w = w' := by
  have d1 : decide (a < 0) = false := by simp; omega
  have d2 : decide (16 ≤ a) = true := by simpa using ha
  go_enter Try.func21, Try.ntmps21
  go_wp2
  go_ret
  exact ⟨rfl, rfl⟩
theorem reg_nil (a : Int) (w : World) : Calls Try.prog 21 #[.pointer none, .int .i64 a] w fun e w' => e = .returned (.int .i64 0) ∧ w = w' := by
  go_enter Try.func21, Try.ntmps21
  go_wp2
  go_ret
  exact ⟨rfl, rfl⟩
theorem mem_in (w : World) (g : Nat) (cs : Array Value) (hb : Blk w g 62 cs) (mb m m2 k : Nat) (ms : Array Value) (hm : Blk w mb 2 ms) (hcm : cs[19]? = some (.slice (some ⟨mb, 0, none⟩) m m2)) (hk : k < m) (x : Int) (hmk : ms[k]? = some (.int .i64 x)) :
    Calls Try.prog 25 #[.pointer (some ⟨g, 0, none⟩), .int .i64 (k : Int)] w fun e w' => e = .returned (.int .i64 x) ∧ w = w' := by
  have q : w.cell? ⟨g, 19, none⟩ = some (.slice (some ⟨mb, 0, none⟩) m m2) := hb.get hcm
  have q2 : w.cell? ⟨mb, k, none⟩ = some (.int .i64 x) := hm.get hmk
  have d1 : decide ((k : Int) < 0) = false := by simp
  have d2 : decide (m ≤ k) = false := by simp; omega
  have d3 : (k : Int) < (m : Int) := by omega
  clear hb hcm hm hmk
  go_enter Try.func25, Try.ntmps25
  go_wp2
  go_ret
  exact ⟨rfl, rfl⟩
theorem mem_neg (w : World) (g : Nat) (a : Int) (ha : a < 0) :
    Calls Try.prog 25 #[.pointer (some ⟨g, 0, none⟩), .int .i64 a] w fun e w' => e = .returned (.int .i64 0) ∧ w = w' := by
  have d1 : decide (a < 0) = true := by simpa using ha
  go_enter Try.func25, Try.ntmps25
  go_wp2
  go_ret
  exact ⟨rfl, rfl⟩
theorem mem_far (w : World) (g : Nat) (cs : Array Value) (hb : Blk w g 62 cs) (A : Option Addr) (m m2 k : Nat) (hcm : cs[19]? = some (.slice A m m2)) (hk : m ≤ k) :
    Calls Try.prog 25 #[.pointer (some ⟨g, 0, none⟩), .int .i64 (k : Int)] w fun e w' => e = .returned (.int .i64 0) ∧ w = w' := by
  have q : w.cell? ⟨g, 19, none⟩ = some (.slice A m m2) := hb.get hcm
  have d1 : decide ((k : Int) < 0) = false := by simp
  have d2 : decide (m ≤ k) = true := by simp; omega
  clear hb hcm
  go_enter Try.func25, Try.ntmps25
  go_wp2
  go_ret
  exact ⟨rfl, rfl⟩
theorem mem_nil (a : Int) (w : World) : Calls Try.prog 25 #[.pointer none, .int .i64 a] w fun e w' => e = .returned (.int .i64 0) ∧ w = w' := by
  go_enter Try.func25, Try.ntmps25
  go_wp2
  go_ret
  exact ⟨rfl, rfl⟩
theorem step_nil (w : World) : Calls Try.prog 23 #[.pointer none] w fun e w' => e = .returned (.bool false) ∧ Below w.heap.size w w' := by
  go_enter_defers Try.func23, Try.ntmps23
  go_wp2
  exact ⟨_, results_tmp rfl _ _ _, rfl, (Below.refl _ w).alloc (Nat.le_refl _) _⟩
theorem outcome_nil (w : World) : Calls Try.prog 22 #[.pointer none] w fun e w' => e = .returned (.agg #[.int .i64 0, .int .i64 0, .slice none 0 0, .int .i64 0]) ∧ Below w.heap.size w w' := by
  go_enter Try.func22, Try.ntmps22
  go_wp2
  exact bodyPost_ret (v := .agg #[.int .i64 0, .int .i64 0, .slice none 0 0, .int .i64 0]) (by simp [results, Try.results22, go_sem]) rfl ⟨rfl, (Below.refl _ w).alloc (Nat.le_refl _) _⟩
end Go.Proofs.Ytikgghioneiegaa
