/-
  A step that gives up is caught: the deferred literal's walks.
-/
import Derived.Test.YtikgghioneiegaaMachT
import Derived.Defers
import Derived.Recover
namespace Go.Proofs.Ytikgghioneiegaa
open Go.RowKit
set_option linter.unusedVariables false

theorem caught_idle (p : Addr) (w : World) :
    CallsD Try.prog 33 #[.pointer (some p)] .returning w fun e u' w' => e = .returned (.tuple #[]) ∧ u' = .returning ∧ w' = w := by
  refine callsD_of_wpS Try.func33 rfl fun c₀ cs hu => ?_
  apply wpS_seq
  apply wpS_region
  simp [wpOpsS, go_sem, recoverD, hu, Try.ntmps33, Exit.thenS]
  refine wpS_of_wp ?_
  go_wp2
  cases c₀
  simp_all [bodyPostS, results, Try.results33]
theorem caught (b : Nat) (g : Nat) (k c : Int) (cs0 : Array Value) (w : World) (hp : w.cell? ⟨b, 0, none⟩ = some (.pointer (some ⟨g, 0, none⟩))) (hb : Blk w g 62 cs0) (v1 v2 : Value) (h1 : cs0[22]? = some v1) (h2 : cs0[23]? = some v2) :
    CallsD Try.prog 33 #[.pointer (some ⟨b, 0, none⟩)] (.panicking [{ v := .iface 60 (.agg #[.int .i64 k, .int .i64 c]), recovered := false }]) w fun e u' w' => e = .returned (.tuple #[]) ∧
      u' = .panicking [{ v := .iface 60 (.agg #[.int .i64 k, .int .i64 c]), recovered := true }] ∧ w' = (w.drew.setCell ⟨g, 22, none⟩ (.int .i64 k)).setCell ⟨g, 23, none⟩ (.int .i64 c) := by
  have hta : ∀ (v : Value) (w : World), (Instr.typeAssert (.iface 60 v) 20 60 false).run Try.prog w = .ok v w := fun v w => by kernel_rfl
  refine callsD_of_wpS Try.func33 rfl fun c₀ cs hu => ?_
  apply wpS_seq
  apply wpS_region
  simp [wpOpsS, go_sem, recoverD, hu, Try.ntmps33, Exit.thenS]
  refine wpS_of_wp ?_
  have hA : ∀ v : Value, #[Value.pointer (some ⟨b, 0, none⟩)] ++ ((Array.replicate 9 undef).setIfInBounds 1 v).setIfInBounds 0 v = #[.pointer (some ⟨b, 0, none⟩), v, v, undef, undef, undef, undef, undef, undef, undef] := fun _ => rfl
  rw [hA]
  clear hA
  go_wp2
  refine st_tail 3 (by kernel_rfl) (by kernel_rfl) ?_
  intro W hW
  have kb : Blk W g 62 cs0 := by rw [← hW]; exact hb
  have q0 : W.cell? ⟨b, 0, none⟩ = some (.pointer (some ⟨g, 0, none⟩)) := by rw [← hW]; exact hp
  have q1 : W.cell? ⟨g, 22, none⟩ = some v1 := kb.get h1
  have q2 : W.cell? ⟨g, 23, none⟩ = some v2 := kb.get h2
  have f1 : W.frozen? ⟨g, 22, none⟩ = false := kb.frozen _
  have f2 : W.frozen? ⟨g, 23, none⟩ = false := kb.frozen _
  have HW := Lib.hid hW
  clear hW hp hb h1 h2 kb
  simp only [List.take_succ_cons, List.take_zero, List.drop_succ_cons, List.drop_zero]
  repeat still_step
  refine wpStill_nil ?_
  go_wp2
  exact ⟨rfl, _, rfl, .tuple #[], by simp [results, Try.results33], rfl, rfl, by rw [← HW.out]; rfl⟩
end Go.Proofs.Ytikgghioneiegaa
