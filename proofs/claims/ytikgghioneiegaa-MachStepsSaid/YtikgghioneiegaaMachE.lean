/-
  The instruction at the place, and what a machine tells: walks.
-/
import Derived.Test.YtikgghioneiegaaMachC
namespace Go.Proofs.Ytikgghioneiegaa
open Go.RowKit
set_option linter.unusedVariables false


theorem fetch_neg (w : World) (g : Nat) (cs : Array Value) (hb : Blk w g 62 cs) (p : Int) (hcp : cs[2]? = some (.int .i64 p)) (A : Option Addr) (N N2 : Nat) (hcc : cs[0]? = some (.slice A N N2)) (hp : decide (p < 0) = true) :
    Calls Try.prog 34 #[.pointer (some ⟨g, 0, none⟩)] w fun e w' => e = .panicked [{ v := .iface 60 (.agg #[.int .i64 5, .int .i64 0]), recovered := false }] ∧ Below w.heap.size w w' := by
  have hlt := hb.lt
  go_enter Try.func34, Try.ntmps34
  go_wp2
  generalize hW : World.alloc _ _ = W
  have kb : Blk W g 62 cs := by rw [← hW]; exact hb.alloc _
  have hB : Below w.heap.size w W := by rw [← hW]; exact (Below.refl _ w).alloc (Nat.le_refl _) _
  have h1 : W.cell? ⟨g, 2, none⟩ = some (.int .i64 p) := kb.get hcp
  have h2 : W.cell? ⟨g, 0, none⟩ = some (.slice A N N2) := kb.get hcc
  clear hW kb hb
  go_quiet (fail)
  go_wp2
  exact ⟨rfl, rfl, ⟨hB.os, hB.tape, hB.output, hB.size, hB.block⟩⟩

theorem fetch_far (w : World) (g : Nat) (cs : Array Value) (hb : Blk w g 62 cs) (p : Int) (hcp : cs[2]? = some (.int .i64 p)) (A : Option Addr) (N N2 : Nat) (hcc : cs[0]? = some (.slice A N N2)) (hp : decide (p < 0) = false) (hp2 : decide ((N : Int) ≤ p) = true) :
    Calls Try.prog 34 #[.pointer (some ⟨g, 0, none⟩)] w fun e w' => e = .panicked [{ v := .iface 60 (.agg #[.int .i64 5, .int .i64 0]), recovered := false }] ∧ Below w.heap.size w w' := by
  have hlt := hb.lt
  go_enter Try.func34, Try.ntmps34
  go_wp2
  generalize hW : World.alloc _ _ = W
  have kb : Blk W g 62 cs := by rw [← hW]; exact hb.alloc _
  have hB : Below w.heap.size w W := by rw [← hW]; exact (Below.refl _ w).alloc (Nat.le_refl _) _
  have h1 : W.cell? ⟨g, 2, none⟩ = some (.int .i64 p) := kb.get hcp
  have h2 : W.cell? ⟨g, 0, none⟩ = some (.slice A N N2) := kb.get hcc
  clear hW kb hb
  go_quiet (fail)
  go_wp2
  exact ⟨rfl, rfl, ⟨hB.os, hB.tape, hB.output, hB.size, hB.block⟩⟩

theorem fetch_mute (w : World) (g : Nat) (cs : Array Value) (hb : Blk w g 62 cs) (p : Int) (hcp : cs[2]? = some (.int .i64 p)) (A : Option Addr) (N N2 : Nat) (hcc : cs[0]? = some (.slice A N N2)) (cb k : Nat) (cc : Array Value) (hA : A = some ⟨cb, 0, none⟩) (hpk : p = (k : Int)) (hk : k < N) (hcb : Blk w cb 52 cc) (o : Int) (ho : cc[k * 5]? = some (.int .i64 o)) (hm : (o == -1) = true) :
    Calls Try.prog 34 #[.pointer (some ⟨g, 0, none⟩)] w fun e w' => e = .panicked [{ v := .iface 60 (.agg #[.int .i64 5, .int .i64 0]), recovered := false }] ∧ Below w.heap.size w w' := by
  have hlt := hb.lt
  go_enter Try.func34, Try.ntmps34
  go_wp2
  refine st_all (by kernel_rfl) (by kernel_rfl) ?_
  intro W hW
  have kb : Blk W g 62 cs := by rw [← hW]; exact (hb.alloc _).drew
  have hB : Below w.heap.size w W := by rw [← hW]; exact ((Below.refl _ w).alloc (Nat.le_refl _) _).drew
  have h1 : W.cell? ⟨g, 2, none⟩ = some (.int .i64 p) := kb.get hcp
  have h2 : W.cell? ⟨g, 0, none⟩ = some (.slice A N N2) := kb.get hcc
  subst hA hpk
  have kc : Blk W cb 52 cc := by rw [← hW]; exact (hcb.alloc _).drew
  have q0 : W.cell? ⟨cb, k * 5, none⟩ = some (.int .i64 o) := kc.get ho
  have d1 : decide ((k : Int) < 0) = false := by simp
  have d2 : decide (N ≤ k) = false := by simp; omega
  have d3 : (k : Int) < (N : Int) := by omega
  clear hW hb hcb
  clear kb kc
  repeat still_step
  refine wpStill_nil ?_
  go_wp2
  exact ⟨rfl, rfl, hB⟩

theorem fetch_in (w : World) (g : Nat) (cs : Array Value) (hb : Blk w g 62 cs) (p : Int) (hcp : cs[2]? = some (.int .i64 p)) (A : Option Addr) (N N2 : Nat) (hcc : cs[0]? = some (.slice A N N2)) (cb k : Nat) (cc : Array Value) (hA : A = some ⟨cb, 0, none⟩) (hpk : p = (k : Int)) (hk : k < N) (hcb : Blk w cb 52 cc) (o : Int) (ho : cc[k * 5]? = some (.int .i64 o)) (hm : (o == -1) = false) (a b c n : Int) (h5 : cc[k * 5 + 1]? = some (.int .i64 a)) (h6 : cc[k * 5 + 2]? = some (.int .i64 b)) (h7 : cc[k * 5 + 3]? = some (.int .i64 c)) (h8 : cc[k * 5 + 4]? = some (.int .i64 n)) :
    Calls Try.prog 34 #[.pointer (some ⟨g, 0, none⟩)] w fun e w' => e = .returned (.agg #[.int .i64 o, .int .i64 a, .int .i64 b, .int .i64 c, .int .i64 n]) ∧ Below w.heap.size w w' := by
  have hlt := hb.lt
  go_enter Try.func34, Try.ntmps34
  go_wp2
  refine st_all (by kernel_rfl) (by kernel_rfl) ?_
  intro W hW
  have kb : Blk W g 62 cs := by rw [← hW]; exact (hb.alloc _).drew
  have hB : Below w.heap.size w W := by rw [← hW]; exact ((Below.refl _ w).alloc (Nat.le_refl _) _).drew
  have h1 : W.cell? ⟨g, 2, none⟩ = some (.int .i64 p) := kb.get hcp
  have h2 : W.cell? ⟨g, 0, none⟩ = some (.slice A N N2) := kb.get hcc
  subst hA hpk
  have kc : Blk W cb 52 cc := by rw [← hW]; exact (hcb.alloc _).drew
  have q0 : W.cell? ⟨cb, k * 5, none⟩ = some (.int .i64 o) := kc.get ho
  have d1 : decide ((k : Int) < 0) = false := by simp
  have d2 : decide (N ≤ k) = false := by simp; omega
  have d3 : (k : Int) < (N : Int) := by omega
  have HX := Lib.hid hW
  clear hW hb hcb
  repeat still_step
  refine wpStill_nil ?_
  clear h1 h2 q0
  go_wp2
  refine st_tail 10 (by kernel_rfl) (by kernel_rfl) ?_
  intro U hU
  have jc : Blk U cb 52 cc := by rw [← hU]; exact kc
  have jb : Blk U g 62 cs := by rw [← hU]; exact kb
  have iB : Below w.heap.size w U := by rw [← hU]; exact hB.drew
  have u1 : U.cell? ⟨g, 2, none⟩ = some (.int .i64 (k : Int)) := jb.get hcp
  have u2 : U.cell? ⟨g, 0, none⟩ = some (.slice (some ⟨cb, 0, none⟩) N N2) := jb.get hcc
  have q0 : U.cell? ⟨cb, k * 5, none⟩ = some (.int .i64 o) := jc.get ho
  have q1 : U.cell? ⟨cb, k * 5 + 1, none⟩ = some (.int .i64 a) := jc.get h5
  have q2 : U.cell? ⟨cb, k * 5 + 2, none⟩ = some (.int .i64 b) := jc.get h6
  have q3 : U.cell? ⟨cb, k * 5 + 3, none⟩ = some (.int .i64 c) := jc.get h7
  have q4 : U.cell? ⟨cb, k * 5 + 4, none⟩ = some (.int .i64 n) := jc.get h8
  have jx : Blk U w.heap.size 52 #[.int .i64 0, .int .i64 0, .int .i64 0, .int .i64 0, .int .i64 0] := by rw [← hU, ← HX.out]; exact Blk.new w _ _
  have z0 : U.cell? ⟨w.heap.size, 0, none⟩ = some (.int .i64 0) := jx.get (i := 0) rfl
  have z1 : U.cell? ⟨w.heap.size, 1, none⟩ = some (.int .i64 0) := jx.get (i := 1) rfl
  have z2 : U.cell? ⟨w.heap.size, 2, none⟩ = some (.int .i64 0) := jx.get (i := 2) rfl
  have z3 : U.cell? ⟨w.heap.size, 3, none⟩ = some (.int .i64 0) := jx.get (i := 3) rfl
  have z4 : U.cell? ⟨w.heap.size, 4, none⟩ = some (.int .i64 0) := jx.get (i := 4) rfl
  have zf : ∀ i, U.frozen? ⟨w.heap.size, i, none⟩ = false := jx.frozen
  clear hU kc kb hB jc jb jx ho h5 h6 h7 h8 hcp hcc HX
  simp only [List.take_succ_cons, List.take_zero, List.drop_succ_cons, List.drop_zero]
  repeat still_step
  refine wpStill_nil ?_
  go_wp2
  exact bodyPost_ret (v := .agg #[.int .i64 o, .int .i64 a, .int .i64 b, .int .i64 c, .int .i64 n]) (by simp [results, Try.results34, go_sem, z0, z1, z2, z3, z4]) rfl ⟨rfl, (((((iB.setCell (p := ⟨w.heap.size, 0, none⟩) (Nat.le_refl _) _).setCell (p := ⟨w.heap.size, 1, none⟩) (Nat.le_refl _) _).setCell (p := ⟨w.heap.size, 2, none⟩) (Nat.le_refl _) _).setCell (p := ⟨w.heap.size, 3, none⟩) (Nat.le_refl _) _).setCell (p := ⟨w.heap.size, 4, none⟩) (Nat.le_refl _) _)⟩

end Go.Proofs.Ytikgghioneiegaa
