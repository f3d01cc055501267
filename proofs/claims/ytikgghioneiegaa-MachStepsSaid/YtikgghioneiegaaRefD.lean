/-
  The document's machine: a step that is not made, a place where no word is.
-/
import Derived.Test.YtikgghioneiegaaRefC
namespace Go.Proofs.Ytikgghioneiegaa
open Go.RowKit
set_option linter.unusedVariables false

set_option maxRecDepth 100000 in
set_option maxHeartbeats 1600000 in
theorem rstep_idle (w : World) (g : Nat) (cs : Array Value) (hb : Blk w g 38 cs) (k : Int) (hk : k ≠ 0) (h21 : cs[21]? = some (.int .i64 k)) :
    Calls Try.prog 24 #[.pointer (some ⟨g, 0, none⟩)] w fun e w' => e = .returned (.bool false) ∧ w' = w := by
  have z1 : w.cell? ⟨g, 21, none⟩ = some (.int .i64 k) := hb.get h21
  have d1 : (k != 0) = true := by simpa using hk
  have hlt := hb.lt
  clear hk
  go_enter Try.func24, Try.ntmps24
  go_wp2
  go_ret
  exact ⟨rfl, rfl⟩
set_option maxRecDepth 100000 in
set_option maxHeartbeats 1600000 in
theorem rstep_out (w : World) (g : Nat) (cs : Array Value) (hb : Blk w g 38 cs) (s p : Int) (h21 : cs[21]? = some (.int .i64 0)) (h24 : cs[24]? = some (.int .i64 s)) (h18 : cs[18]? = some (.int .i64 p)) (A : Option Addr) (N c : Nat) (h0 : cs[0]? = some (.slice A N c)) (hp : p < 0 ∨ (N : Int) ≤ p) :
    Calls Try.prog 24 #[.pointer (some ⟨g, 0, none⟩)] w fun e w' => e = .returned (.bool true) ∧ Blk w' g 38 ((cs.setIfInBounds 24 (.int .i64 (wrap64 (s + 1)))).setIfInBounds 21 (.int .i64 5)) ∧ Fr g g none w w' := by
  have z1 : w.cell? ⟨g, 21, none⟩ = some (.int .i64 0) := hb.get h21
  have z2 : w.cell? ⟨g, 24, none⟩ = some (.int .i64 s) := hb.get h24
  have z3 : w.frozen? ⟨g, 24, none⟩ = false := hb.frozen _
  have hlt := hb.lt
  by_cases hp0 : p < 0
  · have d1 : decide (p < 0) = true := by simpa using hp0
    clear hp
    go_enter Try.func24, Try.ntmps24
    go_wp2_with fail
    generalize hW : World.setCell _ _ _ = W
    have kb : Blk W g 38 (cs.setIfInBounds 24 (.int .i64 (wrap64 (s + 1)))) := by rw [← hW]; exact hb.set_ 24 _
    have kF : Fr g g none w W := by rw [← hW]; exact (Fr.refl g g none w).set_ (p := ⟨g, 24, none⟩) (.inl rfl) _
    have q1 : W.cell? ⟨g, 18, none⟩ = some (.int .i64 p) := kb.get (set_ne h18 (by decide))
    have q2 : W.cell? ⟨g, 21, none⟩ = some (.int .i64 0) := kb.get (set_ne h21 (by decide))
    have q3 : W.frozen? ⟨g, 21, none⟩ = false := kb.frozen _
    clear hW z1 z2 z3
    go_quiet (fail)
    generalize hV : World.drewN _ _ = V
    have vb : Blk V g 38 (cs.setIfInBounds 24 (.int .i64 (wrap64 (s + 1)))) := by rw [← hV]; exact kb.drewN _
    have vF : Fr g g none w V := by rw [← hV]; exact ⟨kF.os, kF.tape, kF.output, kF.size, kF.block⟩
    have v2 : V.cell? ⟨g, 21, none⟩ = some (.int .i64 0) := vb.get (set_ne h21 (by decide))
    have v3 : V.frozen? ⟨g, 21, none⟩ = false := vb.frozen _
    clear q1 q2 q3 kb kF hV
    go_wp2
    go_ret
    exact ⟨rfl, vb.set_ 21 _, vF.set_ (p := ⟨g, 21, none⟩) (.inl rfl) _⟩
  · have d1 : decide (p < 0) = false := by simpa using hp0
    obtain ⟨j, rfl⟩ : ∃ j : Nat, p = j := ⟨p.toNat, by omega⟩
    have d2 : decide (N ≤ j) = true := by simp; omega
    clear hp
    go_enter Try.func24, Try.ntmps24
    go_wp2_with fail
    generalize hW : World.setCell _ _ _ = W
    have kb : Blk W g 38 (cs.setIfInBounds 24 (.int .i64 (wrap64 (s + 1)))) := by rw [← hW]; exact hb.set_ 24 _
    have kF : Fr g g none w W := by rw [← hW]; exact (Fr.refl g g none w).set_ (p := ⟨g, 24, none⟩) (.inl rfl) _
    have q1 : W.cell? ⟨g, 18, none⟩ = some (.int .i64 (j : Int)) := kb.get (set_ne h18 (by decide))
    have q2 : W.cell? ⟨g, 21, none⟩ = some (.int .i64 0) := kb.get (set_ne h21 (by decide))
    have q3 : W.frozen? ⟨g, 21, none⟩ = false := kb.frozen _
    have q4 : W.cell? ⟨g, 0, none⟩ = some (.slice A N c) := kb.get (set_ne h0 (by decide))
    clear hW z1 z2 z3
    go_quiet (fail)
    generalize hV : World.drewN _ _ = V
    have vb : Blk V g 38 (cs.setIfInBounds 24 (.int .i64 (wrap64 (s + 1)))) := by rw [← hV]; exact kb.drewN _
    have vF : Fr g g none w V := by rw [← hV]; exact ⟨kF.os, kF.tape, kF.output, kF.size, kF.block⟩
    have v2 : V.cell? ⟨g, 21, none⟩ = some (.int .i64 0) := vb.get (set_ne h21 (by decide))
    have v3 : V.frozen? ⟨g, 21, none⟩ = false := vb.frozen _
    clear q1 q2 q3 kb kF hV
    go_wp2
    go_ret
    exact ⟨rfl, vb.set_ 21 _, vF.set_ (p := ⟨g, 21, none⟩) (.inl rfl) _⟩
end Go.Proofs.Ytikgghioneiegaa
