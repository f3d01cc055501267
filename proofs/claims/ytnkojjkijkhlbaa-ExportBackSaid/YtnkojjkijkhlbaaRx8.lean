/-
  Units as an argument: opened, with their numbers' range.
-/
import Derived.Test.YtnkojjkijkhlbaaRow8
import Derived.Test.YtnkojjkijkhlbaaUv
namespace Go.Proofs.Ytnkojjkijkhlbaa
open Go.ChangeShapes Go.WideShapes Go.ChangeAt Go.RowKit
set_option linter.unusedVariables false
set_option linter.unusedSimpArgs false

section
variable {H : Type} {enc : TypeId × Value → H} {w : World} {base : Nat} {spare : Nat → Bool} {held : Bool}
set_option maxRecDepth 100000 in
theorem open_unvR {r : Reach} {b0 : Nat} {v : Value} {d : DataW H} {p : List MemPlace} (hv : Value.okWide Try.prog w r b0 26 v) (h : DataW.Trod enc Try.prog w base spare held 26 v d p) :
    ∃ (a : Un) (vs : List Value), v = .agg vs.toArray ∧ RUn w (fun k => k < w.heap.size) a vs ∧ ∀ R, (∀ k ∈ d.weights Try.prog 26, k ≤ R) → (a.ok R ∧ a.rng) := by
  obtain ⟨cs, rfl, hsz⟩ := okWide_struct Try.underlying26 hv
  obtain ⟨l⟩ := cs
  obtain ⟨fuel, hf⟩ := h
  obtain ⟨a, ha, hm⟩ := open_unR fuel _ _ hf
  have hlen : (Value.agg ⟨l⟩).cells.toList = l := by
    have hu := RUn_sized _ _ _ _ ha
    have h4 : (Value.agg ⟨l⟩).cells.toList.length = 4 := hu
    have hl : l.length = 4 := by
      have h5 : Try.prog.cellsOf 26 = 4 := by kernel_rfl
      rw [← h5]; exact hsz
    match l, hl with
    | [c0, c1, c2, c3], _ => simp [Value.cells]
  rw [hlen] at ha
  exact ⟨a, l, rfl, RUn_keeps _ _ _ _ _ _ (fun g _ _ => rfl) (Nat.le_refl _) (fun g hg _ => hg) ha, hm⟩
end
end Go.Proofs.Ytnkojjkijkhlbaa
