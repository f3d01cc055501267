/-
  Units, fields as arguments: opened.
-/
import Derived.Test.YtcfgjfahjaimiaaRow7
import Derived.Test.YtcfgjfahjaimiaaUb
namespace Go.Proofs.Ytcfgjfahjaimiaa
open Go.ChangeShapes Go.WideShapes Go.ChangeAt Go.RowKit
set_option linter.unusedVariables false
set_option linter.unusedSimpArgs false

section
variable {H : Type} {enc : TypeId × Value → H} {w : World} {base : Nat} {spare : Nat → Bool} {held : Bool}
set_option maxRecDepth 100000 in
theorem open_unsv {r : Reach} {b0 : Nat} {v : Value} {d : DataW H} {p : List MemPlace} (hv : Value.okWide Try.prog w r b0 22 v) (h : DataW.Trod enc Try.prog w base spare held 22 v d p) :
    ∃ (A : Option Addr) (l : List Un) (c : Nat), v = .slice A l.length c ∧ SlG 4 RUn w (fun k => base ≤ k) A l ∧ ∀ R, (∀ k ∈ d.weights Try.prog 22, k ≤ R) → l.length ≤ R ∧ ∀ a ∈ l, a.ok R := by
  obtain ⟨a, len, cap, rfl⟩ := okWide_slice Try.underlying22 hv
  obtain ⟨fuel, hf⟩ := h
  cases fuel with
  | zero => simp [DataW.trod] at hf
  | succ n =>
    obtain ⟨A, l, c, h1, h2, h3⟩ := open_sl RUn 4 (by omega) RUn_sized 47 22 Try.underlying22 (by kernel_rfl) (of_decide_eq_true (by kernel_rfl)) (fun B a => a.ok B) n (fun cs x hx => open_un n cs x hx) hf
    exact ⟨A, l, c, by simpa [Value.cells] using h1, h2, h3⟩
set_option maxRecDepth 100000 in
theorem open_fisv {r : Reach} {b0 : Nat} {v : Value} {d : DataW H} {p : List MemPlace} (hv : Value.okWide Try.prog w r b0 23 v) (h : DataW.Trod enc Try.prog w base spare held 23 v d p) :
    ∃ (A : Option Addr) (l : List Fi) (c : Nat), v = .slice A l.length c ∧ SlG 6 RFi w (fun k => base ≤ k) A l ∧ ∀ R, (∀ k ∈ d.weights Try.prog 23, k ≤ R) → l.length ≤ R ∧ ∀ a ∈ l, a.ok R := by
  obtain ⟨a, len, cap, rfl⟩ := okWide_slice Try.underlying23 hv
  obtain ⟨fuel, hf⟩ := h
  cases fuel with
  | zero => simp [DataW.trod] at hf
  | succ n =>
    obtain ⟨A, l, c, h1, h2, h3⟩ := open_sl RFi 6 (by omega) RFi_sized 40 23 Try.underlying23 (by kernel_rfl) (of_decide_eq_true (by kernel_rfl)) (fun B a => a.ok B) n (fun cs x hx => open_fi n cs x hx) hf
    exact ⟨A, l, c, by simpa [Value.cells] using h1, h2, h3⟩
end
end Go.Proofs.Ytcfgjfahjaimiaa
