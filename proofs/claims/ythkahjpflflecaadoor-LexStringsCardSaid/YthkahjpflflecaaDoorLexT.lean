/-
  The document's example: a walk.
-/
import Derived.Test.YthkahjpflflecaaDoorLexJ
namespace Go.Proofs.YthkahjpflflecaaDoor
open Go.RowKit
set_option linter.unusedVariables false

def exL : List UInt8 := [120, 32, 58, 61, 32, 53, 59]
def exT : List (Tk × Nat) := [(⟨1, [120], 0⟩, 0), (⟨5, [58, 61], 0⟩, 2), (⟨3, [53], 5⟩, 5), (⟨5, [59], 0⟩, 6), (⟨0, [], 0⟩, 7)]
theorem lexD_ex : lexD exL = (exT, 0, 0) := by rfl
theorem num_any (n : Int) (w : World) : Calls Tryd.prog 12 #[.int .i64 n] w fun e w' => e = .returned (.int .i64 n) ∧ w = w' := by
  go_enter Tryd.func12, Tryd.ntmps12
  go_wp2
  go_ret
  exact ⟨rfl, rfl⟩
/-- The cells of tokens that a call has told. -/
theorem own_cells {w : World} {base n c : Nat} {A : Option Addr} {xs : List Value} (h : w.ownsRow base 31 4 (.slice A n c) n xs) (hn : 0 < n) :
    ∃ g, A = some ⟨g, 0, none⟩ ∧ n ≤ c ∧ base ≤ g ∧ g < w.heap.size ∧ (∀ i, w.frozen? ⟨g, i, none⟩ = false) ∧ ∀ j u, xs[j]? = some u → w.cell? ⟨g, j, none⟩ = some u := by
  rcases h.2 with ⟨_, h0⟩ | ⟨g, cap, cur, hv, hb, hg, hnc, _, _, _⟩
  · omega
  · injection hv with h1 h2 h3
    subst h1 h3
    refine ⟨g, rfl, hnc, hb, Blk.lt hg, Blk.frozen hg, fun j u hu => ?_⟩
    have := h.cells (g := g) rfl j u hu
    rw [← this]
    congr 1
    unfold Addr.add
    by_cases hj : j = 0 <;> simp [hj]
theorem lex_ex (w : World) (ht : ErrT w) : Calls Tryd.prog 9 #[.string ⟨#[120, 32, 58, 61, 32, 53, 59]⟩] w fun e w' => ∃ g c, e = .returned (.tuple #[.slice (some ⟨g, 0, none⟩) 5 c, .int .i64 0, .int .i64 0]) ∧ Below w.heap.size w w' ∧ 5 ≤ c ∧
    w'.cell? ⟨g, 4, none⟩ = some (.int .i64 5) ∧ w'.cell? ⟨g, 5, none⟩ = some (.string ⟨#[58, 61]⟩) ∧ w'.cell? ⟨g, 6, none⟩ = some (.int .i64 0) ∧ w'.cell? ⟨g, 7, none⟩ = some (.int .i64 2) ∧ w'.cell? ⟨g, 10, none⟩ = some (.int .i64 5) ∧ w'.cell? ⟨g, 19, none⟩ = some (.int .i64 7) := by
  have := lex_any ⟨#[120, 32, 58, 61, 32, 53, 59]⟩ w ht
  rw [show lexD (⟨#[120, 32, 58, 61, 32, 53, 59]⟩ : ByteArray).data.toList = (exT, 0, 0) from lexD_ex] at this
  refine this.mono ?_
  rintro e w1 ⟨A, c, rfl, hown, hB⟩
  obtain ⟨g, rfl, hgc, hgb, hgs, hfz, hcl⟩ := own_cells hown (by decide)
  exact ⟨g, c, rfl, hB, hgc, hcl 4 _ rfl, hcl 5 _ rfl, hcl 6 _ rfl, hcl 7 _ rfl, hcl 10 _ rfl, hcl 19 _ rfl⟩
theorem awake_any (w : World) (ht : ErrT w) : Calls Tryd.prog 13 #[] w fun e w' => e = .returned (.bool true) ∧ Below w.heap.size w w' := by
  have ht := Lib.hid ht
  go_enter Tryd.func13, Tryd.ntmps13
  go_wp2_with (first
    | (go_at_call 9; refine (lex_ex _ ht.out).mono ?_; rintro e w1 ⟨g, c, rfl, hB, hgc, q4, q5, q6, q7, q10, q19⟩)
    | (go_at_call 12; refine (num_any _ _).mono ?_; rintro e w' ⟨rfl, rfl⟩))
  go_ret
  exact ⟨rfl, hB⟩
end Go.Proofs.YthkahjpflflecaaDoor
