/-
  The document's example.
-/
import Derived.Test.YtikgghioneiegaaLawB
import Derived.Outline
namespace Go.Proofs.Ytikgghioneiegaa
open Go.RowKit
set_option linter.unusedVariables false

def exL : List In := [⟨3, 1, 0, 0, 65⟩, ⟨14, 1, 0, 0, 0⟩, ⟨0, 0, 0, 0, 0⟩]
theorem ex_run : runP (exL.map encw) [] [] 0 1 10 = ⟨1, 0, [65], 3⟩ := by kernel_rfl
theorem in3_own {w : World} {base c : Nat} {A : Option Addr} {l : List In} (h : w.ownsRow base 2 1 (.slice A l.length c) l.length (l.map fun t => .int .i64 (encw t))) (hw : ∀ t ∈ l, -9223372036854775808 ≤ encw t ∧ encw t ≤ 9223372036854775807) :
    In3 w w.heap.size A none none (l.map encw) [] [] := by
  refine ⟨?_, Reads.none_, Reads.none_, Nat.le_refl _, ?_, by simp⟩
  · have := Reads.of_own h
    rw [List.length_map]
    simpa [List.map_map, Function.comp_def] using this
  · intro v hv
    obtain ⟨t, ht, rfl⟩ := List.mem_map.1 hv
    exact hw t ht
theorem encw_bd (t : In) : -9223372036854775808 ≤ encw t ∧ encw t ≤ 9223372036854775807 := by
  unfold encw
  cases hF : F t.o t.a t.b t.c t.n with
  | true =>
    have := W_bd (F_bd hF)
    simp only [if_true]
    omega
  | false => simp
theorem awake_any (w : World) : Calls Try.prog 13 #[] w fun e w' => e = .returned (.bool true) ∧ Below w.heap.size w w' := by
  go_enter Try.func13, Try.ntmps13
  go_wp2_with fail
  generalize hW : World.alloc _ _ = W
  have hB : Below w.heap.size w W := by rw [← hW]; exact (Below.refl _ w).alloc (Nat.le_refl _) _
  have hk : Blk W w.heap.size 52 #[.int .i64 3, .int .i64 1, .int .i64 0, .int .i64 0, .int .i64 65, .int .i64 14, .int .i64 1, .int .i64 0, .int .i64 0, .int .i64 0, .int .i64 0, .int .i64 0, .int .i64 0, .int .i64 0, .int .i64 0] := by rw [← hW]; exact Blk.new w _ _
  have hcell : ∀ (j : Nat) (t : In), exL[j]? = some t → ∀ f, f < 5 → W.cell? ⟨w.heap.size, j * 5 + f, none⟩ = (instL t)[f]? := by
    intro j t hj f hf
    have hj3 : j < 3 := by
      rcases Nat.lt_or_ge j 3 with h | h
      · exact h
      · rw [List.getElem?_eq_none (by simpa [exL] using h)] at hj; cases hj
    rw [hk.cell]
    have ej : j = 0 ∨ j = 1 ∨ j = 2 := by omega
    have ef : f = 0 ∨ f = 1 ∨ f = 2 ∨ f = 3 ∨ f = 4 := by omega
    rcases ej with rfl | rfl | rfl <;> (obtain rfl := Option.some.inj hj; rcases ef with rfl | rfl | rfl | rfl | rfl <;> rfl)
  refine (code_any W w.heap.size 3 exL hk.lt (by decide) hcell).mono ?_
  rintro e w1 ⟨A, c, rfl, hown, hb1⟩
  have hB1 := below_next' hB hb1
  have H1 := in3_own hown (fun t _ => encw_bd t)
  have HI := Lib.hid H1
  clear hW hB hk hcell hown hb1 H1
  have hlen : exL.length = 3 := rfl
  rw [hlen]
  go_wp2_with fail
  have hr := mrun_any (HI.out.below ((Below.refl _ _).alloc (Nat.le_refl _) (.cells #[.slice A 3 c, .slice none 0 0, .int .i64 0] 24))) c 0 0 0 1 10
  rw [ex_run] at hr
  refine Calls.mono hr ?_
  rintro e w2 ⟨v, rfl, ⟨A2, c2, rfl, hown2⟩, hb2⟩
  have hB2 := below_next' (hB1.alloc hB1.size (.cells #[.slice A 3 c, .slice none 0 0, .int .i64 0] 24)) hb2
  have hcv := conv_own (xs := [65]) (hown2.alloc (.cells #[.int .i64 1, .int .i64 0, .slice A2 1 c2, .int .i64 3] 29))
  have hS : strOfNums [65] = ⟨#[65]⟩ := rfl
  have e1 : ([65] : List Int).length = 1 := rfl
  rw [hS, e1] at hcv
  clear hr hown2 hb2 hS
  go_wp2
  go_ret
  exact ⟨rfl, hB2.alloc hB2.size _⟩
end Go.Proofs.Ytikgghioneiegaa
