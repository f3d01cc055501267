/-
  The words of instructions, as the laws make them.
-/
import Derived.Test.YtikgghioneiegaaMachQ
import Derived.LoopTactic
import Derived.Outline
namespace Go.Proofs.Ytikgghioneiegaa
open Go.RowKit
set_option linter.unusedVariables false

structure In where
  o : Int
  a : Int
  b : Int
  c : Int
  n : Int
def encw (t : In) : Int := if F t.o t.a t.b t.c t.n then W t.o t.a t.b t.c t.n else 1
def instL (t : In) : List Value := [.int .i64 t.o, .int .i64 t.a, .int .i64 t.b, .int .i64 t.c, .int .i64 t.n]
theorem word_info : (Try.prog.info? 2).map (fun i => (i.zero, i.size, i.bytes)) = some (some (.int .i64 0), 1, 8) := by kernel_rfl

set_option maxHeartbeats 1000000 in
theorem code_any (w : World) (ab c : Nat) (l : List In) (hab : ab < w.heap.size) (hl : l.length ≤ 2000) (hcell : ∀ (j : Nat) (t : In), l[j]? = some t → ∀ f, f < 5 → w.cell? ⟨ab, j * 5 + f, none⟩ = (instL t)[f]?) :
    Calls Try.prog 29 #[.slice (some ⟨ab, 0, none⟩) l.length c] w fun e w' => ∃ A c', e = .returned (.slice A l.length c') ∧ w'.ownsRow w.heap.size 2 1 (.slice A l.length c') l.length (l.map fun t => .int .i64 (encw t)) ∧ Below w.heap.size w w' := by
  obtain ⟨i0, hi0, hz0, hz1, hz2⟩ := info_parts word_info
  have HC := Lib.hid hcell
  clear hcell
  go_enter Try.func29, Try.ntmps29
  go_wp2
  go_loopw [3, 4] (fun v i wr => ∃ k : Nat, k ≤ l.length ∧ i = .int .i64 k ∧ wr.ownsRow w.heap.size 2 1 v k ((l.take k).map fun t => .int .i64 (encw t)) ∧ Below w.heap.size w wr) (fun _ i _ => l.length - (intOf i).toNat)
  case atStart => exact ⟨0, Nat.zero_le _, rfl, by simpa using World.ownsRow_nil w w.heap.size _ 1, Below.refl _ _⟩
  case round =>
    obtain ⟨k, hk, rfl, hown, hB⟩ := hrel
    obtain ⟨wo, rfl⟩ : ∃ wo : World, wo = wr := ⟨_, rfl⟩
    have k0 : (0 : Int) ≤ (k : Int) := by omega
    obtain ⟨AO, cO, rfl⟩ := own_shape hown
    have HO := Lib.hid hown
    clear hown
    by_cases hlt : k < l.length
    · have k1 : (k : Int) < (l.length : Int) := by omega
      have k2 : (k : Int) < 2000 := by omega
      obtain ⟨t, ht⟩ : ∃ t, l[k]? = some t := ⟨_, List.getElem?_eq_getElem hlt⟩
      have hc := HC.out k t ht
      have q0 : wo.cell? ⟨ab, k * 5, none⟩ = some (.int .i64 t.o) := (hB.cell (p := ⟨ab, k * 5 + 0, none⟩) hab).trans (hc 0 (by omega))
      have q1 : wo.cell? ⟨ab, k * 5 + 1, none⟩ = some (.int .i64 t.a) := (hB.cell (p := ⟨ab, k * 5 + 1, none⟩) hab).trans (hc 1 (by omega))
      have q2 : wo.cell? ⟨ab, k * 5 + 2, none⟩ = some (.int .i64 t.b) := (hB.cell (p := ⟨ab, k * 5 + 2, none⟩) hab).trans (hc 2 (by omega))
      have q3 : wo.cell? ⟨ab, k * 5 + 3, none⟩ = some (.int .i64 t.c) := (hB.cell (p := ⟨ab, k * 5 + 3, none⟩) hab).trans (hc 3 (by omega))
      have q4 : wo.cell? ⟨ab, k * 5 + 4, none⟩ = some (.int .i64 t.n) := (hB.cell (p := ⟨ab, k * 5 + 4, none⟩) hab).trans (hc 4 (by omega))
      have htk := Lib.hid (show (l.take (k + 1)).map (fun t => Value.int .i64 (encw t)) = (l.take k).map (fun t => Value.int .i64 (encw t)) ++ [.int .i64 (encw t)] by
        rw [List.take_add_one, ht]
        simp)
      have HE : ∃ x y : Int, (if y = 0 then x else 1) = encw t ∧ ∀ w, Calls Try.prog 39 #[.agg #[.int .i64 t.o, .int .i64 t.a, .int .i64 t.b, .int .i64 t.c, .int .i64 t.n]] w fun e w' => e = .returned (.tuple #[.int .i64 x, .int .i64 y]) ∧ Below w.heap.size w w' := by
        cases hF : F t.o t.a t.b t.c t.n with
        | true => exact ⟨W t.o t.a t.b t.c t.n, 0, by simp [encw, hF], fun w => rencode_yes _ _ _ _ _ hF w⟩
        | false => exact ⟨0, 4, by simp [encw, hF], fun w => rencode_no _ _ _ _ _ hF w⟩
      obtain ⟨x, y, hxy, hcall⟩ := HE
      have HX := Lib.hid hxy
      have HCA := Lib.hid hcall
      clear hc ht hxy hcall
      by_cases hy : y = 0
      · subst hy
        go_wp2_with fail
        refine (HCA.out _).mono ?_
        rintro e w1 ⟨rfl, hb1⟩
        have HO1 := Lib.hid (own_below HO.out hb1)
        have hB1 : Below w.heap.size w w1 := hB.trans (hb1.mono hB.size)
        clear q0 q1 q2 q3 q4 hb1
        go_wp2_with (at_builtin; refine wpList_append_any _ rfl (.tmp 27) (.tmp 29) _ rfl w.heap.size 2 i0 _ 1 8 Try.underlying22 hi0 hz0 hz1 hz2 rfl (by omega) (.slice AO k cO) k _ rfl (HO1.out.alloc _) (w1.heap.size + 1) (some ⟨w1.heap.size, 0, none⟩) 1 1 [.int .i64 x] rfl ⟨rfl, fun _ => ⟨_, rfl, by simp, World.news_of_block (cs := #[.int .i64 x]) (t := 2) (fr := (0, 0)) (heap_alloc_new w1 _)⟩⟩ (by simp [Value.oneCell']) (by simp only [maxLen]; omega) (by omega) (by have := hB1.size; simp; omega) ?_; intro v' w2 hown2 hg2 hat2)
        have HO2 := Lib.hid hown2
        have hlv := fun q (hq : (Value.slice AO k cO).ownBlock = some q) => (HO1.out.lt q hq).1
        have hB2 : Below w.heap.size w w2 := (hB1.alloc hB1.size _).grown hg2 (by have := hB1.size; simp; omega) hlv
        clear hown2 hg2 hat2 hlv
        go_roundw
        case rel => exact ⟨k + 1, by omega, by go_num, by rw [htk.out, ← HX.out]; exact HO2.out, hB2⟩
        case measure => simp [intOf]; omega
      · have hy2 : (y != 0) = true := by simpa using hy
        go_wp2_with fail
        refine (HCA.out _).mono ?_
        rintro e w1 ⟨rfl, hb1⟩
        have HO1 := Lib.hid (own_below HO.out hb1)
        have hB1 : Below w.heap.size w w1 := hB.trans (hb1.mono hB.size)
        clear q0 q1 q2 q3 q4 hb1
        go_wp2_with (at_builtin; refine wpList_append_any _ rfl (.tmp 27) (.tmp 29) _ rfl w.heap.size 2 i0 _ 1 8 Try.underlying22 hi0 hz0 hz1 hz2 rfl (by omega) (.slice AO k cO) k _ rfl (HO1.out.alloc _) (w1.heap.size + 1) (some ⟨w1.heap.size, 0, none⟩) 1 1 [.int .i64 1] rfl ⟨rfl, fun _ => ⟨_, rfl, by simp, World.news_of_block (cs := #[.int .i64 1]) (t := 2) (fr := (0, 0)) (heap_alloc_new w1 _)⟩⟩ (by simp [Value.oneCell']) (by simp only [maxLen]; omega) (by omega) (by have := hB1.size; simp; omega) ?_; intro v' w2 hown2 hg2 hat2)
        have HO2 := Lib.hid hown2
        have hlv := fun q (hq : (Value.slice AO k cO).ownBlock = some q) => (HO1.out.lt q hq).1
        have hB2 : Below w.heap.size w w2 := (hB1.alloc hB1.size _).grown hg2 (by have := hB1.size; simp; omega) hlv
        clear hown2 hg2 hat2 hlv
        go_roundw
        case rel => exact ⟨k + 1, by omega, by go_num, by rw [htk.out, ← HX.out, if_neg hy]; exact HO2.out, hB2⟩
        case measure => simp [intOf]; omega
    · have k1 : decide ((k : Int) < (l.length : Int)) = false := by simp; omega
      obtain rfl : k = l.length := by omega
      have HE := Lib.hid (show l.take l.length = l from List.take_length)
      go_wp2
      go_ret
      refine ⟨AO, cO, rfl, ?_, hB⟩
      have := HO.out
      rw [HE.out] at this
      exact this
end Go.Proofs.Ytikgghioneiegaa
