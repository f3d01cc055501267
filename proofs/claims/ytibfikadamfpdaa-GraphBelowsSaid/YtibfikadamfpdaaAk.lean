/-
  The document's example.
-/
import Derived.Test.YtibfikadamfpdaaAw
namespace Go.Proofs.Ytibfikadamfpdaa
open Go.RowKit
set_option linter.unusedVariables false
set_option linter.unusedSimpArgs false

def nltD (N : List ByteArray) (a b : Nat) : Bool := Op.bytesLess (txt9 N a).data.toList (txt9 N b).data.toList
theorem nlt_D (N : List ByteArray) : nlt N = nltD N := by
  funext a b
  unfold nlt nltD
  rw [ByteArray.toList_eq, ByteArray.toList_eq]
def N0 : List ByteArray := [⟨#[97]⟩, ⟨#[98]⟩, ⟨#[99]⟩]
def R0 : List (List ByteArray) := [[⟨#[99]⟩], [], []]
theorem res0 : resN N0 R0 = ([1, 2, 0], 0, 0) := by
  unfold resN ordN
  rw [nlt_D]
  decide +kernel
set_option maxRecDepth 100000 in
set_option maxHeartbeats 2000000 in
theorem awake_any (w : World) : Calls Try.prog 9 #[] w (TruthP w true) := by
  obtain ⟨W1, hW1⟩ : ∃ W1, w.alloc (.cells #[.string ⟨#[97]⟩, .string ⟨#[98]⟩, .string ⟨#[99]⟩] 9) = W1 := ⟨_, rfl⟩
  have z1 : W1.heap.size = w.heap.size + 1 := by rw [← hW1]; simp
  obtain ⟨W2, hW2⟩ : ∃ W2, W1.alloc (.cells #[.string ⟨#[99]⟩] 9) = W2 := ⟨_, rfl⟩
  have z2 : W2.heap.size = w.heap.size + 2 := by rw [← hW2]; simp [z1]
  obtain ⟨W3, hW3⟩ : ∃ W3, W2.alloc (.cells #[.slice (some ⟨w.heap.size + 1, 0, none⟩) 1 1, .slice none 0 0, .slice none 0 0] 22) = W3 := ⟨_, rfl⟩
  have z3 : W3.heap.size = w.heap.size + 3 := by rw [← hW3]; simp [z2]
  have b1 : Below w.heap.size w W1 := by rw [← hW1]; exact (Below.refl _ w).alloc (Nat.le_refl _) _
  have b2 : Below W1.heap.size W1 W2 := by rw [← hW2]; exact (Below.refl _ W1).alloc (Nat.le_refl _) _
  have b3 : Below W2.heap.size W2 W3 := by rw [← hW3]; exact (Below.refl _ W2).alloc (Nat.le_refl _) _
  have k1 : Blk W3 w.heap.size 9 #[.string ⟨#[97]⟩, .string ⟨#[98]⟩, .string ⟨#[99]⟩] := ((show Blk W1 w.heap.size 9 _ from by rw [← hW1]; exact Blk.new _ _ _).bel2 b2).bel2 b3
  have k2 : Blk W3 (w.heap.size + 1) 9 #[.string ⟨#[99]⟩] := (show Blk W2 (w.heap.size + 1) 9 _ from by rw [← hW2, ← z1]; exact Blk.new _ _ _).bel2 b3
  have k3 : Blk W3 (w.heap.size + 2) 22 #[.slice (some ⟨w.heap.size + 1, 0, none⟩) 1 1, .slice none 0 0, .slice none 0 0] := by rw [← hW3, ← z2]; exact Blk.new _ _ _
  have bb : Below w.heap.size w W3 := (b1.trans (b2.mono (by omega))).trans (b3.mono (by omega))
  have hN : SlV W3 W3.heap.size (some ⟨w.heap.size, 0, none⟩) (N0.map Value.string) := fun _ => ⟨_, 0, rfl, by omega, fun j u hu => by rw [Nat.zero_add, k1.cell]; simpa [N0] using hu⟩
  have hR : SlN W3 W3.heap.size (some ⟨w.heap.size + 2, 0, none⟩) (R0.map fun r => r.map Value.string) := by
    refine ⟨[.slice (some ⟨w.heap.size + 1, 0, none⟩) 1 1, .slice none 0 0, .slice none 0 0], rfl, fun _ => ⟨_, 0, rfl, by omega, fun j u hu => by rw [Nat.zero_add, k3.cell]; simpa using hu⟩, fun i l hl => ?_⟩
    match i with
    | 0 =>
      simp [R0] at hl
      subst hl
      exact ⟨_, 1, rfl, fun _ => ⟨_, 0, rfl, by omega, fun j u hu => by rw [Nat.zero_add, k2.cell]; simpa using hu⟩⟩
    | 1 =>
      simp [R0] at hl
      subst hl
      exact ⟨none, 0, rfl, SlV.nil_ _ _ _⟩
    | 2 =>
      simp [R0] at hl
      subst hl
      exact ⟨none, 0, rfl, SlV.nil_ _ _ _⟩
    | i + 3 => simp [R0] at hl
  have HO := gorder_any W3 W3.heap.size (some ⟨w.heap.size, 0, none⟩) (some ⟨w.heap.size + 2, 0, none⟩) 3 3 N0 R0 hN hR (Nat.le_refl _) (by decide) (by decide) (by decide) (by decide)
  unfold Ord3 at HO
  rw [res0] at HO
  have HB := Lib.hid bb
  have HNUM := Lib.hid num_any
  clear hN hR k1 k2 k3 b1 b2 b3 bb
  simp only [show N0.length = 3 from rfl, show R0.length = 3 from rfl] at HO
  go_enter Try.func9, Try.ntmps9
  go_wp2_with (first
    | (go_at_call 12; go_loud (have hsm := same_any (w4.alloc (.cells #[.int .i64 1, .int .i64 2, .int .i64 0] 3)) _ (w4.heap.size + 1) A4 (some ⟨w4.heap.size, 0, none⟩) c4 3 [1, 2, 0] [1, 2, 0] (HS4.out.below ((Below.refl _ w4).alloc (Nat.le_refl _) _)) (fun _ => ⟨_, 0, rfl, by omega, fun j u hu => by rw [Nat.zero_add, (Blk.new _ _ _).cell]; simpa [ints] using hu⟩) (by decide) (by decide); have hsm2 : Calls Try.prog 12 #[.slice A4 3 c4, .slice (some ⟨w4.heap.size, 0, none⟩) 3 3] (w4.alloc (.cells #[.int .i64 1, .int .i64 2, .int .i64 0] 3)) (TruthP (w4.alloc (.cells #[.int .i64 1, .int .i64 2, .int .i64 0] 3)) true) := hsm; (with_reducible refine hsm2.mono ?_); rintro e w5 ⟨rfl, hb5⟩; have HB5 := Lib.hid hb5; clear hb5 hsm hsm2))
    | (go_at_call 13; (with_reducible refine (HNUM.out _ _).mono ?_); rintro e w5 ⟨rfl, rfl⟩)
    | (go_at_call 10; (with_reducible refine HO.mono ?_); rintro e w4 ⟨⟨A4, c4, rfl, hs4⟩, hb4⟩; have HS4 := Lib.hid hs4; have HB4 := Lib.hid hb4; clear hs4 hb4))
  go_ret
  refine ⟨rfl, ?_⟩
  have h4 := HB.out.trans (HB4.out.mono HB.out.size)
  have h5 := HB5.out
  simp at h5
  exact h4.trans (((Below.refl _ w4).alloc h4.size _).trans (h5.mono (by have := h4.size; omega)))
end Go.Proofs.Ytibfikadamfpdaa
