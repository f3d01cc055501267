/-
  The list of operations that a machine is made with: a walk.
-/
import Derived.Test.YtikgghioneiegaaMachC
import Derived.LoopTactic
import Derived.Laws.EntriesVeiled
import Derived.Outline
namespace Go.Proofs.Ytikgghioneiegaa
open Go.RowKit
set_option linter.unusedVariables false

/-- What is done for an Op that is no operation of words. -/
def fid0 (i : Nat) : Option Nat :=
  match i with
  | 0 => some 41 | 1 => some 42 | 2 => some 43 | 3 => some 44
  | 4 => some 45 | 5 => some 46 | 6 => some 47 | 7 => some 48
  | 8 => some 49 | 9 => some 50 | 10 => some 51 | 11 => some 52
  | 12 => some 53 | 13 => some 54 | 14 => some 55 | 15 => some 56
  | 41 => some 57 | 42 => some 57 | 43 => some 57 | _ => none
def fnv (g : Nat) (f : Option Nat) : Value := match f with | some f => .func (.func f) #[.pointer (some ⟨g, 0, none⟩)] #[] | none => .nilFunc
def dt0 (g : Nat) : Array Value := ((List.range 44).map fun i => fnv g (fid0 i)).toArray

def DT (wr : World) (D g k : Nat) : Prop := ∃ cur, Blk wr D 65 cur ∧ cur.size = 44 ∧ ∀ i, i < 44 → cur[i]? = some (if 17 ≤ i ∧ i < k then fnv g (some 58) else fnv g (fid0 i))
theorem DT.step {wr : World} {D g k : Nat} (h : DT wr D g k) (hk : k < 33) (h17 : 17 ≤ k) : DT (wr.setCell ⟨D, k, none⟩ (fnv g (some 58))) D g (k + 1) := by
  obtain ⟨cur, hb, hs, hv⟩ := h
  refine ⟨_, hb.set_ k _, by simpa using hs, fun i hi => ?_⟩
  by_cases e : k = i
  · subst e
    rw [set_get (hv k hi), if_pos ⟨h17, by omega⟩]
  · rw [set_get_ne e, hv i hi]
    by_cases h1 : 17 ≤ i ∧ i < k
    · rw [if_pos h1, if_pos ⟨h1.1, by omega⟩]
    · rw [if_neg h1, if_neg (by omega)]
theorem DT.get {wr : World} {D g k : Nat} (h : DT wr D g k) (hk : k < 44) : (∃ u, wr.cell? ⟨D, k, none⟩ = some u) ∧ wr.frozen? ⟨D, k, none⟩ = false := by
  obtain ⟨cur, hb, hs, hv⟩ := h
  exact ⟨⟨_, hb.get (hv k hk)⟩, hb.frozen k⟩

theorem operations_any (w : World) (g : Nat) :
    Calls Try.prog 32 #[.pointer (some ⟨g, 0, none⟩)] w fun e w' => e = .returned (.slice (some ⟨w.heap.size, 0, none⟩) 44 44) ∧ DT w' w.heap.size g 33 ∧ Below w.heap.size w w' := by
  have hmf : ∀ (fn : Fn) (first cap : Array Value) (w : World), (Instr.makeFunc fn first cap).run Try.prog w = .ok (.func fn first cap) w := fun _ _ _ _ => rfl
  go_enter Try.func32, Try.ntmps32
  go_wp2
  go_loopw [4] (fun i wr => ∃ k : Nat, 17 ≤ k ∧ k ≤ 33 ∧ i = .int .i64 k ∧ DT wr w.heap.size g k ∧ Below w.heap.size w wr) (fun i _ => 33 - (intOf i).toNat)
  case atStart =>
    refine ⟨17, by omega, by omega, rfl, ⟨_, Blk.new w _ _, rfl, fun i hi => ?_⟩, (Below.refl _ w).alloc (Nat.le_refl _) _⟩
    rw [if_neg (by omega)]
    revert i
    intro i hi
    have : i = 0 ∨ i = 1 ∨ i = 2 ∨ i = 3 ∨ i = 4 ∨ i = 5 ∨ i = 6 ∨ i = 7 ∨ i = 8 ∨ i = 9 ∨ i = 10 ∨ i = 11 ∨ i = 12 ∨ i = 13 ∨ i = 14 ∨ i = 15 ∨ i = 16 ∨ i = 17 ∨ i = 18 ∨ i = 19 ∨ i = 20 ∨ i = 21 ∨ i = 22 ∨ i = 23 ∨ i = 24 ∨ i = 25 ∨ i = 26 ∨ i = 27 ∨ i = 28 ∨ i = 29 ∨ i = 30 ∨ i = 31 ∨ i = 32 ∨ i = 33 ∨ i = 34 ∨ i = 35 ∨ i = 36 ∨ i = 37 ∨ i = 38 ∨ i = 39 ∨ i = 40 ∨ i = 41 ∨ i = 42 ∨ i = 43 := by omega
    rcases this with rfl | rfl | rfl | rfl | rfl | rfl | rfl | rfl | rfl | rfl | rfl | rfl | rfl | rfl | rfl | rfl | rfl | rfl | rfl | rfl | rfl | rfl | rfl | rfl | rfl | rfl | rfl | rfl | rfl | rfl | rfl | rfl | rfl | rfl | rfl | rfl | rfl | rfl | rfl | rfl | rfl | rfl | rfl | rfl <;> rfl
  case round =>
    obtain ⟨k, h17, hk, rfl, hD, hB⟩ := hrel
    obtain ⟨wo, rfl⟩ : ∃ wo : World, wo = wr := ⟨_, rfl⟩
    have k0 : (0 : Int) ≤ (k : Int) := by omega
    by_cases hlt : k < 33
    · have d1 : decide ((k : Int) ≤ 32) = true := by simp; omega
      have d2 : (k : Int) < 44 := by omega
      obtain ⟨⟨u, hu⟩, hf⟩ := hD.get (by omega)
      go_wp2
      go_roundw
      case rel => exact ⟨k + 1, by omega, by omega, by go_num, hD.step hlt h17, hB.setCell (p := ⟨w.heap.size, k, none⟩) (Nat.le_refl _) _⟩
      case measure => simp [intOf]; omega
    · have d1 : decide ((k : Int) ≤ 32) = false := by simp; omega
      obtain rfl : k = 33 := by omega
      go_wp2
      go_ret
      exact ⟨rfl, hD, hB⟩
end Go.Proofs.Ytikgghioneiegaa
