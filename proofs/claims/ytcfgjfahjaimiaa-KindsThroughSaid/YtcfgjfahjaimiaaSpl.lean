/-
  A region that draws its order in two parts: the first operations among themselves, a held predicate behind each; the rest waits for them.
-/
import Derived.Test.YtcfgjfahjaimiaaPReg
import Derived.OrdersHeld
import Derived.Deep.RegionHeld
namespace Go.Proofs.Ytcfgjfahjaimiaa
open Go.RowKit
set_option linter.unusedVariables false
set_option linter.unusedSimpArgs false

section
variable {P : Program} {ops : Array Oper} {Q : Exit → Act → World → Prop}
theorem op_exits {o : Oper} {a : Act} {w : World} {K : Act → World → Prop} {Q Q' : Exit → Act → World → Prop} (hp : ∀ c a w, Q' (.panic c) a w → Q (.panic c) a w) (hl : LetsOut Q' → LetsOut Q) (h : o.wp P a w K Q') : o.wp P a w K Q := by
  unfold Oper.wp at *
  generalize (execOp a.eval o).run P w = r at *
  cases r with
  | ok n w' =>
    cases n <;> simp only [Oper.upon] at h ⊢
    case value u => exact h
    case skip => exact h
    case defer d => exact h
    case enter f args =>
      refine Calls.mono h fun e w'' he => ?_
      cases e with
      | returned u => exact he
      | panicked c => exact hp _ _ _ he
      | outgrown => exact hl he
    case row row args => exact h
  | halt x w' =>
    cases x <;> simp only [Oper.upon] at h ⊢
    case panic u => exact hp _ _ _ h
def headL (m : Nat) (L : Array Bool) : Array Bool := (L.toList.take m).toArray
theorem headL_get {m i : Nat} {L : Array Bool} (h : i < m) (d : Bool) : (headL m L).getD i d = L.getD i d := by
  simp [headL, Array.getD_eq_getD_getElem?, List.getElem?_take_of_lt h]
theorem headL_set {m i : Nat} {L : Array Bool} (h : i < m) : headL m (L.setIfInBounds i true) = (headL m L).setIfInBounds i true := by
  simp [headL, List.take_set]
/-- What follows behind the first part. -/
def thenQ (P : Program) (ops : Array Oper) (m : Nat) (Q : Exit → Act → World → Prop) : Exit → Act → World → Prop
  | .normal, a, w => wpAny P .any ops Q (ops.size - m) (preL m ops.size) a w
  | x, a, w => Q x a w
theorem wp_region_split {id : Nat} {a0 : Act} {w0 : World} {S : World → Prop} (m : Nat) (hm : P.follows .mixedOrders = true) (hB : preB ops m = true) (hS : S w0.drew)
    (h : S w0.drew → wpAnyH P .any (ops.toList.take m).toArray (thenQ P ops m Q) S m (Array.replicate m false) a0 w0.drew) : (Code.region id ops true).wp P Q a0 w0 := by
  obtain ⟨b1, b2, b3, b4⟩ := preB_parts hB
  have hget : ∀ i, i < m → (ops.toList.take m).toArray[i]? = ops[i]? := fun i hi => by simp [List.getElem?_take_of_lt hi]
  have hnone : ∀ i, m ≤ i → (ops.toList.take m).toArray[i]? = none := fun i hi => by simp; omega
  refine wp_region_any hm (wpAny_pre hB (fun L a w => (∀ i, m ≤ i → i < ops.size → L.getD i true = false) ∧ L.size = ops.size ∧ wpAnyH P .any (ops.toList.take m).toArray (thenQ P ops m Q) S (unl (headL m L)) (headL m L) a w) ?_ ?_ _ _ _ _ (by simp) ?_ (by simp [unl]) ?_)
  · intro L a w i o hL ho hi hl hall hI
    obtain ⟨i0, i1, i2⟩ := hI
    have hio : i < ops.size := (Array.getElem?_eq_some_iff.1 ho).1
    have hhl : (headL m L).getD i true = false := by rw [headL_get hi]; exact hl
    have hrd : i ∈ Region.ready .any (ops.toList.take m).toArray (headL m L) := by
      refine mem_ready.2 ⟨hhl, o, (hget i hi).trans ho, fun e he hb => ?_⟩
      have h1 := hall e he hb
      have h3 := (b2 i o ho hi).2 e he hb
      rw [headL_get (by omega)]
      exact h1
    have hun := unl_set (headL m L) i hhl
    rw [← hun] at i2
    have h4 := i2.2 i hrd
    unfold wpOp at h4 ⊢
    have hw1 : ∀ (os : Array Oper), Region.wanted o (yielded os a.tmps) = true := fun os => by simp [Region.wanted, (b2 i o ho hi).1]
    rw [hget i hi] at h4
    simp only [ho, hw1, if_true] at h4 ⊢
    have hl2 : LetsOut (thenQ P ops m Q) → LetsOut Q := fun h => h
    rcases h4 with h4 | ⟨h4, h5⟩
    · refine .inl (Oper.wp_mono ?_ (op_exits (Q' := thenQ P ops m Q) (fun _ _ _ h => h) hl2 h4))
      rintro a' w' ⟨_, h6⟩
      refine ⟨fun k hk hk2 => by rw [getD_set_ne true (by omega)]; exact i0 k hk hk2, by simpa using i1, ?_⟩
      rw [headL_set hi]
      exact h6
    · exact .inr ⟨h4, hl2 h5⟩
  · intro a w hI
    obtain ⟨i0, i1, i2⟩ := hI
    have hz : unl (headL m (preL m ops.size)) = 0 := by simp [headL, preL, unl, List.take_append, List.take_replicate]
    rw [hz] at i2
    exact i2.2
  · intro i hi hi2
    simp [Array.getD, hi2]
  · refine ⟨fun i hi hi2 => by simp [Array.getD, hi2], by simp, ?_⟩
    have e : headL m (Array.replicate ops.size false) = Array.replicate m false := by
      apply Array.ext'
      simp [headL, List.take_replicate, b1]
    rw [e]
    have e2 : unl (Array.replicate m false) = m := by simp [unl]
    rw [e2]
    exact h hS
end
end Go.Proofs.Ytcfgjfahjaimiaa
