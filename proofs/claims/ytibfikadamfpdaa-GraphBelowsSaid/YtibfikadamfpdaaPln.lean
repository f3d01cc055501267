/-
  A region that draws its order, makes no call and stands in a round: as everywhere.
-/
import Derived.RangeFuncWrites
import Derived.OrdersIn
import Derived.OrdersHeld
import Derived.AtR
import Derived.Test.YtibfikadamfpdaaBk
namespace Go.Proofs.Ytibfikadamfpdaa
open Go.RowKit
set_option linter.unusedVariables false
set_option linter.unusedSimpArgs false

def plainB (o : Oper) : Bool :=
  match o.op with
  | .move _ | .assign _ | .pick .. | .load .. | .store .. | .indexAddr .. => true
  | _ => false
section
variable {P : Program}
theorem plain_shape {o : Oper} (hp : plainB o = true) {ρ : Operand → Value} {w w' : World} {x : Next} (h : (execOp ρ o).run P w = .ok x w') : (∃ v, x = .value v) ∨ x = .skip := by
  unfold plainB at hp
  unfold execOp at h
  cases ho : o.op
  all_goals rw [ho] at hp h
  all_goals first
    | (simp at hp; done)
    | skip
  all_goals simp only [Sem.run_bind, Sem.run_pure] at h
  all_goals first
    | (injection h with h1 _; exact .inl ⟨_, h1.symm⟩)
    | (revert h; generalize Sem.run P _ w = r; intro h; cases r with
       | ok a b => first
         | (simp only [Result.andThen_ok, Sem.run_pure] at h; injection h with h1 _; first | exact .inl ⟨_, h1.symm⟩ | exact .inr h1.symm)
         | (simp only [Result.andThen_ok] at h; split at h <;> (simp only [Sem.run_pure] at h; injection h with h1 _; exact .inl ⟨_, h1.symm⟩))
       | halt a b => simp [Result.andThen] at h)
def onlyN (Q : Exit → Act → World → Prop) : Exit → Act → World → Prop
  | .normal, a, w => Q .normal a w
  | _, _, _ => False
theorem onlyN_out {Q : Exit → Act → World → Prop} : ¬ LetsOut (onlyN Q) := by
  rintro ⟨a, w, h⟩
  exact h
theorem plain_ops {F : Fence} {n : Nat} {ops : Array Oper} {Q : Exit → Act → World → Prop} (hp : ∀ (i : Nat) (o : Oper), ops[i]? = some o → plainB o = true) : ∀ (l : List Nat) (a : Act) (w : World), wpOps P ops (onlyN Q) l a w → wpOpsIn F n P ops Q l a w
  | [], a, w, h => h
  | i :: rest, a, w, h => by
    unfold wpOps at h
    unfold wpOpsIn
    cases ho : ops[i]? with
    | none => rw [ho] at h; exact plain_ops hp rest a w h
    | some o =>
      rw [ho] at h
      simp only at h ⊢
      have hpo := hp i o ho
      have hab : ∀ f, o.about P w a.eval = some f → F.fn f := fun f hf => by
        exfalso
        unfold Oper.about at hf
        unfold plainB at hpo
        cases e : o.op <;> rw [e] at hf hpo <;> simp at hf hpo
      split
      · rename_i hw
        rw [if_pos hw] at h
        rcases h with h | ⟨_, h⟩
        · refine ⟨hab, ?_⟩
          rw [Oper.semAt_eq _ _ _ (fun c e => by unfold plainB at hpo; rw [e] at hpo; simp at hpo)]
          unfold Oper.wp at h
          have hs := fun x w' => @plain_shape P o hpo a.eval w w' x
          generalize (execOp a.eval o).run P w = r at h hs ⊢
          cases r with
          | ok x w' =>
            rcases hs x w' rfl with ⟨v, rfl⟩ | rfl
            · exact plain_ops hp rest _ _ h
            · exact plain_ops hp rest _ _ h
          | halt x w' => cases x <;> exact h.elim
        · exact absurd h onlyN_out
      · rename_i hw
        rw [if_neg hw] at h
        exact ⟨hab, plain_ops hp rest _ _ h⟩
theorem wpIn_region_plain {F : Fence} {n : Nat} {ops : Array Oper} {Q : Exit → Act → World → Prop} {S : World → Prop} {id : Nat} {a : Act} {w : World} (hm : P.follows .mixedOrders = true) (hp : (ops.toList.all plainB) = true)
    (h : wpAnyH P .any ops (onlyN Q) S ops.size (Array.replicate ops.size false) a w.drew) : (Code.region id ops true).wpIn F n P Q a w :=
  wpIn_region_draw fun t => by
    simp only [Region.schedule, hm, Bool.true_or, if_true]
    exact plain_ops (fun i o ho => List.all_eq_true.1 hp o (by have := Array.mem_of_getElem? ho; simpa using this)) _ _ _ (wpAny_sound ops.size t _ a _ (wpAny_of_held _ _ _ _ h))
end
end Go.Proofs.Ytibfikadamfpdaa
