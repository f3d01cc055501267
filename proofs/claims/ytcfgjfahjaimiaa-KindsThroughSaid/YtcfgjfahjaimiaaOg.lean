/-
  One operation that is ready, behind a guard; a type is itself.
-/
import Derived.Test.YtcfgjfahjaimiaaTyT
import Derived.Test.YtcfgjfahjaimiaaTyU
import Derived.Test.YtcfgjfahjaimiaaSpl
namespace Go.Proofs.Ytcfgjfahjaimiaa
open Go.RowKit
set_option linter.unusedVariables false
set_option linter.unusedSimpArgs false

mutual
theorem same_refl : ∀ t : Ty, same t t = true
  | .mk k p n la lr => by rw [same_mk, sameL_refl la, sameL_refl lr]; simp
theorem sameL_refl : ∀ l : List Ty, sameL l l = true
  | [] => sameL_nil
  | t :: r => by rw [sameL_cons, same_refl t, sameL_refl r]; rfl
end
theorem wpAnyH_oneG {P : Program} {ops : Array Oper} {Q : Exit → Act → World → Prop} {S : World → Prop} {n i : Nat} {L : Array Bool} {a : Act} {w : World} {o : Oper} (hr : Region.ready .any ops L = [i]) (ho : ops[i]? = some o) (hg : Region.wanted o (yielded ops a.tmps) = true)
    (h : o.wp P a w (fun a' w' => S w' ∧ wpAnyH P .any ops Q S n (L.setIfInBounds i true) a' w') Q) : wpAnyH P .any ops Q S (n + 1) L a w := by
  refine wpAnyH_all hr (by simp) fun j hj => ?_
  obtain rfl : j = i := by simpa using hj
  unfold wpOp
  simp only [ho, hg, if_true]
  exact .inl h
theorem true_of {w w' : World} {e : Ending} {b : Bool} (h : TruthP w b e w') (hb : b = true) : TruthP w true e w' := by rw [← hb]; exact h
end Go.Proofs.Ytcfgjfahjaimiaa
