/-
  All contracts of a parser's methods, with any fuel.
-/
import Derived.Test.YtihnnbeepfgphaaGreatDoorParD
import Derived.Test.YtihnnbeepfgphaaGreatDoorPG1
import Derived.Test.YtihnnbeepfgphaaGreatDoorPG2
import Derived.Test.YtihnnbeepfgphaaGreatDoorPG3
import Derived.Test.YtihnnbeepfgphaaGreatDoorPG4
namespace Go.Proofs.YtihnnbeepfgphaaGreatDoor
open Go.RowKit
set_option linter.unusedVariables false
set_option linter.unusedSimpArgs false

theorem all_zero : AllN 0 := by
  constructor <;> (first | unfold C0 | unfold C0m | unfold CC | unfold CT | unfold CH | unfold CW | unfold CL | unfold C1 | unfold C1m) <;> (intros; exact (‹_ ≠ R.out› (Eq.symm ‹bnd (go 0 _ _ _) _ = _›)).elim)
theorem all_succ (n : Nat) (hn : n ≤ LIM) (H : ∀ m, m ≤ n → AllN m) : AllN (n + 1) where
  expr := expr_step n hn H
  newStruct := newStruct_step n hn H
  key := key_step n hn H
  call := call_step n hn H
  indexed := indexed_step n hn H
  selected := selected_step n hn H
  first := first_step n hn H
  firstMark := firstMark_step n hn H
  inBrackets := inBrackets_step n hn H
  literalList := literalList_step n hn H
  literalFunc := literalFunc_step n hn H
  makeCall := makeCall_step n hn H
  block := block_step n hn H
  stat := stat_step n hn H
  branch := branch_step n hn H
  otherwise := otherwise_step n hn H
  loop := loop_step n hn H
  giveBack := giveBack_step n hn H
  define := define_step n hn H
  simple := simple_step n hn H
  param := param_step n hn H
  typeOf := typeOf_step n hn H
  typeName := typeName_step n hn H
  decl := decl_step n hn H
  constant := constant_step n hn H
  declaredType := declaredType_step n hn H
  field := field_step n hn H
  sig := sig_step n hn H
  declaredFunc := declaredFunc_step n hn H
  receiver := receiver_step n hn H
  typeVar := typeVar_step n hn H
  unary := unary_step n hn H
  within := within_step n hn H
  list := list_step n hn H
  head := head_step n hn H
  variable_ := variable_step n hn H
  binary := fun k h1 h2 => binary_step n hn H k h1 h2
  named := fun k => named_step n hn H k
  leap := fun k => leap_step n hn H k
theorem all_n : ∀ n : Nat, n ≤ LIM → AllN n := by
  intro n
  induction n using Nat.strongRecOn with
  | _ n ih =>
    intro hn
    cases n with
    | zero => exact all_zero
    | succ n => exact all_succ n (by omega) fun m hm => ih m (by omega) (by omega)
/-- The whole parser on tokens that a text has. -/
theorem file_any (n : Nat) (hn : n ≤ LIM) : CF (n + 1) := file_step n hn fun m hm => all_n m (by omega)
end Go.Proofs.YtihnnbeepfgphaaGreatDoor
