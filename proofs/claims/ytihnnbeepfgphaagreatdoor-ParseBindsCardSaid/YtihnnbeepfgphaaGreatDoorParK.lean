/-
  What some texts are read as, by the kernel.
-/
import Derived.Test.YtihnnbeepfgphaaGreatDoorParH
namespace Go.Proofs.YtihnnbeepfgphaaGreatDoor
open Go.RowKit
set_option linter.unusedVariables false
set_option linter.unusedSimpArgs false

def exP : List UInt8 := [112, 97, 99, 107, 97, 103, 101, 32, 97, 59, 32, 102, 117, 110, 99, 32, 102, 40, 120, 32, 105, 110, 116, 41, 32, 105, 110, 116, 32, 123, 32, 114, 101, 116, 117, 114, 110, 32, 120, 32, 43, 32, 49, 59, 32, 125]
def chkEx : PR → Bool
  | .tree t => t.nodes == 10 && (match t.kids with | (.mk _ _ n _ tx _ _) :: _ => n == 1 && tx == [102] | _ => false)
  | _ => false
set_option maxRecDepth 100000 in
theorem ex_ok : chkEx (parseD exP) = true := by decide +kernel
theorem ex_tree : ∃ t, parseD exP = .tree t ∧ t.nodes = 10 ∧ ∃ (k op : Int) (p : List UInt8) (a : Nat) (ks r : List Tr), t.kids = .mk k op 1 p [102] a ks :: r := by
  have h := ex_ok
  generalize parseD exP = p at h
  cases p with
  | fault a e => cases h
  | tree t =>
    obtain ⟨k, op, n, pk, tx, a, ks⟩ := t
    unfold chkEx at h
    simp only [Bool.and_eq_true, beq_iff_eq] at h
    obtain ⟨h1, h2⟩ := h
    refine ⟨_, rfl, h1, ?_⟩
    cases ks with
    | nil => simp [Tr.kids] at h2
    | cons x r =>
      obtain ⟨k2, op2, n2, pk2, tx2, a2, ks2⟩ := x
      simp only [Tr.kids, Bool.and_eq_true, beq_iff_eq] at h2
      obtain ⟨rfl, rfl⟩ := h2
      exact ⟨_, _, _, _, _, _, rfl⟩
def preP : List UInt8 := [112, 97, 99, 107, 97, 103, 101, 32, 97, 59, 32, 118, 97, 114, 32, 120, 32, 105, 110, 116, 32, 61, 32]
def exprOf : PR → Option Tr
  | .tree t => match t.kids with
    | [v] => match v.kids with
      | [_, x] => some x
      | _ => none
    | _ => none
  | _ => none
def deepP (k : Nat) : List UInt8 := preP ++ List.replicate k 45 ++ [55, 59]
def chkDeep (k : Nat) : PR → Bool
  | .tree _ => decide (k ≤ 97)
  | .fault a e => decide (97 < k) && a == 0 && e == 3
def brP (k : Nat) : List UInt8 := preP ++ (List.replicate k 40 ++ [55] ++ List.replicate k 41) ++ [59]
def chkBr (k : Nat) (p : PR) : Bool :=
  if k ≤ 40 then (match exprOf p with | some (.mk kk _ n _ _ _ _) => kk == 26 && n == 7 | none => false)
  else (match p with | .fault a e => a == 63 && e == 3 | _ => false)
def bindP (s t : List UInt8) : List UInt8 := preP ++ ([120, 32] ++ s ++ [32, 121, 32] ++ t ++ [32, 122]) ++ [59]
def Tr.op : Tr → Int | .mk _ op _ _ _ _ _ => op
def Tr.text : Tr → List UInt8 | .mk _ _ _ _ t _ _ => t
def chkBi (a b k l : Int) (p : PR) : Bool :=
  match exprOf p with
  | some (.mk kk op _ _ _ _ [x, y]) => kk == 31 && (if l ≤ k then op == b && x.op == a && y.text == [122] else op == a && y.op == b && x.text == [120])
  | _ => false
def signs : List (Int × List UInt8 × Int) := [(18, [124, 124], 1), (17, [38, 38], 2), (11, [61, 61], 3), (12, [33, 61], 3), (13, [60], 3), (14, [60, 61], 3), (15, [62], 3), (16, [62, 61], 3), (1, [43], 4), (2, [45], 4), (3, [42], 5), (4, [47], 5), (5, [37], 5)]
set_option maxRecDepth 100000 in
theorem bind_ok : ∀ x ∈ signs, ∀ y ∈ signs, chkBi x.1 y.1 x.2.2 y.2.2 (parseD (bindP x.2.1 y.2.1)) = true := by decide +kernel
set_option maxRecDepth 100000 in
theorem br_ok : ∀ k, k < 60 → chkBr k (parseD (brP k)) = true := by decide +kernel
end Go.Proofs.YtihnnbeepfgphaaGreatDoor
