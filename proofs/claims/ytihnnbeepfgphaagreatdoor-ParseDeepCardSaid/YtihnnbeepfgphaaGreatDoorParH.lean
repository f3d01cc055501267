/-
  More fuel changes nothing; trees' sizes; what a text is read as.
-/
import Derived.Test.YtihnnbeepfgphaaGreatDoorParF
import Derived.Test.YtihnnbeepfgphaaGreatDoorLexI
namespace Go.Proofs.YtihnnbeepfgphaaGreatDoor
open Go.RowKit
set_option linter.unusedVariables false
set_option linter.unusedSimpArgs false

def Lq (r r' : R) : Prop := r = .out ∨ r = r'
theorem Lq.refl (r : R) : Lq r r := .inr rfl
theorem Lq.ite {c : Prop} [Decidable c] {a b a' b' : R} (h1 : Lq a a') (h2 : Lq b b') : Lq (if c then a else b) (if c then a' else b') := by
  split
  · exact h1
  · exact h2
theorem Lq.bnd {r r' : R} {f f' : Tr → List T → R} (h : Lq r r') (hf : ∀ t l, Lq (f t l) (f' t l)) : Lq (bnd r f) (bnd r' f') := by
  rcases h with rfl | rfl
  · exact .inl rfl
  · cases r with
    | ok t l => exact hf t l
    | bad a e => exact .inr rfl
    | out => exact .inl rfl
theorem Lq.take {l : List T} {f f' : T → List T → R} (hf : ∀ x r, Lq (f x r) (f' x r)) : Lq (takeR l f) (takeR l f') := by
  cases l with
  | nil => exact .inl rfl
  | cons x r => exact hf x r
theorem Lq.want {m : List UInt8} {l : List T} {f f' : T → List T → R} (hf : ∀ x r, Lq (f x r) (f' x r)) : Lq (want m l f) (want m l f') := by
  unfold Go.Proofs.YtihnnbeepfgphaaGreatDoor.want
  exact Lq.ite (Lq.take hf) (Lq.refl _)
theorem Lq.wantK {m : Int} {l : List T} {f f' : T → List T → R} (hf : ∀ x r, Lq (f x r) (f' x r)) : Lq (wantK m l f) (wantK m l f') := by
  unfold Go.Proofs.YtihnnbeepfgphaaGreatDoor.wantK
  exact Lq.ite (Lq.take hf) (Lq.refl _)
theorem Lq.enter {m : List UInt8} {l : List T} {o : Nat} {f f' : T → List T → R} (hf : ∀ x r, Lq (f x r) (f' x r)) : Lq (enter m l o f) (enter m l o f') := by
  unfold Go.Proofs.YtihnnbeepfgphaaGreatDoor.enter
  exact Lq.want fun x r => Lq.ite (Lq.refl _) (hf x r)
theorem go_le1 (n m : Nat) (h : ∀ nt l o, Lq (go n nt l o) (go m nt l o)) (nt : NT) (l : List T) (o : Nat) : Lq (go (n + 1) nt l o) (go (m + 1) nt l o) := by
  cases nt <;> simp only [go] <;> repeat (first
    | exact h _ _ _
    | exact Lq.refl _
    | (with_reducible refine Lq.bnd (h _ _ _) fun t l => ?_)
    | (with_reducible refine Lq.enter fun x r => ?_)
    | (with_reducible refine Lq.want fun x r => ?_)
    | (with_reducible refine Lq.wantK fun x r => ?_)
    | (with_reducible refine Lq.take fun x r => ?_)
    | (with_reducible refine Lq.ite ?_ ?_))
theorem go_le : ∀ (n k : Nat) (nt : NT) (l : List T) (o : Nat), Lq (go n nt l o) (go (n + k) nt l o)
  | 0, _, _, _, _ => .inl rfl
  | n + 1, k, nt, l, o => by
    have := go_le1 n (n + k) (fun nt l o => go_le n k nt l o) nt l o
    rwa [Nat.add_right_comm] at this
theorem go_more {n m : Nat} {nt : NT} {l : List T} {o : Nat} {r : R} (h : go n nt l o = r) (hr : r ≠ .out) (hnm : n ≤ m) : go m nt l o = r := by
  obtain ⟨k, rfl⟩ := Nat.exists_eq_add_of_le hnm
  rcases go_le n k nt l o with h1 | h1
  · exact absurd (h.symm.trans h1) hr
  · exact h1.symm.trans h

/-! ## How many nodes a tree has, and how deep it is. -/
mutual
def Tr.nodes : Tr → Nat
  | .mk _ _ _ _ _ _ ks => nodesL ks + 1
def nodesL : List Tr → Nat
  | [] => 0
  | t :: r => t.nodes + nodesL r
end
mutual
def Tr.deep : Tr → Nat
  | .mk _ _ _ _ _ _ ks => deepL ks + 1
def deepL : List Tr → Nat
  | [] => 0
  | t :: r => max t.deep (deepL r)
end
inductive PR where
  | tree (t : Tr)
  | fault (a : Nat) (e : Int)
/-- What tokens are read as. -/
def parseT (ts : List T) : PR :=
  match go (10 * ts.length + 1) .file ts 0 with
  | .ok t _ => if 3000 < t.nodes then .fault 0 2 else if 100 < t.deep then .fault 0 3 else .tree t
  | .bad a e => .fault a e
  | .out => .fault 0 0
/-- What a text is read as. -/
def parseD (l : List UInt8) : PR := if (lexD l).2.2 = 0 then parseT (lexD l).1 else .fault (lexD l).2.1 (lexD l).2.2
theorem file_fine {P : Nat} {ts : List T} (h : gd P ts) : Fine P 1 ts.length (go (10 * ts.length + 1) .file ts 0) := fine_go _ .file ts 0 h trivial (by show 10 * ts.length + 0 < _; omega)
theorem parseT_of {ts : List T} {P n : Nat} {r : R} (h : gd P ts) (hg : go n .file ts 0 = r) (hr : r ≠ .out) : go (10 * ts.length + 1) .file ts 0 = r := by
  have h1 := (file_fine h).out
  rcases Nat.le_total n (10 * ts.length + 1) with hn | hn
  · exact go_more hg hr hn
  · exact (go_more rfl h1 hn).symm.trans hg
end Go.Proofs.YtihnnbeepfgphaaGreatDoor
