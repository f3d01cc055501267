/-
  How many nodes the pure parser makes at most.
-/
import Derived.Test.YtihnnbeepfgphaaGreatDoorParH
namespace Go.Proofs.YtihnnbeepfgphaaGreatDoor
open Go.RowKit
set_option linter.unusedVariables false
set_option linter.unusedSimpArgs false

theorem nodesL_append (a b : List Tr) : nodesL (a ++ b) = nodesL a + nodesL b := by
  induction a with
  | nil => simp [nodesL]
  | cons x a ih => simp only [List.cons_append, nodesL, ih]; omega
theorem nodesL_kids (t : Tr) : nodesL t.kids = t.nodes - 1 := by
  cases t
  simp [Tr.kids, Tr.nodes]
theorem nodes_pos (t : Tr) : 1 ≤ t.nodes := by
  cases t
  simp [Tr.nodes]
theorem nodes_mk (k op n : Int) (p s : List UInt8) (a : Nat) (ks : List Tr) : (Tr.mk k op n p s a ks).nodes = nodesL ks + 1 := by simp only [Tr.nodes]
theorem nodesL_cons (t : Tr) (r : List Tr) : nodesL (t :: r) = t.nodes + nodesL r := by simp only [nodesL]
theorem nodesL_nil : nodesL [] = 0 := by simp only [nodesL]
def ext : NT → Nat
  | .bins _ t => t.nodes | .behind t => t.nodes | .lists _ acc => nodesL acc + 1 | .stats acc => nodesL acc + 1 | .imports acc => nodesL acc + 1 | .decls acc => nodesL acc + 1 | .parts _ acc => nodesL acc + 1
  | .call t _ => t.nodes | .indexed t => t.nodes | .selected t => t.nodes | .list _ => 1
  | _ => 0
theorem pt_ext (p : Pt) : ext p.nt = 0 := by cases p <;> rfl
def Fat (m : Nat) : R → Prop
  | .ok t l => t.nodes + 2 * l.length ≤ m
  | _ => True
theorem Fat.mono {m m' : Nat} {r : R} (h : Fat m r) (hm : m ≤ m') : Fat m' r := by
  cases r with
  | ok t l => exact Nat.le_trans h hm
  | bad a e => trivial
  | out => trivial
theorem Fat.ok {m : Nat} {t : Tr} {l : List T} (h : t.nodes + 2 * l.length ≤ m) : Fat m (.ok t l) := h
theorem Fat.refuse {m : Nat} {l : List T} : Fat m (refuse l) := by
  cases l <;> trivial
theorem Fat.bnd {m m' : Nat} {r : R} {f : Tr → List T → R} (h : Fat m r) (hf : ∀ t l, t.nodes + 2 * l.length ≤ m → Fat m' (f t l)) : Fat m' (bnd r f) := by
  cases r with
  | ok t l => exact hf t l h
  | bad a e => trivial
  | out => trivial
theorem Fat.take {m : Nat} {l : List T} {f : T → List T → R} (hf : ∀ x r, r.length + 1 = l.length → Fat m (f x r)) : Fat m (takeR l f) := by
  cases l with
  | nil => trivial
  | cons x r => exact hf x r rfl
theorem Fat.want {m : Nat} {l : List T} {s : List UInt8} {f : T → List T → R} (hf : ∀ x r, r.length + 1 = l.length → Fat m (f x r)) : Fat m (want s l f) := by
  unfold Go.Proofs.YtihnnbeepfgphaaGreatDoor.want
  split
  · exact Fat.take hf
  · exact Fat.refuse
theorem Fat.wantK {m : Nat} {l : List T} {k : Int} {f : T → List T → R} (hf : ∀ x r, r.length + 1 = l.length → Fat m (f x r)) : Fat m (wantK k l f) := by
  unfold Go.Proofs.YtihnnbeepfgphaaGreatDoor.wantK
  split
  · exact Fat.take hf
  · exact Fat.refuse
theorem Fat.enter {m o : Nat} {l : List T} {s : List UInt8} {f : T → List T → R} (hf : ∀ x r, r.length + 1 = l.length → Fat m (f x r)) : Fat m (enter s l o f) := by
  unfold Go.Proofs.YtihnnbeepfgphaaGreatDoor.enter
  refine Fat.want fun x r h => ?_
  split
  · trivial
  · exact hf x r h
theorem fat_go : ∀ (n : Nat) (nt : NT) (l : List T) (o : Nat), Fat (2 * l.length + ext nt) (go n nt l o)
  | 0, _, _, _ => trivial
  | n + 1, nt, l, o => by
    have ih := fat_go n
    cases nt
    case expr  =>
      simp only [go]
      repeat (first
        | (with_reducible refine Fat.want ?_; intro x r hl)
        | (with_reducible refine Fat.wantK ?_; intro x r hl)
        | (with_reducible refine Fat.enter ?_; intro x r hl)
        | split
        | (with_reducible refine Fat.take ?_; intro x r hl)
        | (refine Fat.bnd (ih _ _ _) ?_; intro t l hl; have := nodes_pos t; try rw [pt_ext] at hl)
        | exact Fat.refuse
        | exact Fat.ok (by first | (simp only [ext, nd, tnd, lst, nodes_mk, nodesL_cons, nodesL_nil, nodesL_append, nodesL_kids] at *; omega) | (rw [pt_ext]; omega))
        | (refine Fat.mono (ih _ _ _) (by first | (simp only [ext, nd, tnd, lst, nodes_mk, nodesL_cons, nodesL_nil, nodesL_append, nodesL_kids] at *; omega) | (rw [pt_ext]; omega))))
    case binary k =>
      simp only [go]
      repeat (first
        | (with_reducible refine Fat.want ?_; intro x r hl)
        | (with_reducible refine Fat.wantK ?_; intro x r hl)
        | (with_reducible refine Fat.enter ?_; intro x r hl)
        | split
        | (with_reducible refine Fat.take ?_; intro x r hl)
        | (refine Fat.bnd (ih _ _ _) ?_; intro t l hl; have := nodes_pos t; try rw [pt_ext] at hl)
        | exact Fat.refuse
        | exact Fat.ok (by first | (simp only [ext, nd, tnd, lst, nodes_mk, nodesL_cons, nodesL_nil, nodesL_append, nodesL_kids] at *; omega) | (rw [pt_ext]; omega))
        | (refine Fat.mono (ih _ _ _) (by first | (simp only [ext, nd, tnd, lst, nodes_mk, nodesL_cons, nodesL_nil, nodesL_append, nodesL_kids] at *; omega) | (rw [pt_ext]; omega))))
    case bins k t =>
      simp only [go]
      repeat (first
        | (with_reducible refine Fat.want ?_; intro x r hl)
        | (with_reducible refine Fat.wantK ?_; intro x r hl)
        | (with_reducible refine Fat.enter ?_; intro x r hl)
        | split
        | (with_reducible refine Fat.take ?_; intro x r hl)
        | (refine Fat.bnd (ih _ _ _) ?_; intro t l hl; have := nodes_pos t; try rw [pt_ext] at hl)
        | exact Fat.refuse
        | exact Fat.ok (by first | (simp only [ext, nd, tnd, lst, nodes_mk, nodesL_cons, nodesL_nil, nodesL_append, nodesL_kids] at *; omega) | (rw [pt_ext]; omega))
        | (refine Fat.mono (ih _ _ _) (by first | (simp only [ext, nd, tnd, lst, nodes_mk, nodesL_cons, nodesL_nil, nodesL_append, nodesL_kids] at *; omega) | (rw [pt_ext]; omega))))
    case unary  =>
      simp only [go]
      repeat (first
        | (with_reducible refine Fat.want ?_; intro x r hl)
        | (with_reducible refine Fat.wantK ?_; intro x r hl)
        | (with_reducible refine Fat.enter ?_; intro x r hl)
        | split
        | (with_reducible refine Fat.take ?_; intro x r hl)
        | (refine Fat.bnd (ih _ _ _) ?_; intro t l hl; have := nodes_pos t; try rw [pt_ext] at hl)
        | exact Fat.refuse
        | exact Fat.ok (by first | (simp only [ext, nd, tnd, lst, nodes_mk, nodesL_cons, nodesL_nil, nodesL_append, nodesL_kids] at *; omega) | (rw [pt_ext]; omega))
        | (refine Fat.mono (ih _ _ _) (by first | (simp only [ext, nd, tnd, lst, nodes_mk, nodesL_cons, nodesL_nil, nodesL_append, nodesL_kids] at *; omega) | (rw [pt_ext]; omega))))
    case behind t =>
      simp only [go]
      repeat (first
        | (with_reducible refine Fat.want ?_; intro x r hl)
        | (with_reducible refine Fat.wantK ?_; intro x r hl)
        | (with_reducible refine Fat.enter ?_; intro x r hl)
        | split
        | (with_reducible refine Fat.take ?_; intro x r hl)
        | (refine Fat.bnd (ih _ _ _) ?_; intro t l hl; have := nodes_pos t; try rw [pt_ext] at hl)
        | exact Fat.refuse
        | exact Fat.ok (by first | (simp only [ext, nd, tnd, lst, nodes_mk, nodesL_cons, nodesL_nil, nodesL_append, nodesL_kids] at *; omega) | (rw [pt_ext]; omega))
        | (refine Fat.mono (ih _ _ _) (by first | (simp only [ext, nd, tnd, lst, nodes_mk, nodesL_cons, nodesL_nil, nodesL_append, nodesL_kids] at *; omega) | (rw [pt_ext]; omega))))
    case newStruct  =>
      simp only [go]
      repeat (first
        | (with_reducible refine Fat.want ?_; intro x r hl)
        | (with_reducible refine Fat.wantK ?_; intro x r hl)
        | (with_reducible refine Fat.enter ?_; intro x r hl)
        | split
        | (with_reducible refine Fat.take ?_; intro x r hl)
        | (refine Fat.bnd (ih _ _ _) ?_; intro t l hl; have := nodes_pos t; try rw [pt_ext] at hl)
        | exact Fat.refuse
        | exact Fat.ok (by first | (simp only [ext, nd, tnd, lst, nodes_mk, nodesL_cons, nodesL_nil, nodesL_append, nodesL_kids] at *; omega) | (rw [pt_ext]; omega))
        | (refine Fat.mono (ih _ _ _) (by first | (simp only [ext, nd, tnd, lst, nodes_mk, nodesL_cons, nodesL_nil, nodesL_append, nodesL_kids] at *; omega) | (rw [pt_ext]; omega))))
    case key  =>
      simp only [go]
      repeat (first
        | (with_reducible refine Fat.want ?_; intro x r hl)
        | (with_reducible refine Fat.wantK ?_; intro x r hl)
        | (with_reducible refine Fat.enter ?_; intro x r hl)
        | split
        | (with_reducible refine Fat.take ?_; intro x r hl)
        | (refine Fat.bnd (ih _ _ _) ?_; intro t l hl; have := nodes_pos t; try rw [pt_ext] at hl)
        | exact Fat.refuse
        | exact Fat.ok (by first | (simp only [ext, nd, tnd, lst, nodes_mk, nodesL_cons, nodesL_nil, nodesL_append, nodesL_kids] at *; omega) | (rw [pt_ext]; omega))
        | (refine Fat.mono (ih _ _ _) (by first | (simp only [ext, nd, tnd, lst, nodes_mk, nodesL_cons, nodesL_nil, nodesL_append, nodesL_kids] at *; omega) | (rw [pt_ext]; omega))))
    case within a c p =>
      simp only [go]
      repeat (first
        | (with_reducible refine Fat.want ?_; intro x r hl)
        | (with_reducible refine Fat.wantK ?_; intro x r hl)
        | (with_reducible refine Fat.enter ?_; intro x r hl)
        | split
        | (with_reducible refine Fat.take ?_; intro x r hl)
        | (refine Fat.bnd (ih _ _ _) ?_; intro t l hl; have := nodes_pos t; try rw [pt_ext] at hl)
        | exact Fat.refuse
        | exact Fat.ok (by first | (simp only [ext, nd, tnd, lst, nodes_mk, nodesL_cons, nodesL_nil, nodesL_append, nodesL_kids] at *; omega) | (rw [pt_ext]; omega))
        | (refine Fat.mono (ih _ _ _) (by first | (simp only [ext, nd, tnd, lst, nodes_mk, nodesL_cons, nodesL_nil, nodesL_append, nodesL_kids] at *; omega) | (rw [pt_ext]; omega))))
    case list p =>
      simp only [go]
      repeat (first
        | (with_reducible refine Fat.want ?_; intro x r hl)
        | (with_reducible refine Fat.wantK ?_; intro x r hl)
        | (with_reducible refine Fat.enter ?_; intro x r hl)
        | split
        | (with_reducible refine Fat.take ?_; intro x r hl)
        | (refine Fat.bnd (ih _ _ _) ?_; intro t l hl; have := nodes_pos t; try rw [pt_ext] at hl)
        | exact Fat.refuse
        | exact Fat.ok (by first | (simp only [ext, nd, tnd, lst, nodes_mk, nodesL_cons, nodesL_nil, nodesL_append, nodesL_kids] at *; omega) | (rw [pt_ext]; omega))
        | (refine Fat.mono (ih _ _ _) (by first | (simp only [ext, nd, tnd, lst, nodes_mk, nodesL_cons, nodesL_nil, nodesL_append, nodesL_kids] at *; omega) | (rw [pt_ext]; omega))))
    case lists p acc =>
      simp only [go]
      repeat (first
        | (with_reducible refine Fat.want ?_; intro x r hl)
        | (with_reducible refine Fat.wantK ?_; intro x r hl)
        | (with_reducible refine Fat.enter ?_; intro x r hl)
        | split
        | (with_reducible refine Fat.take ?_; intro x r hl)
        | (refine Fat.bnd (ih _ _ _) ?_; intro t l hl; have := nodes_pos t; try rw [pt_ext] at hl)
        | exact Fat.refuse
        | exact Fat.ok (by first | (simp only [ext, nd, tnd, lst, nodes_mk, nodesL_cons, nodesL_nil, nodesL_append, nodesL_kids] at *; omega) | (rw [pt_ext]; omega))
        | (refine Fat.mono (ih _ _ _) (by first | (simp only [ext, nd, tnd, lst, nodes_mk, nodesL_cons, nodesL_nil, nodesL_append, nodesL_kids] at *; omega) | (rw [pt_ext]; omega))))
    case call t p =>
      simp only [go]
      refine Fat.take fun x r hl => Fat.bnd (ih _ _ _) fun ks l2 h2 => Fat.ok ?_
      have := nodes_pos ks
      simp only [ext, nd, nodes_mk, nodesL_cons, nodesL_kids] at *
      omega
    case indexed t =>
      simp only [go]
      repeat (first
        | (with_reducible refine Fat.want ?_; intro x r hl)
        | (with_reducible refine Fat.wantK ?_; intro x r hl)
        | (with_reducible refine Fat.enter ?_; intro x r hl)
        | split
        | (with_reducible refine Fat.take ?_; intro x r hl)
        | (refine Fat.bnd (ih _ _ _) ?_; intro t l hl; have := nodes_pos t; try rw [pt_ext] at hl)
        | exact Fat.refuse
        | exact Fat.ok (by first | (simp only [ext, nd, tnd, lst, nodes_mk, nodesL_cons, nodesL_nil, nodesL_append, nodesL_kids] at *; omega) | (rw [pt_ext]; omega))
        | (refine Fat.mono (ih _ _ _) (by first | (simp only [ext, nd, tnd, lst, nodes_mk, nodesL_cons, nodesL_nil, nodesL_append, nodesL_kids] at *; omega) | (rw [pt_ext]; omega))))
    case selected t =>
      simp only [go]
      repeat (first
        | (with_reducible refine Fat.want ?_; intro x r hl)
        | (with_reducible refine Fat.wantK ?_; intro x r hl)
        | (with_reducible refine Fat.enter ?_; intro x r hl)
        | split
        | (with_reducible refine Fat.take ?_; intro x r hl)
        | (refine Fat.bnd (ih _ _ _) ?_; intro t l hl; have := nodes_pos t; try rw [pt_ext] at hl)
        | exact Fat.refuse
        | exact Fat.ok (by first | (simp only [ext, nd, tnd, lst, nodes_mk, nodesL_cons, nodesL_nil, nodesL_append, nodesL_kids] at *; omega) | (rw [pt_ext]; omega))
        | (refine Fat.mono (ih _ _ _) (by first | (simp only [ext, nd, tnd, lst, nodes_mk, nodesL_cons, nodesL_nil, nodesL_append, nodesL_kids] at *; omega) | (rw [pt_ext]; omega))))
    case first  =>
      simp only [go]
      repeat (first
        | (with_reducible refine Fat.want ?_; intro x r hl)
        | (with_reducible refine Fat.wantK ?_; intro x r hl)
        | (with_reducible refine Fat.enter ?_; intro x r hl)
        | split
        | (with_reducible refine Fat.take ?_; intro x r hl)
        | (refine Fat.bnd (ih _ _ _) ?_; intro t l hl; have := nodes_pos t; try rw [pt_ext] at hl)
        | exact Fat.refuse
        | exact Fat.ok (by first | (simp only [ext, nd, tnd, lst, nodes_mk, nodesL_cons, nodesL_nil, nodesL_append, nodesL_kids] at *; omega) | (rw [pt_ext]; omega))
        | (refine Fat.mono (ih _ _ _) (by first | (simp only [ext, nd, tnd, lst, nodes_mk, nodesL_cons, nodesL_nil, nodesL_append, nodesL_kids] at *; omega) | (rw [pt_ext]; omega))))
    case firstMark  =>
      simp only [go]
      repeat (first
        | (with_reducible refine Fat.want ?_; intro x r hl)
        | (with_reducible refine Fat.wantK ?_; intro x r hl)
        | (with_reducible refine Fat.enter ?_; intro x r hl)
        | split
        | (with_reducible refine Fat.take ?_; intro x r hl)
        | (refine Fat.bnd (ih _ _ _) ?_; intro t l hl; have := nodes_pos t; try rw [pt_ext] at hl)
        | exact Fat.refuse
        | exact Fat.ok (by first | (simp only [ext, nd, tnd, lst, nodes_mk, nodesL_cons, nodesL_nil, nodesL_append, nodesL_kids] at *; omega) | (rw [pt_ext]; omega))
        | (refine Fat.mono (ih _ _ _) (by first | (simp only [ext, nd, tnd, lst, nodes_mk, nodesL_cons, nodesL_nil, nodesL_append, nodesL_kids] at *; omega) | (rw [pt_ext]; omega))))
    case inBrackets  =>
      simp only [go]
      repeat (first
        | (with_reducible refine Fat.want ?_; intro x r hl)
        | (with_reducible refine Fat.wantK ?_; intro x r hl)
        | (with_reducible refine Fat.enter ?_; intro x r hl)
        | split
        | (with_reducible refine Fat.take ?_; intro x r hl)
        | (refine Fat.bnd (ih _ _ _) ?_; intro t l hl; have := nodes_pos t; try rw [pt_ext] at hl)
        | exact Fat.refuse
        | exact Fat.ok (by first | (simp only [ext, nd, tnd, lst, nodes_mk, nodesL_cons, nodesL_nil, nodesL_append, nodesL_kids] at *; omega) | (rw [pt_ext]; omega))
        | (refine Fat.mono (ih _ _ _) (by first | (simp only [ext, nd, tnd, lst, nodes_mk, nodesL_cons, nodesL_nil, nodesL_append, nodesL_kids] at *; omega) | (rw [pt_ext]; omega))))
    case literalList  =>
      simp only [go]
      repeat (first
        | (with_reducible refine Fat.want ?_; intro x r hl)
        | (with_reducible refine Fat.wantK ?_; intro x r hl)
        | (with_reducible refine Fat.enter ?_; intro x r hl)
        | split
        | (with_reducible refine Fat.take ?_; intro x r hl)
        | (refine Fat.bnd (ih _ _ _) ?_; intro t l hl; have := nodes_pos t; try rw [pt_ext] at hl)
        | exact Fat.refuse
        | exact Fat.ok (by first | (simp only [ext, nd, tnd, lst, nodes_mk, nodesL_cons, nodesL_nil, nodesL_append, nodesL_kids] at *; omega) | (rw [pt_ext]; omega))
        | (refine Fat.mono (ih _ _ _) (by first | (simp only [ext, nd, tnd, lst, nodes_mk, nodesL_cons, nodesL_nil, nodesL_append, nodesL_kids] at *; omega) | (rw [pt_ext]; omega))))
    case literalFunc  =>
      simp only [go]
      repeat (first
        | (with_reducible refine Fat.want ?_; intro x r hl)
        | (with_reducible refine Fat.wantK ?_; intro x r hl)
        | (with_reducible refine Fat.enter ?_; intro x r hl)
        | split
        | (with_reducible refine Fat.take ?_; intro x r hl)
        | (refine Fat.bnd (ih _ _ _) ?_; intro t l hl; have := nodes_pos t; try rw [pt_ext] at hl)
        | exact Fat.refuse
        | exact Fat.ok (by first | (simp only [ext, nd, tnd, lst, nodes_mk, nodesL_cons, nodesL_nil, nodesL_append, nodesL_kids] at *; omega) | (rw [pt_ext]; omega))
        | (refine Fat.mono (ih _ _ _) (by first | (simp only [ext, nd, tnd, lst, nodes_mk, nodesL_cons, nodesL_nil, nodesL_append, nodesL_kids] at *; omega) | (rw [pt_ext]; omega))))
    case makeCall  =>
      simp only [go]
      repeat (first
        | (with_reducible refine Fat.want ?_; intro x r hl)
        | (with_reducible refine Fat.wantK ?_; intro x r hl)
        | (with_reducible refine Fat.enter ?_; intro x r hl)
        | split
        | (with_reducible refine Fat.take ?_; intro x r hl)
        | (refine Fat.bnd (ih _ _ _) ?_; intro t l hl; have := nodes_pos t; try rw [pt_ext] at hl)
        | exact Fat.refuse
        | exact Fat.ok (by first | (simp only [ext, nd, tnd, lst, nodes_mk, nodesL_cons, nodesL_nil, nodesL_append, nodesL_kids] at *; omega) | (rw [pt_ext]; omega))
        | (refine Fat.mono (ih _ _ _) (by first | (simp only [ext, nd, tnd, lst, nodes_mk, nodesL_cons, nodesL_nil, nodesL_append, nodesL_kids] at *; omega) | (rw [pt_ext]; omega))))
    case block  =>
      simp only [go]
      repeat (first
        | (with_reducible refine Fat.want ?_; intro x r hl)
        | (with_reducible refine Fat.wantK ?_; intro x r hl)
        | (with_reducible refine Fat.enter ?_; intro x r hl)
        | split
        | (with_reducible refine Fat.take ?_; intro x r hl)
        | (refine Fat.bnd (ih _ _ _) ?_; intro t l hl; have := nodes_pos t; try rw [pt_ext] at hl)
        | exact Fat.refuse
        | exact Fat.ok (by first | (simp only [ext, nd, tnd, lst, nodes_mk, nodesL_cons, nodesL_nil, nodesL_append, nodesL_kids] at *; omega) | (rw [pt_ext]; omega))
        | (refine Fat.mono (ih _ _ _) (by first | (simp only [ext, nd, tnd, lst, nodes_mk, nodesL_cons, nodesL_nil, nodesL_append, nodesL_kids] at *; omega) | (rw [pt_ext]; omega))))
    case stats acc =>
      simp only [go]
      repeat (first
        | (with_reducible refine Fat.want ?_; intro x r hl)
        | (with_reducible refine Fat.wantK ?_; intro x r hl)
        | (with_reducible refine Fat.enter ?_; intro x r hl)
        | split
        | (with_reducible refine Fat.take ?_; intro x r hl)
        | (refine Fat.bnd (ih _ _ _) ?_; intro t l hl; have := nodes_pos t; try rw [pt_ext] at hl)
        | exact Fat.refuse
        | exact Fat.ok (by first | (simp only [ext, nd, tnd, lst, nodes_mk, nodesL_cons, nodesL_nil, nodesL_append, nodesL_kids] at *; omega) | (rw [pt_ext]; omega))
        | (refine Fat.mono (ih _ _ _) (by first | (simp only [ext, nd, tnd, lst, nodes_mk, nodesL_cons, nodesL_nil, nodesL_append, nodesL_kids] at *; omega) | (rw [pt_ext]; omega))))
    case stat  =>
      simp only [go]
      repeat (first
        | (with_reducible refine Fat.want ?_; intro x r hl)
        | (with_reducible refine Fat.wantK ?_; intro x r hl)
        | (with_reducible refine Fat.enter ?_; intro x r hl)
        | split
        | (with_reducible refine Fat.take ?_; intro x r hl)
        | (refine Fat.bnd (ih _ _ _) ?_; intro t l hl; have := nodes_pos t; try rw [pt_ext] at hl)
        | exact Fat.refuse
        | exact Fat.ok (by first | (simp only [ext, nd, tnd, lst, nodes_mk, nodesL_cons, nodesL_nil, nodesL_append, nodesL_kids] at *; omega) | (rw [pt_ext]; omega))
        | (refine Fat.mono (ih _ _ _) (by first | (simp only [ext, nd, tnd, lst, nodes_mk, nodesL_cons, nodesL_nil, nodesL_append, nodesL_kids] at *; omega) | (rw [pt_ext]; omega))))
    case branch  =>
      simp only [go]
      repeat (first
        | (with_reducible refine Fat.want ?_; intro x r hl)
        | (with_reducible refine Fat.wantK ?_; intro x r hl)
        | (with_reducible refine Fat.enter ?_; intro x r hl)
        | split
        | (with_reducible refine Fat.take ?_; intro x r hl)
        | (refine Fat.bnd (ih _ _ _) ?_; intro t l hl; have := nodes_pos t; try rw [pt_ext] at hl)
        | exact Fat.refuse
        | exact Fat.ok (by first | (simp only [ext, nd, tnd, lst, nodes_mk, nodesL_cons, nodesL_nil, nodesL_append, nodesL_kids] at *; omega) | (rw [pt_ext]; omega))
        | (refine Fat.mono (ih _ _ _) (by first | (simp only [ext, nd, tnd, lst, nodes_mk, nodesL_cons, nodesL_nil, nodesL_append, nodesL_kids] at *; omega) | (rw [pt_ext]; omega))))
    case otherwise  =>
      simp only [go]
      repeat (first
        | (with_reducible refine Fat.want ?_; intro x r hl)
        | (with_reducible refine Fat.wantK ?_; intro x r hl)
        | (with_reducible refine Fat.enter ?_; intro x r hl)
        | split
        | (with_reducible refine Fat.take ?_; intro x r hl)
        | (refine Fat.bnd (ih _ _ _) ?_; intro t l hl; have := nodes_pos t; try rw [pt_ext] at hl)
        | exact Fat.refuse
        | exact Fat.ok (by first | (simp only [ext, nd, tnd, lst, nodes_mk, nodesL_cons, nodesL_nil, nodesL_append, nodesL_kids] at *; omega) | (rw [pt_ext]; omega))
        | (refine Fat.mono (ih _ _ _) (by first | (simp only [ext, nd, tnd, lst, nodes_mk, nodesL_cons, nodesL_nil, nodesL_append, nodesL_kids] at *; omega) | (rw [pt_ext]; omega))))
    case loop  =>
      simp only [go]
      repeat (first
        | (with_reducible refine Fat.want ?_; intro x r hl)
        | (with_reducible refine Fat.wantK ?_; intro x r hl)
        | (with_reducible refine Fat.enter ?_; intro x r hl)
        | split
        | (with_reducible refine Fat.take ?_; intro x r hl)
        | (refine Fat.bnd (ih _ _ _) ?_; intro t l hl; have := nodes_pos t; try rw [pt_ext] at hl)
        | exact Fat.refuse
        | exact Fat.ok (by first | (simp only [ext, nd, tnd, lst, nodes_mk, nodesL_cons, nodesL_nil, nodesL_append, nodesL_kids] at *; omega) | (rw [pt_ext]; omega))
        | (refine Fat.mono (ih _ _ _) (by first | (simp only [ext, nd, tnd, lst, nodes_mk, nodesL_cons, nodesL_nil, nodesL_append, nodesL_kids] at *; omega) | (rw [pt_ext]; omega))))
    case leap k =>
      simp only [go]
      repeat (first
        | (with_reducible refine Fat.want ?_; intro x r hl)
        | (with_reducible refine Fat.wantK ?_; intro x r hl)
        | (with_reducible refine Fat.enter ?_; intro x r hl)
        | split
        | (with_reducible refine Fat.take ?_; intro x r hl)
        | (refine Fat.bnd (ih _ _ _) ?_; intro t l hl; have := nodes_pos t; try rw [pt_ext] at hl)
        | exact Fat.refuse
        | exact Fat.ok (by first | (simp only [ext, nd, tnd, lst, nodes_mk, nodesL_cons, nodesL_nil, nodesL_append, nodesL_kids] at *; omega) | (rw [pt_ext]; omega))
        | (refine Fat.mono (ih _ _ _) (by first | (simp only [ext, nd, tnd, lst, nodes_mk, nodesL_cons, nodesL_nil, nodesL_append, nodesL_kids] at *; omega) | (rw [pt_ext]; omega))))
    case giveBack  =>
      simp only [go]
      repeat (first
        | (with_reducible refine Fat.want ?_; intro x r hl)
        | (with_reducible refine Fat.wantK ?_; intro x r hl)
        | (with_reducible refine Fat.enter ?_; intro x r hl)
        | split
        | (with_reducible refine Fat.take ?_; intro x r hl)
        | (refine Fat.bnd (ih _ _ _) ?_; intro t l hl; have := nodes_pos t; try rw [pt_ext] at hl)
        | exact Fat.refuse
        | exact Fat.ok (by first | (simp only [ext, nd, tnd, lst, nodes_mk, nodesL_cons, nodesL_nil, nodesL_append, nodesL_kids] at *; omega) | (rw [pt_ext]; omega))
        | (refine Fat.mono (ih _ _ _) (by first | (simp only [ext, nd, tnd, lst, nodes_mk, nodesL_cons, nodesL_nil, nodesL_append, nodesL_kids] at *; omega) | (rw [pt_ext]; omega))))
    case define  =>
      simp only [go]
      repeat (first
        | (with_reducible refine Fat.want ?_; intro x r hl)
        | (with_reducible refine Fat.wantK ?_; intro x r hl)
        | (with_reducible refine Fat.enter ?_; intro x r hl)
        | split
        | (with_reducible refine Fat.take ?_; intro x r hl)
        | (refine Fat.bnd (ih _ _ _) ?_; intro t l hl; have := nodes_pos t; try rw [pt_ext] at hl)
        | exact Fat.refuse
        | exact Fat.ok (by first | (simp only [ext, nd, tnd, lst, nodes_mk, nodesL_cons, nodesL_nil, nodesL_append, nodesL_kids] at *; omega) | (rw [pt_ext]; omega))
        | (refine Fat.mono (ih _ _ _) (by first | (simp only [ext, nd, tnd, lst, nodes_mk, nodesL_cons, nodesL_nil, nodesL_append, nodesL_kids] at *; omega) | (rw [pt_ext]; omega))))
    case simple  =>
      simp only [go]
      repeat (first
        | (with_reducible refine Fat.want ?_; intro x r hl)
        | (with_reducible refine Fat.wantK ?_; intro x r hl)
        | (with_reducible refine Fat.enter ?_; intro x r hl)
        | split
        | (with_reducible refine Fat.take ?_; intro x r hl)
        | (refine Fat.bnd (ih _ _ _) ?_; intro t l hl; have := nodes_pos t; try rw [pt_ext] at hl)
        | exact Fat.refuse
        | exact Fat.ok (by first | (simp only [ext, nd, tnd, lst, nodes_mk, nodesL_cons, nodesL_nil, nodesL_append, nodesL_kids] at *; omega) | (rw [pt_ext]; omega))
        | (refine Fat.mono (ih _ _ _) (by first | (simp only [ext, nd, tnd, lst, nodes_mk, nodesL_cons, nodesL_nil, nodesL_append, nodesL_kids] at *; omega) | (rw [pt_ext]; omega))))
    case variable_  =>
      simp only [go]
      refine Fat.want fun x r hl => Fat.bnd (ih _ _ _) fun t l h2 => ?_
      cases t
      dsimp only
      repeat (first
        | (with_reducible refine Fat.want ?_; intro x r hl)
        | (with_reducible refine Fat.wantK ?_; intro x r hl)
        | (with_reducible refine Fat.enter ?_; intro x r hl)
        | split
        | (with_reducible refine Fat.take ?_; intro x r hl)
        | (refine Fat.bnd (ih _ _ _) ?_; intro t l hl; have := nodes_pos t; try rw [pt_ext] at hl)
        | exact Fat.refuse
        | exact Fat.ok (by first | (simp only [ext, nd, tnd, lst, nodes_mk, nodesL_cons, nodesL_nil, nodesL_append, nodesL_kids] at *; omega) | (rw [pt_ext]; omega))
        | (refine Fat.mono (ih _ _ _) (by first | (simp only [ext, nd, tnd, lst, nodes_mk, nodesL_cons, nodesL_nil, nodesL_append, nodesL_kids] at *; omega) | (rw [pt_ext]; omega))))
    case named k =>
      simp only [go]
      repeat (first
        | (with_reducible refine Fat.want ?_; intro x r hl)
        | (with_reducible refine Fat.wantK ?_; intro x r hl)
        | (with_reducible refine Fat.enter ?_; intro x r hl)
        | split
        | (with_reducible refine Fat.take ?_; intro x r hl)
        | (refine Fat.bnd (ih _ _ _) ?_; intro t l hl; have := nodes_pos t; try rw [pt_ext] at hl)
        | exact Fat.refuse
        | exact Fat.ok (by first | (simp only [ext, nd, tnd, lst, nodes_mk, nodesL_cons, nodesL_nil, nodesL_append, nodesL_kids] at *; omega) | (rw [pt_ext]; omega))
        | (refine Fat.mono (ih _ _ _) (by first | (simp only [ext, nd, tnd, lst, nodes_mk, nodesL_cons, nodesL_nil, nodesL_append, nodesL_kids] at *; omega) | (rw [pt_ext]; omega))))
    case param  =>
      simp only [go]
      repeat (first
        | (with_reducible refine Fat.want ?_; intro x r hl)
        | (with_reducible refine Fat.wantK ?_; intro x r hl)
        | (with_reducible refine Fat.enter ?_; intro x r hl)
        | split
        | (with_reducible refine Fat.take ?_; intro x r hl)
        | (refine Fat.bnd (ih _ _ _) ?_; intro t l hl; have := nodes_pos t; try rw [pt_ext] at hl)
        | exact Fat.refuse
        | exact Fat.ok (by first | (simp only [ext, nd, tnd, lst, nodes_mk, nodesL_cons, nodesL_nil, nodesL_append, nodesL_kids] at *; omega) | (rw [pt_ext]; omega))
        | (refine Fat.mono (ih _ _ _) (by first | (simp only [ext, nd, tnd, lst, nodes_mk, nodesL_cons, nodesL_nil, nodesL_append, nodesL_kids] at *; omega) | (rw [pt_ext]; omega))))
    case typeOf  =>
      simp only [go]
      repeat (first
        | (with_reducible refine Fat.want ?_; intro x r hl)
        | (with_reducible refine Fat.wantK ?_; intro x r hl)
        | (with_reducible refine Fat.enter ?_; intro x r hl)
        | split
        | (with_reducible refine Fat.take ?_; intro x r hl)
        | (refine Fat.bnd (ih _ _ _) ?_; intro t l hl; have := nodes_pos t; try rw [pt_ext] at hl)
        | exact Fat.refuse
        | exact Fat.ok (by first | (simp only [ext, nd, tnd, lst, nodes_mk, nodesL_cons, nodesL_nil, nodesL_append, nodesL_kids] at *; omega) | (rw [pt_ext]; omega))
        | (refine Fat.mono (ih _ _ _) (by first | (simp only [ext, nd, tnd, lst, nodes_mk, nodesL_cons, nodesL_nil, nodesL_append, nodesL_kids] at *; omega) | (rw [pt_ext]; omega))))
    case typeName  =>
      simp only [go]
      repeat (first
        | (with_reducible refine Fat.want ?_; intro x r hl)
        | (with_reducible refine Fat.wantK ?_; intro x r hl)
        | (with_reducible refine Fat.enter ?_; intro x r hl)
        | split
        | (with_reducible refine Fat.take ?_; intro x r hl)
        | (refine Fat.bnd (ih _ _ _) ?_; intro t l hl; have := nodes_pos t; try rw [pt_ext] at hl)
        | exact Fat.refuse
        | exact Fat.ok (by first | (simp only [ext, nd, tnd, lst, nodes_mk, nodesL_cons, nodesL_nil, nodesL_append, nodesL_kids] at *; omega) | (rw [pt_ext]; omega))
        | (refine Fat.mono (ih _ _ _) (by first | (simp only [ext, nd, tnd, lst, nodes_mk, nodesL_cons, nodesL_nil, nodesL_append, nodesL_kids] at *; omega) | (rw [pt_ext]; omega))))
    case head p =>
      simp only [go]
      repeat (first
        | (with_reducible refine Fat.want ?_; intro x r hl)
        | (with_reducible refine Fat.wantK ?_; intro x r hl)
        | (with_reducible refine Fat.enter ?_; intro x r hl)
        | split
        | (with_reducible refine Fat.take ?_; intro x r hl)
        | (refine Fat.bnd (ih _ _ _) ?_; intro t l hl; have := nodes_pos t; try rw [pt_ext] at hl)
        | exact Fat.refuse
        | exact Fat.ok (by first | (simp only [ext, nd, tnd, lst, nodes_mk, nodesL_cons, nodesL_nil, nodesL_append, nodesL_kids] at *; omega) | (rw [pt_ext]; omega))
        | (refine Fat.mono (ih _ _ _) (by first | (simp only [ext, nd, tnd, lst, nodes_mk, nodesL_cons, nodesL_nil, nodesL_append, nodesL_kids] at *; omega) | (rw [pt_ext]; omega))))
    case file  =>
      simp only [go]
      repeat (first
        | (with_reducible refine Fat.want ?_; intro x r hl)
        | (with_reducible refine Fat.wantK ?_; intro x r hl)
        | (with_reducible refine Fat.enter ?_; intro x r hl)
        | split
        | (with_reducible refine Fat.take ?_; intro x r hl)
        | (refine Fat.bnd (ih _ _ _) ?_; intro t l hl; have := nodes_pos t; try rw [pt_ext] at hl)
        | exact Fat.refuse
        | exact Fat.ok (by first | (simp only [ext, nd, tnd, lst, nodes_mk, nodesL_cons, nodesL_nil, nodesL_append, nodesL_kids] at *; omega) | (rw [pt_ext]; omega))
        | (refine Fat.mono (ih _ _ _) (by first | (simp only [ext, nd, tnd, lst, nodes_mk, nodesL_cons, nodesL_nil, nodesL_append, nodesL_kids] at *; omega) | (rw [pt_ext]; omega))))
    case imports acc =>
      simp only [go]
      repeat (first
        | (with_reducible refine Fat.want ?_; intro x r hl)
        | (with_reducible refine Fat.wantK ?_; intro x r hl)
        | (with_reducible refine Fat.enter ?_; intro x r hl)
        | split
        | (with_reducible refine Fat.take ?_; intro x r hl)
        | (refine Fat.bnd (ih _ _ _) ?_; intro t l hl; have := nodes_pos t; try rw [pt_ext] at hl)
        | exact Fat.refuse
        | exact Fat.ok (by first | (simp only [ext, nd, tnd, lst, nodes_mk, nodesL_cons, nodesL_nil, nodesL_append, nodesL_kids] at *; omega) | (rw [pt_ext]; omega))
        | (refine Fat.mono (ih _ _ _) (by first | (simp only [ext, nd, tnd, lst, nodes_mk, nodesL_cons, nodesL_nil, nodesL_append, nodesL_kids] at *; omega) | (rw [pt_ext]; omega))))
    case decls acc =>
      simp only [go]
      repeat (first
        | (with_reducible refine Fat.want ?_; intro x r hl)
        | (with_reducible refine Fat.wantK ?_; intro x r hl)
        | (with_reducible refine Fat.enter ?_; intro x r hl)
        | split
        | (with_reducible refine Fat.take ?_; intro x r hl)
        | (refine Fat.bnd (ih _ _ _) ?_; intro t l hl; have := nodes_pos t; try rw [pt_ext] at hl)
        | exact Fat.refuse
        | exact Fat.ok (by first | (simp only [ext, nd, tnd, lst, nodes_mk, nodesL_cons, nodesL_nil, nodesL_append, nodesL_kids] at *; omega) | (rw [pt_ext]; omega))
        | (refine Fat.mono (ih _ _ _) (by first | (simp only [ext, nd, tnd, lst, nodes_mk, nodesL_cons, nodesL_nil, nodesL_append, nodesL_kids] at *; omega) | (rw [pt_ext]; omega))))
    case decl  =>
      simp only [go]
      repeat (first
        | (with_reducible refine Fat.want ?_; intro x r hl)
        | (with_reducible refine Fat.wantK ?_; intro x r hl)
        | (with_reducible refine Fat.enter ?_; intro x r hl)
        | split
        | (with_reducible refine Fat.take ?_; intro x r hl)
        | (refine Fat.bnd (ih _ _ _) ?_; intro t l hl; have := nodes_pos t; try rw [pt_ext] at hl)
        | exact Fat.refuse
        | exact Fat.ok (by first | (simp only [ext, nd, tnd, lst, nodes_mk, nodesL_cons, nodesL_nil, nodesL_append, nodesL_kids] at *; omega) | (rw [pt_ext]; omega))
        | (refine Fat.mono (ih _ _ _) (by first | (simp only [ext, nd, tnd, lst, nodes_mk, nodesL_cons, nodesL_nil, nodesL_append, nodesL_kids] at *; omega) | (rw [pt_ext]; omega))))
    case constant  =>
      simp only [go]
      repeat (first
        | (with_reducible refine Fat.want ?_; intro x r hl)
        | (with_reducible refine Fat.wantK ?_; intro x r hl)
        | (with_reducible refine Fat.enter ?_; intro x r hl)
        | split
        | (with_reducible refine Fat.take ?_; intro x r hl)
        | (refine Fat.bnd (ih _ _ _) ?_; intro t l hl; have := nodes_pos t; try rw [pt_ext] at hl)
        | exact Fat.refuse
        | exact Fat.ok (by first | (simp only [ext, nd, tnd, lst, nodes_mk, nodesL_cons, nodesL_nil, nodesL_append, nodesL_kids] at *; omega) | (rw [pt_ext]; omega))
        | (refine Fat.mono (ih _ _ _) (by first | (simp only [ext, nd, tnd, lst, nodes_mk, nodesL_cons, nodesL_nil, nodesL_append, nodesL_kids] at *; omega) | (rw [pt_ext]; omega))))
    case declaredType  =>
      simp only [go]
      repeat (first
        | (with_reducible refine Fat.want ?_; intro x r hl)
        | (with_reducible refine Fat.wantK ?_; intro x r hl)
        | (with_reducible refine Fat.enter ?_; intro x r hl)
        | split
        | (with_reducible refine Fat.take ?_; intro x r hl)
        | (refine Fat.bnd (ih _ _ _) ?_; intro t l hl; have := nodes_pos t; try rw [pt_ext] at hl)
        | exact Fat.refuse
        | exact Fat.ok (by first | (simp only [ext, nd, tnd, lst, nodes_mk, nodesL_cons, nodesL_nil, nodesL_append, nodesL_kids] at *; omega) | (rw [pt_ext]; omega))
        | (refine Fat.mono (ih _ _ _) (by first | (simp only [ext, nd, tnd, lst, nodes_mk, nodesL_cons, nodesL_nil, nodesL_append, nodesL_kids] at *; omega) | (rw [pt_ext]; omega))))
    case parts p acc =>
      simp only [go]
      repeat (first
        | (with_reducible refine Fat.want ?_; intro x r hl)
        | (with_reducible refine Fat.wantK ?_; intro x r hl)
        | (with_reducible refine Fat.enter ?_; intro x r hl)
        | split
        | (with_reducible refine Fat.take ?_; intro x r hl)
        | (refine Fat.bnd (ih _ _ _) ?_; intro t l hl; have := nodes_pos t; try rw [pt_ext] at hl)
        | exact Fat.refuse
        | exact Fat.ok (by first | (simp only [ext, nd, tnd, lst, nodes_mk, nodesL_cons, nodesL_nil, nodesL_append, nodesL_kids] at *; omega) | (rw [pt_ext]; omega))
        | (refine Fat.mono (ih _ _ _) (by first | (simp only [ext, nd, tnd, lst, nodes_mk, nodesL_cons, nodesL_nil, nodesL_append, nodesL_kids] at *; omega) | (rw [pt_ext]; omega))))
    case field  =>
      simp only [go]
      repeat (first
        | (with_reducible refine Fat.want ?_; intro x r hl)
        | (with_reducible refine Fat.wantK ?_; intro x r hl)
        | (with_reducible refine Fat.enter ?_; intro x r hl)
        | split
        | (with_reducible refine Fat.take ?_; intro x r hl)
        | (refine Fat.bnd (ih _ _ _) ?_; intro t l hl; have := nodes_pos t; try rw [pt_ext] at hl)
        | exact Fat.refuse
        | exact Fat.ok (by first | (simp only [ext, nd, tnd, lst, nodes_mk, nodesL_cons, nodesL_nil, nodesL_append, nodesL_kids] at *; omega) | (rw [pt_ext]; omega))
        | (refine Fat.mono (ih _ _ _) (by first | (simp only [ext, nd, tnd, lst, nodes_mk, nodesL_cons, nodesL_nil, nodesL_append, nodesL_kids] at *; omega) | (rw [pt_ext]; omega))))
    case sig  =>
      simp only [go]
      repeat (first
        | (with_reducible refine Fat.want ?_; intro x r hl)
        | (with_reducible refine Fat.wantK ?_; intro x r hl)
        | (with_reducible refine Fat.enter ?_; intro x r hl)
        | split
        | (with_reducible refine Fat.take ?_; intro x r hl)
        | (refine Fat.bnd (ih _ _ _) ?_; intro t l hl; have := nodes_pos t; try rw [pt_ext] at hl)
        | exact Fat.refuse
        | exact Fat.ok (by first | (simp only [ext, nd, tnd, lst, nodes_mk, nodesL_cons, nodesL_nil, nodesL_append, nodesL_kids] at *; omega) | (rw [pt_ext]; omega))
        | (refine Fat.mono (ih _ _ _) (by first | (simp only [ext, nd, tnd, lst, nodes_mk, nodesL_cons, nodesL_nil, nodesL_append, nodesL_kids] at *; omega) | (rw [pt_ext]; omega))))
    case declaredFunc  =>
      simp only [go]
      repeat (first
        | (with_reducible refine Fat.want ?_; intro x r hl)
        | (with_reducible refine Fat.wantK ?_; intro x r hl)
        | (with_reducible refine Fat.enter ?_; intro x r hl)
        | split
        | (with_reducible refine Fat.take ?_; intro x r hl)
        | (refine Fat.bnd (ih _ _ _) ?_; intro t l hl; have := nodes_pos t; try rw [pt_ext] at hl)
        | exact Fat.refuse
        | exact Fat.ok (by first | (simp only [ext, nd, tnd, lst, nodes_mk, nodesL_cons, nodesL_nil, nodesL_append, nodesL_kids] at *; omega) | (rw [pt_ext]; omega))
        | (refine Fat.mono (ih _ _ _) (by first | (simp only [ext, nd, tnd, lst, nodes_mk, nodesL_cons, nodesL_nil, nodesL_append, nodesL_kids] at *; omega) | (rw [pt_ext]; omega))))
    case receiver  =>
      simp only [go]
      repeat (first
        | (with_reducible refine Fat.want ?_; intro x r hl)
        | (with_reducible refine Fat.wantK ?_; intro x r hl)
        | (with_reducible refine Fat.enter ?_; intro x r hl)
        | split
        | (with_reducible refine Fat.take ?_; intro x r hl)
        | (refine Fat.bnd (ih _ _ _) ?_; intro t l hl; have := nodes_pos t; try rw [pt_ext] at hl)
        | exact Fat.refuse
        | exact Fat.ok (by first | (simp only [ext, nd, tnd, lst, nodes_mk, nodesL_cons, nodesL_nil, nodesL_append, nodesL_kids] at *; omega) | (rw [pt_ext]; omega))
        | (refine Fat.mono (ih _ _ _) (by first | (simp only [ext, nd, tnd, lst, nodes_mk, nodesL_cons, nodesL_nil, nodesL_append, nodesL_kids] at *; omega) | (rw [pt_ext]; omega))))
    case typeVar  =>
      simp only [go]
      repeat (first
        | (with_reducible refine Fat.want ?_; intro x r hl)
        | (with_reducible refine Fat.wantK ?_; intro x r hl)
        | (with_reducible refine Fat.enter ?_; intro x r hl)
        | split
        | (with_reducible refine Fat.take ?_; intro x r hl)
        | (refine Fat.bnd (ih _ _ _) ?_; intro t l hl; have := nodes_pos t; try rw [pt_ext] at hl)
        | exact Fat.refuse
        | exact Fat.ok (by first | (simp only [ext, nd, tnd, lst, nodes_mk, nodesL_cons, nodesL_nil, nodesL_append, nodesL_kids] at *; omega) | (rw [pt_ext]; omega))
        | (refine Fat.mono (ih _ _ _) (by first | (simp only [ext, nd, tnd, lst, nodes_mk, nodesL_cons, nodesL_nil, nodesL_append, nodesL_kids] at *; omega) | (rw [pt_ext]; omega))))
theorem nodes_file {ts l : List T} {n o : Nat} {t : Tr} (h : go n .file ts o = .ok t l) : t.nodes ≤ 2 * ts.length := by
  have := fat_go n .file ts o
  rw [h] at this
  have h2 : t.nodes + 2 * l.length ≤ 2 * ts.length + 0 := this
  omega
mutual
theorem deep_le : ∀ t : Tr, t.deep ≤ t.nodes
  | .mk _ _ _ _ _ _ ks => by
    have := deepL_le ks
    simp only [Tr.deep, Tr.nodes]; omega
theorem deepL_le : ∀ ks : List Tr, deepL ks ≤ nodesL ks
  | [] => by simp [deepL]
  | t :: r => by
    have h1 := deep_le t
    have h2 := deepL_le r
    simp only [deepL, nodesL]; omega
end
end Go.Proofs.YtihnnbeepfgphaaGreatDoor
