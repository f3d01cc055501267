/-
  Types, plainly and in memory.
-/
import Derived.Test.YtcfgjfahjaimiaaGr
namespace Go.Proofs.Ytcfgjfahjaimiaa
open Go.RowKit
set_option linter.unusedVariables false
set_option linter.unusedSimpArgs false

inductive Ty where
  | mk (k : Int) (p n : ByteArray) (la lr : List Ty)
mutual
def Ty.count : Ty → Nat
  | .mk _ _ _ la lr => countL la + countL lr + 1
def countL : List Ty → Nat
  | [] => 0
  | t :: r => t.count + countL r
end
mutual
/-- Letters and parts. -/
def Ty.sz : Ty → Nat
  | .mk _ p n la lr => p.size + n.size + szL la + szL lr + 1
def szL : List Ty → Nat
  | [] => 0
  | t :: r => t.sz + szL r
end
theorem count_mk (k : Int) (p n : ByteArray) (la lr : List Ty) : (Ty.mk k p n la lr).count = countL la + countL lr + 1 := by simp only [Ty.count]
theorem sz_mk (k : Int) (p n : ByteArray) (la lr : List Ty) : (Ty.mk k p n la lr).sz = p.size + n.size + szL la + szL lr + 1 := by simp only [Ty.sz]
theorem count_pos (t : Ty) : 1 ≤ t.count := by cases t; rw [count_mk]; omega
theorem countL_cons (t : Ty) (r : List Ty) : countL (t :: r) = t.count + countL r := by simp only [countL]
theorem countL_nil : countL [] = 0 := by simp only [countL]
theorem szL_cons (t : Ty) (r : List Ty) : szL (t :: r) = t.sz + szL r := by simp only [szL]
theorem szL_nil : szL [] = 0 := by simp only [szL]
theorem countL_append (a b : List Ty) : countL (a ++ b) = countL a + countL b := by
  induction a with
  | nil => simp [countL_nil]
  | cons x a ih => simp only [List.cons_append, countL_cons, ih]; omega
theorem szL_append (a b : List Ty) : szL (a ++ b) = szL a + szL b := by
  induction a with
  | nil => simp [szL_nil]
  | cons x a ih => simp only [List.cons_append, szL_cons, ih]; omega
theorem countL_take (l : List Ty) (i : Nat) (t : Ty) (h : l[i]? = some t) : countL (l.take (i + 1)) = countL (l.take i) + t.count := by
  rw [List.take_add_one, h, Option.toList_some, countL_append, countL_cons, countL_nil]; omega
theorem szL_take (l : List Ty) (i : Nat) (t : Ty) (h : l[i]? = some t) : szL (l.take (i + 1)) = szL (l.take i) + t.sz := by
  rw [List.take_add_one, h, Option.toList_some, szL_append, szL_cons, szL_nil]; omega
theorem len_countL (l : List Ty) : l.length ≤ countL l := by
  induction l with
  | nil => simp
  | cons x r ih => have := count_pos x; simp only [List.length_cons, countL_cons]; omega
theorem count_kid (l : List Ty) (i : Nat) (t : Ty) (h : l[i]? = some t) : countL (l.take i) + t.count ≤ countL l := by
  have h1 := countL_take l i t h
  have h2 : countL l = countL (l.take (i + 1)) + countL (l.drop (i + 1)) := by rw [← countL_append, List.take_append_drop]
  omega
theorem sz_kid (l : List Ty) (i : Nat) (t : Ty) (h : l[i]? = some t) : szL (l.take i) + t.sz ≤ szL l := by
  have h1 := szL_take l i t h
  have h2 : szL l = szL (l.take (i + 1)) + szL (l.drop (i + 1)) := by rw [← szL_append, List.take_append_drop]
  omega
mutual
theorem count_sz : ∀ t : Ty, t.count ≤ t.sz
  | .mk k p n la lr => by rw [count_mk, sz_mk]; have := countL_szL la; have := countL_szL lr; omega
theorem countL_szL : ∀ l : List Ty, countL l ≤ szL l
  | [] => by simp [countL_nil]
  | t :: r => by rw [countL_cons, szL_cons]; have := count_sz t; have := countL_szL r; omega
end
mutual
/-- The longest name. -/
def Ty.mx : Ty → Nat
  | .mk _ p n la lr => max (max p.size n.size) (max (mxL la) (mxL lr))
def mxL : List Ty → Nat
  | [] => 0
  | t :: r => max t.mx (mxL r)
end
theorem mx_mk (k : Int) (p n : ByteArray) (la lr : List Ty) : (Ty.mk k p n la lr).mx = max (max p.size n.size) (max (mxL la) (mxL lr)) := by simp only [Ty.mx]
theorem mxL_cons (t : Ty) (r : List Ty) : mxL (t :: r) = max t.mx (mxL r) := by simp only [mxL]
theorem mxL_nil : mxL [] = 0 := by simp only [mxL]
theorem mxL_append (a b : List Ty) : mxL (a ++ b) = max (mxL a) (mxL b) := by
  induction a with
  | nil => simp [mxL_nil]
  | cons x a ih => simp only [List.cons_append, mxL_cons, ih]; omega
theorem mx_kid : ∀ (l : List Ty) (i : Nat) (t : Ty), l[i]? = some t → t.mx ≤ mxL l
  | [], i, t, h => by simp at h
  | a :: r, 0, t, h => by
    simp at h
    subst h
    rw [mxL_cons]; omega
  | a :: r, i + 1, t, h => by
    have := mx_kid r i t (by simpa using h)
    rw [mxL_cons]; omega
mutual
theorem mx_sz : ∀ t : Ty, t.mx ≤ t.sz
  | .mk k p n la lr => by rw [mx_mk, sz_mk]; have := mxL_szL la; have := mxL_szL lr; omega
theorem mxL_szL : ∀ l : List Ty, mxL l ≤ szL l
  | [] => by simp [mxL_nil]
  | t :: r => by rw [mxL_cons, szL_cons]; have := mx_sz t; have := mxL_szL r; omega
end

def tyC (k : Int) (p n : ByteArray) (va vr : Value) : List Value := [.int .i64 k, .string p, .string n, va, vr]
def RowT (w : World) (F : Nat → Prop) (A : Option Addr) (m : Nat) (xs : List Value) : Prop :=
  xs.length = m * 5 ∧ (0 < m → ∃ g o, A = some ⟨g, o, none⟩ ∧ F g ∧ g < w.heap.size ∧ ∀ j u, xs[j]? = some u → w.cell? ⟨g, o + j, none⟩ = some u)
mutual
/-- The five cells vs are a type, all of whose blocks are F's. -/
def RT (w : World) (F : Nat → Prop) : Ty → List Value → Prop
  | .mk k p n la lr, vs => ∃ A c A' c' xs ys, vs = tyC k p n (.slice A la.length c) (.slice A' lr.length c') ∧ RowT w F A la.length xs ∧ RTs w F la xs ∧ RowT w F A' lr.length ys ∧ RTs w F lr ys
def RTs (w : World) (F : Nat → Prop) : List Ty → List Value → Prop
  | [], xs => xs = []
  | t :: r, xs => ∃ h q, xs = h ++ q ∧ RT w F t h ∧ RTs w F r q
end
/-- A slice of types, in memory. -/
def SlT (w : World) (F : Nat → Prop) (A : Option Addr) (l : List Ty) : Prop := ∃ xs, RowT w F A l.length xs ∧ RTs w F l xs
section
variable {w w' : World} {F F' : Nat → Prop}
theorem RowT.keep {A : Option Addr} {n : Nat} {xs : List Value} (h : RowT w F A n xs) (hk : ∀ g, F g → g < w.heap.size → w'.heap[g]? = w.heap[g]?) (hs : w.heap.size ≤ w'.heap.size) (hF : ∀ g, g < w.heap.size → F g → F' g) : RowT w' F' A n xs :=
  ⟨h.1, fun hn => by
    obtain ⟨g, o, e, h1, h2, h3⟩ := h.2 hn
    exact ⟨g, o, e, hF g h2 h1, by omega, fun j u hu => (World.cell?_of_block (hk g h1 h2)).trans (h3 j u hu)⟩⟩
mutual
theorem RT.keep (hk : ∀ g, F g → g < w.heap.size → w'.heap[g]? = w.heap[g]?) (hs : w.heap.size ≤ w'.heap.size) (hF : ∀ g, g < w.heap.size → F g → F' g) : ∀ (t : Ty) (vs : List Value), RT w F t vs → RT w' F' t vs
  | .mk k p n la lr, vs, h => by
    simp only [RT] at h ⊢
    obtain ⟨A, c, A', c', xs, ys, h1, h2, h3, h4, h5⟩ := h
    exact ⟨A, c, A', c', xs, ys, h1, h2.keep hk hs hF, RTs.keep hk hs hF la xs h3, h4.keep hk hs hF, RTs.keep hk hs hF lr ys h5⟩
theorem RTs.keep (hk : ∀ g, F g → g < w.heap.size → w'.heap[g]? = w.heap[g]?) (hs : w.heap.size ≤ w'.heap.size) (hF : ∀ g, g < w.heap.size → F g → F' g) : ∀ (ts : List Ty) (xs : List Value), RTs w F ts xs → RTs w' F' ts xs
  | [], xs, h => by simpa only [RTs] using h
  | t :: r, xs, h => by
    simp only [RTs] at h ⊢
    obtain ⟨a, q, h1, h2, h3⟩ := h
    exact ⟨a, q, h1, RT.keep hk hs hF t a h2, RTs.keep hk hs hF r q h3⟩
end
theorem SlT.keep {A : Option Addr} {l : List Ty} (h : SlT w F A l) (hk : ∀ g, F g → g < w.heap.size → w'.heap[g]? = w.heap[g]?) (hs : w.heap.size ≤ w'.heap.size) (hF : ∀ g, g < w.heap.size → F g → F' g) : SlT w' F' A l := by
  obtain ⟨xs, h1, h2⟩ := h
  exact ⟨xs, h1.keep hk hs hF, RTs.keep hk hs hF _ _ h2⟩
theorem RT.bel {t : Ty} {vs : List Value} (h : RT w F t vs) (hb : Below w.heap.size w w') : RT w' F t vs := RT.keep (fun g _ hg => hb.block g hg) hb.size (fun g _ h => h) _ _ h
theorem SlT.bel {A : Option Addr} {l : List Ty} (h : SlT w F A l) (hb : Below w.heap.size w w') : SlT w' F A l := h.keep (fun g _ hg => hb.block g hg) hb.size (fun g _ h => h)
theorem RT.length : ∀ {t : Ty} {vs : List Value}, RT w F t vs → vs.length = 5
  | .mk .., vs, h => by
    simp only [RT] at h
    obtain ⟨A, c, A', c', xs, ys, rfl, _⟩ := h
    rfl
theorem RTs.at : ∀ {ts : List Ty} {xs : List Value}, RTs w F ts xs → ∀ (i : Nat) (t : Ty), ts[i]? = some t → ∃ vs, RT w F t vs ∧ ∀ (j : Nat) (v : Value), vs[j]? = some v → xs[i * 5 + j]? = some v
  | [], xs, h, i, t, ht => by simp at ht
  | a :: r, xs, h, i, t, ht => by
    simp only [RTs] at h
    obtain ⟨va, q, rfl, h2, h3⟩ := h
    have hl := h2.length
    cases i with
    | zero =>
      simp at ht
      subst ht
      refine ⟨va, h2, fun j v hv => ?_⟩
      have hj := (List.getElem?_eq_some_iff.1 hv).1
      rw [Nat.zero_mul, Nat.zero_add, List.getElem?_append_left hj]
      exact hv
    | succ i =>
      obtain ⟨vs, h4, h5⟩ := RTs.at h3 i t (by simpa using ht)
      refine ⟨vs, h4, fun j v hv => ?_⟩
      rw [List.getElem?_append_right (by omega), hl, show (i + 1) * 5 + j - 5 = i * 5 + j by omega]
      exact h5 j v hv
theorem RT.openL {k : Int} {p n : ByteArray} {la lr : List Ty} {vs : List Value} (h : RT w F (.mk k p n la lr) vs) : ∃ A c A' c', vs = tyC k p n (.slice A la.length c) (.slice A' lr.length c') ∧ SlT w F A la ∧ SlT w F A' lr := by
  simp only [RT] at h
  obtain ⟨A, c, A', c', xs, ys, rfl, h1, h2, h3, h4⟩ := h
  exact ⟨A, c, A', c', rfl, ⟨xs, h1, h2⟩, ⟨ys, h3, h4⟩⟩
theorem RT.mk_ {k : Int} {p n : ByteArray} {la lr : List Ty} {A A' : Option Addr} {c c' : Nat} (h : SlT w F A la) (h' : SlT w F A' lr) : RT w F (.mk k p n la lr) (tyC k p n (.slice A la.length c) (.slice A' lr.length c')) := by
  obtain ⟨xs, h1, h2⟩ := h
  obtain ⟨ys, h3, h4⟩ := h'
  simp only [RT]
  exact ⟨A, c, A', c', xs, ys, rfl, h1, h2, h3, h4⟩
theorem RT.shape {t : Ty} {vs : List Value} (h : RT w F t vs) : ∃ (k : Int) (p n : ByteArray) (A : Option Addr) (m c : Nat) (A' : Option Addr) (m' c' : Nat), vs = tyC k p n (.slice A m c) (.slice A' m' c') := by
  cases t
  obtain ⟨A, c, A', c', rfl, _⟩ := h.openL
  exact ⟨_, _, _, _, _, _, _, _, _, rfl⟩
theorem SlT.at_ {A : Option Addr} {l : List Ty} (h : SlT w F A l) {i : Nat} {u : Ty} (hu : l[i]? = some u) : ∃ g o us, A = some ⟨g, o, none⟩ ∧ F g ∧ g < w.heap.size ∧ RT w F u us ∧ ∀ (j : Nat) (v : Value), us[j]? = some v → w.cell? ⟨g, o + i * 5 + j, none⟩ = some v := by
  obtain ⟨xs, hrow, hreps⟩ := h
  have hil := (List.getElem?_eq_some_iff.1 hu).1
  obtain ⟨g, o, rfl, hF, hgl, hcell⟩ := hrow.2 (by omega)
  obtain ⟨us, hrep, hat⟩ := hreps.at i u hu
  exact ⟨g, o, us, rfl, hF, hgl, hrep, fun j v hv => by rw [Nat.add_assoc]; exact hcell _ _ (hat j v hv)⟩
end
end Go.Proofs.Ytcfgjfahjaimiaa
