/-
  Units, plainly and in memory.
-/
import Derived.Test.YtcfgjfahjaimiaaTyA
namespace Go.Proofs.Ytcfgjfahjaimiaa
open Go.RowKit
set_option linter.unusedVariables false
set_option linter.unusedSimpArgs false

/-! ## Records in memory, whatever they are. -/
abbrev Rel (α : Type) := World → (Nat → Prop) → α → List Value → Prop
def Keeps {α : Type} (R : Rel α) : Prop := ∀ (w w' : World) (F F' : Nat → Prop) (a : α) (vs : List Value), (∀ g, F g → g < w.heap.size → w'.heap[g]? = w.heap[g]?) → w.heap.size ≤ w'.heap.size → (∀ g, g < w.heap.size → F g → F' g) → R w F a vs → R w' F' a vs
def Sized {α : Type} (R : Rel α) (n : Nat) : Prop := ∀ (w : World) (F : Nat → Prop) (a : α) (vs : List Value), R w F a vs → vs.length = n
def RowsOf {α : Type} (R : Rel α) (w : World) (F : Nat → Prop) : List α → List Value → Prop
  | [], xs => xs = []
  | a :: r, xs => ∃ h q, xs = h ++ q ∧ R w F a h ∧ RowsOf R w F r q
def RowG (n : Nat) (w : World) (F : Nat → Prop) (A : Option Addr) (m : Nat) (xs : List Value) : Prop :=
  xs.length = m * n ∧ (0 < m → ∃ g o, A = some ⟨g, o, none⟩ ∧ F g ∧ g < w.heap.size ∧ ∀ j u, xs[j]? = some u → w.cell? ⟨g, o + j, none⟩ = some u)
/-- A slice of records. -/
def SlG {α : Type} (n : Nat) (R : Rel α) (w : World) (F : Nat → Prop) (A : Option Addr) (l : List α) : Prop := ∃ xs, RowG n w F A l.length xs ∧ RowsOf R w F l xs
theorem RowG.keep {n : Nat} {w w' : World} {F F' : Nat → Prop} {A : Option Addr} {m : Nat} {xs : List Value} (h : RowG n w F A m xs) (hk : ∀ g, F g → g < w.heap.size → w'.heap[g]? = w.heap[g]?) (hs : w.heap.size ≤ w'.heap.size) (hF : ∀ g, g < w.heap.size → F g → F' g) : RowG n w' F' A m xs :=
  ⟨h.1, fun hn => by
    obtain ⟨g, o, e, h1, h2, h3⟩ := h.2 hn
    exact ⟨g, o, e, hF g h2 h1, by omega, fun j u hu => (World.cell?_of_block (hk g h1 h2)).trans (h3 j u hu)⟩⟩
section
variable {α : Type} {R : Rel α} {w w' : World} {F F' : Nat → Prop} {n : Nat}
theorem RowsOf.keep (hR : Keeps R) (hk : ∀ g, F g → g < w.heap.size → w'.heap[g]? = w.heap[g]?) (hs : w.heap.size ≤ w'.heap.size) (hF : ∀ g, g < w.heap.size → F g → F' g) : ∀ (l : List α) (xs : List Value), RowsOf R w F l xs → RowsOf R w' F' l xs
  | [], _, h => h
  | a :: r, xs, ⟨h, q, e, h1, h2⟩ => ⟨h, q, e, hR _ _ _ _ _ _ hk hs hF h1, RowsOf.keep hR hk hs hF r q h2⟩
theorem SlG.keep (hR : Keeps R) {A : Option Addr} {l : List α} (h : SlG n R w F A l) (hk : ∀ g, F g → g < w.heap.size → w'.heap[g]? = w.heap[g]?) (hs : w.heap.size ≤ w'.heap.size) (hF : ∀ g, g < w.heap.size → F g → F' g) : SlG n R w' F' A l := by
  obtain ⟨xs, h1, h2⟩ := h
  exact ⟨xs, h1.keep hk hs hF, RowsOf.keep hR hk hs hF _ _ h2⟩
theorem SlG.bel (hR : Keeps R) {A : Option Addr} {l : List α} (h : SlG n R w F A l) (hb : Below w.heap.size w w') : SlG n R w' F A l := h.keep hR (fun g _ hg => hb.block g hg) hb.size (fun g _ h => h)
theorem RowsOf.at (hz : Sized R n) : ∀ {l : List α} {xs : List Value}, RowsOf R w F l xs → ∀ (i : Nat) (a : α), l[i]? = some a → ∃ vs, R w F a vs ∧ ∀ (j : Nat) (v : Value), vs[j]? = some v → xs[i * n + j]? = some v
  | [], xs, h, i, t, ht => by simp at ht
  | a :: r, xs, h, i, t, ht => by
    obtain ⟨va, q, rfl, h2, h3⟩ := h
    have hl := hz _ _ _ _ h2
    cases i with
    | zero =>
      simp at ht
      subst ht
      refine ⟨va, h2, fun j v hv => ?_⟩
      have hj := (List.getElem?_eq_some_iff.1 hv).1
      rw [Nat.zero_mul, Nat.zero_add, List.getElem?_append_left hj]
      exact hv
    | succ i =>
      obtain ⟨vs, h4, h5⟩ := RowsOf.at hz h3 i t (by simpa using ht)
      refine ⟨vs, h4, fun j v hv => ?_⟩
      have e : (i + 1) * n + j - va.length = i * n + j := by rw [hl, Nat.add_mul, Nat.one_mul]; omega
      rw [List.getElem?_append_right (by rw [hl, Nat.add_mul, Nat.one_mul]; omega), e]
      exact h5 j v hv
theorem SlG.at_ (hz : Sized R n) {A : Option Addr} {l : List α} (h : SlG n R w F A l) {i : Nat} {u : α} (hu : l[i]? = some u) : ∃ g o us, A = some ⟨g, o, none⟩ ∧ F g ∧ g < w.heap.size ∧ R w F u us ∧ ∀ (j : Nat) (v : Value), us[j]? = some v → w.cell? ⟨g, o + i * n + j, none⟩ = some v := by
  obtain ⟨xs, hrow, hreps⟩ := h
  have hil := (List.getElem?_eq_some_iff.1 hu).1
  obtain ⟨g, o, rfl, hF, hgl, hcell⟩ := hrow.2 (by omega)
  obtain ⟨us, hrep, hat⟩ := hreps.at hz i u hu
  exact ⟨g, o, us, rfl, hF, hgl, hrep, fun j v hv => by rw [Nat.add_assoc]; exact hcell _ _ (hat j v hv)⟩
theorem SlG.none_ (w : World) (F : Nat → Prop) : SlG n R w F none [] := ⟨[], ⟨by simp, fun h => absurd h (by simp)⟩, rfl⟩
theorem RowsOf.snoc {a : α} {vs : List Value} (ha : R w F a vs) : ∀ {l : List α} {xs : List Value}, RowsOf R w F l xs → RowsOf R w F (l ++ [a]) (xs ++ vs)
  | [], xs, h => by
    have e : xs = [] := h
    subst e
    exact ⟨vs, [], by simp, ha, rfl⟩
  | b :: r, xs, ⟨h, q, e, h1, h2⟩ => ⟨h, q ++ vs, by rw [e, List.append_assoc], h1, RowsOf.snoc ha h2⟩
end

/-! ## What a unit is made of. -/
structure Im where
  name : ByteArray
  hash : Int
structure Fi where
  name : ByteArray
  ty : Ty
structure Dl where
  kind : Int
  name : ByteArray
  of : ByteArray
  value : Int
  ty : Ty
  fields : List Fi
inductive Ex where
  | mk (op n : Int) (name : ByteArray) (kids : List Ex)
inductive St where
  | mk (op n : Int) (exprs : List Ex) (body els : List St)
structure Fn8 where
  name : ByteArray
  weak : Bool
  params : Int
  locals : Int
  body : List St
structure Un where
  pkg : ByteArray
  imps : List Im
  decls : List Dl
  funs : List Fn8

def RIm : Rel Im := fun _ _ a vs => vs = [.string a.name, .int .i64 a.hash]
def RFi : Rel Fi := fun w F a vs => ∃ tv, vs = .string a.name :: tv ∧ RT w F a.ty tv
def RDl : Rel Dl := fun w F a vs => ∃ tv A c, vs = .int .i64 a.kind :: .string a.name :: .string a.of :: .int .i64 a.value :: (tv ++ [.slice A a.fields.length c]) ∧ RT w F a.ty tv ∧ SlG 6 RFi w F A a.fields
mutual
def RE (w : World) (F : Nat → Prop) : Ex → List Value → Prop
  | .mk op n s kids, vs => ∃ A c xs, vs = [.int .i64 op, .int .i64 n, .string s, .slice A kids.length c] ∧ RowG 4 w F A kids.length xs ∧ REs w F kids xs
def REs (w : World) (F : Nat → Prop) : List Ex → List Value → Prop
  | [], xs => xs = []
  | t :: r, xs => ∃ h q, xs = h ++ q ∧ RE w F t h ∧ REs w F r q
end
theorem REs_rows {w : World} {F : Nat → Prop} : ∀ (l : List Ex) (xs : List Value), REs w F l xs ↔ RowsOf RE w F l xs
  | [], xs => by simp only [REs, RowsOf]
  | t :: r, xs => by simp only [REs, RowsOf, REs_rows r]
mutual
def RS (w : World) (F : Nat → Prop) : St → List Value → Prop
  | .mk op n es bo el, vs => ∃ A a B b C c xs ys, vs = [.int .i64 op, .int .i64 n, .slice A es.length a, .slice B bo.length b, .slice C el.length c] ∧ SlG 4 RE w F A es ∧ RowG 5 w F B bo.length xs ∧ RSs w F bo xs ∧ RowG 5 w F C el.length ys ∧ RSs w F el ys
def RSs (w : World) (F : Nat → Prop) : List St → List Value → Prop
  | [], xs => xs = []
  | t :: r, xs => ∃ h q, xs = h ++ q ∧ RS w F t h ∧ RSs w F r q
end
theorem RSs_rows {w : World} {F : Nat → Prop} : ∀ (l : List St) (xs : List Value), RSs w F l xs ↔ RowsOf RS w F l xs
  | [], xs => by simp only [RSs, RowsOf]
  | t :: r, xs => by simp only [RSs, RowsOf, RSs_rows r]
def RFn : Rel Fn8 := fun w F a vs => ∃ A c, vs = [.string a.name, .bool a.weak, .int .i64 a.params, .int .i64 a.locals, .slice A a.body.length c] ∧ SlG 5 RS w F A a.body
def RUn : Rel Un := fun w F a vs => ∃ A c B d C e, vs = [.string a.pkg, .slice A a.imps.length c, .slice B a.decls.length d, .slice C a.funs.length e] ∧ SlG 2 RIm w F A a.imps ∧ SlG 10 RDl w F B a.decls ∧ SlG 5 RFn w F C a.funs

theorem RIm_keeps : Keeps RIm := fun _ _ _ _ _ _ _ _ _ h => h
theorem RT_keeps : Keeps RT := fun _ _ _ _ t vs hk hs hF h => RT.keep hk hs hF t vs h
theorem RFi_keeps : Keeps RFi := fun _ _ _ _ a vs hk hs hF ⟨tv, e, h⟩ => ⟨tv, e, RT.keep hk hs hF _ _ h⟩
theorem RDl_keeps : Keeps RDl := fun _ _ _ _ a vs hk hs hF ⟨tv, A, c, e, h, k⟩ => ⟨tv, A, c, e, RT.keep hk hs hF _ _ h, k.keep RFi_keeps hk hs hF⟩
section
variable {w w' : World} {F F' : Nat → Prop}
mutual
theorem RE.keep (hk : ∀ g, F g → g < w.heap.size → w'.heap[g]? = w.heap[g]?) (hs : w.heap.size ≤ w'.heap.size) (hF : ∀ g, g < w.heap.size → F g → F' g) : ∀ (t : Ex) (vs : List Value), RE w F t vs → RE w' F' t vs
  | .mk op n s kids, vs, h => by
    simp only [RE] at h ⊢
    obtain ⟨A, c, xs, e, h1, h2⟩ := h
    exact ⟨A, c, xs, e, h1.keep hk hs hF, REs.keep hk hs hF kids xs h2⟩
theorem REs.keep (hk : ∀ g, F g → g < w.heap.size → w'.heap[g]? = w.heap[g]?) (hs : w.heap.size ≤ w'.heap.size) (hF : ∀ g, g < w.heap.size → F g → F' g) : ∀ (l : List Ex) (xs : List Value), REs w F l xs → REs w' F' l xs
  | [], xs, h => by simpa only [REs] using h
  | t :: r, xs, h => by
    simp only [REs] at h ⊢
    obtain ⟨a, q, e, h1, h2⟩ := h
    exact ⟨a, q, e, RE.keep hk hs hF t a h1, REs.keep hk hs hF r q h2⟩
end
theorem RE_keeps : Keeps RE := fun _ _ _ _ a vs hk hs hF h => RE.keep hk hs hF a vs h
mutual
theorem RS.keep (hk : ∀ g, F g → g < w.heap.size → w'.heap[g]? = w.heap[g]?) (hs : w.heap.size ≤ w'.heap.size) (hF : ∀ g, g < w.heap.size → F g → F' g) : ∀ (t : St) (vs : List Value), RS w F t vs → RS w' F' t vs
  | .mk op n es bo el, vs, h => by
    simp only [RS] at h ⊢
    obtain ⟨A, a, B, b, C, c, xs, ys, e, h1, h2, h3, h4, h5⟩ := h
    exact ⟨A, a, B, b, C, c, xs, ys, e, h1.keep RE_keeps hk hs hF, h2.keep hk hs hF, RSs.keep hk hs hF bo xs h3, h4.keep hk hs hF, RSs.keep hk hs hF el ys h5⟩
theorem RSs.keep (hk : ∀ g, F g → g < w.heap.size → w'.heap[g]? = w.heap[g]?) (hs : w.heap.size ≤ w'.heap.size) (hF : ∀ g, g < w.heap.size → F g → F' g) : ∀ (l : List St) (xs : List Value), RSs w F l xs → RSs w' F' l xs
  | [], xs, h => by simpa only [RSs] using h
  | t :: r, xs, h => by
    simp only [RSs] at h ⊢
    obtain ⟨a, q, e, h1, h2⟩ := h
    exact ⟨a, q, e, RS.keep hk hs hF t a h1, RSs.keep hk hs hF r q h2⟩
end
theorem RS_keeps : Keeps RS := fun _ _ _ _ a vs hk hs hF h => RS.keep hk hs hF a vs h
end
theorem RFn_keeps : Keeps RFn := fun _ _ _ _ a vs hk hs hF ⟨A, c, e, h⟩ => ⟨A, c, e, h.keep RS_keeps hk hs hF⟩
theorem RUn_keeps : Keeps RUn := fun _ _ _ _ a vs hk hs hF ⟨A, c, B, d, C, e, h, h1, h2, h3⟩ => ⟨A, c, B, d, C, e, h, h1.keep RIm_keeps hk hs hF, h2.keep RDl_keeps hk hs hF, h3.keep RFn_keeps hk hs hF⟩
theorem RIm_sized : Sized RIm 2 := fun _ _ a vs h => by rw [show vs = _ from h]; rfl
theorem RFi_sized : Sized RFi 6 := fun _ _ a vs ⟨tv, e, h⟩ => by rw [e, List.length_cons, h.length]
theorem RDl_sized : Sized RDl 10 := fun _ _ a vs ⟨tv, A, c, e, h, _⟩ => by rw [e]; simp [h.length]
theorem RE_sized : Sized RE 4 := fun _ _ a vs h => by
  cases a
  simp only [RE] at h
  obtain ⟨A, c, xs, e, _⟩ := h
  rw [e]; rfl
theorem RS_sized : Sized RS 5 := fun _ _ a vs h => by
  cases a
  simp only [RS] at h
  obtain ⟨A, a, B, b, C, c, xs, ys, e, _⟩ := h
  rw [e]; rfl
theorem RFn_sized : Sized RFn 5 := fun _ _ a vs ⟨A, c, e, _⟩ => by rw [e]; rfl
theorem RUn_sized : Sized RUn 4 := fun _ _ a vs ⟨A, c, B, d, C, e, h, _⟩ => by rw [h]; rfl
theorem RE.openL {w : World} {F : Nat → Prop} {op n : Int} {s : ByteArray} {kids : List Ex} {vs : List Value} (h : RE w F (.mk op n s kids) vs) : ∃ A c, vs = [.int .i64 op, .int .i64 n, .string s, .slice A kids.length c] ∧ SlG 4 RE w F A kids := by
  simp only [RE] at h
  obtain ⟨A, c, xs, e, h1, h2⟩ := h
  exact ⟨A, c, e, xs, h1, (REs_rows _ _).1 h2⟩
theorem RE.mk_ {w : World} {F : Nat → Prop} {op n : Int} {s : ByteArray} {kids : List Ex} {A : Option Addr} {c : Nat} (h : SlG 4 RE w F A kids) : RE w F (.mk op n s kids) [.int .i64 op, .int .i64 n, .string s, .slice A kids.length c] := by
  obtain ⟨xs, h1, h2⟩ := h
  simp only [RE]
  exact ⟨A, c, xs, rfl, h1, (REs_rows _ _).2 h2⟩
theorem RS.openL {w : World} {F : Nat → Prop} {op n : Int} {es : List Ex} {bo el : List St} {vs : List Value} (h : RS w F (.mk op n es bo el) vs) : ∃ A a B b C c, vs = [.int .i64 op, .int .i64 n, .slice A es.length a, .slice B bo.length b, .slice C el.length c] ∧ SlG 4 RE w F A es ∧ SlG 5 RS w F B bo ∧ SlG 5 RS w F C el := by
  simp only [RS] at h
  obtain ⟨A, a, B, b, C, c, xs, ys, e, h1, h2, h3, h4, h5⟩ := h
  exact ⟨A, a, B, b, C, c, e, h1, ⟨xs, h2, (RSs_rows _ _).1 h3⟩, ⟨ys, h4, (RSs_rows _ _).1 h5⟩⟩
theorem RS.mk_ {w : World} {F : Nat → Prop} {op n : Int} {es : List Ex} {bo el : List St} {A B C : Option Addr} {a b c : Nat} (h1 : SlG 4 RE w F A es) (h2 : SlG 5 RS w F B bo) (h3 : SlG 5 RS w F C el) : RS w F (.mk op n es bo el) [.int .i64 op, .int .i64 n, .slice A es.length a, .slice B bo.length b, .slice C el.length c] := by
  obtain ⟨xs, x1, x2⟩ := h2
  obtain ⟨ys, y1, y2⟩ := h3
  simp only [RS]
  exact ⟨A, a, B, b, C, c, xs, ys, rfl, h1, x1, (RSs_rows _ _).2 x2, y1, (RSs_rows _ _).2 y2⟩

/-! ## How much there is. -/
mutual
def Ex.cnt : Ex → Nat
  | .mk _ _ _ kids => cntEs kids + 1
def cntEs : List Ex → Nat
  | [] => 0
  | t :: r => t.cnt + cntEs r
end
mutual
def St.cnt : St → Nat
  | .mk _ _ es bo el => cntEs es + cntSs bo + cntSs el + 1
def cntSs : List St → Nat
  | [] => 0
  | t :: r => t.cnt + cntSs r
end
def sumL {α : Type} (f : α → Nat) : List α → Nat
  | [] => 0
  | a :: r => f a + sumL f r
def Dl.cnt (d : Dl) : Nat := d.ty.count + d.fields.length + sumL (fun f => f.ty.count) d.fields
def Un.cnt (u : Un) : Nat := u.imps.length + u.decls.length + u.funs.length + sumL Dl.cnt u.decls + sumL (fun f => cntSs f.body) u.funs
theorem sumL_append {α : Type} (f : α → Nat) (a b : List α) : sumL f (a ++ b) = sumL f a + sumL f b := by
  induction a with
  | nil => simp [sumL]
  | cons x a ih => simp only [List.cons_append, sumL, ih]; omega
theorem sumL_take {α : Type} (f : α → Nat) (l : List α) (i : Nat) (t : α) (h : l[i]? = some t) : sumL f (l.take (i + 1)) = sumL f (l.take i) + f t := by
  rw [List.take_add_one, h, Option.toList_some, sumL_append]; simp [sumL]
theorem sumL_kid {α : Type} (f : α → Nat) (l : List α) (i : Nat) (t : α) (h : l[i]? = some t) : sumL f (l.take i) + f t ≤ sumL f l := by
  have h1 := sumL_take f l i t h
  have h2 : sumL f l = sumL f (l.take (i + 1)) + sumL f (l.drop (i + 1)) := by rw [← sumL_append, List.take_append_drop]
  omega
theorem cntEs_sum : ∀ l : List Ex, cntEs l = sumL Ex.cnt l
  | [] => by simp only [cntEs, sumL]
  | t :: r => by simp only [cntEs, sumL, cntEs_sum r]
theorem cntSs_sum : ∀ l : List St, cntSs l = sumL St.cnt l
  | [] => by simp only [cntSs, sumL]
  | t :: r => by simp only [cntSs, sumL, cntSs_sum r]
theorem cnt_ex (op n : Int) (s : ByteArray) (k : List Ex) : (Ex.mk op n s k).cnt = cntEs k + 1 := by simp only [Ex.cnt]
theorem cnt_st (op n : Int) (es : List Ex) (bo el : List St) : (St.mk op n es bo el).cnt = cntEs es + cntSs bo + cntSs el + 1 := by simp only [St.cnt]
end Go.Proofs.Ytcfgjfahjaimiaa
