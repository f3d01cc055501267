/-
  Slices in memory: of values, of slices; and what comes in, opened.
-/
import Derived.Test.YtibfikadamfpdaaMem
import Derived.Test.YtibfikadamfpdaaGr
import Derived.ChangeSame
import Derived.ChangeArms
import Derived.Deep.Slices
import Derived.Deep.Fields
import Derived.SizedLaws
namespace Go.Proofs.Ytibfikadamfpdaa
open Go.ChangeShapes Go.WideShapes Go.Deep Go.RowKit
set_option linter.unusedVariables false
set_option linter.unusedSimpArgs false

/-! ## Records in memory, whatever they are. -/
abbrev Rel (α : Type) := World → (Nat → Prop) → α → List Value → Prop
def Keeps {α : Type} (R : Rel α) : Prop := ∀ (w w' : World) (F F' : Nat → Prop) (a : α) (vs : List Value), (∀ g, F g → g < w.heap.size → w'.heap[g]? = w.heap[g]?) → w.heap.size ≤ w'.heap.size → (∀ g, g < w.heap.size → F g → F' g) → R w F a vs → R w' F' a vs
def Sized {α : Type} (R : Rel α) (n : Nat) : Prop := ∀ (w : World) (F : Nat → Prop) (a : α) (vs : List Value), R w F a vs → vs.length = n
def RowsOf {α : Type} (R : Rel α) (w : World) (F : Nat → Prop) : List α → List Value → Prop
  | [], xs => xs = []
  | a :: r, xs => ∃ h q, xs = h ++ q ∧ R w F a h ∧ RowsOf R w F r q
def RowG (n : Nat) (w : World) (F : Nat → Prop) (A : Option Addr) (m : Nat) (xs : List Value) : Prop :=
  xs.length = m * n ∧ (0 < m → ∃ g o, A = some ⟨g, o, none⟩ ∧ F g ∧ g < w.heap.size ∧ ∀ j u, xs[j]? = some u → w.cell? ⟨g, o + j, none⟩ = some u)
/-- A slice of records. -/
def SlG {α : Type} (n : Nat) (R : Rel α) (w : World) (F : Nat → Prop) (A : Option Addr) (l : List α) : Prop := ∃ xs, RowG n w F A l.length xs ∧ RowsOf R w F l xs
theorem RowG.keep {n : Nat} {w w' : World} {F F' : Nat → Prop} {A : Option Addr} {m : Nat} {xs : List Value} (h : RowG n w F A m xs) (hk : ∀ g, F g → g < w.heap.size → w'.heap[g]? = w.heap[g]?) (hs : w.heap.size ≤ w'.heap.size) (hF : ∀ g, g < w.heap.size → F g → F' g) : RowG n w' F' A m xs :=
  ⟨h.1, fun hn => by
    obtain ⟨g, o, e, h1, h2, h3⟩ := h.2 hn
    exact ⟨g, o, e, hF g h2 h1, by omega, fun j u hu => (World.cell?_of_block (hk g h1 h2)).trans (h3 j u hu)⟩⟩
section
variable {α : Type} {R : Rel α} {w w' : World} {F F' : Nat → Prop} {n : Nat}
theorem RowsOf.keep (hR : Keeps R) (hk : ∀ g, F g → g < w.heap.size → w'.heap[g]? = w.heap[g]?) (hs : w.heap.size ≤ w'.heap.size) (hF : ∀ g, g < w.heap.size → F g → F' g) : ∀ (l : List α) (xs : List Value), RowsOf R w F l xs → RowsOf R w' F' l xs
  | [], _, h => h
  | a :: r, xs, ⟨h, q, e, h1, h2⟩ => ⟨h, q, e, hR _ _ _ _ _ _ hk hs hF h1, RowsOf.keep hR hk hs hF r q h2⟩
theorem SlG.keep (hR : Keeps R) {A : Option Addr} {l : List α} (h : SlG n R w F A l) (hk : ∀ g, F g → g < w.heap.size → w'.heap[g]? = w.heap[g]?) (hs : w.heap.size ≤ w'.heap.size) (hF : ∀ g, g < w.heap.size → F g → F' g) : SlG n R w' F' A l := by
  obtain ⟨xs, h1, h2⟩ := h
  exact ⟨xs, h1.keep hk hs hF, RowsOf.keep hR hk hs hF _ _ h2⟩
theorem SlG.bel (hR : Keeps R) {A : Option Addr} {l : List α} (h : SlG n R w F A l) (hb : Below w.heap.size w w') : SlG n R w' F A l := h.keep hR (fun g _ hg => hb.block g hg) hb.size (fun g _ h => h)
theorem RowsOf.at (hz : Sized R n) : ∀ {l : List α} {xs : List Value}, RowsOf R w F l xs → ∀ (i : Nat) (a : α), l[i]? = some a → ∃ vs, R w F a vs ∧ ∀ (j : Nat) (v : Value), vs[j]? = some v → xs[i * n + j]? = some v
  | [], xs, h, i, t, ht => by simp at ht
  | a :: r, xs, h, i, t, ht => by
    obtain ⟨va, q, rfl, h2, h3⟩ := h
    have hl := hz _ _ _ _ h2
    cases i with
    | zero =>
      simp at ht
      subst ht
      refine ⟨va, h2, fun j v hv => ?_⟩
      have hj := (List.getElem?_eq_some_iff.1 hv).1
      rw [Nat.zero_mul, Nat.zero_add, List.getElem?_append_left hj]
      exact hv
    | succ i =>
      obtain ⟨vs, h4, h5⟩ := RowsOf.at hz h3 i t (by simpa using ht)
      refine ⟨vs, h4, fun j v hv => ?_⟩
      have e : (i + 1) * n + j - va.length = i * n + j := by rw [hl, Nat.add_mul, Nat.one_mul]; omega
      rw [List.getElem?_append_right (by rw [hl, Nat.add_mul, Nat.one_mul]; omega), e]
      exact h5 j v hv
theorem SlG.at_ (hz : Sized R n) {A : Option Addr} {l : List α} (h : SlG n R w F A l) {i : Nat} {u : α} (hu : l[i]? = some u) : ∃ g o us, A = some ⟨g, o, none⟩ ∧ F g ∧ g < w.heap.size ∧ R w F u us ∧ ∀ (j : Nat) (v : Value), us[j]? = some v → w.cell? ⟨g, o + i * n + j, none⟩ = some v := by
  obtain ⟨xs, hrow, hreps⟩ := h
  have hil := (List.getElem?_eq_some_iff.1 hu).1
  obtain ⟨g, o, rfl, hF, hgl, hcell⟩ := hrow.2 (by omega)
  obtain ⟨us, hrep, hat⟩ := hreps.at hz i u hu
  exact ⟨g, o, us, rfl, hF, hgl, hrep, fun j v hv => by rw [Nat.add_assoc]; exact hcell _ _ (hat j v hv)⟩
theorem SlG.none_ (w : World) (F : Nat → Prop) : SlG n R w F none [] := ⟨[], ⟨by simp, fun h => absurd h (by simp)⟩, rfl⟩
theorem RowsOf.snoc {a : α} {vs : List Value} (ha : R w F a vs) : ∀ {l : List α} {xs : List Value}, RowsOf R w F l xs → RowsOf R w F (l ++ [a]) (xs ++ vs)
  | [], xs, h => by
    have e : xs = [] := h
    subst e
    exact ⟨vs, [], by simp, ha, rfl⟩
  | b :: r, xs, ⟨h, q, e, h1, h2⟩ => ⟨h, q ++ vs, by rw [e, List.append_assoc], h1, RowsOf.snoc ha h2⟩
end

theorem weightsAll_append {H : Type} {P : Program} {e : TypeId} (a b : List (DataW H)) : DataW.weightsAll P e (a ++ b) = DataW.weightsAll P e a ++ DataW.weightsAll P e b := by
  induction a with
  | nil => simp [DataW.weightsAll]
  | cons x a ih => simp only [List.cons_append, DataW.weightsAll, ih, List.append_assoc]
section
variable {H : Type} {enc : TypeId × Value → H} {w : World} {base : Nat} {spare : Nat → Bool} {held : Bool}
theorem open_sl {α : Type} (R : Rel α) (n : Nat) (hn : 0 < n) (hz : Sized R n) (e t : TypeId) (hu : Try.prog.underlying t = some (.slice e)) (hc : Try.prog.cellsOf e = n) (hby : 0 < Try.prog.bytesOf e) (ok : Nat → α → Prop) (m : Nat)
    (hop : ∀ cs x, DataW.trod enc Try.prog w base spare held m e cs = some x → ∃ a, R w (fun k => base ≤ k) a cs ∧ ∀ B, (∀ k ∈ x.1.weights Try.prog e, k ≤ B) → ok B a)
    {cs : List Value} {x : DataW H × List MemPlace} (h : DataW.trod enc Try.prog w base spare held (m + 1) t cs = some x) :
    ∃ (A : Option Addr) (l : List α) (c : Nat), cs = [.slice A l.length c] ∧ l.length ≤ c ∧ SlG n R w (fun k => base ≤ k) A l ∧ ∀ B, (∀ k ∈ x.1.weights Try.prog t, k ≤ B) → l.length ≤ B ∧ ∀ a ∈ l, ok B a := by
  rcases DataW.trod_slice hu h with ⟨rfl, rfl⟩ | ⟨a, len, cap, elems, rest, m', hm, rfl, rfl, hb, hlc, hcm, hel, hi, _, _⟩
  · exact ⟨none, [], 0, rfl, Nat.le_refl _, SlG.none_ _ _, fun B _ => ⟨Nat.zero_le _, fun a ha => by cases ha⟩⟩
  · obtain rfl : m' = m := by omega
    have key : ∀ q, q ≤ len → ∃ (l : List α) (xs : List Value), l.length = q ∧ xs.length = q * n ∧ RowsOf R w (fun k => base ≤ k) l xs ∧ (∀ B, (∀ k ∈ DataW.weightsAll Try.prog e ((elems.take q).map (·.1)), k ≤ B) → ∀ a ∈ l, ok B a) ∧ ∀ j u, xs[j]? = some u → w.cell? (a.add j) = some u := by
      intro q
      induction q with
      | zero => exact fun _ => ⟨[], [], rfl, by simp, rfl, fun B _ a ha => (by cases ha), fun j u hu => by simp at hu⟩
      | succ q ihq =>
        intro hq
        obtain ⟨l, xs, h1, h2, h3, h7, h6⟩ := ihq (by omega)
        have hiq := hi q (by omega)
        have heq : elems[q]? = some (elems[q]'(by omega)) := List.getElem?_eq_getElem (by omega)
        rw [heq] at hiq
        obtain ⟨ys, hys, hty⟩ := Option.bind_eq_some_iff.1 hiq
        obtain ⟨t1, ht, hok⟩ := hop ys _ hty
        rw [hc] at hys
        obtain ⟨_, hyl, hat⟩ := World.cells?_some hys
        refine ⟨l ++ [t1], xs ++ ys, by simp [h1], by rw [List.length_append, h2, hyl, Nat.add_mul, Nat.one_mul], RowsOf.snoc ht h3, fun B hB => ?_, fun j u hu => ?_⟩
        · rw [List.take_add_one, heq, Option.toList_some, List.map_append, weightsAll_append] at hB
          simp only [List.map_cons, List.map_nil, DataW.weightsAll, List.append_nil, List.mem_append] at hB
          intro a1 ha1
          rcases List.mem_append.1 ha1 with ha1 | ha1
          · exact h7 B (fun k hk => hB k (Or.inl hk)) a1 ha1
          · rw [List.mem_singleton.1 ha1]
            exact hok B (fun k hk => hB k (Or.inr hk))
        · by_cases hj : j < xs.length
          · rw [List.getElem?_append_left hj] at hu
            exact h6 j u hu
          · rw [List.getElem?_append_right (by omega)] at hu
            have hjl := (List.getElem?_eq_some_iff.1 hu).1
            have := hat (j - xs.length) (by omega)
            rw [← hu, ← this, h2, add_of_add, show q * n + (j - q * n) = j by omega]
    obtain ⟨l, xs, h1, h2, h3, h7, h6⟩ := key len (Nat.le_refl _)
    refine ⟨some a, l, cap, by rw [h1], by omega, ⟨xs, ⟨by rw [h2, h1], fun hl => ?_⟩, h3⟩, fun B hB => ?_⟩
    · have hxl : 0 < xs.length := by rw [h2]; exact Nat.mul_pos (by omega) hn
      have hx0 : xs[0]? = some (xs[0]'hxl) := List.getElem?_eq_getElem hxl
      have hc0 := h6 0 _ hx0
      have hsp : a.spot = none := by
        unfold World.cell? at hc0
        cases hs : a.spot with
        | none => rfl
        | some z => simp [Addr.add, hs] at hc0; split at hc0 <;> simp at hc0
      obtain ⟨g, o, sp⟩ := a
      simp at hsp
      subst hsp
      have hlt : g < w.heap.size := by
        rcases Nat.lt_or_ge g w.heap.size with h | h
        · exact h
        · have hn : w.heap[g]? = none := Array.getElem?_eq_none h
          unfold World.cell? at hc0
          simp [Addr.add, hn] at hc0
      refine ⟨g, o, rfl, hb, hlt, fun j u hu => ?_⟩
      have := h6 j u hu
      unfold Addr.add at this
      by_cases hj : j = 0
      · subst hj; simpa using this
      · simpa [hj] using this
    · simp only [DataW.weights, hu, List.mem_cons, List.mem_append] at hB
      refine ⟨?_, h7 B (fun k hk => hB k (Or.inr (Or.inl ?_)))⟩
      · have := hB _ (Or.inl rfl)
        simp only [List.length_map] at this
        have h8 : l.length * 1 ≤ (elems.length + rest.length) * Try.prog.bytesOf e := Nat.mul_le_mul (by omega) hby
        omega
      · rw [List.take_of_length_le (by omega)] at hk
        exact hk
end

/-! ## A slice that reads as a list of values. -/
def SlV (w : World) (B : Nat) (A : Option Addr) (xs : List Value) : Prop := 0 < xs.length → ∃ g o, A = some ⟨g, o, none⟩ ∧ g < B ∧ ∀ j u, xs[j]? = some u → w.cell? ⟨g, o + j, none⟩ = some u
def SlN (w : World) (B : Nat) (A : Option Addr) (ll : List (List Value)) : Prop := ∃ xs, xs.length = ll.length ∧ SlV w B A xs ∧ ∀ (i : Nat) (l : List Value), ll[i]? = some l → ∃ A' c, xs[i]? = some (Value.slice A' l.length c) ∧ SlV w B A' l
section
variable {w w' : World} {B B' : Nat} {A : Option Addr} {xs : List Value} {ll : List (List Value)}
theorem SlV.nil_ (w : World) (B : Nat) (A : Option Addr) : SlV w B A [] := fun h => absurd h (by simp)
theorem SlV.below (h : SlV w B A xs) (hb : Below B w w') : SlV w' B A xs := fun hn => by
  obtain ⟨g, o, e, h1, h2⟩ := h hn
  exact ⟨g, o, e, h1, fun j u hu => (hb.cell (p := ⟨g, o + j, none⟩) h1).trans (h2 j u hu)⟩
theorem SlV.more (h : SlV w B A xs) (hB : B ≤ B') : SlV w B' A xs := fun hn => by
  obtain ⟨g, o, e, h1, h2⟩ := h hn
  exact ⟨g, o, e, by omega, h2⟩
theorem SlV.at_ {k : Nat} {u : Value} (h : SlV w B A xs) (hu : xs[k]? = some u) : ∃ g o, A = some ⟨g, o, none⟩ ∧ g < B ∧ w.cell? ⟨g, o + k, none⟩ = some u := by
  obtain ⟨g, o, e, h1, h2⟩ := h (by have := (List.getElem?_eq_some_iff.1 hu).1; omega)
  exact ⟨g, o, e, h1, h2 k u hu⟩
theorem SlN.below (h : SlN w B A ll) (hb : Below B w w') : SlN w' B A ll := by
  obtain ⟨xs, h1, h2, h3⟩ := h
  refine ⟨xs, h1, h2.below hb, fun i l hl => ?_⟩
  obtain ⟨A', c, h4, h5⟩ := h3 i l hl
  exact ⟨A', c, h4, h5.below hb⟩
theorem SlN.more (h : SlN w B A ll) (hB : B ≤ B') : SlN w B' A ll := by
  obtain ⟨xs, h1, h2, h3⟩ := h
  refine ⟨xs, h1, h2.more hB, fun i l hl => ?_⟩
  obtain ⟨A', c, h4, h5⟩ := h3 i l hl
  exact ⟨A', c, h4, h5.more hB⟩
theorem SlN.at_ {k : Nat} {l : List Value} (h : SlN w B A ll) (hl : ll[k]? = some l) : ∃ g o A' c, A = some ⟨g, o, none⟩ ∧ g < B ∧ w.cell? ⟨g, o + k, none⟩ = some (.slice A' l.length c) ∧ SlV w B A' l := by
  obtain ⟨xs, h1, h2, h3⟩ := h
  obtain ⟨A', c, h4, h5⟩ := h3 k l hl
  obtain ⟨g, o, e, h6, h7⟩ := h2.at_ h4
  exact ⟨g, o, A', c, e, h6, h7, h5⟩
theorem SlV.own {base : Nat} {e : TypeId} {n c : Nat} (h : w.ownsRow base e 1 (.slice A n c) n xs) : SlV w w.heap.size A xs := fun hn => by
  have hl := h.1
  obtain ⟨g, cap, hv, _, hlt⟩ := h.form (by omega)
  have hA : A = some ⟨g, 0, none⟩ := by injection hv
  subst hA
  refine ⟨g, 0, rfl, hlt, fun j u hu => ?_⟩
  have := h.cells (g := g) rfl j u hu
  have hadd : (⟨g, 0, none⟩ : Addr).add j = ⟨g, 0 + j, none⟩ := by unfold Addr.add; split <;> simp_all
  rwa [hadd] at this
/-- The beginning of a slice. -/
theorem SlV.take (h : SlV w B A xs) (k : Nat) : SlV w B A (xs.take k) := fun hn => by
  have : 0 < xs.length := by simp only [List.length_take] at hn; omega
  obtain ⟨g, o, e, h1, h2⟩ := h this
  refine ⟨g, o, e, h1, fun j u hu => h2 j u ?_⟩
  rw [List.getElem?_take] at hu
  split at hu
  · exact hu
  · cases hu
end

def RStr : Rel ByteArray := fun _ _ a vs => vs = [.string a] ∧ a.size ≤ maxLen
def RNeed : Rel (List ByteArray) := fun w F l vs => ∃ A c, vs = [.slice A l.length c] ∧ SlG 1 RStr w F A l
theorem RStr_sized : Sized RStr 1 := fun _ _ a vs h => by rw [h.1]; rfl
theorem RNeed_sized : Sized RNeed 1 := fun _ _ a vs ⟨A, c, e, _⟩ => by rw [e]; rfl
theorem rows_str {w : World} {F : Nat → Prop} : ∀ (l : List ByteArray) (xs : List Value), RowsOf RStr w F l xs → xs = l.map Value.string ∧ ∀ s ∈ l, s.size ≤ maxLen
  | [], xs, h => ⟨h, fun s hs => by cases hs⟩
  | a :: r, xs, ⟨h, q, e, h1, h2⟩ => by
    obtain ⟨e1, e2⟩ := rows_str r q h2
    refine ⟨by rw [e, h1.1, e1]; rfl, fun s hs => ?_⟩
    rcases List.mem_cons.1 hs with hs | hs
    · rw [hs]; exact h1.2
    · exact e2 s hs
theorem slv_strs {w : World} {F : Nat → Prop} {A : Option Addr} {l : List ByteArray} (h : SlG 1 RStr w F A l) : SlV w w.heap.size A (l.map Value.string) ∧ ∀ s ∈ l, s.size ≤ maxLen := by
  obtain ⟨xs, h1, h2⟩ := h
  obtain ⟨e1, e2⟩ := rows_str l xs h2
  subst e1
  refine ⟨fun hn => ?_, e2⟩
  obtain ⟨g, o, e, _, h3, h4⟩ := h1.2 (by simpa using hn)
  exact ⟨g, o, e, h3, h4⟩
theorem sln_needs {w : World} {F : Nat → Prop} {A : Option Addr} {l : List (List ByteArray)} (h : SlG 1 RNeed w F A l) : SlN w w.heap.size A (l.map fun r => r.map Value.string) ∧ ∀ r ∈ l, ∀ s ∈ r, s.size ≤ maxLen := by
  have hz := @SlG.at_ _ RNeed w F 1 RNeed_sized A l h
  obtain ⟨xs, h1, h2⟩ := h
  have hx : xs.length = l.length := by have := h1.1; omega
  have q1 : SlV w w.heap.size A xs := fun hn => by
    obtain ⟨g, o, e, _, h3, h4⟩ := h1.2 (by omega)
    exact ⟨g, o, e, h3, h4⟩
  have q2 : ∀ (i : Nat) (r : List ByteArray), l[i]? = some r → ∃ A' c, xs[i]? = some (Value.slice A' r.length c) ∧ SlG 1 RStr w F A' r := by
    intro i r hr
    obtain ⟨vs, ⟨A', c, hv, hs⟩, h4⟩ := RowsOf.at RNeed_sized h2 i r hr
    subst hv
    have := h4 0 _ rfl
    rw [Nat.mul_one, Nat.add_zero] at this
    exact ⟨A', c, this, hs⟩
  constructor
  · refine ⟨xs, by simp [hx], q1, fun i r hr => ?_⟩
    simp only [List.getElem?_map, Option.map_eq_some_iff] at hr
    obtain ⟨r0, hr0, rfl⟩ := hr
    obtain ⟨A', c, h3, h4⟩ := q2 i r0 hr0
    exact ⟨A', c, by rw [List.length_map]; exact h3, (slv_strs h4).1⟩
  · intro r hr
    obtain ⟨i, hi⟩ := List.getElem?_of_mem hr
    obtain ⟨A', c, h3, h4⟩ := q2 i r hi
    exact (slv_strs h4).2
end Go.Proofs.Ytibfikadamfpdaa
