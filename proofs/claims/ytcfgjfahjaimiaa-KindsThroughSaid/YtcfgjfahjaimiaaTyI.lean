/-
  Names and their places: a map that is made: walks.
-/
import Derived.Test.YtcfgjfahjaimiaaTyH
import Derived.Maps.Own
import Derived.Maps.OwnSet
import Derived.Maps.Views
namespace Go.Proofs.Ytcfgjfahjaimiaa
open Go.RowKit
set_option linter.unusedVariables false
set_option linter.unusedSimpArgs false

def place : List ByteArray → ByteArray → Option Nat
  | [], _ => none
  | a :: r, s => if a = s then some 0 else (place r s).map (· + 1)
theorem place_snoc (l : List ByteArray) (x s : ByteArray) : place (l ++ [x]) s = match place l s with | some i => some i | none => if x = s then some l.length else none := by
  induction l with
  | nil => simp [place]
  | cons a r ih =>
    simp only [List.cons_append, place]
    by_cases h : a = s
    · simp [h]
    · simp only [h, if_false, ih]
      cases place r s with
      | some i => rfl
      | none => by_cases hx : x = s <;> simp [hx]
theorem place_lt {l : List ByteArray} {s : ByteArray} {i : Nat} (h : place l s = some i) : i < l.length := by
  induction l generalizing i with
  | nil => cases h
  | cons a r ih =>
    simp only [place] at h
    by_cases e : a = s
    · simp only [e, if_true, Option.some.injEq] at h; subst h; simp
    · simp only [e, if_false] at h
      cases hp : place r s with
      | none => rw [hp] at h; cases h
      | some j =>
        rw [hp] at h
        simp only [Option.map_some, Option.some.injEq] at h
        have := ih hp
        simp only [List.length_cons]; omega
/-- A slice of names, in memory. -/
def SlS (w : World) (F : Nat → Prop) (A : Option Addr) (l : List ByteArray) : Prop := (∀ s ∈ l, s.size ≤ maxLen) ∧ (0 < l.length → ∃ g o, A = some ⟨g, o, none⟩ ∧ F g ∧ g < w.heap.size ∧ ∀ j s, l[j]? = some s → w.cell? ⟨g, o + j, none⟩ = some (.string s))
theorem SlS.keep {w w' : World} {F F' : Nat → Prop} {A : Option Addr} {l : List ByteArray} (h : SlS w F A l) (hk : ∀ g, F g → g < w.heap.size → w'.heap[g]? = w.heap[g]?) (hs : w.heap.size ≤ w'.heap.size) (hF : ∀ g, g < w.heap.size → F g → F' g) : SlS w' F' A l :=
  ⟨h.1, fun hn => by
    obtain ⟨g, o, e, h1, h2, h3⟩ := h.2 hn
    exact ⟨g, o, e, hF g h2 h1, by omega, fun j u hu => (World.cell?_of_block (hk g h1 h2)).trans (h3 j u hu)⟩⟩
theorem SlS.bel {w w' : World} {F : Nat → Prop} {A : Option Addr} {l : List ByteArray} (h : SlS w F A l) (hb : Below w.heap.size w w') : SlS w' F A l := h.keep (fun g _ hg => hb.block g hg) hb.size (fun g _ h => h)
/-- A map of the call's own: the first place of each name. -/
def PlMap (w : World) (b : Nat) (l : List ByteArray) : Prop := ∃ (n : Nat) (D : DataW Unit), n ≤ l.length ∧ w.ownsMap Try.prog 9 (plainElem Try.prog 3) b n D ∧
  ∀ s : ByteArray, s.size ≤ maxLen → (place l s = none → Maps.has D (.string s.data.toList) = false) ∧ ∀ i, place l s = some i → Maps.has D (.string s.data.toList) = true ∧ ∀ z, D.atKey (.string s.data.toList) z = .lit (.int .i64 i)
theorem str_keyed : Go.Maps.Keyed Try.prog 9 := Go.Maps.string_keyed Try.underlying9
theorem PlMap.keep {w w' : World} {b : Nat} {l : List ByteArray} (h : PlMap w b l) (hk : w'.heap[b]? = w.heap[b]?) : PlMap w' b l := by
  obtain ⟨n, D, h1, h2, h3⟩ := h
  obtain ⟨es, clock, hb, r⟩ := h2
  exact ⟨n, D, h1, ⟨es, clock, hk.trans hb, r⟩, h3⟩
theorem PlMap.lt {w : World} {b : Nat} {l : List ByteArray} (h : PlMap w b l) : b < w.heap.size := by
  obtain ⟨n, D, h1, h2, h3⟩ := h
  exact h2.lt
theorem zero_int (w : World) : (zeroValue 3).run Try.prog w = .ok (.int .i64 0) w := by kernel_rfl
theorem PlMap.look {w : World} {b : Nat} {l : List ByteArray} (h : PlMap w b l) (s : ByteArray) (hs : s.size ≤ maxLen) (hl : l.length ≤ 9223372036854775807) :
    (Instr.lookup 69 (.map (some b)) (.string s) true).run Try.prog w = .ok (.tuple #[.int .i64 ((place l s).getD 0 : Nat), .bool (place l s).isSome]) w := by
  obtain ⟨n, D, h1, h2, h3⟩ := h
  have h0 : plainElem (H := Unit) Try.prog 3 (.int .i64 0) = some (.lit (.int .i64 0), []) := plainElem_int Try.underlying3 (by decide)
  obtain ⟨v, ps, hr, hv⟩ := h2.look_ok str_keyed Try.underlying69 (zero_int w) h0 (key := .string s) (kl := .string s.data.toList) (Go.WideMaps.keyOf_string_mk Try.underlying9 hs)
  obtain ⟨h4, h5⟩ := h3 s hs
  cases hp : place l s with
  | none =>
    have hh := h4 hp
    rw [hh] at hr
    rw [Maps.atKey_of_not_has hh] at hv
    obtain ⟨a, rfl, ha, _⟩ := plainElem_int_inv Try.underlying3 hv
    simp only [Prod.mk.injEq, DataW.lit.injEq, Lit.int.injEq, true_and] at ha
    rw [hr, ← ha.1]
    rfl
  | some i =>
    obtain ⟨hh, hat⟩ := h5 i hp
    rw [hh] at hr
    rw [hat] at hv
    obtain ⟨a, rfl, ha, _⟩ := plainElem_int_inv Try.underlying3 hv
    simp only [Prod.mk.injEq, DataW.lit.injEq, Lit.int.injEq, true_and] at ha
    rw [hr, ← ha.1]
    rfl
end Go.Proofs.Ytcfgjfahjaimiaa
