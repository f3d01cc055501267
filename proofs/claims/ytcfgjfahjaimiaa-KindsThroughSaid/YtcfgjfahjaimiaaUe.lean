/-
  Units: how many parts, and the one of a package: walks.
-/
import Derived.Test.YtcfgjfahjaimiaaUd
namespace Go.Proofs.Ytcfgjfahjaimiaa
open Go.RowKit
set_option linter.unusedVariables false
set_option linter.unusedSimpArgs false

def UnitsP (us : List Un) (w : World) (e : Ending) (w' : World) : Prop := ∃ b : Bool, e = .returned (.bool b) ∧ (b = false → ∀ u ∈ us, u.cnt ≤ 2000) ∧ Below w.heap.size w w'
theorem sumL_mem {α : Type} (f : α → Nat) (l : List α) (a : α) (h : a ∈ l) : f a ≤ sumL f l := by
  obtain ⟨i, hi⟩ := List.mem_iff_getElem?.1 h
  have := sumL_kid f l i a hi
  omega
theorem RUn.openL {w : World} {F : Nat → Prop} {u : Un} {vs : List Value} (h : RUn w F u vs) : ∃ A c B d C e, vs = [.string u.pkg, .slice A u.imps.length c, .slice B u.decls.length d, .slice C u.funs.length e] ∧ SlG 2 RIm w F A u.imps ∧ SlG 10 RDl w F B u.decls ∧ SlG 5 RFn w F C u.funs := h
set_option maxRecDepth 100000 in
set_option maxHeartbeats 4000000 in
theorem units_any (us : List Un) (hok : ∀ u ∈ us, u.ok 140737488355328) (hlen : us.length ≤ 140737488355328) (w : World) (F : Nat → Prop) (A : Option Addr) (c : Nat) (hr : SlG 4 RUn w F A us) :
    Calls Try.prog 7 #[.slice A us.length c] w (UnitsP us w) := by
  have HA := Lib.hid hr
  have HOK := Lib.hid hok
  have n0 : (0 : Int) ≤ (us.length : Int) := by omega
  have n1 : (us.length : Int) ≤ 140737488355328 := by omega
  clear hr hok
  go_enter Try.func7, Try.ntmps7
  go_wp2
  go_loopg [3, 4] us.length (fun gk v3 v4 wr => ∃ (j : Nat) (x : Int), j + gk = us.length ∧ v4 = .int .i64 j ∧ v3 = .int .i64 x ∧ 0 ≤ x ∧ x ≤ 1125899906852624 ∧ (x ≤ 2000 → x = sumL (fun u => u.cnt + 1) (us.take j)) ∧ Below w.heap.size w wr)
  case atStart => exact ⟨0, 0, by simp, rfl, rfl, by omega, by omega, fun _ => by simp [sumL], Below.refl _ _⟩
  case round =>
    obtain ⟨j, x, hj, rfl, rfl, x0, x1, hx, hb⟩ := hrel
    have HX := Lib.hid hx
    have HB := Lib.hid hb
    clear hx
    cases gk with
    | zero =>
      obtain rfl : j = us.length := by omega
      have hX := HX.out
      rw [List.take_length] at hX
      have HX2 := Lib.hid (show x ≤ 2000 → ∀ u ∈ us, u.cnt ≤ 2000 from fun h u hu => by
        have h2 := hX h
        have h3 := sumL_mem (fun u : Un => u.cnt + 1) us u hu
        omega)
      clear hX hj hb HX
      by_cases hg : x ≤ 2000
      · have hgd : decide (x ≤ 2000) = true := decide_eq_true hg
        go_wp2
        go_ret
        exact ⟨_, rfl, fun _ => HX2.out hg, HB.out⟩
      · have hgd : decide (x ≤ 2000) = false := decide_eq_false hg
        go_wp2
        go_ret
        exact ⟨_, rfl, fun h => by first | (cases h; done) | (have h1 := of_decide_eq_false h; omega), HB.out⟩
    | succ f =>
      have hjl : j < us.length := by omega
      obtain ⟨u, hu⟩ : ∃ u, us[j]? = some u := ⟨_, List.getElem?_eq_getElem hjl⟩
      have hct := sumL_take (fun u : Un => u.cnt + 1) us j u hu
      have huo := HOK.out u (List.mem_of_getElem? hu)
      have j1 : (j : Int) < (us.length : Int) := by omega
      have j0 : (0 : Int) ≤ (j : Int) := by omega
      have j2 : (j : Int) ≤ 140737488355328 := by omega
      obtain ⟨q, o, vs, rfl, hFq, hgl, hrep, hat⟩ := (HA.out.bel RUn_keeps hb).at_ RUn_sized hu
      by_cases hg : x ≤ 2000
      · have hgd : decide (x ≤ 2000) = true := decide_eq_true hg
        have HC := Lib.hid (bulk_any u huo wr F vs (2000 - x) hrep (by omega) (by omega))
        obtain ⟨A1, a1, B1, b1, C1, c1, rfl, _, _, _⟩ := hrep
        have q0 := hat 0 _ rfl
        have q1 := hat 1 _ rfl
        have q2 := hat 2 _ rfl
        have q3 := hat 3 _ rfl
        rw [Nat.add_zero] at q0
        have HCT := Lib.hid hct
        clear hat hct hu huo hb
        go_wp2_with (go_at_call 20; refine HC.out.mono ?_; rintro e w5 ⟨r, rfl, r0, r1, hr1, hb5⟩; have HR1 := Lib.hid hr1; have HB5 := Lib.hid hb5; clear hr1 hb5)
        go_roundg f
        case measure => omega
        case rel => exact ⟨j + 1, x + 1 + r, by omega, by go_num, rfl, by omega, by omega, fun h => by have h1 := HX.out hg; have h2 := HR1.out (by omega); have h3 := HCT.out; omega, HB.out.trans (HB5.out.mono HB.out.size)⟩
      · have hgd : decide (x ≤ 2000) = false := decide_eq_false hg
        clear hat hct hu huo hb hrep
        go_wp2
        go_ret
        exact ⟨_, rfl, fun h => by first | (cases h; done) | (have h1 := of_decide_eq_false h; omega), HB.out⟩
/-- The first unit of a package. -/
def unitP : List Un → ByteArray → Option Un
  | [], _ => none
  | u :: r, p => if u.pkg = p then some u else unitP r p
def unitI : List Un → ByteArray → Option Nat
  | [], _ => none
  | u :: r, p => if u.pkg = p then some 0 else (unitI r p).map (· + 1)
theorem unitP_drop {l : List Un} {p : ByteArray} {j : Nat} {u : Un} (h : l[j]? = some u) : unitP (l.drop j) p = if u.pkg = p then some u else unitP (l.drop (j + 1)) p := by
  obtain ⟨h1, h2⟩ := List.getElem?_eq_some_iff.1 h
  rw [List.drop_eq_getElem_cons h1, h2, unitP]
theorem unitI_drop {l : List Un} {p : ByteArray} {j : Nat} {u : Un} (h : l[j]? = some u) : unitI (l.drop j) p = if u.pkg = p then some 0 else (unitI (l.drop (j + 1)) p).map (· + 1) := by
  obtain ⟨h1, h2⟩ := List.getElem?_eq_some_iff.1 h
  rw [List.drop_eq_getElem_cons h1, h2, unitI]
theorem unit_both (l : List Un) (p : ByteArray) : unitP l p = (unitI l p).bind (l[·]?) := by
  induction l with
  | nil => rfl
  | cons u r ih =>
    simp only [unitP, unitI]
    by_cases h : u.pkg = p
    · simp [h]
    · simp only [h, if_false, ih]
      cases unitI r p with
      | none => rfl
      | some i => simp
def unZ : Un := ⟨⟨#[]⟩, [], [], []⟩
end Go.Proofs.Ytcfgjfahjaimiaa
