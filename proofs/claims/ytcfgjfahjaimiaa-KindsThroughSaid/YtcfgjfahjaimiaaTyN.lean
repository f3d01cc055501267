/-
  Names that lack a type: walks.
-/
import Derived.Test.YtcfgjfahjaimiaaTyM
namespace Go.Proofs.Ytcfgjfahjaimiaa
open Go.RowKit
set_option linter.unusedVariables false
set_option linter.unusedSimpArgs false

theorem PlMap.find {w : World} {b : Nat} {l : List ByteArray} (h : PlMap w b l) (s : ByteArray) (hs : s.size ≤ maxLen) {i : Nat} (hp : place l s = some i) :
    (Instr.lookup 69 (.map (some b)) (.string s) false).run Try.prog w = .ok (.int .i64 i) w := by
  obtain ⟨n, D, h1, h2, h3⟩ := h
  obtain ⟨c, hrun, hat, _⟩ := h2.lookup_int str_keyed Try.underlying69 Try.underlying3 (zero_int w) (key := .string s) (kl := .string s.data.toList) (Go.WideMaps.keyOf_string_mk Try.underlying9 hs)
  obtain ⟨_, h5⟩ := (h3 s hs).2 i hp
  rw [h5] at hat
  simp only [DataW.lit.injEq, Lit.int.injEq, true_and] at hat
  rw [hrun, ← hat]
theorem place_some {l : List ByteArray} {s : ByteArray} (h : s ∈ l) : ∃ i, place l s = some i := by
  induction l with
  | nil => cases h
  | cons a r ih =>
    simp only [place]
    by_cases e : a = s
    · exact ⟨0, by simp [e]⟩
    · simp only [e, if_false]
      obtain ⟨i, hi⟩ := ih (by rcases List.mem_cons.1 h with h | h; exact absurd h.symm e; exact h)
      exact ⟨i + 1, by rw [hi]; rfl⟩
/-- A name's type, as found. -/
def foundOf (l : List ByteArray) (fd : List Ty) (s : ByteArray) : Ty := (fd[(place l s).getD 0]?).getD (.mk 0 ⟨#[]⟩ ⟨#[]⟩ [] [])
theorem foundOf_eq {l : List ByteArray} {fd : List Ty} {s : ByteArray} {i : Nat} {u : Ty} (hp : place l s = some i) (hu : fd[i]? = some u) : foundOf l fd s = u := by
  simp [foundOf, hp, hu]
set_option maxRecDepth 100000 in
set_option maxHeartbeats 2000000 in
theorem lacks_any (w : World) (F : Nat → Prop) (m g cc : Nat) (l : List ByteArray) (fd : List Ty) (s : ByteArray) (hsc : Sc w F m g l fd) (hm : s ∈ l) (hs : s.size ≤ maxLen) (hll : l.length ≤ 100000) :
    Calls Try.prog 44 #[.agg #[.map (some m), .slice (some ⟨g, 0, none⟩) l.length cc], .string s] w fun e w' => e = .returned (.bool ((foundOf l fd s).kind == 0)) ∧ Below w.heap.size w w' := by
  obtain ⟨i, hp⟩ := place_some hm
  have hil := place_lt hp
  have hfl := hsc.2.2.1
  obtain ⟨u, hu⟩ : ∃ u, fd[i]? = some u := ⟨_, List.getElem?_eq_getElem (by omega)⟩
  rw [foundOf_eq hp hu]
  obtain ⟨uu, hru, hat⟩ := hsc.2.2.2.at_ hu
  obtain ⟨ku, pu, nu, lu, ru⟩ := u
  obtain ⟨A3, c3, A4, c4, rfl, hA3, hA4⟩ := hru.openL
  have q0 := hat 0 _ rfl
  rw [Nat.add_zero] at q0
  have hgl := hsc.2.2.2.lt
  have i0 : (0 : Int) ≤ (i : Int) := by omega
  have i1 : (i : Int) < (l.length : Int) := by omega
  have hlk1 := fun o : Obj => (hsc.1.keep (w' := w.alloc o) (Below.heap_alloc w o m hsc.1.lt)).find s hs hp
  clear hp hu hat hru hA3 hA4 hsc
  go_enter Try.func44, Try.ntmps44
  go_wp2
  go_ret
  exact ⟨rfl, (Below.refl _ w).alloc (Nat.le_refl _) _⟩
set_option maxRecDepth 100000 in
set_option maxHeartbeats 2000000 in
theorem first_any (w : World) (F F' : Nat → Prop) (A : Option Addr) (c m g cc : Nat) (l : List ByteArray) (fd : List Ty) (hsc : Sc w F m g l fd) (hs : SlS w F' A l) (hll : l.length ≤ 100000) :
    Calls Try.prog 43 #[.slice A l.length c, .func (Fn.func 44) #[.agg #[.map (some m), .slice (some ⟨g, 0, none⟩) l.length cc]] #[]] w fun e w' => (∃ s : ByteArray, e = .returned (.tuple #[.string s, .bool (l.any fun s => (foundOf l fd s).kind == 0)])) ∧ Below w.heap.size w w' := by
  have HS := Lib.hid hs
  have HSC := Lib.hid hsc
  have n0 : (0 : Int) ≤ (l.length : Int) := by omega
  have n1 : (l.length : Int) ≤ 100000 := by omega
  clear hs hsc
  obtain ⟨res, hres⟩ : ∃ r, (l.any fun s => (foundOf l fd s).kind == 0) = r := ⟨_, rfl⟩
  have HR := Lib.hid hres
  rw [hres]
  clear hres
  go_enter Try.func43, Try.ntmps43
  go_wp2
  go_loopg [11] l.length (fun gk v11 wr => ∃ j : Nat, j + gk = l.length ∧ v11 = .int .i64 j ∧ Below w.heap.size w wr ∧ res = ((l.drop j).any fun s => (foundOf l fd s).kind == 0))
  case atStart => exact ⟨0, by simp, rfl, Below.refl _ _, by rw [← HR.out]; rfl⟩
  case round =>
    obtain ⟨j, hj, rfl, hb, hsm⟩ := hrel
    have HB := Lib.hid hb
    cases gk with
    | zero =>
      obtain rfl : j = l.length := by omega
      rw [List.drop_length, List.any_nil] at hsm
      subst hsm
      clear hj
      go_wp2
      go_ret2
      exact ⟨⟨_, rfl⟩, HB.out⟩
    | succ f =>
      have hjl : j < l.length := by omega
      obtain ⟨s, hs⟩ : ∃ s, l[j]? = some s := ⟨_, List.getElem?_eq_getElem hjl⟩
      have hmem := List.mem_of_getElem? hs
      have hss := HS.out.1 s hmem
      obtain ⟨q, o, rfl, hF, hgl, hat⟩ := HS.out.2 (by omega)
      have q0 := (hb.cell (p := ⟨q, o + j, none⟩) hgl).trans (hat j s hs)
      have jlt : (j : Int) < (l.length : Int) := by omega
      have HL := Lib.hid (lacks_any wr F m g cc l fd s (HSC.out.bel hb) hmem hss hll)
      obtain ⟨h1, h2⟩ := List.getElem?_eq_some_iff.1 hs
      rw [List.drop_eq_getElem_cons h1, h2, List.any_cons] at hsm
      obtain ⟨t, ht⟩ : ∃ t, ((foundOf l fd s).kind == 0) = t := ⟨_, rfl⟩
      rw [ht] at HL hsm
      clear ht hs hmem hss hat h1 h2 hb
      cases t with
      | true =>
        rw [Bool.true_or] at hsm
        subst hsm
        go_wp2_with (go_at_call 44; refine HL.out.mono ?_; rintro e w1 ⟨rfl, hb1⟩)
        go_ret2
        exact ⟨⟨_, rfl⟩, HB.out.trans (hb1.mono HB.out.size)⟩
      | false =>
        rw [Bool.false_or] at hsm
        have HSM := Lib.hid hsm
        clear hsm
        go_wp2_with (go_at_call 44; refine HL.out.mono ?_; rintro e w1 ⟨rfl, hb1⟩)
        go_roundg f
        case measure => omega
        case rel => exact ⟨j + 1, by omega, by go_num, HB.out.trans (hb1.mono HB.out.size), HSM.out⟩
end Go.Proofs.Ytcfgjfahjaimiaa
