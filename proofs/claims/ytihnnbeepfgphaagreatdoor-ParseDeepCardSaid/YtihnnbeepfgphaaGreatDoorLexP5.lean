/-
  Tokens that have been told, in a world: walks.
-/
import Derived.Test.YtihnnbeepfgphaaGreatDoorLexT5
import Derived.Test.YtihnnbeepfgphaaGreatDoorLexK
namespace Go.Proofs.YtihnnbeepfgphaaGreatDoor
open Go.RowKit
set_option linter.unusedVariables false
set_option linter.unusedSimpArgs false

theorem flat4 : ∀ (ts : List (Tk × Nat)) (j i : Nat) (x : Tk × Nat), ts[j]? = some x → i < 4 → (ts.flatMap tkC)[j * 4 + i]? = (tkC x)[i]?
  | [], j, i, x, h, _ => by simp at h
  | y :: r, 0, i, x, h, hi => by
    simp at h; subst h
    rw [List.flatMap_cons, List.getElem?_append_left (by simp [tkC]; omega)]
    congr 1; omega
  | y :: r, j + 1, i, x, h, hi => by
    have h' : r[j]? = some x := by simpa using h
    rw [List.flatMap_cons, List.getElem?_append_right (by simp [tkC]; omega)]
    have e : (j + 1) * 4 + i - (tkC y).length = j * 4 + i := by simp [tkC]; omega
    rw [e]
    exact flat4 r j i x h' hi
/-- A slice of tokens that has been told, in a world. -/
structure Toks (w : World) (g : Nat) (ts : List (Tk × Nat)) : Prop where
  lt : g < w.heap.size
  cell : ∀ j x, ts[j]? = some x → w.cell? ⟨g, j * 4, none⟩ = some (.int .i64 x.1.k) ∧ w.cell? ⟨g, j * 4 + 1, none⟩ = some (.string (bs x.1.t)) ∧ w.cell? ⟨g, j * 4 + 2, none⟩ = some (.int .i64 x.1.n) ∧ w.cell? ⟨g, j * 4 + 3, none⟩ = some (.int .i64 x.2)
theorem Toks.below {w w' : World} {g : Nat} {ts : List (Tk × Nat)} (h : Toks w g ts) (hb : Below w.heap.size w w') : Toks w' g ts :=
  ⟨Nat.lt_of_lt_of_le h.lt hb.size, fun j x hx => by
    obtain ⟨h0, h1, h2, h3⟩ := h.cell j x hx
    exact ⟨(hb.cell (p := ⟨g, _, none⟩) h.lt).trans h0, (hb.cell (p := ⟨g, _, none⟩) h.lt).trans h1, (hb.cell (p := ⟨g, _, none⟩) h.lt).trans h2, (hb.cell (p := ⟨g, _, none⟩) h.lt).trans h3⟩⟩
theorem lex_toks (s : ByteArray) (ts : List (Tk × Nat)) (w : World) (ht : ErrT w) (hne : ts ≠ []) (h : lexD s.data.toList = (ts, 0, 0)) :
    Calls Tryz.prog 18 #[.string s] w fun e w' => ∃ g c, e = .returned (.tuple #[.slice (some ⟨g, 0, none⟩) ts.length c, .int .i64 0, .int .i64 0]) ∧ Below w.heap.size w w' ∧ ts.length ≤ c ∧ Toks w' g ts := by
  have := lex_any s w ht
  rw [h] at this
  refine this.mono ?_
  rintro e w1 ⟨A, c, rfl, hown, hB⟩
  obtain ⟨g, rfl, hgc, hgb, hgs, hfz, hcl⟩ := own_cells hown (List.length_pos_iff.2 hne)
  refine ⟨g, c, rfl, hB, hgc, hgs, fun j x hx => ⟨hcl _ _ ?_, hcl _ _ ?_, hcl _ _ ?_, hcl _ _ ?_⟩⟩
  · exact flat4 ts j 0 x hx (by omega)
  · exact flat4 ts j 1 x hx (by omega)
  · exact flat4 ts j 2 x hx (by omega)
  · exact flat4 ts j 3 x hx (by omega)
theorem below_drewN {B : Nat} {w w1 : World} (h : Below B w w1) (n : Nat) : Below B w (w1.drewN n) := ⟨h.os, h.tape, h.output, h.size, h.block⟩
theorem lex_fault (s : ByteArray) (p : Nat) (w : World) (ht : ErrT w) (h : lexD s.data.toList = ([], p, 5)) :
    Calls Tryz.prog 18 #[.string s] w fun e w' => ∃ A c, e = .returned (.tuple #[.slice A 0 c, .int .i64 p, .int .i64 5]) ∧ Below w.heap.size w w' := by
  have := lex_any s w ht
  rw [h] at this
  exact this.mono fun e w' ⟨A, c, he, _, hb⟩ => ⟨A, c, he, hb⟩

theorem ext_cut (s : ByteArray) (a n : Nat) : s.extract a (a + n) = bs ((s.data.toList.drop a).take n) := by
  refine ByteArray.ext ?_
  rw [← Array.toList_inj, ext_list]; simp [bs]
theorem lexD_cases (l : List UInt8) : (∃ ts, lexD l = (ts, 0, 0)) ∨ (∃ p e, lexD l = ([], p, e) ∧ p ≤ l.length ∧ (e = 2 ∨ e = 5)) := by
  by_cases h : 8192 < l.length
  · exact .inr ⟨0, 2, by unfold lexD; rw [if_pos h], by omega, .inl rfl⟩
  · have h2 : lexD l = lexG l := by unfold lexD; rw [if_neg h]
    cases hx : lexL (l.length + 1) (gapL false l) (l.drop (gapL false l)) with
    | inl p =>
      have : lexD l = ([], p, 5) := by rw [h2]; unfold lexG; rw [hx]; rfl
      exact .inr ⟨p, 5, this, lexD_place this, .inr rfl⟩
    | inr ts => exact .inl ⟨ts, by rw [h2]; unfold lexG; rw [hx]; rfl⟩
theorem lex_err (s : ByteArray) (p : Nat) (n : Int) (w : World) (ht : ErrT w) (h : lexD s.data.toList = ([], p, n)) :
    Calls Tryz.prog 18 #[.string s] w fun e w' => ∃ A c, e = .returned (.tuple #[.slice A 0 c, .int .i64 p, .int .i64 n]) ∧ Below w.heap.size w w' := by
  have := lex_any s w ht
  rw [h] at this
  exact this.mono fun e w' ⟨A, c, he, _, hb⟩ => ⟨A, c, he, hb⟩
end Go.Proofs.YtihnnbeepfgphaaGreatDoor
