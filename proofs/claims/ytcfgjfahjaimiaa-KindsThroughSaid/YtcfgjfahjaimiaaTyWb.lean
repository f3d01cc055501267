/-
  Names that come in: opened.
-/
import Derived.Test.YtcfgjfahjaimiaaTyW
import Derived.Test.YtcfgjfahjaimiaaTyI
namespace Go.Proofs.Ytcfgjfahjaimiaa
open Go.ChangeShapes Go.WideShapes Go.Deep Go.RowKit
set_option linter.unusedVariables false
set_option linter.unusedSimpArgs false

theorem cells_str : Try.prog.cellsOf 9 = 1 := by kernel_rfl
theorem bytes_str : Try.prog.bytesOf 9 = 16 := by kernel_rfl
section
variable {H : Type} {enc : TypeId × Value → H} {w : World} {base : Nat} {spare : Nat → Bool} {held : Bool}
theorem open_strs (n : Nat) {cs : List Value} {x : DataW H × List MemPlace} (h : DataW.trod enc Try.prog w base spare held n 51 cs = some x) :
    ∃ (A : Option Addr) (l : List ByteArray) (c : Nat), cs = [.slice A l.length c] ∧ SlS w (fun k => base ≤ k) A l ∧ ∀ R, (∀ k ∈ x.1.weights Try.prog 51, k ≤ R) → l.length ≤ R := by
  rcases DataW.trod_slice Try.underlying51 h with ⟨rfl, rfl⟩ | ⟨a, len, cap, elems, rest, m, hm, rfl, rfl, hb, hlc, hcm, hel, hi, _, _⟩
  · exact ⟨none, [], 0, rfl, ⟨fun s hs => by (cases hs), fun h => absurd h (by simp)⟩, fun R _ => Nat.zero_le _⟩
  · have key : ∀ q, q ≤ len → ∃ (l : List ByteArray), l.length = q ∧ (∀ s ∈ l, s.size ≤ maxLen) ∧ ∀ (j : Nat) (s : ByteArray), l[j]? = some s → w.cell? (a.add j) = some (.string s) := by
      intro q
      induction q with
      | zero => exact fun _ => ⟨[], rfl, fun s hs => by (cases hs), fun j u hu => by simp at hu⟩
      | succ q ihq =>
        intro hq
        obtain ⟨l, h1, h2, h3⟩ := ihq (by omega)
        have hiq := hi q (by omega)
        have heq : elems[q]? = some (elems[q]'(by omega)) := List.getElem?_eq_getElem (by omega)
        rw [heq] at hiq
        obtain ⟨ys, hys, hty⟩ := Option.bind_eq_some_iff.1 hiq
        obtain ⟨s, rfl, _, hsz⟩ := DataW.trod_string Try.underlying9 hty
        rw [cells_str] at hys
        obtain ⟨_, hyl, hat⟩ := World.cells?_some hys
        refine ⟨l ++ [s], by simp [h1], fun u hu => ?_, fun j u hu => ?_⟩
        · rcases List.mem_append.1 hu with hu | hu
          · exact h2 u hu
          · rw [List.mem_singleton.1 hu]; exact hsz
        · by_cases hj : j < l.length
          · rw [List.getElem?_append_left hj] at hu
            exact h3 j u hu
          · rw [List.getElem?_append_right (by omega)] at hu
            have hjl := (List.getElem?_eq_some_iff.1 hu).1
            simp at hjl
            have hj2 : j = q := by omega
            subst hj2
            rw [h1, Nat.sub_self] at hu
            simp at hu
            subst hu
            have := hat 0 (by omega)
            rw [Nat.mul_one] at this
            simpa [Addr.add] using this
    obtain ⟨l, h1, h2, h3⟩ := key len (Nat.le_refl _)
    refine ⟨some a, l, cap, by rw [h1], ⟨h2, fun hl => ?_⟩, fun R hR => ?_⟩
    · have hx0 : l[0]? = some (l[0]'(by omega)) := List.getElem?_eq_getElem (by omega)
      have hc0 := h3 0 _ hx0
      have hsp : a.spot = none := by
        unfold World.cell? at hc0
        cases hs : a.spot with
        | none => rfl
        | some z => simp [Addr.add, hs] at hc0; split at hc0 <;> simp at hc0
      obtain ⟨g, o, sp⟩ := a
      simp at hsp
      subst hsp
      have hlt : g < w.heap.size := by
        rcases Nat.lt_or_ge g w.heap.size with h | h
        · exact h
        · have hn : w.heap[g]? = none := Array.getElem?_eq_none h
          unfold World.cell? at hc0
          simp [Addr.add, hn] at hc0
      refine ⟨g, o, rfl, hb, hlt, fun j u hu => ?_⟩
      have := h3 j u hu
      unfold Addr.add at this
      by_cases hj : j = 0
      · subst hj; simpa using this
      · simpa [hj] using this
    · simp only [DataW.weights, Try.underlying51, bytes_str, List.mem_cons] at hR
      have := hR _ (Or.inl rfl)
      simp only [List.length_map] at this
      omega
end
end Go.Proofs.Ytcfgjfahjaimiaa
