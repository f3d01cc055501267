/-
  Types that come in: opened, with their numbers' range.
-/
import Derived.Test.YtnkojjkijkhlbaaTyW
namespace Go.Proofs.Ytnkojjkijkhlbaa
open Go.ChangeShapes Go.WideShapes Go.Deep Go.RowKit
set_option linter.unusedVariables false
set_option linter.unusedSimpArgs false

def I64 (n : Int) : Prop := -9223372036854775808 ≤ n ∧ n ≤ 9223372036854775807
theorem i64_of {n : Int} (h : (Lit.int .i64 n).wf = true) : I64 n := by
  have e1 : IntKind.i64.min = -9223372036854775808 := rfl
  have e2 : IntKind.i64.max = 9223372036854775807 := rfl
  simp [Lit.wf, e1, e2] at h
  exact ⟨by omega, by omega⟩
mutual
def Ty.rng : Ty → Prop
  | .mk k _ _ la lr => I64 k ∧ rngL la ∧ rngL lr
def rngL : List Ty → Prop
  | [] => True
  | t :: r => t.rng ∧ rngL r
end
theorem rngL_iff : ∀ l : List Ty, rngL l ↔ ∀ t ∈ l, t.rng
  | [] => by simp [rngL]
  | t :: r => by simp only [rngL, rngL_iff r, List.mem_cons, forall_eq_or_imp]
theorem rngL_snoc (l : List Ty) (t : Ty) (h : rngL l) (ht : t.rng) : rngL (l ++ [t]) := by
  rw [rngL_iff] at h ⊢
  intro a ha
  rcases List.mem_append.1 ha with h1 | h1
  · exact h a h1
  · rw [List.mem_singleton.1 h1]; exact ht
section
variable {H : Type} {enc : TypeId × Value → H} {w : World} {base : Nat} {spare : Nat → Bool} {held : Bool}
theorem open_typesR (n : Nat) (ih : ∀ m, m ≤ n → ∀ cs x, DataW.trod enc Try.prog w base spare held m 44 cs = some x → ∃ t : Ty, RT w (fun k => base ≤ k) t cs ∧ t.okN ∧ t.sz = szD x.1 ∧ ∀ R, (∀ k ∈ x.1.weights Try.prog 44, k ≤ R) → (t.mx ≤ R ∧ t.rng)) {cs : List Value} {x : DataW H × List MemPlace} (h : DataW.trod enc Try.prog w base spare held (n + 1) 42 cs = some x) :
    ∃ (A : Option Addr) (l : List Ty) (c : Nat), cs = [.slice A l.length c] ∧ SlT w (fun k => base ≤ k) A l ∧ okNs l ∧ l.length ≤ maxLen ∧ szL l = szD x.1 ∧ ∀ R, (∀ k ∈ x.1.weights Try.prog 42, k ≤ R) → (mxL l ≤ R ∧ rngL l) ∧ l.length ≤ R := by
  rcases DataW.trod_slice Try.underlying42 h with ⟨rfl, rfl⟩ | ⟨a, len, cap, elems, rest, m, hm, rfl, rfl, hb, hlc, hcm, hel, hi, _, _⟩
  · refine ⟨none, [], 0, rfl, ⟨[], ⟨rfl, fun h => absurd h (by simp)⟩, by simp only [RTs]⟩, by simp only [okNs], by simp, by simp [szL_nil, szD], fun R _ => ⟨⟨by rw [mxL_nil]; exact Nat.zero_le _, by simp only [rngL]⟩, Nat.zero_le _⟩⟩
  · obtain rfl : m = n := by omega
    have key : ∀ q, q ≤ len → ∃ (l : List Ty) (xs : List Value), l.length = q ∧ xs.length = q * 5 ∧ RTs w (fun k => base ≤ k) l xs ∧ okNs l ∧ szL l = szDs ((elems.take q).map (·.1)) ∧ (∀ R, (∀ k ∈ DataW.weightsAll Try.prog 44 ((elems.take q).map (·.1)), k ≤ R) → (mxL l ≤ R ∧ rngL l)) ∧ ∀ j u, xs[j]? = some u → w.cell? (a.add j) = some u := by
      intro q
      induction q with
      | zero => exact fun _ => ⟨[], [], rfl, rfl, by simp only [RTs], by simp only [okNs], by simp [szL_nil, szDs], fun R _ => ⟨by rw [mxL_nil]; exact Nat.zero_le _, by simp only [rngL]⟩, fun j u hu => by simp at hu⟩
      | succ q ihq =>
        intro hq
        obtain ⟨l, xs, h1, h2, h3, h4, h5, h7, h6⟩ := ihq (by omega)
        have hiq := hi q (by omega)
        have heq : elems[q]? = some (elems[q]'(by omega)) := List.getElem?_eq_getElem (by omega)
        rw [heq] at hiq
        obtain ⟨ys, hys, hty⟩ := Option.bind_eq_some_iff.1 hiq
        obtain ⟨t, ht, hok, hsz, hmx⟩ := ih m (Nat.le_refl _) ys _ hty
        rw [cells_type] at hys
        obtain ⟨_, hyl, hat⟩ := World.cells?_some hys
        refine ⟨l ++ [t], xs ++ ys, by simp [h1], by simp [h2, hyl]; omega, RTs.snoc ht h3, okNs_snoc l t h4 hok, ?_, fun R hR => ?_, fun j u hu => ?_⟩
        · rw [szL_append, szL_cons, szL_nil, h5, List.take_add_one, heq, Option.toList_some, List.map_append, szDs_append, hsz]
          simp [szDs]
        · rw [List.take_add_one, heq, Option.toList_some, List.map_append, weightsAll_append] at hR
          simp only [List.map_cons, List.map_nil, DataW.weightsAll, List.append_nil, List.mem_append] at hR
          have a1 := h7 R (fun k hk => hR k (Or.inl hk))
          have a2 := hmx R (fun k hk => hR k (Or.inr hk))
          exact ⟨by rw [mxL_append, mxL_cons, mxL_nil]; have := a1.1; have := a2.1; omega, rngL_snoc _ _ a1.2 a2.2⟩
        · by_cases hj : j < xs.length
          · rw [List.getElem?_append_left hj] at hu
            exact h6 j u hu
          · rw [List.getElem?_append_right (by omega)] at hu
            have hjl := (List.getElem?_eq_some_iff.1 hu).1
            have := hat (j - xs.length) (by omega)
            rw [← hu, ← this, h2, add_of_add, show q * 5 + (j - q * 5) = j by omega]
    obtain ⟨l, xs, h1, h2, h3, h4, h5, h7, h6⟩ := key len (Nat.le_refl _)
    refine ⟨some a, l, cap, by rw [h1], ⟨xs, ⟨by rw [h2, h1], fun hl => ?_⟩, h3⟩, h4, by omega, ?_, fun R hR => ?_⟩
    · have hx0 : xs[0]? = some (xs[0]'(by omega)) := List.getElem?_eq_getElem (by omega)
      have hc0 := h6 0 _ hx0
      have hsp : a.spot = none := by
        unfold World.cell? at hc0
        cases hs : a.spot with
        | none => rfl
        | some z => simp [Addr.add, hs] at hc0; split at hc0 <;> simp at hc0
      obtain ⟨g, o, sp⟩ := a
      simp at hsp
      subst hsp
      have hlt : g < w.heap.size := by
        rcases Nat.lt_or_ge g w.heap.size with h | h
        · exact h
        · have hn : w.heap[g]? = none := Array.getElem?_eq_none h
          unfold World.cell? at hc0
          simp [Addr.add, hn] at hc0
      refine ⟨g, o, rfl, hb, hlt, fun j u hu => ?_⟩
      have := h6 j u hu
      unfold Addr.add at this
      by_cases hj : j = 0
      · subst hj; simpa using this
      · simpa [hj] using this
    · rw [h5, List.take_of_length_le (by omega)]
      simp [szD]
    · simp only [DataW.weights, Try.underlying42, bytes_type, List.mem_cons, List.mem_append] at hR
      refine ⟨h7 R (fun k hk => hR k (Or.inr (Or.inl ?_))), ?_⟩
      · rw [List.take_of_length_le (by omega)] at hk
        exact hk
      · have := hR _ (Or.inl rfl)
        simp only [List.length_map] at this
        omega
theorem open_typeR : ∀ (n : Nat) (cs : List Value) (x : DataW H × List MemPlace), DataW.trod enc Try.prog w base spare held n 44 cs = some x → ∃ t : Ty, RT w (fun k => base ≤ k) t cs ∧ t.okN ∧ t.sz = szD x.1 ∧ ∀ R, (∀ k ∈ x.1.weights Try.prog 44, k ≤ R) → (t.mx ≤ R ∧ t.rng) := by
  intro n
  induction n using Nat.strongRecOn with
  | _ n ih =>
    intro cs x h
    obtain ⟨xs, m, hm, rfl, hcl, hxl, hf⟩ := DataW.trod_struct Try.underlying44 h
    rw [cells_type] at hcl
    subst hm
    obtain ⟨c0, c1, c2, c3, c4, rfl⟩ := five_gen hcl
    obtain ⟨y0, y1, y2, y3, y4, rfl⟩ := five_gen (show xs.length = 5 from hxl)
    · clear hcl hxl
      have e0 := hf 0 _ rfl
      have e1 := hf 1 _ rfl
      have e2 := hf 2 _ rfl
      have e3 := hf 3 _ rfl
      have e4 := hf 4 _ rfl
      have k0 : Try.prog.cellsOf 3 = 1 := by kernel_rfl
      have k1 : Try.prog.cellsOf 9 = 1 := by kernel_rfl
      have k3 : Try.prog.cellsOf 42 = 1 := by kernel_rfl
      simp [k0, k1, k3] at e0 e1 e2 e3 e4
      obtain ⟨k, hk, hy0, hkw⟩ := DataW.trod_int Try.underlying3 e0
      obtain ⟨p, hp, hy1, hpl⟩ := DataW.trod_string Try.underlying9 e1
      obtain ⟨q, hq, hy2, hql⟩ := DataW.trod_string Try.underlying9 e2
      cases m with
      | zero => simp [DataW.trod] at e3
      | succ m =>
        obtain ⟨A, la, c, h3, hA, hokA, _, hsA, hwA⟩ := open_typesR m (fun m' hm' => ih m' (by omega)) e3
        obtain ⟨B, lr, d, h4, hB, hokB, _, hsB, hwB⟩ := open_typesR m (fun m' hm' => ih m' (by omega)) e4
        simp at hk hp hq h3 h4
        subst hk hp hq h3 h4 hy0 hy1 hy2
        refine ⟨.mk k p q la lr, RT.mk_ hA hB, ?_, ?_, fun R hR => ?_⟩
        · simp only [Ty.okN]; exact ⟨hpl, hql, hokA, hokB⟩
        · have l1 : p.data.toList.length = p.size := rfl
          have l2 : q.data.toList.length = q.size := rfl
          rw [sz_mk]
          simp only [List.map_cons, List.map_nil, szD, szDs]
          omega
        · have l1 : p.data.toList.length = p.size := rfl
          have l2 : q.data.toList.length = q.size := rfl
          simp [DataW.weights, Try.underlying44, DataW.weightsEach, l1, l2] at hR
          obtain ⟨r1, r2, r3⟩ := hR
          have a1 := (hwA R (fun k hk => r3 k (Or.inl hk))).1
          have a2 := (hwB R (fun k hk => r3 k (Or.inr hk))).1
          exact ⟨by rw [mx_mk]; have := a1.1; have := a2.1; omega, by simp only [Ty.rng]; exact ⟨i64_of hkw, a1.2, a2.2⟩⟩
end
end Go.Proofs.Ytnkojjkijkhlbaa
