/-
  Types that come in: opened.
-/
import Derived.Test.YtcfgjfahjaimiaaTyA
import Derived.ChangeSame
import Derived.ChangeArms
import Derived.Deep.Slices
import Derived.Deep.Fields
namespace Go.Proofs.Ytcfgjfahjaimiaa
open Go.ChangeShapes Go.WideShapes Go.Deep Go.RowKit
set_option linter.unusedVariables false
set_option linter.unusedSimpArgs false

mutual
/-- Letters and parts of what is read. -/
def szD {H : Type} : DataW H → Nat
  | .lit (.string l) => l.length
  | .agg ds => szDs ds + 1
  | .slice ds _ => szDs ds
  | _ => 0
def szDs {H : Type} : List (DataW H) → Nat
  | [] => 0
  | d :: r => szD d + szDs r
end
mutual
/-- No name is longer than Go lets a text be. -/
def Ty.okN : Ty → Prop
  | .mk _ p n la lr => p.size ≤ maxLen ∧ n.size ≤ maxLen ∧ okNs la ∧ okNs lr
def okNs : List Ty → Prop
  | [] => True
  | t :: r => t.okN ∧ okNs r
end
theorem okNs_snoc : ∀ (l : List Ty) (t : Ty), okNs l → t.okN → okNs (l ++ [t])
  | [], t, _, h => by simp only [List.nil_append, okNs]; exact ⟨h, trivial⟩
  | a :: r, t, h, k => by
    simp only [okNs] at h
    simp only [List.cons_append, okNs]
    exact ⟨h.1, okNs_snoc r t h.2 k⟩
theorem szDs_append {H : Type} (a b : List (DataW H)) : szDs (a ++ b) = szDs a + szDs b := by
  induction a with
  | nil => simp [szDs]
  | cons x a ih => simp only [List.cons_append, szDs, ih]; omega
theorem RTs.snoc {w : World} {F : Nat → Prop} {t : Ty} {vs : List Value} (ht : RT w F t vs) : ∀ {l : List Ty} {xs : List Value}, RTs w F l xs → RTs w F (l ++ [t]) (xs ++ vs)
  | [], xs, h => by
    simp only [RTs] at h
    subst h
    simp only [List.nil_append, RTs]
    exact ⟨vs, [], by simp, ht, rfl⟩
  | a :: r, xs, h => by
    simp only [RTs] at h
    obtain ⟨va, q, rfl, h2, h3⟩ := h
    simp only [List.cons_append, RTs]
    exact ⟨va, q ++ vs, by simp, h2, RTs.snoc ht h3⟩
theorem five_gen {α : Type _} {l : List α} (h : l.length = 5) : ∃ a b c d e, l = [a, b, c, d, e] := by
  match l, h with
  | [a, b, c, d, e], _ => exact ⟨a, b, c, d, e, rfl⟩
theorem weightsAll_append {H : Type} {P : Program} {e : TypeId} (a b : List (DataW H)) : DataW.weightsAll P e (a ++ b) = DataW.weightsAll P e a ++ DataW.weightsAll P e b := by
  induction a with
  | nil => simp [DataW.weightsAll]
  | cons x a ih => simp only [List.cons_append, DataW.weightsAll, ih, List.append_assoc]
theorem bytes_type : Try.prog.bytesOf 26 = 88 := by kernel_rfl
theorem cells_type : Try.prog.cellsOf 26 = 5 := by kernel_rfl
section
variable {H : Type} {enc : TypeId × Value → H} {w : World} {base : Nat} {spare : Nat → Bool} {held : Bool}
theorem open_types (n : Nat) (ih : ∀ m, m ≤ n → ∀ cs x, DataW.trod enc Try.prog w base spare held m 26 cs = some x → ∃ t : Ty, RT w (fun k => base ≤ k) t cs ∧ t.okN ∧ t.sz = szD x.1 ∧ ∀ R, (∀ k ∈ x.1.weights Try.prog 26, k ≤ R) → t.mx ≤ R) {cs : List Value} {x : DataW H × List MemPlace} (h : DataW.trod enc Try.prog w base spare held (n + 1) 24 cs = some x) :
    ∃ (A : Option Addr) (l : List Ty) (c : Nat), cs = [.slice A l.length c] ∧ SlT w (fun k => base ≤ k) A l ∧ okNs l ∧ l.length ≤ maxLen ∧ szL l = szD x.1 ∧ ∀ R, (∀ k ∈ x.1.weights Try.prog 24, k ≤ R) → mxL l ≤ R ∧ l.length ≤ R := by
  rcases DataW.trod_slice Try.underlying24 h with ⟨rfl, rfl⟩ | ⟨a, len, cap, elems, rest, m, hm, rfl, rfl, hb, hlc, hcm, hel, hi, _, _⟩
  · refine ⟨none, [], 0, rfl, ⟨[], ⟨rfl, fun h => absurd h (by simp)⟩, by simp only [RTs]⟩, by simp only [okNs], by simp, by simp [szL_nil, szD], fun R _ => by rw [mxL_nil]; exact ⟨Nat.zero_le _, Nat.zero_le _⟩⟩
  · obtain rfl : m = n := by omega
    have key : ∀ q, q ≤ len → ∃ (l : List Ty) (xs : List Value), l.length = q ∧ xs.length = q * 5 ∧ RTs w (fun k => base ≤ k) l xs ∧ okNs l ∧ szL l = szDs ((elems.take q).map (·.1)) ∧ (∀ R, (∀ k ∈ DataW.weightsAll Try.prog 26 ((elems.take q).map (·.1)), k ≤ R) → mxL l ≤ R) ∧ ∀ j u, xs[j]? = some u → w.cell? (a.add j) = some u := by
      intro q
      induction q with
      | zero => exact fun _ => ⟨[], [], rfl, rfl, by simp only [RTs], by simp only [okNs], by simp [szL_nil, szDs], fun R _ => by rw [mxL_nil]; exact Nat.zero_le _, fun j u hu => by simp at hu⟩
      | succ q ihq =>
        intro hq
        obtain ⟨l, xs, h1, h2, h3, h4, h5, h7, h6⟩ := ihq (by omega)
        have hiq := hi q (by omega)
        have heq : elems[q]? = some (elems[q]'(by omega)) := List.getElem?_eq_getElem (by omega)
        rw [heq] at hiq
        obtain ⟨ys, hys, hty⟩ := Option.bind_eq_some_iff.1 hiq
        obtain ⟨t, ht, hok, hsz, hmx⟩ := ih m (Nat.le_refl _) ys _ hty
        rw [cells_type] at hys
        obtain ⟨_, hyl, hat⟩ := World.cells?_some hys
        refine ⟨l ++ [t], xs ++ ys, by simp [h1], by simp [h2, hyl]; omega, RTs.snoc ht h3, okNs_snoc l t h4 hok, ?_, fun R hR => ?_, fun j u hu => ?_⟩
        · rw [szL_append, szL_cons, szL_nil, h5, List.take_add_one, heq, Option.toList_some, List.map_append, szDs_append, hsz]
          simp [szDs]
        · rw [List.take_add_one, heq, Option.toList_some, List.map_append, weightsAll_append] at hR
          simp only [List.map_cons, List.map_nil, DataW.weightsAll, List.append_nil, List.mem_append] at hR
          have a1 := h7 R (fun k hk => hR k (Or.inl hk))
          have a2 := hmx R (fun k hk => hR k (Or.inr hk))
          rw [mxL_append, mxL_cons, mxL_nil]
          omega
        · by_cases hj : j < xs.length
          · rw [List.getElem?_append_left hj] at hu
            exact h6 j u hu
          · rw [List.getElem?_append_right (by omega)] at hu
            have hjl := (List.getElem?_eq_some_iff.1 hu).1
            have := hat (j - xs.length) (by omega)
            rw [← hu, ← this, h2, add_of_add, show q * 5 + (j - q * 5) = j by omega]
    obtain ⟨l, xs, h1, h2, h3, h4, h5, h7, h6⟩ := key len (Nat.le_refl _)
    refine ⟨some a, l, cap, by rw [h1], ⟨xs, ⟨by rw [h2, h1], fun hl => ?_⟩, h3⟩, h4, by omega, ?_, fun R hR => ?_⟩
    · have hx0 : xs[0]? = some (xs[0]'(by omega)) := List.getElem?_eq_getElem (by omega)
      have hc0 := h6 0 _ hx0
      have hsp : a.spot = none := by
        unfold World.cell? at hc0
        cases hs : a.spot with
        | none => rfl
        | some z => simp [Addr.add, hs] at hc0; split at hc0 <;> simp at hc0
      obtain ⟨g, o, sp⟩ := a
      simp at hsp
      subst hsp
      have hlt : g < w.heap.size := by
        rcases Nat.lt_or_ge g w.heap.size with h | h
        · exact h
        · have hn : w.heap[g]? = none := Array.getElem?_eq_none h
          unfold World.cell? at hc0
          simp [Addr.add, hn] at hc0
      refine ⟨g, o, rfl, hb, hlt, fun j u hu => ?_⟩
      have := h6 j u hu
      unfold Addr.add at this
      by_cases hj : j = 0
      · subst hj; simpa using this
      · simpa [hj] using this
    · rw [h5, List.take_of_length_le (by omega)]
      simp [szD]
    · simp only [DataW.weights, Try.underlying24, bytes_type, List.mem_cons, List.mem_append] at hR
      refine ⟨h7 R (fun k hk => hR k (Or.inr (Or.inl ?_))), ?_⟩
      · rw [List.take_of_length_le (by omega)] at hk
        exact hk
      · have := hR _ (Or.inl rfl)
        simp only [List.length_map] at this
        omega
theorem open_type : ∀ (n : Nat) (cs : List Value) (x : DataW H × List MemPlace), DataW.trod enc Try.prog w base spare held n 26 cs = some x → ∃ t : Ty, RT w (fun k => base ≤ k) t cs ∧ t.okN ∧ t.sz = szD x.1 ∧ ∀ R, (∀ k ∈ x.1.weights Try.prog 26, k ≤ R) → t.mx ≤ R := by
  intro n
  induction n using Nat.strongRecOn with
  | _ n ih =>
    intro cs x h
    obtain ⟨xs, m, hm, rfl, hcl, hxl, hf⟩ := DataW.trod_struct Try.underlying26 h
    rw [cells_type] at hcl
    subst hm
    obtain ⟨c0, c1, c2, c3, c4, rfl⟩ := five_gen hcl
    obtain ⟨y0, y1, y2, y3, y4, rfl⟩ := five_gen (show xs.length = 5 from hxl)
    · clear hcl hxl
      have e0 := hf 0 _ rfl
      have e1 := hf 1 _ rfl
      have e2 := hf 2 _ rfl
      have e3 := hf 3 _ rfl
      have e4 := hf 4 _ rfl
      have k0 : Try.prog.cellsOf 3 = 1 := by kernel_rfl
      have k1 : Try.prog.cellsOf 9 = 1 := by kernel_rfl
      have k3 : Try.prog.cellsOf 24 = 1 := by kernel_rfl
      simp [k0, k1, k3] at e0 e1 e2 e3 e4
      obtain ⟨k, hk, hy0, _⟩ := DataW.trod_int Try.underlying3 e0
      obtain ⟨p, hp, hy1, hpl⟩ := DataW.trod_string Try.underlying9 e1
      obtain ⟨q, hq, hy2, hql⟩ := DataW.trod_string Try.underlying9 e2
      cases m with
      | zero => simp [DataW.trod] at e3
      | succ m =>
        obtain ⟨A, la, c, h3, hA, hokA, _, hsA, hwA⟩ := open_types m (fun m' hm' => ih m' (by omega)) e3
        obtain ⟨B, lr, d, h4, hB, hokB, _, hsB, hwB⟩ := open_types m (fun m' hm' => ih m' (by omega)) e4
        simp at hk hp hq h3 h4
        subst hk hp hq h3 h4 hy0 hy1 hy2
        refine ⟨.mk k p q la lr, RT.mk_ hA hB, ?_, ?_, fun R hR => ?_⟩
        · simp only [Ty.okN]; exact ⟨hpl, hql, hokA, hokB⟩
        · have l1 : p.data.toList.length = p.size := rfl
          have l2 : q.data.toList.length = q.size := rfl
          rw [sz_mk]
          simp only [List.map_cons, List.map_nil, szD, szDs]
          omega
        · have l1 : p.data.toList.length = p.size := rfl
          have l2 : q.data.toList.length = q.size := rfl
          simp [DataW.weights, Try.underlying26, DataW.weightsEach, l1, l2] at hR
          obtain ⟨r1, r2, r3⟩ := hR
          have a1 := (hwA R (fun k hk => r3 k (Or.inl hk))).1
          have a2 := (hwB R (fun k hk => r3 k (Or.inr hk))).1
          rw [mx_mk]
          omega
end
end Go.Proofs.Ytcfgjfahjaimiaa
