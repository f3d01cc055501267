/-
  Units that come in: opened.
-/
import Derived.Test.YtcfgjfahjaimiaaUa
import Derived.Test.YtcfgjfahjaimiaaTyW
import Derived.SizedLaws
namespace Go.Proofs.Ytcfgjfahjaimiaa
open Go.ChangeShapes Go.WideShapes Go.Deep Go.RowKit
set_option linter.unusedVariables false
set_option linter.unusedSimpArgs false

section
variable {H : Type} {enc : TypeId × Value → H} {w : World} {base : Nat} {spare : Nat → Bool} {held : Bool}
theorem open_sl {α : Type} (R : Rel α) (n : Nat) (hn : 0 < n) (hz : Sized R n) (e t : TypeId) (hu : Try.prog.underlying t = some (.slice e)) (hc : Try.prog.cellsOf e = n) (hby : 0 < Try.prog.bytesOf e) (ok : Nat → α → Prop) (m : Nat)
    (hop : ∀ cs x, DataW.trod enc Try.prog w base spare held m e cs = some x → ∃ a, R w (fun k => base ≤ k) a cs ∧ ∀ B, (∀ k ∈ x.1.weights Try.prog e, k ≤ B) → ok B a)
    {cs : List Value} {x : DataW H × List MemPlace} (h : DataW.trod enc Try.prog w base spare held (m + 1) t cs = some x) :
    ∃ (A : Option Addr) (l : List α) (c : Nat), cs = [.slice A l.length c] ∧ SlG n R w (fun k => base ≤ k) A l ∧ ∀ B, (∀ k ∈ x.1.weights Try.prog t, k ≤ B) → l.length ≤ B ∧ ∀ a ∈ l, ok B a := by
  rcases DataW.trod_slice hu h with ⟨rfl, rfl⟩ | ⟨a, len, cap, elems, rest, m', hm, rfl, rfl, hb, hlc, hcm, hel, hi, _, _⟩
  · exact ⟨none, [], 0, rfl, SlG.none_ _ _, fun B _ => ⟨Nat.zero_le _, fun a ha => by cases ha⟩⟩
  · obtain rfl : m' = m := by omega
    have key : ∀ q, q ≤ len → ∃ (l : List α) (xs : List Value), l.length = q ∧ xs.length = q * n ∧ RowsOf R w (fun k => base ≤ k) l xs ∧ (∀ B, (∀ k ∈ DataW.weightsAll Try.prog e ((elems.take q).map (·.1)), k ≤ B) → ∀ a ∈ l, ok B a) ∧ ∀ j u, xs[j]? = some u → w.cell? (a.add j) = some u := by
      intro q
      induction q with
      | zero => exact fun _ => ⟨[], [], rfl, by simp, rfl, fun B _ a ha => (by cases ha), fun j u hu => by simp at hu⟩
      | succ q ihq =>
        intro hq
        obtain ⟨l, xs, h1, h2, h3, h7, h6⟩ := ihq (by omega)
        have hiq := hi q (by omega)
        have heq : elems[q]? = some (elems[q]'(by omega)) := List.getElem?_eq_getElem (by omega)
        rw [heq] at hiq
        obtain ⟨ys, hys, hty⟩ := Option.bind_eq_some_iff.1 hiq
        obtain ⟨t1, ht, hok⟩ := hop ys _ hty
        rw [hc] at hys
        obtain ⟨_, hyl, hat⟩ := World.cells?_some hys
        refine ⟨l ++ [t1], xs ++ ys, by simp [h1], by rw [List.length_append, h2, hyl, Nat.add_mul, Nat.one_mul], RowsOf.snoc ht h3, fun B hB => ?_, fun j u hu => ?_⟩
        · rw [List.take_add_one, heq, Option.toList_some, List.map_append, weightsAll_append] at hB
          simp only [List.map_cons, List.map_nil, DataW.weightsAll, List.append_nil, List.mem_append] at hB
          intro a1 ha1
          rcases List.mem_append.1 ha1 with ha1 | ha1
          · exact h7 B (fun k hk => hB k (Or.inl hk)) a1 ha1
          · rw [List.mem_singleton.1 ha1]
            exact hok B (fun k hk => hB k (Or.inr hk))
        · by_cases hj : j < xs.length
          · rw [List.getElem?_append_left hj] at hu
            exact h6 j u hu
          · rw [List.getElem?_append_right (by omega)] at hu
            have hjl := (List.getElem?_eq_some_iff.1 hu).1
            have := hat (j - xs.length) (by omega)
            rw [← hu, ← this, h2, add_of_add, show q * n + (j - q * n) = j by omega]
    obtain ⟨l, xs, h1, h2, h3, h7, h6⟩ := key len (Nat.le_refl _)
    refine ⟨some a, l, cap, by rw [h1], ⟨xs, ⟨by rw [h2, h1], fun hl => ?_⟩, h3⟩, fun B hB => ?_⟩
    · have hxl : 0 < xs.length := by rw [h2]; exact Nat.mul_pos (by omega) hn
      have hx0 : xs[0]? = some (xs[0]'hxl) := List.getElem?_eq_getElem hxl
      have hc0 := h6 0 _ hx0
      have hsp : a.spot = none := by
        unfold World.cell? at hc0
        cases hs : a.spot with
        | none => rfl
        | some z => simp [Addr.add, hs] at hc0; split at hc0 <;> simp at hc0
      obtain ⟨g, o, sp⟩ := a
      simp at hsp
      subst hsp
      have hlt : g < w.heap.size := by
        rcases Nat.lt_or_ge g w.heap.size with h | h
        · exact h
        · have hn : w.heap[g]? = none := Array.getElem?_eq_none h
          unfold World.cell? at hc0
          simp [Addr.add, hn] at hc0
      refine ⟨g, o, rfl, hb, hlt, fun j u hu => ?_⟩
      have := h6 j u hu
      unfold Addr.add at this
      by_cases hj : j = 0
      · subst hj; simpa using this
      · simpa [hj] using this
    · simp only [DataW.weights, hu, List.mem_cons, List.mem_append] at hB
      refine ⟨?_, h7 B (fun k hk => hB k (Or.inr (Or.inl ?_)))⟩
      · have := hB _ (Or.inl rfl)
        simp only [List.length_map] at this
        have h8 : l.length * 1 ≤ (elems.length + rest.length) * Try.prog.bytesOf e := Nat.mul_le_mul (by omega) hby
        omega
      · rw [List.take_of_length_le (by omega)] at hk
        exact hk
theorem agg_w {t : TypeId} {fs : Array Field} (hu : Try.prog.underlying t = some (.struct fs)) (ds : List (DataW H)) : (DataW.agg ds).weights Try.prog t = DataW.weightsEach Try.prog (fs.toList.map (·.type)) ds := by simp only [DataW.weights, hu]
theorem str_w (s : ByteArray) (t : TypeId) (B : Nat) (h : ∀ k ∈ (DataW.lit (H := H) (.string s.data.toList)).weights Try.prog t, k ≤ B) : s.size ≤ B := h _ (by simp [DataW.weights])
def Im.ok (B : Nat) (a : Im) : Prop := a.name.size ≤ B
def Fi.ok (B : Nat) (f : Fi) : Prop := f.name.size ≤ B ∧ f.ty.mx ≤ B
def Dl.ok (B : Nat) (d : Dl) : Prop := d.name.size ≤ B ∧ d.of.size ≤ B ∧ d.ty.mx ≤ B ∧ d.fields.length ≤ B ∧ ∀ f ∈ d.fields, f.ok B
mutual
def Ex.ok (B : Nat) : Ex → Prop
  | .mk _ _ s kids => s.size ≤ B ∧ kids.length ≤ B ∧ okEs B kids
def okEs (B : Nat) : List Ex → Prop
  | [] => True
  | t :: r => t.ok B ∧ okEs B r
end
theorem okEs_iff {B : Nat} : ∀ l : List Ex, okEs B l ↔ ∀ a ∈ l, a.ok B
  | [] => by simp [okEs]
  | t :: r => by simp only [okEs, okEs_iff r, List.mem_cons, forall_eq_or_imp]
mutual
def St.ok (B : Nat) : St → Prop
  | .mk _ _ es bo el => (es.length ≤ B ∧ okEs B es) ∧ (bo.length ≤ B ∧ okSs B bo) ∧ (el.length ≤ B ∧ okSs B el)
def okSs (B : Nat) : List St → Prop
  | [] => True
  | t :: r => t.ok B ∧ okSs B r
end
theorem okSs_iff {B : Nat} : ∀ l : List St, okSs B l ↔ ∀ a ∈ l, a.ok B
  | [] => by simp [okSs]
  | t :: r => by simp only [okSs, okSs_iff r, List.mem_cons, forall_eq_or_imp]
def Fn8.ok (B : Nat) (f : Fn8) : Prop := f.name.size ≤ B ∧ f.body.length ≤ B ∧ ∀ s ∈ f.body, s.ok B
def Un.ok (B : Nat) (u : Un) : Prop := u.pkg.size ≤ B ∧ (u.imps.length ≤ B ∧ ∀ a ∈ u.imps, a.ok B) ∧ (u.decls.length ≤ B ∧ ∀ d ∈ u.decls, d.ok B) ∧ (u.funs.length ≤ B ∧ ∀ f ∈ u.funs, f.ok B)
set_option maxRecDepth 100000 in
set_option maxHeartbeats 1000000 in
theorem open_im (n : Nat) (cs : List Value) (x : DataW H × List MemPlace) (h : DataW.trod enc Try.prog w base spare held n 132 cs = some x) : ∃ a : Im, RIm w (fun k => base ≤ k) a cs ∧ ∀ B, (∀ k ∈ x.1.weights Try.prog 132, k ≤ B) → a.ok B := by
  obtain ⟨xs, m, hm, rfl, hcl, hxl, hf⟩ := DataW.trod_struct Try.underlying132 h
  have hcf : Try.prog.cellsOf 132 = 2 := by kernel_rfl
  rw [hcf] at hcl
  subst hm
  match cs, hcl with
  | [c0, c1], _ =>
  match xs, (show xs.length = 2 from hxl) with
  | [y0, y1], _ =>
    have ki : Try.prog.cellsOf 3 = 1 := by kernel_rfl
    have ks : Try.prog.cellsOf 9 = 1 := by kernel_rfl
    have kk1 : Try.prog.cellsOf 2 = 1 := by kernel_rfl
    have e0 := hf 0 _ rfl
    have e1 := hf 1 _ rfl
    simp [ki, ks, cells_type, kk1] at e0 e1
    clear hf hxl hcf
    obtain ⟨v0, hv0, hy0, _⟩ := DataW.trod_string Try.underlying9 e0
    obtain ⟨v1, hv1, hy1, _⟩ := DataW.trod_int Try.underlying2 e1
    simp only [List.cons.injEq, and_true] at hv0 hv1
    subst hv0 hv1
    subst hy0 hy1
    refine ⟨⟨v0, v1⟩, rfl, fun B hB => ?_⟩
    rw [agg_w Try.underlying132] at hB
    have w0 : ∀ k ∈ _, k ≤ B := fun k hk => hB k (DataW.weights_mem_each (j := 0) (t := 9) rfl rfl k hk)
    have w1 : ∀ k ∈ _, k ≤ B := fun k hk => hB k (DataW.weights_mem_each (j := 1) (t := 2) rfl rfl k hk)
    exact str_w v0 _ B w0
set_option maxRecDepth 100000 in
set_option maxHeartbeats 1000000 in
theorem open_fi (n : Nat) (cs : List Value) (x : DataW H × List MemPlace) (h : DataW.trod enc Try.prog w base spare held n 40 cs = some x) : ∃ a : Fi, RFi w (fun k => base ≤ k) a cs ∧ ∀ B, (∀ k ∈ x.1.weights Try.prog 40, k ≤ B) → a.ok B := by
  obtain ⟨xs, m, hm, rfl, hcl, hxl, hf⟩ := DataW.trod_struct Try.underlying40 h
  have hcf : Try.prog.cellsOf 40 = 6 := by kernel_rfl
  rw [hcf] at hcl
  subst hm
  match cs, hcl with
  | [c0, c1, c2, c3, c4, c5], _ =>
  match xs, (show xs.length = 2 from hxl) with
  | [y0, y1], _ =>
    have ki : Try.prog.cellsOf 3 = 1 := by kernel_rfl
    have ks : Try.prog.cellsOf 9 = 1 := by kernel_rfl
    have e0 := hf 0 _ rfl
    have e1 := hf 1 _ rfl
    simp [ki, ks, cells_type] at e0 e1
    clear hf hxl hcf
    obtain ⟨v0, hv0, hy0, _⟩ := DataW.trod_string Try.underlying9 e0
    obtain ⟨v1, hv1, _, _, hw1⟩ := open_type _ _ _ e1
    simp only [List.cons.injEq, and_true] at hv0
    subst hv0
    subst hy0
    refine ⟨⟨v0, v1⟩, ⟨_, rfl, hv1⟩, fun B hB => ?_⟩
    rw [agg_w Try.underlying40] at hB
    have w0 : ∀ k ∈ _, k ≤ B := fun k hk => hB k (DataW.weights_mem_each (j := 0) (t := 9) rfl rfl k hk)
    have w1 : ∀ k ∈ _, k ≤ B := fun k hk => hB k (DataW.weights_mem_each (j := 1) (t := 26) rfl rfl k hk)
    exact ⟨str_w v0 _ B w0, hw1 B w1⟩
set_option maxRecDepth 100000 in
set_option maxHeartbeats 1000000 in
theorem open_dl (n : Nat) (cs : List Value) (x : DataW H × List MemPlace) (h : DataW.trod enc Try.prog w base spare held n 57 cs = some x) : ∃ a : Dl, RDl w (fun k => base ≤ k) a cs ∧ ∀ B, (∀ k ∈ x.1.weights Try.prog 57, k ≤ B) → a.ok B := by
  obtain ⟨xs, m, hm, rfl, hcl, hxl, hf⟩ := DataW.trod_struct Try.underlying57 h
  have hcf : Try.prog.cellsOf 57 = 10 := by kernel_rfl
  rw [hcf] at hcl
  subst hm
  match cs, hcl with
  | [c0, c1, c2, c3, c4, c5, c6, c7, c8, c9], _ =>
  match xs, (show xs.length = 6 from hxl) with
  | [y0, y1, y2, y3, y4, y5], _ =>
    have ki : Try.prog.cellsOf 3 = 1 := by kernel_rfl
    have ks : Try.prog.cellsOf 9 = 1 := by kernel_rfl
    have kk3 : Try.prog.cellsOf 2 = 1 := by kernel_rfl
    have kk5 : Try.prog.cellsOf 23 = 1 := by kernel_rfl
    have e0 := hf 0 _ rfl
    have e1 := hf 1 _ rfl
    have e2 := hf 2 _ rfl
    have e3 := hf 3 _ rfl
    have e4 := hf 4 _ rfl
    have e5 := hf 5 _ rfl
    simp [ki, ks, cells_type, kk3, kk5] at e0 e1 e2 e3 e4 e5
    clear hf hxl hcf
    cases m with
    | zero => simp [DataW.trod] at e5
    | succ m =>
        obtain ⟨v0, hv0, hy0, _⟩ := DataW.trod_int Try.underlying3 e0
        obtain ⟨v1, hv1, hy1, _⟩ := DataW.trod_string Try.underlying9 e1
        obtain ⟨v2, hv2, hy2, _⟩ := DataW.trod_string Try.underlying9 e2
        obtain ⟨v3, hv3, hy3, _⟩ := DataW.trod_int Try.underlying2 e3
        obtain ⟨v4, hv4, _, _, hw4⟩ := open_type _ _ _ e4
        obtain ⟨A5, v5, d5, hv5, hs5, hw5⟩ := open_sl RFi 6 (by omega) RFi_sized 40 23 Try.underlying23 (by kernel_rfl) (of_decide_eq_true (by kernel_rfl)) Fi.ok m (fun cs x hx => open_fi m cs x hx) e5
        simp only [List.cons.injEq, and_true] at hv0 hv1 hv2 hv3 hv5
        subst hv0 hv1 hv2 hv3 hv5
        subst hy0 hy1 hy2 hy3
        refine ⟨⟨v0, v1, v2, v3, v4, v5⟩, ⟨_, A5, d5, rfl, hv4, hs5⟩, fun B hB => ?_⟩
        rw [agg_w Try.underlying57] at hB
        have w0 : ∀ k ∈ _, k ≤ B := fun k hk => hB k (DataW.weights_mem_each (j := 0) (t := 3) rfl rfl k hk)
        have w1 : ∀ k ∈ _, k ≤ B := fun k hk => hB k (DataW.weights_mem_each (j := 1) (t := 9) rfl rfl k hk)
        have w2 : ∀ k ∈ _, k ≤ B := fun k hk => hB k (DataW.weights_mem_each (j := 2) (t := 9) rfl rfl k hk)
        have w3 : ∀ k ∈ _, k ≤ B := fun k hk => hB k (DataW.weights_mem_each (j := 3) (t := 2) rfl rfl k hk)
        have w4 : ∀ k ∈ _, k ≤ B := fun k hk => hB k (DataW.weights_mem_each (j := 4) (t := 26) rfl rfl k hk)
        have w5 : ∀ k ∈ _, k ≤ B := fun k hk => hB k (DataW.weights_mem_each (j := 5) (t := 23) rfl rfl k hk)
        exact ⟨str_w v1 _ B w1, str_w v2 _ B w2, hw4 B w4, (hw5 B w5).1, (hw5 B w5).2⟩
set_option maxRecDepth 100000 in
set_option maxHeartbeats 1000000 in
theorem open_ex : ∀ (n : Nat) (cs : List Value) (x : DataW H × List MemPlace), DataW.trod enc Try.prog w base spare held n 106 cs = some x → ∃ a : Ex, RE w (fun k => base ≤ k) a cs ∧ ∀ B, (∀ k ∈ x.1.weights Try.prog 106, k ≤ B) → a.ok B := by
  intro n
  induction n using Nat.strongRecOn with
  | _ n ih =>
  intro cs x h
  obtain ⟨xs, m, hm, rfl, hcl, hxl, hf⟩ := DataW.trod_struct Try.underlying106 h
  have hcf : Try.prog.cellsOf 106 = 4 := by kernel_rfl
  rw [hcf] at hcl
  subst hm
  match cs, hcl with
  | [c0, c1, c2, c3], _ =>
  match xs, (show xs.length = 4 from hxl) with
  | [y0, y1, y2, y3], _ =>
    have ki : Try.prog.cellsOf 3 = 1 := by kernel_rfl
    have ks : Try.prog.cellsOf 9 = 1 := by kernel_rfl
    have kk1 : Try.prog.cellsOf 2 = 1 := by kernel_rfl
    have kk3 : Try.prog.cellsOf 91 = 1 := by kernel_rfl
    have e0 := hf 0 _ rfl
    have e1 := hf 1 _ rfl
    have e2 := hf 2 _ rfl
    have e3 := hf 3 _ rfl
    simp [ki, ks, cells_type, kk1, kk3] at e0 e1 e2 e3
    clear hf hxl hcf
    cases m with
    | zero => simp [DataW.trod] at e3
    | succ m =>
        obtain ⟨v0, hv0, hy0, _⟩ := DataW.trod_int Try.underlying3 e0
        obtain ⟨v1, hv1, hy1, _⟩ := DataW.trod_int Try.underlying2 e1
        obtain ⟨v2, hv2, hy2, _⟩ := DataW.trod_string Try.underlying9 e2
        obtain ⟨A3, v3, d3, hv3, hs3, hw3⟩ := open_sl RE 4 (by omega) RE_sized 106 91 Try.underlying91 (by kernel_rfl) (of_decide_eq_true (by kernel_rfl)) Ex.ok m (fun cs x hx => ih m (by omega) cs x hx) e3
        simp only [List.cons.injEq, and_true] at hv0 hv1 hv2 hv3
        subst hv0 hv1 hv2 hv3
        subst hy0 hy1 hy2
        refine ⟨.mk v0 v1 v2 v3, RE.mk_ hs3, fun B hB => ?_⟩
        rw [agg_w Try.underlying106] at hB
        have w0 : ∀ k ∈ _, k ≤ B := fun k hk => hB k (DataW.weights_mem_each (j := 0) (t := 3) rfl rfl k hk)
        have w1 : ∀ k ∈ _, k ≤ B := fun k hk => hB k (DataW.weights_mem_each (j := 1) (t := 2) rfl rfl k hk)
        have w2 : ∀ k ∈ _, k ≤ B := fun k hk => hB k (DataW.weights_mem_each (j := 2) (t := 9) rfl rfl k hk)
        have w3 : ∀ k ∈ _, k ≤ B := fun k hk => hB k (DataW.weights_mem_each (j := 3) (t := 91) rfl rfl k hk)
        exact (by simp only [Ex.ok]; exact ⟨str_w v2 _ B w2, (hw3 B w3).1, (okEs_iff _).2 (hw3 B w3).2⟩)
set_option maxRecDepth 100000 in
set_option maxHeartbeats 1000000 in
theorem open_st : ∀ (n : Nat) (cs : List Value) (x : DataW H × List MemPlace), DataW.trod enc Try.prog w base spare held n 93 cs = some x → ∃ a : St, RS w (fun k => base ≤ k) a cs ∧ ∀ B, (∀ k ∈ x.1.weights Try.prog 93, k ≤ B) → a.ok B := by
  intro n
  induction n using Nat.strongRecOn with
  | _ n ih =>
  intro cs x h
  obtain ⟨xs, m, hm, rfl, hcl, hxl, hf⟩ := DataW.trod_struct Try.underlying93 h
  have hcf : Try.prog.cellsOf 93 = 5 := by kernel_rfl
  rw [hcf] at hcl
  subst hm
  match cs, hcl with
  | [c0, c1, c2, c3, c4], _ =>
  match xs, (show xs.length = 5 from hxl) with
  | [y0, y1, y2, y3, y4], _ =>
    have ki : Try.prog.cellsOf 3 = 1 := by kernel_rfl
    have ks : Try.prog.cellsOf 9 = 1 := by kernel_rfl
    have kk1 : Try.prog.cellsOf 2 = 1 := by kernel_rfl
    have kk2 : Try.prog.cellsOf 91 = 1 := by kernel_rfl
    have kk3 : Try.prog.cellsOf 66 = 1 := by kernel_rfl
    have kk4 : Try.prog.cellsOf 66 = 1 := by kernel_rfl
    have e0 := hf 0 _ rfl
    have e1 := hf 1 _ rfl
    have e2 := hf 2 _ rfl
    have e3 := hf 3 _ rfl
    have e4 := hf 4 _ rfl
    simp [ki, ks, cells_type, kk1, kk2, kk3, kk4] at e0 e1 e2 e3 e4
    clear hf hxl hcf
    cases m with
    | zero => simp [DataW.trod] at e2
    | succ m =>
        obtain ⟨v0, hv0, hy0, _⟩ := DataW.trod_int Try.underlying3 e0
        obtain ⟨v1, hv1, hy1, _⟩ := DataW.trod_int Try.underlying2 e1
        obtain ⟨A2, v2, d2, hv2, hs2, hw2⟩ := open_sl RE 4 (by omega) RE_sized 106 91 Try.underlying91 (by kernel_rfl) (of_decide_eq_true (by kernel_rfl)) Ex.ok m (fun cs x hx => open_ex m cs x hx) e2
        obtain ⟨A3, v3, d3, hv3, hs3, hw3⟩ := open_sl RS 5 (by omega) RS_sized 93 66 Try.underlying66 (by kernel_rfl) (of_decide_eq_true (by kernel_rfl)) St.ok m (fun cs x hx => ih m (by omega) cs x hx) e3
        obtain ⟨A4, v4, d4, hv4, hs4, hw4⟩ := open_sl RS 5 (by omega) RS_sized 93 66 Try.underlying66 (by kernel_rfl) (of_decide_eq_true (by kernel_rfl)) St.ok m (fun cs x hx => ih m (by omega) cs x hx) e4
        simp only [List.cons.injEq, and_true] at hv0 hv1 hv2 hv3 hv4
        subst hv0 hv1 hv2 hv3 hv4
        subst hy0 hy1
        refine ⟨.mk v0 v1 v2 v3 v4, RS.mk_ hs2 hs3 hs4, fun B hB => ?_⟩
        rw [agg_w Try.underlying93] at hB
        have w0 : ∀ k ∈ _, k ≤ B := fun k hk => hB k (DataW.weights_mem_each (j := 0) (t := 3) rfl rfl k hk)
        have w1 : ∀ k ∈ _, k ≤ B := fun k hk => hB k (DataW.weights_mem_each (j := 1) (t := 2) rfl rfl k hk)
        have w2 : ∀ k ∈ _, k ≤ B := fun k hk => hB k (DataW.weights_mem_each (j := 2) (t := 91) rfl rfl k hk)
        have w3 : ∀ k ∈ _, k ≤ B := fun k hk => hB k (DataW.weights_mem_each (j := 3) (t := 66) rfl rfl k hk)
        have w4 : ∀ k ∈ _, k ≤ B := fun k hk => hB k (DataW.weights_mem_each (j := 4) (t := 66) rfl rfl k hk)
        exact (by simp only [St.ok]; exact ⟨⟨(hw2 B w2).1, (okEs_iff _).2 (hw2 B w2).2⟩, ⟨(hw3 B w3).1, (okSs_iff _).2 (hw3 B w3).2⟩, ⟨(hw4 B w4).1, (okSs_iff _).2 (hw4 B w4).2⟩⟩)
set_option maxRecDepth 100000 in
set_option maxHeartbeats 1000000 in
theorem open_fn (n : Nat) (cs : List Value) (x : DataW H × List MemPlace) (h : DataW.trod enc Try.prog w base spare held n 68 cs = some x) : ∃ a : Fn8, RFn w (fun k => base ≤ k) a cs ∧ ∀ B, (∀ k ∈ x.1.weights Try.prog 68, k ≤ B) → a.ok B := by
  obtain ⟨xs, m, hm, rfl, hcl, hxl, hf⟩ := DataW.trod_struct Try.underlying68 h
  have hcf : Try.prog.cellsOf 68 = 5 := by kernel_rfl
  rw [hcf] at hcl
  subst hm
  match cs, hcl with
  | [c0, c1, c2, c3, c4], _ =>
  match xs, (show xs.length = 5 from hxl) with
  | [y0, y1, y2, y3, y4], _ =>
    have ki : Try.prog.cellsOf 3 = 1 := by kernel_rfl
    have ks : Try.prog.cellsOf 9 = 1 := by kernel_rfl
    have kk1 : Try.prog.cellsOf 4 = 1 := by kernel_rfl
    have kk4 : Try.prog.cellsOf 66 = 1 := by kernel_rfl
    have e0 := hf 0 _ rfl
    have e1 := hf 1 _ rfl
    have e2 := hf 2 _ rfl
    have e3 := hf 3 _ rfl
    have e4 := hf 4 _ rfl
    simp [ki, ks, cells_type, kk1, kk4] at e0 e1 e2 e3 e4
    clear hf hxl hcf
    cases m with
    | zero => simp [DataW.trod] at e4
    | succ m =>
        obtain ⟨v0, hv0, hy0, _⟩ := DataW.trod_string Try.underlying9 e0
        obtain ⟨v1, hv1, hy1⟩ := DataW.trod_bool Try.underlying4 e1
        obtain ⟨v2, hv2, hy2, _⟩ := DataW.trod_int Try.underlying3 e2
        obtain ⟨v3, hv3, hy3, _⟩ := DataW.trod_int Try.underlying3 e3
        obtain ⟨A4, v4, d4, hv4, hs4, hw4⟩ := open_sl RS 5 (by omega) RS_sized 93 66 Try.underlying66 (by kernel_rfl) (of_decide_eq_true (by kernel_rfl)) St.ok m (fun cs x hx => open_st m cs x hx) e4
        simp only [List.cons.injEq, and_true] at hv0 hv1 hv2 hv3 hv4
        subst hv0 hv1 hv2 hv3 hv4
        subst hy0 hy1 hy2 hy3
        refine ⟨⟨v0, v1, v2, v3, v4⟩, ⟨A4, d4, rfl, hs4⟩, fun B hB => ?_⟩
        rw [agg_w Try.underlying68] at hB
        have w0 : ∀ k ∈ _, k ≤ B := fun k hk => hB k (DataW.weights_mem_each (j := 0) (t := 9) rfl rfl k hk)
        have w1 : ∀ k ∈ _, k ≤ B := fun k hk => hB k (DataW.weights_mem_each (j := 1) (t := 4) rfl rfl k hk)
        have w2 : ∀ k ∈ _, k ≤ B := fun k hk => hB k (DataW.weights_mem_each (j := 2) (t := 3) rfl rfl k hk)
        have w3 : ∀ k ∈ _, k ≤ B := fun k hk => hB k (DataW.weights_mem_each (j := 3) (t := 3) rfl rfl k hk)
        have w4 : ∀ k ∈ _, k ≤ B := fun k hk => hB k (DataW.weights_mem_each (j := 4) (t := 66) rfl rfl k hk)
        exact ⟨str_w v0 _ B w0, (hw4 B w4).1, (hw4 B w4).2⟩
set_option maxRecDepth 100000 in
set_option maxHeartbeats 1000000 in
theorem open_un (n : Nat) (cs : List Value) (x : DataW H × List MemPlace) (h : DataW.trod enc Try.prog w base spare held n 47 cs = some x) : ∃ a : Un, RUn w (fun k => base ≤ k) a cs ∧ ∀ B, (∀ k ∈ x.1.weights Try.prog 47, k ≤ B) → a.ok B := by
  obtain ⟨xs, m, hm, rfl, hcl, hxl, hf⟩ := DataW.trod_struct Try.underlying47 h
  have hcf : Try.prog.cellsOf 47 = 4 := by kernel_rfl
  rw [hcf] at hcl
  subst hm
  match cs, hcl with
  | [c0, c1, c2, c3], _ =>
  match xs, (show xs.length = 4 from hxl) with
  | [y0, y1, y2, y3], _ =>
    have ki : Try.prog.cellsOf 3 = 1 := by kernel_rfl
    have ks : Try.prog.cellsOf 9 = 1 := by kernel_rfl
    have kk1 : Try.prog.cellsOf 43 = 1 := by kernel_rfl
    have kk2 : Try.prog.cellsOf 44 = 1 := by kernel_rfl
    have kk3 : Try.prog.cellsOf 45 = 1 := by kernel_rfl
    have e0 := hf 0 _ rfl
    have e1 := hf 1 _ rfl
    have e2 := hf 2 _ rfl
    have e3 := hf 3 _ rfl
    simp [ki, ks, cells_type, kk1, kk2, kk3] at e0 e1 e2 e3
    clear hf hxl hcf
    cases m with
    | zero => simp [DataW.trod] at e1
    | succ m =>
        obtain ⟨v0, hv0, hy0, _⟩ := DataW.trod_string Try.underlying9 e0
        obtain ⟨A1, v1, d1, hv1, hs1, hw1⟩ := open_sl RIm 2 (by omega) RIm_sized 132 43 Try.underlying43 (by kernel_rfl) (of_decide_eq_true (by kernel_rfl)) Im.ok m (fun cs x hx => open_im m cs x hx) e1
        obtain ⟨A2, v2, d2, hv2, hs2, hw2⟩ := open_sl RDl 10 (by omega) RDl_sized 57 44 Try.underlying44 (by kernel_rfl) (of_decide_eq_true (by kernel_rfl)) Dl.ok m (fun cs x hx => open_dl m cs x hx) e2
        obtain ⟨A3, v3, d3, hv3, hs3, hw3⟩ := open_sl RFn 5 (by omega) RFn_sized 68 45 Try.underlying45 (by kernel_rfl) (of_decide_eq_true (by kernel_rfl)) Fn8.ok m (fun cs x hx => open_fn m cs x hx) e3
        simp only [List.cons.injEq, and_true] at hv0 hv1 hv2 hv3
        subst hv0 hv1 hv2 hv3
        subst hy0
        refine ⟨⟨v0, v1, v2, v3⟩, ⟨A1, d1, A2, d2, A3, d3, rfl, hs1, hs2, hs3⟩, fun B hB => ?_⟩
        rw [agg_w Try.underlying47] at hB
        have w0 : ∀ k ∈ _, k ≤ B := fun k hk => hB k (DataW.weights_mem_each (j := 0) (t := 9) rfl rfl k hk)
        have w1 : ∀ k ∈ _, k ≤ B := fun k hk => hB k (DataW.weights_mem_each (j := 1) (t := 43) rfl rfl k hk)
        have w2 : ∀ k ∈ _, k ≤ B := fun k hk => hB k (DataW.weights_mem_each (j := 2) (t := 44) rfl rfl k hk)
        have w3 : ∀ k ∈ _, k ≤ B := fun k hk => hB k (DataW.weights_mem_each (j := 3) (t := 45) rfl rfl k hk)
        exact ⟨str_w v0 _ B w0, hw1 B w1, hw2 B w2, hw3 B w3⟩
end
end Go.Proofs.Ytcfgjfahjaimiaa
