/-
  The document's Infer, plainly: a pair of types is walked to its end; the same comes out.
-/
import Derived.Test.YtkgilhdoahkakaaTyZc
namespace Go.Proofs.Ytkgilhdoahkakaa
open Go.RowKit
set_option linter.unusedVariables false
set_option linter.unusedSimpArgs false

/-- What is found, and where something is. -/
abbrev WSt := List Ty × List Bool
def stepW (l : List ByteArray) (st : WSt) (s : ByteArray) (a : Ty) : WSt :=
  match place l s with
  | none => st
  | some i => match st.2[i]? with
    | some false => (st.1.set i a, st.2.set i true)
    | _ => st
mutual
def walkT (l : List ByteArray) : Ty → Ty → WSt → WSt
  | .mk k p n la lr, .mk k' p' n' la' lr', st =>
    if k = 9 then stepW l st n (.mk k' p' n' la' lr')
    else if k = k' ∧ (k = 6 ∨ k = 7) then walkL l lr lr' (walkL l la la' st)
    else st
def walkL (l : List ByteArray) : List Ty → List Ty → WSt → WSt
  | a :: r, b :: s, st => walkL l r s (walkT l a b st)
  | [], _, st => st
  | _ :: _, [], st => st
end
theorem walkT_mk (l : List ByteArray) (k k' : Int) (p p' n n' : ByteArray) (la la' lr lr' : List Ty) (st : WSt) : walkT l (.mk k p n la lr) (.mk k' p' n' la' lr') st = if k = 9 then stepW l st n (.mk k' p' n' la' lr') else if k = k' ∧ (k = 6 ∨ k = 7) then walkL l lr lr' (walkL l la la' st) else st := by simp only [walkT]
theorem walkL_cons (l : List ByteArray) (a b : Ty) (r s : List Ty) (st : WSt) : walkL l (a :: r) (b :: s) st = walkL l r s (walkT l a b st) := by simp only [walkL]
theorem walkL_nil (l : List ByteArray) (s : List Ty) (st : WSt) : walkL l [] s st = st := by simp only [walkL]
theorem walkL_nil2 (l : List ByteArray) (r : List Ty) (st : WSt) : walkL l r [] st = st := by cases r <;> simp only [walkL]
theorem walkL_drop {l : List ByteArray} {la lb : List Ty} {st : WSt} {j : Nat} {u v : Ty} (h1 : la[j]? = some u) (h2 : lb[j]? = some v) : walkL l (la.drop j) (lb.drop j) st = walkL l (la.drop (j + 1)) (lb.drop (j + 1)) (walkT l u v st) := by
  obtain ⟨a1, a2⟩ := List.getElem?_eq_some_iff.1 h1
  obtain ⟨b1, b2⟩ := List.getElem?_eq_some_iff.1 h2
  rw [List.drop_eq_getElem_cons a1, List.drop_eq_getElem_cons b1, a2, b2, walkL_cons]
theorem walkL_end {l : List ByteArray} {la lb : List Ty} {st : WSt} {j : Nat} (h : min la.length lb.length ≤ j) : walkL l (la.drop j) (lb.drop j) st = st := by
  by_cases hl : la.length ≤ j
  · rw [List.drop_of_length_le hl, walkL_nil]
  · rw [List.drop_of_length_le (l := lb) (by omega), walkL_nil2]
theorem stepW_len (l : List ByteArray) (st : WSt) (s : ByteArray) (a : Ty) : (stepW l st s a).1.length = st.1.length ∧ (stepW l st s a).2.length = st.2.length := by
  unfold stepW
  cases place l s with
  | none => exact ⟨rfl, rfl⟩
  | some i =>
    cases h : st.2[i]? with
    | none => simp [h]
    | some b => cases b <;> simp [h]
mutual
theorem walkT_len (l : List ByteArray) : ∀ (a b : Ty) (st : WSt), (walkT l a b st).1.length = st.1.length ∧ (walkT l a b st).2.length = st.2.length
  | .mk k p n la lr, .mk k' p' n' la' lr', st => by
    rw [walkT_mk]
    by_cases h : k = 9
    · rw [if_pos h]; exact stepW_len _ _ _ _
    · rw [if_neg h]
      by_cases h2 : k = k' ∧ (k = 6 ∨ k = 7)
      · rw [if_pos h2]
        have h3 := walkL_len l la la' st
        have h4 := walkL_len l lr lr' (walkL l la la' st)
        exact ⟨h4.1.trans h3.1, h4.2.trans h3.2⟩
      · rw [if_neg h2]; exact ⟨rfl, rfl⟩
theorem walkL_len (l : List ByteArray) : ∀ (a b : List Ty) (st : WSt), (walkL l a b st).1.length = st.1.length ∧ (walkL l a b st).2.length = st.2.length
  | a :: r, b :: s, st => by
    rw [walkL_cons]
    have h3 := walkT_len l a b st
    have h4 := walkL_len l r s (walkT l a b st)
    exact ⟨h4.1.trans h3.1, h4.2.trans h3.2⟩
  | [], s, st => by rw [walkL_nil]; exact ⟨rfl, rfl⟩
  | _ :: _, [], st => by rw [walkL_nil2]; exact ⟨rfl, rfl⟩
end
theorem place_get {l : List ByteArray} {s : ByteArray} {i : Nat} (h : place l s = some i) : l[i]? = some s := by
  induction l generalizing i with
  | nil => simp [place] at h
  | cons a r ih =>
    simp only [place] at h
    by_cases e : a = s
    · rw [if_pos e] at h
      injection h with h
      subst h; subst e
      rfl
    · rw [if_neg e] at h
      cases hr : place r s with
      | none => rw [hr] at h; cases h
      | some k =>
        rw [hr] at h
        simp at h
        subst h
        simpa using ih hr
/-- A name came to what it must not be. -/
def BadW (l : List ByteArray) (st : WSt) : Prop := ∃ (s : ByteArray) (i : Nat) (u : Ty), place l s = some i ∧ st.2[i]? = some true ∧ st.1[i]? = some u ∧ (u.kind = 0 ∨ u.kind = 4)
theorem stepW_bad {l : List ByteArray} {st : WSt} (h : BadW l st) (s : ByteArray) (a : Ty) : BadW l (stepW l st s a) := by
  obtain ⟨s', i, u, h1, h2, h3, h4⟩ := h
  unfold stepW
  cases hp : place l s with
  | none => exact ⟨s', i, u, h1, h2, h3, h4⟩
  | some j =>
    cases hj : st.2[j]? with
    | none => simp only [hj]; exact ⟨s', i, u, h1, h2, h3, h4⟩
    | some b =>
      cases b with
      | true => simp only [hj]; exact ⟨s', i, u, h1, h2, h3, h4⟩
      | false =>
        simp only [hj]
        have hne : j ≠ i := by rintro rfl; rw [hj] at h2; cases h2
        refine ⟨s', i, u, h1, ?_, ?_, h4⟩
        · show (st.2.set j true)[i]? = some true
          rw [List.getElem?_set_ne hne]; exact h2
        · show (st.1.set j a)[i]? = some u
          rw [List.getElem?_set_ne hne]; exact h3
mutual
theorem walkT_bad {l : List ByteArray} : ∀ (a b : Ty) (st : WSt), BadW l st → BadW l (walkT l a b st)
  | .mk k p n la lr, .mk k' p' n' la' lr', st, h => by
    rw [walkT_mk]
    split
    · exact stepW_bad h _ _
    · split
      · exact walkL_bad lr lr' _ (walkL_bad la la' st h)
      · exact h
theorem walkL_bad {l : List ByteArray} : ∀ (a b : List Ty) (st : WSt), BadW l st → BadW l (walkL l a b st)
  | a :: r, b :: s, st, h => by rw [walkL_cons]; exact walkL_bad r s _ (walkT_bad a b st h)
  | [], s, st, h => by rw [walkL_nil]; exact h
  | _ :: _, [], st, h => by rw [walkL_nil2]; exact h
end
/-- Both have found the same as yet. -/
def AlikeW (fd : List Ty) (st : WSt) : Prop := st.1 = fd ∧ st.2.length = fd.length ∧ ∀ (i : Nat) (u : Ty), fd[i]? = some u → (st.2[i]? = some true ↔ u.kind ≠ 0) ∧ u.kind ≠ 4
theorem AlikeW.no {fd : List Ty} {st : WSt} (h : AlikeW fd st) {i : Nat} {u : Ty} (hu : fd[i]? = some u) : (st.2[i]? = some false ↔ u.kind = 0) := by
  obtain ⟨h1, h2, h3⟩ := h
  have hi := (List.getElem?_eq_some_iff.1 hu).1
  have hb := List.getElem?_eq_getElem (l := st.2) (show i < st.2.length by omega)
  have := (h3 i u hu).1
  rw [hb] at this ⊢
  cases hv : st.2[i] with
  | true =>
    rw [hv] at this
    simp at this ⊢
    exact this
  | false =>
    rw [hv] at this
    simp at this ⊢
    exact this
/-- What comes of a pair in both. -/
def PairW (l : List ByteArray) (r : Bool × List Ty) (st : WSt) : Prop := (r.1 = true → AlikeW r.2 st) ∧ (r.1 = false → BadW l st)
theorem stepW_pair {l : List ByteArray} {fd : List Ty} {st : WSt} (h : AlikeW fd st) (hl : fd.length = l.length) (s : ByteArray) (a : Ty) : PairW l (takeP l fd s a) (stepW l st s a) := by
  unfold takeP stepW
  cases hp : place l s with
  | none => exact ⟨fun _ => h, fun h => by cases h⟩
  | some i =>
    have hil := place_lt hp
    have hu : fd[i]? = some fd[i] := List.getElem?_eq_getElem (by omega)
    have hno := h.no hu
    obtain ⟨h1, h2, h3⟩ := h
    simp only [hu]
    by_cases hk : fd[i].kind = 0
    · have hf := hno.2 hk
      simp only [hk, if_true, hf]
      have hilen : i < st.1.length := by rw [h1]; omega
      have hi2 : i < st.2.length := by omega
      constructor
      · intro ha
        simp at ha
        refine ⟨by rw [h1], by simp [h2], fun j u hj => ?_⟩
        by_cases e : i = j
        · subst e
          rw [List.getElem?_set_self (by omega)] at hj ⊢
          injection hj with hj
          subst hj
          exact ⟨⟨fun _ => ha.2, fun _ => rfl⟩, ha.1⟩
        · rw [List.getElem?_set_ne e] at hj ⊢
          exact h3 j u hj
      · intro ha
        refine ⟨s, i, a, hp, by show (st.2.set i true)[i]? = _; rw [List.getElem?_set_self hi2], by show (st.1.set i a)[i]? = _; rw [List.getElem?_set_self hilen], ?_⟩
        simp at ha
        by_cases h4 : a.kind = 4
        · exact Or.inr h4
        · exact Or.inl (ha h4)
    · have ht := (h3 i _ hu).1.2 hk
      simp only [hk, if_false, ht]
      exact ⟨fun _ => ⟨h1, h2, h3⟩, fun h => by cases h⟩
theorem thenW {l : List ByteArray} {r : Bool × List Ty} {st : WSt} {f : List Ty → Bool × List Ty} {g : WSt → WSt} (h : PairW l r st) (hf : ∀ fd st, r.1 = true → fd = r.2 → AlikeW fd st → PairW l (f fd) (g st)) (hb : ∀ st, BadW l st → BadW l (g st)) : PairW l (thenP r f) (g st) := by
  unfold thenP
  cases hr : r.1 with
  | true =>
    simp only [if_true]
    exact hf _ _ hr rfl (h.1 hr)
  | false =>
    refine ⟨fun e => ?_, fun _ => hb _ (h.2 hr)⟩
    simp [hr] at e
mutual
theorem walkT_pair {l : List ByteArray} : ∀ (a b : Ty) (fd : List Ty) (st : WSt), fd.length = l.length → AlikeW fd st → PairW l (pairT l a b fd) (walkT l a b st)
  | .mk k p n la lr, .mk k' p' n' la' lr', fd, st, hl, h => by
    rw [pairT_mk, walkT_mk]
    by_cases h9 : k = 9
    · rw [if_pos h9, if_pos h9]; exact stepW_pair h hl _ _
    · rw [if_neg h9, if_neg h9]
      by_cases h2 : k = k' ∧ (k = 6 ∨ k = 7)
      · rw [if_pos h2, if_pos h2]
        exact thenW (walkL_pair la la' fd st hl h) (fun fd' st' _ e h' => walkL_pair lr lr' fd' st' (by rw [e, pairL_len, hl]) h') (fun st' hb => walkL_bad lr lr' st' hb)
      · rw [if_neg h2, if_neg h2]
        exact ⟨fun _ => h, fun h => by cases h⟩
theorem walkL_pair {l : List ByteArray} : ∀ (a b : List Ty) (fd : List Ty) (st : WSt), fd.length = l.length → AlikeW fd st → PairW l (pairL l a b fd) (walkL l a b st)
  | a :: r, b :: s, fd, st, hl, h => by
    rw [pairL_cons, walkL_cons]
    exact thenW (walkT_pair a b fd st hl h) (fun fd' st' _ e h' => walkL_pair r s fd' st' (by rw [e, pairT_len, hl]) h') (fun st' hb => walkL_bad r s st' hb)
  | [], s, fd, st, hl, h => by rw [pairL_nil, walkL_nil]; exact ⟨fun _ => h, fun h => by cases h⟩
  | _ :: _, [], fd, st, hl, h => by rw [pairL_nil2, walkL_nil2]; exact ⟨fun _ => h, fun h => by cases h⟩
end
/-- Has a name nothing, or what it must not have? -/
def badR (l : List ByteArray) (st : WSt) (s : ByteArray) : Bool := !((st.2[(place l s).getD 0]?).getD false) || ((foundOf l st.1 s).kind == 4 || (foundOf l st.1 s).kind == 0)
def inferR (l : List ByteArray) (st : WSt) : Option (List Ty) := if (l.any (badR l st)) = true then none else some (l.map (foundOf l st.1))
def zeroW (n : Nat) : WSt := (List.replicate n tyZ, List.replicate n false)
theorem zero_alike (n : Nat) : AlikeW (List.replicate n tyZ) (zeroW n) := by
  refine ⟨rfl, by simp [zeroW], fun i u hu => ?_⟩
  have hi : i < n := by simpa using (List.getElem?_eq_some_iff.1 hu).1
  have hu2 : u = tyZ := List.eq_of_mem_replicate (List.mem_of_getElem? hu)
  subst hu2
  have : (List.replicate n false)[i]? = some false := by rw [List.getElem?_replicate]; simp [hi]
  simp [zeroW, this, tyZ, Ty.kind]
theorem any_congr {α : Type} {l : List α} {p q : α → Bool} (h : ∀ x ∈ l, p x = q x) : l.any p = l.any q := by
  induction l with
  | nil => rfl
  | cons a r ih => rw [List.any_cons, List.any_cons, h a (by simp), ih (fun x hx => h x (List.mem_cons_of_mem _ hx))]
theorem infer_eq (l : List ByteArray) (ps ss : List Ty) : inferR l (walkL l ps ss (zeroW l.length)) = inferT l ps ss := by
  have h := walkL_pair (l := l) ps ss (List.replicate l.length tyZ) (zeroW l.length) (by simp) (zero_alike _)
  have hlen := pairL_len l ps ss (List.replicate l.length tyZ)
  unfold inferT inferR
  generalize walkL l ps ss (zeroW l.length) = st at h
  generalize pairL l ps ss (List.replicate l.length tyZ) = r at h hlen
  obtain ⟨b, fd⟩ := r
  rw [List.length_replicate] at hlen
  cases b with
  | true =>
    obtain ⟨h1, h2, h3⟩ := h.1 rfl
    simp only [if_true]
    have e : l.any (badR l st) = l.any fun s => (foundOf l fd s).kind == 0 := by
      refine any_congr fun s hs => ?_
      obtain ⟨i, hi⟩ := place_some hs
      have hil := place_lt hi
      have hfl : fd.length = l.length := hlen
      have hu : fd[i]? = some fd[i] := List.getElem?_eq_getElem (by omega)
      have h4 := h3 i _ hu
      have hno := (show AlikeW fd st from ⟨h1, h2, h3⟩).no hu
      unfold badR
      rw [h1, foundOf_eq hi hu, hi, Option.getD_some]
      by_cases hk : fd[i].kind = 0
      · rw [hno.2 hk, hk]; rfl
      · rw [h4.1.2 hk]
        simp [hk, h4.2]
    rw [e, h1]
  | false =>
    obtain ⟨s, i, u, h1, h2, h3, h4⟩ := h.2 rfl
    have e : l.any (badR l st) = true := by
      refine List.any_eq_true.2 ⟨s, List.mem_of_getElem? (place_get h1), ?_⟩
      unfold badR
      rw [foundOf_eq h1 h3]
      rcases h4 with h4 | h4 <;> simp [h4]
    rw [if_pos e, if_neg (by simp)]
end Go.Proofs.Ytkgilhdoahkakaa
