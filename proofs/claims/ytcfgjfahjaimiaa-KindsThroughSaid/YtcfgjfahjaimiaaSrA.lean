/-
  A stable sort by merging in place, plainly: what its parts make of a list, and that there is only one such list.
-/
import Derived.Test.YtcfgjfahjaimiaaMem
import Derived.Test.YtcfgjfahjaimiaaUj
import Derived.Test.YtcfgjfahjaimiaaShelf
import Derived.Lib.Bytealg
import GoSem.Op.String
namespace Go.Proofs.Ytcfgjfahjaimiaa
namespace Srt
set_option linter.unusedVariables false
set_option linter.unusedSimpArgs false

variable {α β : Type} {lt : α → α → Bool}

structure Weak (lt : α → α → Bool) : Prop where
  irr : ∀ a, lt a a = false
  trans : ∀ a b c, lt a b = true → lt b c = true → lt a c = true
  neg : ∀ a b c, lt a b = false → lt b c = false → lt a c = false

theorem Weak.asymm (h : Weak lt) {a b : α} (h1 : lt a b = true) : lt b a = false := by
  cases h2 : lt b a with
  | false => rfl
  | true => have := h.trans _ _ _ h1 h2; rw [h.irr] at this; cases this

/-- less, or of one rank and ahead -/
def L (lt : α → α → Bool) (x y : Nat × α) : Prop := lt x.2 y.2 = true ∨ (lt y.2 x.2 = false ∧ x.1 < y.1)

theorem L.trans (h : Weak lt) {x y z : Nat × α} (h1 : L lt x y) (h2 : L lt y z) : L lt x z := by
  unfold L at *
  rcases h1 with h1 | ⟨h1, t1⟩ <;> rcases h2 with h2 | ⟨h2, t2⟩
  · exact .inl (h.trans _ _ _ h1 h2)
  · left
    cases hx : lt x.2 z.2 with
    | true => rfl
    | false => have := h.neg _ _ _ hx h2; rw [h1] at this; cases this
  · left
    cases hx : lt x.2 z.2 with
    | true => rfl
    | false => have := h.neg _ _ _ h1 hx; rw [h2] at this; cases this
  · exact .inr ⟨h.neg _ _ _ h2 h1, by omega⟩
theorem L.irr (h : Weak lt) (x : Nat × α) : ¬ L lt x x := by
  rintro (h1 | ⟨_, h1⟩)
  · rw [h.irr] at h1; cases h1
  · omega
theorem L.of_false {x y : Nat × α} (h1 : lt y.2 x.2 = false) (ht : x.1 < y.1) : L lt x y := .inr ⟨h1, ht⟩
theorem L.of_true {x y : Nat × α} (h1 : lt y.2 x.2 = true) : L lt y x := .inl h1

abbrev Sd (lt : α → α → Bool) (l : List (Nat × α)) : Prop := l.Pairwise (L lt)
def All2 (R : β → β → Prop) (u v : List β) : Prop := ∀ x ∈ u, ∀ y ∈ v, R x y
def Ap (u v : List (Nat × α)) : Prop := All2 (fun x y => x.1 < y.1) u v

theorem Sd.app {u v : List (Nat × α)} (h1 : Sd lt u) (h2 : Sd lt v) (h3 : All2 (L lt) u v) : Sd lt (u ++ v) := List.pairwise_append.2 ⟨h1, h2, h3⟩
theorem Sd.left {u v : List (Nat × α)} (h : Sd lt (u ++ v)) : Sd lt u := (List.pairwise_append.1 h).1
theorem Sd.right {u v : List (Nat × α)} (h : Sd lt (u ++ v)) : Sd lt v := (List.pairwise_append.1 h).2.1
theorem Sd.cross {u v : List (Nat × α)} (h : Sd lt (u ++ v)) : All2 (L lt) u v := (List.pairwise_append.1 h).2.2
theorem Ap.perm {u v u' v' : List (Nat × α)} (h : Ap u v) (h1 : u'.Perm u) (h2 : v'.Perm v) : Ap u' v' := fun x hx y hy => h x (h1.mem_iff.1 hx) y (h2.mem_iff.1 hy)
theorem All2.perm {R : β → β → Prop} {u v u' v' : List β} (h : All2 R u v) (h1 : u'.Perm u) (h2 : v'.Perm v) : All2 R u' v' := fun x hx y hy => h x (h1.mem_iff.1 hx) y (h2.mem_iff.1 hy)

/-- The last of u is less than the first of v: all are. -/
theorem cross_ends (h : Weak lt) {u v : List (Nat × α)} (hu : Sd lt u) (hv : Sd lt v) (he : ∀ x y, u.getLast? = some x → v.head? = some y → L lt x y) : All2 (L lt) u v := by
  intro x hx y hy
  have hu0 : u ≠ [] := List.ne_nil_of_mem hx
  obtain ⟨u1, l, rfl⟩ : ∃ u1 l, u = u1 ++ [l] := ⟨_, _, (List.dropLast_concat_getLast hu0).symm⟩
  cases v with
  | nil => cases hy
  | cons f v1 =>
    have h1 : L lt l f := he l f (by simp) (by simp)
    have h2 : x = l ∨ L lt x l := by
      rcases List.mem_append.1 hx with hx | hx
      · exact .inr ((List.pairwise_append.1 hu).2.2 x hx l (by simp))
      · exact .inl (by simpa using hx)
    have h3 : y = f ∨ L lt f y := by
      rcases List.mem_cons.1 hy with hy | hy
      · exact .inl hy
      · exact .inr ((List.pairwise_cons.1 hv).1 y hy)
    rcases h2 with rfl | h2 <;> rcases h3 with rfl | h3
    · exact h1
    · exact h1.trans h h3
    · exact h2.trans h h1
    · exact (h2.trans h h1).trans h h3
/-- The step of the symmetric merge. -/
theorem sym_split (h : Weak lt) {u1 u2 v1 v2 s1 s2 : List (Nat × α)} (hu : Sd lt (u1 ++ u2)) (hv : Sd lt (v1 ++ v2))
    (e1 : ∀ x y, u1.getLast? = some x → v2.head? = some y → L lt x y) (e2 : ∀ x y, v1.getLast? = some x → u2.head? = some y → L lt x y)
    (p1 : s1.Perm (u1 ++ v1)) (p2 : s2.Perm (u2 ++ v2)) (d1 : Sd lt s1) (d2 : Sd lt s2) : (s1 ++ s2).Perm ((u1 ++ u2) ++ (v1 ++ v2)) ∧ Sd lt (s1 ++ s2) := by
  have c1 := cross_ends h hu.left hv.right e1
  have c2 := cross_ends h hv.left hu.right e2
  have c3 := hu.cross
  have c4 := hv.cross
  constructor
  · refine (p1.append p2).trans ?_
    rw [List.append_assoc, List.append_assoc]
    refine List.Perm.append_left _ ?_
    rw [← List.append_assoc, ← List.append_assoc]
    exact List.perm_append_comm.append_right _
  · refine d1.app d2 ?_
    refine All2.perm (u := u1 ++ v1) (v := u2 ++ v2) ?_ p1 p2
    intro x hx y hy
    rcases List.mem_append.1 hx with hx | hx <;> rcases List.mem_append.1 hy with hy | hy
    · exact c3 x hx y hy
    · exact c1 x hx y hy
    · exact c2 x hx y hy
    · exact c4 x hx y hy
/-- One put among others that are in order: of the left part all less, the right part all more. -/
theorem put_split (h : Weak lt) {v1 v2 : List (Nat × α)} {e : Nat × α} (hv : Sd lt (v1 ++ v2)) (e1 : ∀ x, v1.getLast? = some x → L lt x e) (e2 : ∀ y, v2.head? = some y → L lt e y) : Sd lt (v1 ++ e :: v2) := by
  have c1 : All2 (L lt) v1 [e] := cross_ends h hv.left (List.pairwise_singleton _ _) (fun x y hx hy => by simp at hy; subst hy; exact e1 x hx)
  have c2 : All2 (L lt) [e] v2 := cross_ends h (List.pairwise_singleton _ _) hv.right (fun x y hx hy => by simp at hx; subst hx; exact e2 y hy)
  refine List.pairwise_append.2 ⟨hv.left, List.pairwise_cons.2 ⟨fun y hy => c2 e (by simp) y hy, hv.right⟩, fun x hx y hy => ?_⟩
  rcases List.mem_cons.1 hy with rfl | hy
  · exact c1 x hx _ (by simp)
  · exact hv.cross x hx y hy
/-- There is but one. -/
theorem only (h : Weak lt) : ∀ {l m : List (Nat × α)}, l.Perm m → Sd lt l → Sd lt m → l = m
  | [], m, hp, _, _ => (List.nil_perm.1 hp).symm
  | x :: l, [], hp, _, _ => absurd hp.length_eq (by simp)
  | x :: l, y :: m, hp, h1, h2 => by
    have hx : x ∈ y :: m := hp.mem_iff.1 (by simp)
    have hy : y ∈ x :: l := hp.mem_iff.2 (by simp)
    have e : x = y := by
      rcases List.mem_cons.1 hx with e | hx
      · exact e
      · rcases List.mem_cons.1 hy with e | hy
        · exact e.symm
        · have a := (List.pairwise_cons.1 h1).1 y hy
          have b := (List.pairwise_cons.1 h2).1 x hx
          exact absurd (a.trans h b) (L.irr h x)
    subst e
    rw [only h ((List.perm_cons _).1 hp) (List.pairwise_cons.1 h1).2 (List.pairwise_cons.1 h2).2]

/-- tags from k on -/
def tag : Nat → List α → List (Nat × α)
  | _, [] => []
  | k, x :: l => (k, x) :: tag (k + 1) l
theorem tag_snd : ∀ (k : Nat) (l : List α), (tag k l).map Prod.snd = l
  | _, [] => rfl
  | k, x :: l => by rw [tag, List.map_cons, tag_snd]
theorem tag_ge : ∀ (k : Nat) (l : List α), ∀ x ∈ tag k l, k ≤ x.1
  | _, [], x, hx => by cases hx
  | k, y :: l, x, hx => by
    rcases List.mem_cons.1 hx with rfl | hx
    · exact Nat.le_refl _
    · have := tag_ge (k + 1) l x hx; omega
theorem tag_rise : ∀ (k : Nat) (l : List α), (tag k l).Pairwise (fun x y => x.1 < y.1)
  | _, [] => .nil
  | k, y :: l => List.pairwise_cons.2 ⟨fun x hx => by have := tag_ge (k + 1) l x hx; show k < x.1; omega, tag_rise (k + 1) l⟩
theorem tag_len (k : Nat) (l : List α) : (tag k l).length = l.length := by rw [← List.length_map (f := Prod.snd), tag_snd]
theorem tag_app : ∀ (k : Nat) (l m : List α), tag k (l ++ m) = tag k l ++ tag (k + l.length) m
  | k, [], m => by simp [tag]
  | k, x :: l, m => by
    show (k, x) :: tag (k + 1) (l ++ m) = _
    rw [tag_app (k + 1) l m]
    simp only [tag, List.cons_append, List.length_cons]
    rw [show k + 1 + l.length = k + (l.length + 1) by omega]

/-- the plain way: each put behind those that are not more -/
def put (lt : α → α → Bool) (f : α) : List α → List α
  | [] => [f]
  | x :: l => if lt f x then f :: x :: l else x :: put lt f l
def isort (lt : α → α → Bool) (l : List α) : List α := l.foldl (fun s f => put lt f s) []

def putT (lt : α → α → Bool) (f : Nat × α) : List (Nat × α) → List (Nat × α)
  | [] => [f]
  | x :: l => if lt f.2 x.2 then f :: x :: l else x :: putT lt f l
theorem putT_snd (f : Nat × α) : ∀ l : List (Nat × α), (putT lt f l).map Prod.snd = put lt f.2 (l.map Prod.snd)
  | [] => rfl
  | x :: l => by
    unfold putT
    rw [List.map_cons, put]
    split
    · rfl
    · rw [List.map_cons, putT_snd f l]
theorem putT_perm (f : Nat × α) : ∀ l : List (Nat × α), (putT lt f l).Perm (f :: l)
  | [] => .refl _
  | x :: l => by
    unfold putT
    split
    · exact .refl _
    · exact ((putT_perm f l).cons x).trans (List.Perm.swap _ _ _)
theorem putT_sd (h : Weak lt) (f : Nat × α) : ∀ l : List (Nat × α), Sd lt l → (∀ x ∈ l, x.1 < f.1) → Sd lt (putT lt f l)
  | [], _, _ => List.pairwise_singleton _ _
  | x :: l, hs, ht => by
    unfold putT
    split
    · rename_i hc
      refine List.pairwise_cons.2 ⟨fun y hy => ?_, hs⟩
      rcases List.mem_cons.1 hy with rfl | hy
      · exact .inl hc
      · exact (L.of_true hc).trans h ((List.pairwise_cons.1 hs).1 y hy)
    · rename_i hc
      refine List.pairwise_cons.2 ⟨fun y hy => ?_, putT_sd h f l (List.pairwise_cons.1 hs).2 (fun y hy => ht y (by simp [hy]))⟩
      rcases List.mem_cons.1 ((putT_perm f l).mem_iff.1 hy) with rfl | hy
      · exact .inr ⟨by simpa using hc, ht x (by simp)⟩
      · exact (List.pairwise_cons.1 hs).1 y hy
theorem isort_go (h : Weak lt) : ∀ (r : List α) (s : List (Nat × α)) (k : Nat), Sd lt s → (∀ x ∈ s, x.1 < k) → ∃ t : List (Nat × α), t.map Prod.snd = r.foldl (fun s f => put lt f s) (s.map Prod.snd) ∧ Sd lt t ∧ t.Perm (s ++ tag k r)
  | [], s, k, hs, ht => ⟨s, rfl, hs, by simp [tag]⟩
  | f :: r, s, k, hs, ht => by
    have h1 := putT_sd h (k, f) s hs ht
    have h2 := putT_perm (lt := lt) (k, f) s
    obtain ⟨t, e, d, p⟩ := isort_go h r (putT lt (k, f) s) (k + 1) h1 (fun x hx => by
      rcases List.mem_cons.1 (h2.mem_iff.1 hx) with rfl | hx
      · show k < k + 1; omega
      · have := ht x hx; omega)
    refine ⟨t, ?_, d, p.trans ?_⟩
    · rw [e, putT_snd]; rfl
    · rw [tag]
      refine (h2.append_right _).trans ?_
      exact List.perm_middle.symm
theorem isort_len (l : List α) : (isort lt l).length = l.length := by
  have hp : ∀ (f : α) (s : List α), (put lt f s).length = s.length + 1 := by
    intro f s
    induction s with
    | nil => rfl
    | cons x s ih => unfold put; split <;> simp [ih]
  have : ∀ (l s : List α), (l.foldl (fun s f => put lt f s) s).length = s.length + l.length := by
    intro l
    induction l with
    | nil => intro s; rfl
    | cons x l ih => intro s; rw [List.foldl_cons, ih, hp, List.length_cons]; omega
  have h := this l []
  unfold isort
  rw [h]
  simp
/-- What is in order and the same things is what the plain way makes. -/
theorem is_isort (h : Weak lt) {l : List α} {t : List (Nat × α)} (hp : t.Perm (tag 0 l)) (hs : Sd lt t) : t.map Prod.snd = isort lt l := by
  obtain ⟨s, e, d, p⟩ := isort_go h l [] 0 .nil (fun x hx => by cases hx)
  have := only h (hp.trans p.symm) hs d
  rw [this, e]
  rfl
theorem isort_perm (h : Weak lt) (l : List α) : (isort lt l).Perm l := by
  obtain ⟨s, e, d, p⟩ := isort_go h l [] 0 .nil (fun x hx => by cases hx)
  have h1 := p.map Prod.snd
  rw [e] at h1
  simpa [tag_snd, isort] using h1
/-- Behind the sort none is less than one ahead of it. -/
theorem isort_rise (h : Weak lt) (l : List α) : (isort lt l).Pairwise (fun x y => lt y x = false) := by
  obtain ⟨s, e, d, p⟩ := isort_go h l [] 0 .nil (fun x hx => by cases hx)
  have h1 : s.map Prod.snd = isort lt l := e
  rw [← h1, List.pairwise_map]
  refine d.imp fun {x y} hxy => ?_
  rcases hxy with hxy | hxy
  · exact h.asymm hxy
  · exact hxy.1

/-- The blocks of a pass: all of one size, the last may be shorter. -/
def Szs (n : Nat) : List (List β) → Prop
  | [] => True
  | [b] => 0 < b.length ∧ b.length ≤ n
  | b :: c :: bl => b.length = n ∧ Szs n (c :: bl)
structure Bks (lt : α → α → Bool) (bl : List (List (Nat × α))) : Prop where
  sd : ∀ b ∈ bl, Sd lt b
  ap : bl.Pairwise Ap
theorem Bks.merge {d r : List (List (Nat × α))} {u v s : List (Nat × α)} (h : Bks lt (d ++ u :: v :: r)) (hp : s.Perm (u ++ v)) (hs : Sd lt s) : Bks lt (d ++ s :: r) := by
  refine ⟨fun b hb => ?_, ?_⟩
  · rcases List.mem_append.1 hb with hb | hb
    · exact h.sd b (by simp [hb])
    · rcases List.mem_cons.1 hb with rfl | hb
      · exact hs
      · exact h.sd b (by simp [hb])
  · obtain ⟨a1, a2, a3⟩ := List.pairwise_append.1 h.ap
    obtain ⟨b1, b2⟩ := List.pairwise_cons.1 a2
    obtain ⟨c1, c2⟩ := List.pairwise_cons.1 b2
    refine List.pairwise_append.2 ⟨a1, List.pairwise_cons.2 ⟨fun c hc x hx y hy => ?_, c2⟩, fun b hb c hc => ?_⟩
    · rcases List.mem_append.1 (hp.mem_iff.1 hx) with hx | hx
      · exact b1 c (by simp [hc]) x hx y hy
      · exact c1 c hc x hx y hy
    · rcases List.mem_cons.1 hc with rfl | hc
      · intro x hx y hy
        rcases List.mem_append.1 (hp.mem_iff.1 hy) with hy | hy
        · exact a3 b hb u (by simp) x hx y hy
        · exact a3 b hb v (by simp) x hx y hy
      · exact a3 b hb c (by simp [hc])
theorem Bks.two {d r : List (List (Nat × α))} {u v : List (Nat × α)} (h : Bks lt (d ++ u :: v :: r)) : Sd lt u ∧ Sd lt v ∧ Ap u v := by
  refine ⟨h.sd u (by simp), h.sd v (by simp), ?_⟩
  exact (List.pairwise_cons.1 (List.pairwise_append.1 h.ap).2.1).1 v (by simp)
end Srt
end Go.Proofs.Ytcfgjfahjaimiaa

namespace Go.Proofs.Ytcfgjfahjaimiaa
open Go.RowKit
set_option linter.unusedVariables false
set_option linter.unusedSimpArgs false

theorem cb_self : ∀ a : List UInt8, Lib.compareBytes a a = 0
  | [] => by simp [Lib.compareBytes]
  | x :: a => by
    unfold Lib.compareBytes
    rw [if_neg (UInt8.lt_irrefl x), if_neg (UInt8.lt_irrefl x)]
    exact cb_self a
def ltB (a b : List UInt8) : Bool := decide (Lib.compareBytes a b < 0)
theorem ltB_cons (x y : UInt8) (a b : List UInt8) : ltB (x :: a) (y :: b) = (decide (x < y) || (decide (x = y) && ltB a b)) := by
  unfold ltB
  rw [Lib.compareBytes]
  by_cases h1 : x < y
  · simp [h1]
  · by_cases h2 : y < x
    · have : x ≠ y := fun e => by subst e; exact h1 h2
      simp [h1, h2, this]
    · have : x = y := by
        have a1 := (not_congr UInt8.lt_iff_toNat_lt).1 h1
        have a2 := (not_congr UInt8.lt_iff_toNat_lt).1 h2
        exact UInt8.toNat_inj.1 (by omega)
      simp [h1, h2, this]
theorem ltB_nil_cons (y : UInt8) (b : List UInt8) : ltB [] (y :: b) = true := by simp [ltB, Lib.compareBytes]
theorem ltB_nil (a : List UInt8) : ltB a [] = false := by cases a <;> simp [ltB, Lib.compareBytes]
theorem ltB_irr : ∀ a, ltB a a = false
  | [] => ltB_nil _
  | x :: a => by rw [ltB_cons, ltB_irr a]; simp
theorem ltB_trans : ∀ a b c, ltB a b = true → ltB b c = true → ltB a c = true
  | a, [], c, h, _ => by rw [ltB_nil] at h; cases h
  | a, y :: b, [], _, h => by rw [ltB_nil] at h; cases h
  | [], y :: b, z :: c, _, _ => ltB_nil_cons _ _
  | x :: a, y :: b, z :: c, h1, h2 => by
    rw [ltB_cons] at *
    simp only [Bool.or_eq_true, Bool.and_eq_true, decide_eq_true_eq] at *
    rcases h1 with h1 | ⟨rfl, h1⟩ <;> rcases h2 with h2 | ⟨rfl, h2⟩
    · exact .inl (UInt8.lt_trans h1 h2)
    · exact .inl h1
    · exact .inl h2
    · exact .inr ⟨rfl, ltB_trans a b c h1 h2⟩
theorem ltB_neg : ∀ a b c, ltB a b = false → ltB b c = false → ltB a c = false
  | a, b, [], _, _ => ltB_nil _
  | a, [], z :: c, _, h => by rw [ltB_nil_cons] at h; cases h
  | [], y :: b, z :: c, h, _ => by rw [ltB_nil_cons] at h; cases h
  | x :: a, y :: b, z :: c, h1, h2 => by
    rw [ltB_cons] at *
    simp only [Bool.or_eq_false_iff, Bool.and_eq_false_imp, decide_eq_false_iff_not, decide_eq_true_eq] at *
    obtain ⟨h1, k1⟩ := h1
    obtain ⟨h2, k2⟩ := h2
    have a1 := (not_congr UInt8.lt_iff_toNat_lt).1 h1
    have a2 := (not_congr UInt8.lt_iff_toNat_lt).1 h2
    refine ⟨fun h => by have := UInt8.lt_iff_toNat_lt.1 h; omega, fun e => ?_⟩
    subst e
    have e : x = y := UInt8.toNat_inj.1 (by omega)
    subst e
    exact ltB_neg a b c (k1 rfl) (k2 rfl)
theorem bytesLess_eq : ∀ a b : List UInt8, Op.bytesLess a b = ltB a b
  | [], [] => by simp [Op.bytesLess, ltB_nil]
  | [], y :: b => by simp [Op.bytesLess, ltB_nil_cons]
  | x :: a, [] => by simp [Op.bytesLess, ltB_nil]
  | x :: a, y :: b => by
    rw [ltB_cons, Op.bytesLess, bytesLess_eq a b]
    by_cases h1 : x < y
    · simp [h1]
    · by_cases h2 : x = y
      · simp [h2]
      · simp [h1, h2]

def ltF (a b : Fi) : Bool := ltB a.name.data.toList b.name.data.toList
theorem weakF : Srt.Weak ltF := ⟨fun a => ltB_irr _, fun a b c => ltB_trans _ _ _, fun a b c => ltB_neg _ _ _⟩

def FdT (w : World) (F : Nat → Prop) (g : Nat) (l : List Fi) : Prop := ∃ cs : Array Value, Blk w g 40 cs ∧ ¬ F g ∧ l.length * 6 ≤ cs.size ∧ RowsOf RFi w F l (cs.toList.take (l.length * 6))
section
variable {w w' : World} {F F' : Nat → Prop} {g : Nat} {l : List Fi} {S : Nat → Prop}
theorem FdT.lt (h : FdT w F g l) : g < w.heap.size := by
  obtain ⟨cs, h1, _⟩ := h
  exact h1.lt
theorem FdT.thaw (h : FdT w F g l) (i : Nat) : w.frozen? ⟨g, i, none⟩ = false := by
  obtain ⟨cs, h1, _⟩ := h
  exact h1.frozen i
theorem FdT.gr (h : FdT w F g l) (hg : Gr S w w') (hS : ¬ S g) (hF : ∀ k, F k → ¬ S k) : FdT w' F g l := by
  obtain ⟨cs, h1, h2, h3, h4⟩ := h
  exact ⟨cs, hg.blk h1 hS, h2, h3, RowsOf.keep RFi_keeps (fun k hk hl => hg.block k hl (hF k hk)) hg.size (fun _ _ h => h) _ _ h4⟩
theorem FdT.bel (h : FdT w F g l) (hb : Below w.heap.size w w') : FdT w' F g l :=
  h.gr (S := fun _ => False) (Gr.of_below hb) (fun h => h) (fun _ _ h => h)
theorem FdT.at_ (h : FdT w F g l) {i : Nat} {u : Fi} (hu : l[i]? = some u) : ∃ (k : Int) (p n : ByteArray) (A : Option Addr) (m c : Nat) (B : Option Addr) (m' d : Nat),
    RFi w F u [.string u.name, .int .i64 k, .string p, .string n, .slice A m c, .slice B m' d] ∧ w.cell? ⟨g, i * 6, none⟩ = some (.string u.name) ∧ w.cell? ⟨g, i * 6 + 1, none⟩ = some (.int .i64 k) ∧ w.cell? ⟨g, i * 6 + 2, none⟩ = some (.string p) ∧ w.cell? ⟨g, i * 6 + 3, none⟩ = some (.string n) ∧ w.cell? ⟨g, i * 6 + 4, none⟩ = some (.slice A m c) ∧ w.cell? ⟨g, i * 6 + 5, none⟩ = some (.slice B m' d) := by
  obtain ⟨cs, h1, h2, h3, h4⟩ := h
  obtain ⟨us, h5, h6⟩ := RowsOf.at RFi_sized h4 i u hu
  have h7 := h5
  obtain ⟨tv, rfl, hrt⟩ := h5
  obtain ⟨k, p, n, A, m, c, B, m', d, rfl⟩ := hrt.shape
  have hc : ∀ (j : Nat) (v : Value), ([Value.string u.name, .int .i64 k, .string p, .string n, .slice A m c, .slice B m' d] : List Value)[j]? = some v → w.cell? ⟨g, i * 6 + j, none⟩ = some v := by
    intro j v hv
    have h8 := h6 j v hv
    rw [List.getElem?_take] at h8
    split at h8
    · rw [h1.cell, ← Array.getElem?_toList]; exact h8
    · cases h8
  exact ⟨k, p, n, A, m, c, B, m', d, h7, hc 0 _ rfl, hc 1 _ rfl, hc 2 _ rfl, hc 3 _ rfl, hc 4 _ rfl, hc 5 _ rfl⟩
theorem FdT.put (h : FdT w F g l) {i : Nat} (hi : i < l.length) {a : Fi} {vs : List Value} (ha : RFi w F a vs) : FdT (putCs w g (i * 6) vs) F g (l.set i a) := by
  obtain ⟨cs, h1, h2, h3, h4⟩ := h
  have hG := putCs_gr g vs (i * 6) w
  have hv := RFi_sized _ _ _ _ ha
  have hfit : i * 6 + vs.length ≤ cs.size := by omega
  refine ⟨_, putCs_mid vs (i * 6) w cs h1 hfit, h2, ?_, ?_⟩
  · simp; omega
  · have h5 := RowsOf.keep (F' := F) RFi_keeps (fun k hk hl => hG.block k hl (by rintro rfl; exact h2 hk)) hG.size (fun _ _ h => h) _ _ (RowsOf.set_ RFi_sized ha h4 hi)
    rw [List.length_set]
    have e : (cs.toList.take (i * 6) ++ (vs ++ cs.toList.drop (i * 6 + vs.length))).take (l.length * 6) = (cs.toList.take (l.length * 6)).take (i * 6) ++ (vs ++ (cs.toList.take (l.length * 6)).drop (i * 6 + vs.length)) := by
      have q1 : (cs.toList.take (i * 6)).length = i * 6 := by simp; omega
      rw [List.take_append, List.take_append, q1, List.take_take, List.take_take, List.drop_take]
      have q2 : min (l.length * 6) (i * 6) = i * 6 := by omega
      have q3 : min (i * 6) (l.length * 6) = i * 6 := by omega
      rw [q2, q3, List.take_of_length_le (l := vs) (by omega), Nat.sub_sub]
    show RowsOf RFi _ F _ ((cs.toList.take (i * 6) ++ (vs ++ cs.toList.drop (i * 6 + vs.length))).take (l.length * 6))
    rw [e]
    exact h5
theorem FdT.swap (h : FdT w F g l) {i j : Nat} {a b : Fi} {us vs : List Value} (hi : i < l.length) (hj : j < l.length) (ha : RFi w F a us) (hb : RFi w F b vs) : FdT (putCs (putCs w g (i * 6) vs) g (j * 6) us) F g ((l.set i b).set j a) := by
  have h1 := h.put hi hb
  have hG := putCs_gr g vs (i * 6) w
  have hn : ¬ F g := by
    obtain ⟨cs, _, h2, _⟩ := h
    exact h2
  exact h1.put (by rw [List.length_set]; exact hj) (RFi_keeps _ _ _ _ _ _ (fun k hk hl => hG.block k hl (by rintro rfl; exact hn hk)) hG.size (fun _ _ h => h) ha)
theorem FdT.slice (h : FdT w F g l) (hF : ∀ k, F k → F' k) (hg : F' g) : SlG 6 RFi w F' (some ⟨g, 0, none⟩) l := by
  obtain ⟨cs, h1, h2, h3, h4⟩ := h
  refine ⟨_, ⟨RowsOf.len RFi_sized h4, fun _ => ⟨g, 0, rfl, hg, h1.lt, fun j u hu => ?_⟩⟩, RowsOf.keep RFi_keeps (fun _ _ _ => rfl) (Nat.le_refl _) (fun k _ hk => hF k hk) _ _ h4⟩
  rw [Nat.zero_add, h1.cell, ← Array.getElem?_toList]
  rw [List.getElem?_take] at hu
  split at hu
  · exact hu
  · cases hu
end
/-- What a part of the sort makes of a row. -/
def SrtP (F : Nat → Prop) (g : Nat) (l : List Fi) (w : World) (w' : World) : Prop := Gr (fun x => x = g) w w' ∧ FdT w' F g l
theorem SrtP.trans {F : Nat → Prop} {g : Nat} {l m : List Fi} {w w' w'' : World} (h : Gr (fun x => x = g) w w') (k : SrtP F g m w' w'') : SrtP F g m w w'' := ⟨h.trans k.1, k.2⟩
set_option maxRecDepth 100000 in
set_option maxHeartbeats 2000000 in
theorem cmp_any (a b : Fi) (w : World) (F F' : Nat → Prop) (us vs : List Value) (ha : RFi w F a us) (hb : RFi w F' b vs) :
    Calls Try.prog 50 #[.agg us.toArray, .agg vs.toArray] w fun e w' => (∃ n : Int, e = .returned (.int .i64 n) ∧ decide (n < 0) = ltF a b) ∧ Below w.heap.size w w' := by
  obtain ⟨tv, rfl, hrt⟩ := ha
  obtain ⟨tv', rfl, hrt'⟩ := hb
  obtain ⟨k, p, n, A, m, c, B, m', d, rfl⟩ := hrt.shape
  obtain ⟨k', p', n', A', m2, c', B', m3, d', rfl⟩ := hrt'.shape
  simp only [tyC]
  clear hrt hrt'
  go_enter Try.func50, Try.ntmps50
  go_wp2_with (go_at_call 51; refine (Try.strings_Compare _ _ _).mono ?_; rintro e w' ⟨rfl, rfl⟩)
  go_ret
  exact ⟨⟨_, rfl, rfl⟩, ((Below.refl _ w).alloc (Nat.le_refl _) _).alloc (by simp) _⟩
end Go.Proofs.Ytcfgjfahjaimiaa

namespace Go.Proofs.Ytcfgjfahjaimiaa
open Go.RowKit
set_option linter.unusedVariables false
set_option linter.unusedSimpArgs false

theorem sw_get1 {α : Type} (p m s : List α) (a b : α) : (p ++ a :: (m ++ b :: s))[p.length]? = some a := by simp
theorem sw_get2 {α : Type} (p m s : List α) (a b : α) : (p ++ a :: (m ++ b :: s))[p.length + 1 + m.length]? = some b := by
  rw [List.getElem?_append_right (by omega), show p.length + 1 + m.length - p.length = m.length + 1 by omega, List.getElem?_cons_succ, List.getElem?_append_right (Nat.le_refl _), Nat.sub_self]
  rfl
theorem sw_set1 {α : Type} (p m s : List α) (a b x : α) : (p ++ a :: (m ++ b :: s)).set p.length x = p ++ x :: (m ++ b :: s) := by
  rw [List.set_append_right _ _ (Nat.le_refl _), Nat.sub_self, List.set_cons_zero]
theorem sw_set2 {α : Type} (p m s : List α) (a b x : α) : (p ++ a :: (m ++ b :: s)).set (p.length + 1 + m.length) x = p ++ a :: (m ++ x :: s) := by
  rw [List.set_append_right _ _ (by omega), show p.length + 1 + m.length - p.length = m.length + 1 by omega, List.set_cons_succ, List.set_append_right _ _ (Nat.le_refl _), Nat.sub_self, List.set_cons_zero]
theorem sw_12 {α : Type} (p m s : List α) (a b : α) : ((p ++ a :: (m ++ b :: s)).set p.length b).set (p.length + 1 + m.length) a = p ++ b :: (m ++ a :: s) := by
  rw [sw_set1, sw_set2]
theorem sw_21 {α : Type} (p m s : List α) (a b : α) : ((p ++ a :: (m ++ b :: s)).set (p.length + 1 + m.length) a).set p.length b = p ++ b :: (m ++ a :: s) := by
  rw [sw_set2, sw_set1]

theorem wrap_nat {i : Nat} (h : i ≤ 1000000) : IntKind.i64.wrap (i : Int) = (i : Int) := by
  first | (rw [IntKind.wrap_i64]; unfold wrap64; omega) | (rw [IntKind.wrap_i64]; omega) | (unfold IntKind.wrap; simp; omega)
set_option maxRecDepth 100000 in
set_option maxHeartbeats 4000000 in
theorem swapr_any (x u z v y : List Fi) (hvu : v.length = u.length) (w : World) (F : Nat → Prop) (g n cap : Nat) (cf : Value) (hn : (x ++ (u ++ (z ++ (v ++ y)))).length = n) (hn2 : n ≤ 100000) (h : FdT w F g (x ++ (u ++ (z ++ (v ++ y))))) (A B : Nat) (hA : A = x.length) (hB : B = x.length + u.length + z.length) (m : Nat) (hm : m = u.length) :
    Calls Try.prog 84 #[.slice (some ⟨g, 0, none⟩) n cap, .int .i64 A, .int .i64 B, .int .i64 m, cf] w fun e w' => e = .returned (.tuple #[]) ∧ SrtP F g (x ++ (v ++ (z ++ (u ++ y)))) w w' := by
  have HN := Lib.hid hn
  have HVU := Lib.hid hvu
  have HFD := Lib.hid h
  have HA := Lib.hid hA
  have HB := Lib.hid hB
  have HM := Lib.hid hm
  clear hn hvu h hA hB hm
  go_enter Try.func84, Try.ntmps84
  go_wp2
  go_loopg [10] m (fun gk v10 wr => ∃ (k : Nat) (u1 u2 v1 v2 : List Fi), k + gk = m ∧ v10 = .int .i64 k ∧ u = u1 ++ u2 ∧ v = v1 ++ v2 ∧ u1.length = k ∧ v1.length = k ∧ Gr (fun x => x = g) w wr ∧ FdT wr F g (x ++ (v1 ++ (u2 ++ (z ++ (u1 ++ (v2 ++ y)))))))
  case atStart => exact ⟨0, [], u, [], v, by simp, rfl, rfl, rfl, rfl, rfl, Gr.refl w, HFD.out⟩
  case round =>
    obtain ⟨k, u1, u2, v1, v2, hk, rfl, rfl, rfl, hu1, hv1, hgr, hfd⟩ := hrel
    have hn := HN.out
    have hvu := HVU.out
    have hA := HA.out
    have hB := HB.out
    have hm := HM.out
    have HGR := Lib.hid hgr
    simp only [List.length_append] at hn hvu hB hm
    cases gk with
    | zero =>
      obtain rfl : u2 = [] := List.length_eq_zero_iff.1 (by omega)
      obtain rfl : v2 = [] := List.length_eq_zero_iff.1 (by omega)
      obtain rfl : k = m := by omega
      have HFE := Lib.hid hfd
      clear hfd hgr hn hvu hA hB hm hk
      go_wp2
      refine bodyPost_end (results_none rfl _ _ _) rfl ?_
      exact ⟨rfl, HGR.out, by simpa using HFE.out⟩
    | succ f =>
      cases u2 with
      | nil => simp at hm hk; omega
      | cons a u2 =>
      cases v2 with
      | nil => simp at hvu; omega
      | cons b v2 =>
      simp only [List.length_cons] at hn hvu hB hm
      obtain ⟨p, hp⟩ : ∃ p, x ++ v1 = p := ⟨_, rfl⟩
      obtain ⟨q, hq⟩ : ∃ q, u2 ++ (z ++ u1) = q := ⟨_, rfl⟩
      obtain ⟨s, hs⟩ : ∃ s, v2 ++ y = s := ⟨_, rfl⟩
      have el : x ++ (v1 ++ ((a :: u2) ++ (z ++ (u1 ++ ((b :: v2) ++ y))))) = p ++ a :: (q ++ b :: s) := by rw [← hp, ← hq, ← hs]; simp
      have er : p ++ b :: (q ++ a :: s) = x ++ ((v1 ++ [b]) ++ (u2 ++ (z ++ ((u1 ++ [a]) ++ (v2 ++ y))))) := by rw [← hp, ← hq, ← hs]; simp
      rw [el] at hfd
      have lp := congrArg List.length hp
      have lq := congrArg List.length hq
      have ls := congrArg List.length hs
      simp only [List.length_append] at lp lq ls
      obtain ⟨I, hI⟩ : ∃ I, p.length = I := ⟨_, rfl⟩
      obtain ⟨J, hJ⟩ : ∃ J, p.length + 1 + q.length = J := ⟨_, rfl⟩
      have ga := sw_get1 p q s a b
      have gb := sw_get2 p q s a b
      have gs := sw_12 p q s a b
      have ll : (p ++ a :: (q ++ b :: s)).length = n := by simp only [List.length_append, List.length_cons]; omega
      rw [hJ] at gb gs
      rw [hI] at ga gs
      have iN : I < n := by omega
      have jN : J < n := by omega
      have n1 : (k : Int) < (m : Int) := by omega
      have i0 : (0 : Int) ≤ (I : Int) := by omega
      have j0 : (0 : Int) ≤ (J : Int) := by omega
      have i1 : (I : Int) < (n : Int) := by omega
      have j1 : (J : Int) < (n : Int) := by omega
      have ea : (A : Int) + (k : Int) = (I : Int) := by omega
      have eb : (B : Int) + (k : Int) = (J : Int) := by omega
      have n2 : (n : Int) ≤ 100000 := by omega
      have wi : IntKind.i64.wrap (I : Int) = (I : Int) := wrap_nat (by omega)
      have wj : IntKind.i64.wrap (J : Int) = (J : Int) := wrap_nat (by omega)
      clear hn hvu hA hB hm lp lq ls hI hJ el hp hq hs
      rw [er] at gs
      have HLL := Lib.hid ll
      have HK := Lib.hid (show k + (f + 1) = m ∧ u1.length = k ∧ v1.length = k from ⟨hk, hu1, hv1⟩)
      clear er hgr
      go_wp2
      have hfd0 : FdT wr.drew F g (p ++ a :: (q ++ b :: s)) := hfd.gr (S := fun _ => False) (Gr.refl _).drew (fun h => h) (fun _ _ h => h)
      have hg0 : Gr (fun x => x = g) wr wr.drew := (Gr.refl wr).drew
      refine wp_region_held_drew (S := fun _ => True) (by kernel_rfl) trivial (fun hS0 => ?_)
      generalize wr.drew = W1 at hfd0 hg0 ⊢
      obtain ⟨a1, a2, a3, a4, a5, a6, a7, a8, a9, hra, ac0, ac1, ac2, ac3, ac4, ac5⟩ := (hfd0).at_ ga
      obtain ⟨a0, an⟩ : ∃ zz, a.name = zz := ⟨_, rfl⟩
      rw [an] at hra ac0
      obtain ⟨b1, b2, b3, b4, b5, b6, b7, b8, b9, hrb, bc0, bc1, bc2, bc3, bc4, bc5⟩ := (hfd0).at_ gb
      obtain ⟨b0, bn⟩ : ∃ zz, b.name = zz := ⟨_, rfl⟩
      rw [bn] at hrb bc0
      have hP1 := hfd0.put (i := I) (by omega) hrb
      have hG1 := putCs_gr g [.string b0, .int .i64 b1, .string b2, .string b3, .slice b4 b5 b6, .slice b7 b8 b9] (I * 6) W1
      have hV := hfd0.swap (i := I) (j := J) (by omega) (by omega) hra hrb
      have hG := hG1.trans (putCs_gr g [.string a0, .int .i64 a1, .string a2, .string a3, .slice a4 a5 a6, .slice a7 a8 a9] (J * 6) (putCs W1 g (I * 6) [.string b0, .int .i64 b1, .string b2, .string b3, .slice b4 b5 b6, .slice b7 b8 b9]))
      obtain ⟨z, hz⟩ : ∃ z, ((p ++ a :: (q ++ b :: s)).set (I) b)[J]? = some z := ⟨_, List.getElem?_eq_getElem (by rw [List.length_set]; omega)⟩
      obtain ⟨z1, z2, z3, z4, z5, z6, z7, z8, z9, hrz, zc0, zc1, zc2, zc3, zc4, zc5⟩ := (hP1).at_ hz
      obtain ⟨z0, zn⟩ : ∃ zz, z.name = zz := ⟨_, rfl⟩
      rw [zn] at hrz zc0
      have fi0 := hfd0.thaw (I * 6)
      have fj0 := hP1.thaw (J * 6)
      have fi1 := hfd0.thaw (I * 6 + 1)
      have fj1 := hP1.thaw (J * 6 + 1)
      have fi2 := hfd0.thaw (I * 6 + 2)
      have fj2 := hP1.thaw (J * 6 + 2)
      have fi3 := hfd0.thaw (I * 6 + 3)
      have fj3 := hP1.thaw (J * 6 + 3)
      have fi4 := hfd0.thaw (I * 6 + 4)
      have fj4 := hP1.thaw (J * 6 + 4)
      have fi5 := hfd0.thaw (I * 6 + 5)
      have fj5 := hP1.thaw (J * 6 + 5)
      have gl := hfd0.lt
      have gl2 := hP1.lt
      obtain ⟨V1, hV1⟩ : ∃ V, putCs W1 g (I * 6) [.string b0, .int .i64 b1, .string b2, .string b3, .slice b4 b5 b6, .slice b7 b8 b9] = V := ⟨_, rfl⟩
      rw [hV1] at hV hG hP1 hG1 hrz zc0 zc1 zc2 zc3 zc4 zc5 fj0 fj1 fj2 fj3 fj4 fj5 gl2
      obtain ⟨V2, hV2⟩ : ∃ V, putCs V1 g (J * 6) [.string a0, .int .i64 a1, .string a2, .string a3, .slice a4 a5 a6, .slice a7 a8 a9] = V := ⟨_, rfl⟩
      rw [hV2] at hV hG
      clear hP1 hG1 hrz hra hrb
      refine wpAnyH_take (i := 0) (v := (.slice (some ⟨g, 0, none⟩) n cap)) rfl (by kernel_rfl) (by kernel_rfl) (by kernel_rfl) (fun _ _ _ h => h) (Or.inl ⟨rfl, fun w' hS => by (unfold execOp; go_simp)⟩) hS0 ?_
      simp only [Act.put, List.getElem_toArray, List.getElem_cons_zero, List.getElem_cons_succ, List.setIfInBounds_toArray, List.set_cons_zero, List.set_cons_succ]
      refine wpAnyH_take (i := 1) (v := (.int .i64 (A : Nat))) rfl (by kernel_rfl) (by kernel_rfl) (by kernel_rfl) (fun _ _ _ h => h) (Or.inl ⟨rfl, fun w' hS => by (unfold execOp; go_simp)⟩) hS0 ?_
      simp only [Act.put, List.getElem_toArray, List.getElem_cons_zero, List.getElem_cons_succ, List.setIfInBounds_toArray, List.set_cons_zero, List.set_cons_succ]
      refine wpAnyH_take (i := 2) (v := (.int .i64 (k : Nat))) rfl (by kernel_rfl) (by kernel_rfl) (by kernel_rfl) (fun _ _ _ h => h) (Or.inl ⟨rfl, fun w' hS => by (unfold execOp; go_simp)⟩) hS0 ?_
      simp only [Act.put, List.getElem_toArray, List.getElem_cons_zero, List.getElem_cons_succ, List.setIfInBounds_toArray, List.set_cons_zero, List.set_cons_succ]
      refine wpAnyH_take (i := 3) (v := (.int .i64 (I : Nat))) rfl (by kernel_rfl) (by kernel_rfl) (by kernel_rfl) (fun _ _ _ h => h) (Or.inl ⟨rfl, fun w' hS => by (unfold execOp; go_simp)⟩) hS0 ?_
      simp only [Act.put, List.getElem_toArray, List.getElem_cons_zero, List.getElem_cons_succ, List.setIfInBounds_toArray, List.set_cons_zero, List.set_cons_succ]
      refine wpAnyH_take (i := 4) (v := (.slice (some ⟨g, 0, none⟩) n cap)) rfl (by kernel_rfl) (by kernel_rfl) (by kernel_rfl) (fun _ _ _ h => h) (Or.inl ⟨rfl, fun w' hS => by (unfold execOp; go_simp)⟩) hS0 ?_
      simp only [Act.put, List.getElem_toArray, List.getElem_cons_zero, List.getElem_cons_succ, List.setIfInBounds_toArray, List.set_cons_zero, List.set_cons_succ]
      refine wpAnyH_take (i := 5) (v := (.int .i64 (B : Nat))) rfl (by kernel_rfl) (by kernel_rfl) (by kernel_rfl) (fun _ _ _ h => h) (Or.inl ⟨rfl, fun w' hS => by (unfold execOp; go_simp)⟩) hS0 ?_
      simp only [Act.put, List.getElem_toArray, List.getElem_cons_zero, List.getElem_cons_succ, List.setIfInBounds_toArray, List.set_cons_zero, List.set_cons_succ]
      refine wpAnyH_take (i := 6) (v := (.int .i64 (k : Nat))) rfl (by kernel_rfl) (by kernel_rfl) (by kernel_rfl) (fun _ _ _ h => h) (Or.inl ⟨rfl, fun w' hS => by (unfold execOp; go_simp)⟩) hS0 ?_
      simp only [Act.put, List.getElem_toArray, List.getElem_cons_zero, List.getElem_cons_succ, List.setIfInBounds_toArray, List.set_cons_zero, List.set_cons_succ]
      refine wpAnyH_take (i := 7) (v := (.int .i64 (J : Nat))) rfl (by kernel_rfl) (by kernel_rfl) (by kernel_rfl) (fun _ _ _ h => h) (Or.inl ⟨rfl, fun w' hS => by (unfold execOp; go_simp)⟩) hS0 ?_
      simp only [Act.put, List.getElem_toArray, List.getElem_cons_zero, List.getElem_cons_succ, List.setIfInBounds_toArray, List.set_cons_zero, List.set_cons_succ]
      refine wpAnyH_take (i := 8) (v := (.slice (some ⟨g, 0, none⟩) n cap)) rfl (by kernel_rfl) (by kernel_rfl) (by kernel_rfl) (fun _ _ _ h => h) (Or.inl ⟨rfl, fun w' hS => by (unfold execOp; go_simp)⟩) hS0 ?_
      simp only [Act.put, List.getElem_toArray, List.getElem_cons_zero, List.getElem_cons_succ, List.setIfInBounds_toArray, List.set_cons_zero, List.set_cons_succ]
      refine wpAnyH_take (i := 9) (v := (.int .i64 (B : Nat))) rfl (by kernel_rfl) (by kernel_rfl) (by kernel_rfl) (fun _ _ _ h => h) (Or.inl ⟨rfl, fun w' hS => by (unfold execOp; go_simp)⟩) hS0 ?_
      simp only [Act.put, List.getElem_toArray, List.getElem_cons_zero, List.getElem_cons_succ, List.setIfInBounds_toArray, List.set_cons_zero, List.set_cons_succ]
      refine wpAnyH_take (i := 10) (v := (.int .i64 (k : Nat))) rfl (by kernel_rfl) (by kernel_rfl) (by kernel_rfl) (fun _ _ _ h => h) (Or.inl ⟨rfl, fun w' hS => by (unfold execOp; go_simp)⟩) hS0 ?_
      simp only [Act.put, List.getElem_toArray, List.getElem_cons_zero, List.getElem_cons_succ, List.setIfInBounds_toArray, List.set_cons_zero, List.set_cons_succ]
      refine wpAnyH_take (i := 11) (v := (.int .i64 (J : Nat))) rfl (by kernel_rfl) (by kernel_rfl) (by kernel_rfl) (fun _ _ _ h => h) (Or.inl ⟨rfl, fun w' hS => by (unfold execOp; go_simp)⟩) hS0 ?_
      simp only [Act.put, List.getElem_toArray, List.getElem_cons_zero, List.getElem_cons_succ, List.setIfInBounds_toArray, List.set_cons_zero, List.set_cons_succ]
      refine wpAnyH_take (i := 12) (v := (.pointer (some ⟨g, J * 6, none⟩))) rfl (by kernel_rfl) (by kernel_rfl) (by kernel_rfl) (fun _ _ _ h => h) (Or.inl ⟨rfl, fun w' hS => by (unfold execOp; go_simp)⟩) hS0 ?_
      simp only [Act.put, List.getElem_toArray, List.getElem_cons_zero, List.getElem_cons_succ, List.setIfInBounds_toArray, List.set_cons_zero, List.set_cons_succ]
      refine wpAnyH_take (i := 14) (v := (.slice (some ⟨g, 0, none⟩) n cap)) rfl (by kernel_rfl) (by kernel_rfl) (by kernel_rfl) (fun _ _ _ h => h) (Or.inl ⟨rfl, fun w' hS => by (unfold execOp; go_simp)⟩) hS0 ?_
      simp only [Act.put, List.getElem_toArray, List.getElem_cons_zero, List.getElem_cons_succ, List.setIfInBounds_toArray, List.set_cons_zero, List.set_cons_succ]
      refine wpAnyH_take (i := 15) (v := (.int .i64 (A : Nat))) rfl (by kernel_rfl) (by kernel_rfl) (by kernel_rfl) (fun _ _ _ h => h) (Or.inl ⟨rfl, fun w' hS => by (unfold execOp; go_simp)⟩) hS0 ?_
      simp only [Act.put, List.getElem_toArray, List.getElem_cons_zero, List.getElem_cons_succ, List.setIfInBounds_toArray, List.set_cons_zero, List.set_cons_succ]
      refine wpAnyH_take (i := 16) (v := (.int .i64 (k : Nat))) rfl (by kernel_rfl) (by kernel_rfl) (by kernel_rfl) (fun _ _ _ h => h) (Or.inl ⟨rfl, fun w' hS => by (unfold execOp; go_simp)⟩) hS0 ?_
      simp only [Act.put, List.getElem_toArray, List.getElem_cons_zero, List.getElem_cons_succ, List.setIfInBounds_toArray, List.set_cons_zero, List.set_cons_succ]
      refine wpAnyH_take (i := 17) (v := (.int .i64 (I : Nat))) rfl (by kernel_rfl) (by kernel_rfl) (by kernel_rfl) (fun _ _ _ h => h) (Or.inl ⟨rfl, fun w' hS => by (unfold execOp; go_simp)⟩) hS0 ?_
      simp only [Act.put, List.getElem_toArray, List.getElem_cons_zero, List.getElem_cons_succ, List.setIfInBounds_toArray, List.set_cons_zero, List.set_cons_succ]
      refine wpAnyH_take (i := 18) (v := (.pointer (some ⟨g, I * 6, none⟩))) rfl (by kernel_rfl) (by kernel_rfl) (by kernel_rfl) (fun _ _ _ h => h) (Or.inl ⟨rfl, fun w' hS => by (unfold execOp; go_simp)⟩) hS0 ?_
      simp only [Act.put, List.getElem_toArray, List.getElem_cons_zero, List.getElem_cons_succ, List.setIfInBounds_toArray, List.set_cons_zero, List.set_cons_succ]
      refine wpAnyH_two (i := 13) (j := 19) (by kernel_rfl) rfl rfl rfl rfl (op_val (v := .agg #[.string b0, .int .i64 b1, .string b2, .string b3, .slice b4 b5 b6, .slice b7 b8 b9]) (w' := W1) (by unfold execOp; go_simp) (And.intro trivial ?_)) (op_val (v := .agg #[.string a0, .int .i64 a1, .string a2, .string a3, .slice a4 a5 a6, .slice a7 a8 a9]) (w' := W1) (by unfold execOp; go_simp) (And.intro trivial ?_))
      · simp only [Act.put, List.getElem_toArray, List.getElem_cons_zero, List.getElem_cons_succ, List.setIfInBounds_toArray, List.set_cons_zero, List.set_cons_succ]
        refine wpAnyH_one (i := 19) (by kernel_rfl) rfl rfl (op_val (v := .agg #[.string a0, .int .i64 a1, .string a2, .string a3, .slice a4 a5 a6, .slice a7 a8 a9]) (w' := W1) (by unfold execOp; go_simp) (And.intro trivial ?_))
        simp only [Act.put, List.getElem_toArray, List.getElem_cons_zero, List.getElem_cons_succ, List.setIfInBounds_toArray, List.set_cons_zero, List.set_cons_succ]
        refine wpAnyH_take (i := 20) (v := (.pointer (some ⟨g, I * 6, none⟩))) rfl (by kernel_rfl) (by kernel_rfl) (by kernel_rfl) (fun _ _ _ h => h) (Or.inl ⟨rfl, fun w' hS => by (unfold execOp; go_simp)⟩) hS0 ?_
        simp only [Act.put, List.getElem_toArray, List.getElem_cons_zero, List.getElem_cons_succ, List.setIfInBounds_toArray, List.set_cons_zero, List.set_cons_succ]
        refine wpAnyH_one (i := 21) (by kernel_rfl) rfl rfl (op_skip (w' := V1) (by rw [← hV1]; simp only [putCs]; unfold execOp; go_simp) (And.intro trivial ?_))
        simp only [Act.put, List.getElem_toArray, List.getElem_cons_zero, List.getElem_cons_succ, List.setIfInBounds_toArray, List.set_cons_zero, List.set_cons_succ]
        refine wpAnyH_take (i := 22) (v := (.pointer (some ⟨g, J * 6, none⟩))) rfl (by kernel_rfl) (by kernel_rfl) (by kernel_rfl) (fun _ _ _ h => h) (Or.inl ⟨rfl, fun w' hS => by (unfold execOp; go_simp)⟩) hS0 ?_
        simp only [Act.put, List.getElem_toArray, List.getElem_cons_zero, List.getElem_cons_succ, List.setIfInBounds_toArray, List.set_cons_zero, List.set_cons_succ]
        refine wpAnyH_one (i := 23) (by kernel_rfl) rfl rfl (op_skip (w' := V2) (by rw [← hV2]; simp only [putCs]; unfold execOp; go_simp) (And.intro trivial ?_))
        simp only [Act.put, List.getElem_toArray, List.getElem_cons_zero, List.getElem_cons_succ, List.setIfInBounds_toArray, List.set_cons_zero, List.set_cons_succ]
        refine wpAnyH_done (by kernel_rfl) ?_ _
        try go_wp2
        go_roundg f
        case measure => omega
        case rel =>
          rw [gs] at hV
          exact ⟨k + 1, u1 ++ [a], u2, v1 ++ [b], v2, by have := HK.out; omega, by go_num, by simp, by simp, by have := HK.out; simp; omega, by have := HK.out; simp; omega, (HGR.out.trans hg0).trans hG, hV⟩
      · simp only [Act.put, List.getElem_toArray, List.getElem_cons_zero, List.getElem_cons_succ, List.setIfInBounds_toArray, List.set_cons_zero, List.set_cons_succ]
        refine wpAnyH_one (i := 13) (by kernel_rfl) rfl rfl (op_val (v := .agg #[.string b0, .int .i64 b1, .string b2, .string b3, .slice b4 b5 b6, .slice b7 b8 b9]) (w' := W1) (by unfold execOp; go_simp) (And.intro trivial ?_))
        simp only [Act.put, List.getElem_toArray, List.getElem_cons_zero, List.getElem_cons_succ, List.setIfInBounds_toArray, List.set_cons_zero, List.set_cons_succ]
        refine wpAnyH_take (i := 20) (v := (.pointer (some ⟨g, I * 6, none⟩))) rfl (by kernel_rfl) (by kernel_rfl) (by kernel_rfl) (fun _ _ _ h => h) (Or.inl ⟨rfl, fun w' hS => by (unfold execOp; go_simp)⟩) hS0 ?_
        simp only [Act.put, List.getElem_toArray, List.getElem_cons_zero, List.getElem_cons_succ, List.setIfInBounds_toArray, List.set_cons_zero, List.set_cons_succ]
        refine wpAnyH_one (i := 21) (by kernel_rfl) rfl rfl (op_skip (w' := V1) (by rw [← hV1]; simp only [putCs]; unfold execOp; go_simp) (And.intro trivial ?_))
        simp only [Act.put, List.getElem_toArray, List.getElem_cons_zero, List.getElem_cons_succ, List.setIfInBounds_toArray, List.set_cons_zero, List.set_cons_succ]
        refine wpAnyH_take (i := 22) (v := (.pointer (some ⟨g, J * 6, none⟩))) rfl (by kernel_rfl) (by kernel_rfl) (by kernel_rfl) (fun _ _ _ h => h) (Or.inl ⟨rfl, fun w' hS => by (unfold execOp; go_simp)⟩) hS0 ?_
        simp only [Act.put, List.getElem_toArray, List.getElem_cons_zero, List.getElem_cons_succ, List.setIfInBounds_toArray, List.set_cons_zero, List.set_cons_succ]
        refine wpAnyH_one (i := 23) (by kernel_rfl) rfl rfl (op_skip (w' := V2) (by rw [← hV2]; simp only [putCs]; unfold execOp; go_simp) (And.intro trivial ?_))
        simp only [Act.put, List.getElem_toArray, List.getElem_cons_zero, List.getElem_cons_succ, List.setIfInBounds_toArray, List.set_cons_zero, List.set_cons_succ]
        refine wpAnyH_done (by kernel_rfl) ?_ _
        try go_wp2
        go_roundg f
        case measure => omega
        case rel =>
          rw [gs] at hV
          exact ⟨k + 1, u1 ++ [a], u2, v1 ++ [b], v2, by have := HK.out; omega, by go_num, by simp, by simp, by have := HK.out; simp; omega, by have := HK.out; simp; omega, (HGR.out.trans hg0).trans hG, hV⟩
end Go.Proofs.Ytcfgjfahjaimiaa

namespace Go.Proofs.Ytcfgjfahjaimiaa
open Go.RowKit
set_option linter.unusedVariables false
set_option linter.unusedSimpArgs false

set_option maxRecDepth 100000 in
set_option maxHeartbeats 4000000 in
theorem rot_any (x u v y : List Fi) (w : World) (F : Nat → Prop) (g n cap : Nat) (cf : Value) (hn : (x ++ (u ++ (v ++ y))).length = n) (hn2 : n ≤ 100000) (h : FdT w F g (x ++ (u ++ (v ++ y)))) (hu0 : 0 < u.length) (hv0 : 0 < v.length) (a m b : Nat) (ha : a = x.length) (hm : m = x.length + u.length) (hb : b = x.length + u.length + v.length) :
    Calls Try.prog 83 #[.slice (some ⟨g, 0, none⟩) n cap, .int .i64 a, .int .i64 m, .int .i64 b, cf] w fun e w' => e = .returned (.tuple #[]) ∧ SrtP F g (x ++ (v ++ (u ++ y))) w w' := by
  obtain ⟨t, ht⟩ : ∃ t, x ++ (v ++ (u ++ y)) = t := ⟨_, rfl⟩
  obtain ⟨i0, hi0⟩ : ∃ i, u.length = i := ⟨_, rfl⟩
  obtain ⟨j0, hj0⟩ : ∃ j, v.length = j := ⟨_, rfl⟩
  have HT := Lib.hid ht
  rw [ht]
  have hn1 := hn
  simp only [List.length_append] at hn
  have e1 : (m : Int) - (a : Int) = (i0 : Int) := by omega
  have e2 : (b : Int) - (m : Int) = (j0 : Int) := by omega
  have w1 : IntKind.i64.wrap (i0 : Int) = (i0 : Int) := wrap_nat (by omega)
  have w2 : IntKind.i64.wrap (j0 : Int) = (j0 : Int) := wrap_nat (by omega)
  have HI := Lib.hid (show (x.length + i0 = m ∧ u.length = i0 ∧ v.length = j0 ∧ 0 < i0 ∧ 0 < j0) by omega)
  have HH := Lib.hid (And.intro hn1 h)
  clear hn hn1 h hu0 hv0 ha hm hb ht hi0 hj0
  go_enter Try.func83, Try.ntmps83
  go_wp2
  go_loopg [10, 11] (i0 + j0) (fun gk v10 v11 wr => ∃ (i j : Nat) (P U V S : List Fi), gk = i + j ∧ v10 = .int .i64 i ∧ v11 = .int .i64 j ∧ U.length = i ∧ V.length = j ∧ P.length + i = m ∧ 0 < i ∧ 0 < j ∧ (P ++ (U ++ (V ++ S))).length = n ∧ P ++ (V ++ (U ++ S)) = t ∧ Gr (fun x => x = g) w wr ∧ FdT wr F g (P ++ (U ++ (V ++ S))))
  case atStart => exact ⟨i0, j0, x, u, v, y, rfl, rfl, rfl, HI.out.2.1, HI.out.2.2.1, HI.out.1, HI.out.2.2.2.1, HI.out.2.2.2.2, HH.out.1, HT.out, Gr.refl w, HH.out.2⟩
  case round =>
    obtain ⟨i, j, P, U, V, S, rfl, rfl, rfl, hU, hV, hP, hi, hj, hl, htt, hgr, hfd⟩ := hrel
    clear e1 e2 w1 w2
    have hl2 := hl
    simp only [List.length_append] at hl2
    obtain ⟨A, hA⟩ : ∃ A, P.length = A := ⟨_, rfl⟩
    have e1 : (m : Int) - (i : Int) = (A : Int) := by omega
    have w1 : IntKind.i64.wrap (A : Int) = (A : Int) := wrap_nat (by omega)
    have HGR := Lib.hid hgr
    rcases Nat.lt_trichotomy i j with hij | hij | hij
    · -- the right part is the longer one
      obtain ⟨V1, V2, rfl, hV1⟩ : ∃ V1 V2, V = V1 ++ V2 ∧ V1.length = j - i := ⟨V.take (j - i), V.drop (j - i), (List.take_append_drop _ _).symm, by rw [List.length_take]; omega⟩
      have hV2 : V2.length = i := by rw [List.length_append] at hV; omega
      have el : P ++ (U ++ ((V1 ++ V2) ++ S)) = P ++ (U ++ (V1 ++ (V2 ++ S))) := by simp
      obtain ⟨B, hB⟩ : ∃ B, m + j - i = B := ⟨_, rfl⟩
      rw [el] at hfd hl
      have HC := Lib.hid (swapr_any P U V1 V2 S (by omega) wr F g n cap cf hl (by omega) hfd A B hA.symm (by omega) i hU.symm)
      have f1 : ¬ (i : Int) = (j : Int) := by omega
      have f2 : ((i : Int) == (j : Int)) = false := by simpa using f1
      have f3 : ¬ (j : Int) < (i : Int) := by omega
      have f4 : decide ((j : Int) < (i : Int)) = false := decide_eq_false f3
      have f5 : decide (j < i) = false := decide_eq_false (by omega)
      have e3 : (m : Int) + (j : Int) - (i : Int) = (B : Int) := by omega
      have w3 : IntKind.i64.wrap (B : Int) = (B : Int) := wrap_nat (by omega)
      obtain ⟨d, hd⟩ : ∃ d, j - i = d := ⟨_, rfl⟩
      have e4 : (j : Int) - (i : Int) = (d : Int) := by omega
      have w4 : IntKind.i64.wrap (d : Int) = (d : Int) := wrap_nat (by omega)
      obtain ⟨s, hs⟩ : ∃ s, m + j = s := ⟨_, rfl⟩
      have e5 : (m : Int) + (j : Int) = (s : Int) := by omega
      have e6 : (s : Int) - (i : Int) = (B : Int) := by omega
      have w5 : IntKind.i64.wrap (s : Int) = (s : Int) := wrap_nat (by omega)
      have HZ := Lib.hid (show P ++ (V1 ++ V2 ++ (U ++ S)) = t ∧ V2.length = i ∧ V1.length = d ∧ P.length + i = m ∧ 0 < i ∧ 0 < d ∧ d + i = j ∧ (P ++ (V2 ++ (V1 ++ (U ++ S)))).length = n from ⟨htt, hV2, by omega, hP, hi, by omega, by omega, by simp only [List.length_append]; omega⟩)
      clear hU hV hP hi hj hl hl2 htt hgr hfd hij hV1 hV2 el hB hA hd hs e3
      go_wp2_with (go_at_call 84; (with_reducible refine HC.out.mono ?_); rintro e w2 ⟨rfl, hs2⟩; have HS2 := Lib.hid hs2; clear hs2)
      obtain ⟨z1, z2, z3, z4, z5, z6, z7, z8⟩ := HZ.out
      go_roundg (i + d)
      case measure => omega
      case rel => exact ⟨i, d, P, V2, V1, U ++ S, rfl, rfl, rfl, z2, z3, z4, z5, z6, z8, by rw [← z1]; simp, HGR.out.trans HS2.out.1, HS2.out.2⟩
    · -- both parts are of one length
      subst hij
      have HC := Lib.hid (swapr_any P U [] V S (by omega) wr F g n cap cf hl (by omega) hfd A m hA.symm (by simp; omega) i hU.symm)
      have HT2 := Lib.hid (show P ++ (V ++ ([] ++ (U ++ S))) = t from htt)
      have f1 : ((i : Int) == (i : Int)) = true := by simp
      clear hU hV hP hi hj hl hl2 htt hgr hfd hA
      go_wp2_with (go_at_call 84; (with_reducible refine HC.out.mono ?_); rintro e w2 ⟨rfl, hs2⟩; have HS2 := Lib.hid hs2; clear hs2)
      refine bodyPost_end (results_none rfl _ _ _) rfl ?_
      exact ⟨rfl, HGR.out.trans HS2.out.1, HT2.out ▸ HS2.out.2⟩
    · -- the left part is the longer one
      obtain ⟨U1, U2, rfl, hU1⟩ : ∃ U1 U2, U = U1 ++ U2 ∧ U1.length = j := ⟨U.take j, U.drop j, (List.take_append_drop _ _).symm, by rw [List.length_take]; omega⟩
      have hU2 : U2.length = i - j := by rw [List.length_append] at hU; omega
      have el : P ++ ((U1 ++ U2) ++ (V ++ S)) = P ++ (U1 ++ (U2 ++ (V ++ S))) := by simp
      rw [el] at hfd hl
      have HC := Lib.hid (swapr_any P U1 U2 V S (by omega) wr F g n cap cf hl (by omega) hfd A m hA.symm (by omega) j hU1.symm)
      have f1 : ¬ (i : Int) = (j : Int) := by omega
      have f2 : ((i : Int) == (j : Int)) = false := by simpa using f1
      have f3 : (j : Int) < (i : Int) := by omega
      have f4 : decide ((j : Int) < (i : Int)) = true := decide_eq_true f3
      have f5 : decide (j < i) = true := decide_eq_true (by omega)
      obtain ⟨d, hd⟩ : ∃ d, i - j = d := ⟨_, rfl⟩
      have e4 : (i : Int) - (j : Int) = (d : Int) := by omega
      have w4 : IntKind.i64.wrap (d : Int) = (d : Int) := wrap_nat (by omega)
      have HZ := Lib.hid (show P ++ (V ++ (U1 ++ U2 ++ S)) = t ∧ U2.length = d ∧ U1.length = j ∧ (P ++ V).length + d = m ∧ 0 < d ∧ 0 < j ∧ d + j = i ∧ (P ++ V ++ (U2 ++ (U1 ++ S))).length = n from ⟨htt, by omega, hU1, by rw [List.length_append]; omega, by omega, hj, by omega, by simp only [List.length_append]; omega⟩)
      clear hU hV hP hi hj hl hl2 htt hgr hfd hij hU1 hU2 el hA hd
      go_wp2_with (go_at_call 84; (with_reducible refine HC.out.mono ?_); rintro e w2 ⟨rfl, hs2⟩; have HS2 := Lib.hid hs2; clear hs2)
      obtain ⟨z1, z2, z3, z4, z5, z6, z7, z8⟩ := HZ.out
      go_roundg (d + j)
      case measure => omega
      case rel => exact ⟨d, j, P ++ V, U2, U1, S, rfl, rfl, rfl, z2, z3, z4, z5, z6, z8, by rw [← z1]; simp, HGR.out.trans HS2.out.1, by simpa using HS2.out.2⟩
end Go.Proofs.Ytcfgjfahjaimiaa

namespace Go.Proofs.Ytcfgjfahjaimiaa
open Go.RowKit
set_option linter.unusedVariables false
set_option linter.unusedSimpArgs false

abbrev TF := List (Nat × Fi)
def sn (l : TF) : List Fi := l.map Prod.snd
theorem sn_app (a b : TF) : sn (a ++ b) = sn a ++ sn b := List.map_append
theorem sn_cons (a : Nat × Fi) (b : TF) : sn (a :: b) = a.2 :: sn b := rfl
theorem sn_len (a : TF) : (sn a).length = a.length := List.length_map _
def SdP (F : Nat → Prop) (g : Nat) (x : List Fi) (ts : TF) (y : List Fi) (w : World) (e : Ending) (w' : World) : Prop :=
  e = .returned (.tuple #[]) ∧ ∃ s : TF, s.Perm ts ∧ Srt.Sd ltF s ∧ SrtP F g (x ++ (sn s ++ y)) w w'
set_option maxRecDepth 100000 in
set_option maxHeartbeats 4000000 in
theorem ins_none (x y : List Fi) (w : World) (F : Nat → Prop) (g n cap : Nat) (A : Option Addr) (a : Nat) (hn2 : a ≤ 100000) :
    Calls Try.prog 77 #[.slice A n cap, .int .i64 a, .int .i64 a, .func (Fn.func 50) #[] #[]] w fun e w' => e = .returned (.tuple #[]) ∧ w' = w := by
  obtain ⟨i, hi⟩ : ∃ i, a + 1 = i := ⟨_, rfl⟩
  have e1 : (a : Int) + 1 = (i : Int) := by omega
  have w1 : IntKind.i64.wrap (i : Int) = (i : Int) := wrap_nat (by omega)
  have f1 : ¬ (i : Int) < (a : Int) := by omega
  have f2 : decide (i < a) = false := decide_eq_false (by omega)
  clear hi
  go_enter Try.func77, Try.ntmps77
  go_wp2
  go_loopg [8] 0 (fun gk v8 wr => v8 = .int .i64 i ∧ wr = w)
  case atStart => exact ⟨rfl, rfl⟩
  case round =>
    obtain ⟨rfl, rfl⟩ := hrel
    go_wp2
    refine bodyPost_end (results_none rfl _ _ _) rfl ?_
    exact ⟨rfl, rfl⟩
theorem ins_t {s0 s2 : TF} {c d : Nat × Fi} (h : Srt.Sd ltF (c :: s2)) (h2 : Srt.Sd ltF (s0 ++ d :: s2)) (hq : ltF c.2 d.2 = true) : Srt.Sd ltF (c :: d :: s2) := by
  have h3 := Srt.Sd.right h2
  refine List.pairwise_cons.2 ⟨fun z hz => ?_, h3⟩
  rcases List.mem_cons.1 hz with rfl | hz
  · exact Srt.L.of_true hq
  · exact (List.pairwise_cons.1 h).1 z hz
theorem ins_f {s0 s2 : TF} {c d : Nat × Fi} (h : Srt.Sd ltF (c :: s2)) (h2 : Srt.Sd ltF (s0 ++ d :: s2)) (hq : ltF c.2 d.2 = false) (ht : d.1 < c.1) : Srt.Sd ltF (s0 ++ d :: c :: s2) := by
  have e : s0 ++ d :: c :: s2 = (s0 ++ [d]) ++ c :: s2 := by simp
  rw [e]
  refine Srt.put_split weakF (by simpa using h2) (fun x hx => ?_) (fun y hy => ?_)
  · simp at hx; subst hx; exact Srt.L.of_false hq ht
  · cases s2 with
    | nil => simp at hy
    | cons z s2 => simp at hy; subst hy; exact (List.pairwise_cons.1 h).1 _ (by simp)
theorem ins_p {s0 s2 t1 : TF} {c d : Nat × Fi} (h : (s0 ++ [d] ++ s2).Perm t1) : (s0 ++ d :: c :: s2).Perm (t1 ++ [c]) := by
  have e : s0 ++ d :: c :: s2 = (s0 ++ [d]) ++ c :: s2 := by simp
  rw [e]
  refine List.perm_middle.trans ?_
  exact (List.Perm.cons c h).trans (List.perm_append_comm (l₁ := [c]))
theorem ins_tag {s0 s2 t1 r ts : TF} {c d : Nat × Fi} (h : (s0 ++ [d] ++ s2).Perm t1) (h2 : ts = t1 ++ c :: r) (ht : ts.Pairwise (fun a b => a.1 < b.1)) : d.1 < c.1 := by
  rw [h2] at ht
  exact (List.pairwise_append.1 ht).2.2 d (h.mem_iff.1 (by simp)) c (by simp)
set_option maxRecDepth 100000 in
set_option maxHeartbeats 8000000 in
theorem ins_any (x y : List Fi) (ts : TF) (w : World) (F : Nat → Prop) (g n cap : Nat) (hn : (x ++ (sn ts ++ y)).length = n) (hn2 : n ≤ 100000) (h : FdT w F g (x ++ (sn ts ++ y))) (ht0 : 0 < ts.length) (htag : ts.Pairwise (fun a b => a.1 < b.1)) (a b : Nat) (ha : a = x.length) (hb : b = x.length + ts.length) :
    Calls Try.prog 77 #[.slice (some ⟨g, 0, none⟩) n cap, .int .i64 a, .int .i64 b, .func (Fn.func 50) #[] #[]] w (SdP F g x ts y w) := by
  have hn1 := hn
  simp only [List.length_append, sn_len] at hn1
  obtain ⟨i0, hi0⟩ : ∃ i, a + 1 = i := ⟨_, rfl⟩
  have e1 : (a : Int) + 1 = (i0 : Int) := by omega
  have w1 : IntKind.i64.wrap (i0 : Int) = (i0 : Int) := wrap_nat (by omega)
  cases ts with
  | nil => simp at ht0
  | cons c0 ts =>
  have HH := Lib.hid h
  have HTG := Lib.hid htag
  have HN := Lib.hid (show n ≤ 100000 ∧ a = x.length ∧ b = x.length + (c0 :: ts).length ∧ x.length + (c0 :: ts).length + y.length = n ∧ a + 1 = i0 from ⟨hn2, ha, hb, by omega, hi0⟩)
  clear hn hn1 h ht0 htag ha hb hi0
  go_enter Try.func77, Try.ntmps77
  go_wp2
  go_loopg [8] ts.length (fun gk v8 wr => ∃ (i : Nat) (s t1 r : TF), gk = r.length ∧ v8 = .int .i64 i ∧ c0 :: ts = t1 ++ r ∧ s.Perm t1 ∧ Srt.Sd ltF s ∧ x.length + t1.length = i ∧ Gr (fun x => x = g) w wr ∧ FdT wr F g (x ++ (sn s ++ (sn r ++ y))))
  case atStart => exact ⟨i0, [c0], [c0], ts, rfl, rfl, rfl, .refl _, List.pairwise_singleton _ _, by have := HN.out; simp; omega, Gr.refl w, HH.out⟩
  case round =>
    obtain ⟨i, s, t1, r, rfl, rfl, htr, hp, hs, hi, hgr, hfd⟩ := hrel
    clear e1 w1
    have htl := congrArg List.length htr
    rw [List.length_append] at htl
    obtain ⟨q1, q2, q3, q4, q5⟩ := HN.out
    simp only [List.length_cons] at htl q3 q4
    have HGR := Lib.hid hgr
    cases r with
    | nil =>
      have f1 : ¬ (i : Int) < (b : Int) := by simp at htl; omega
      have f2 : decide (i < b) = false := decide_eq_false (by simp at htl; omega)
      have HE := Lib.hid (show SdP F g x (c0 :: ts) y w (.returned (.tuple #[])) wr from ⟨rfl, s, by rw [htr, List.append_nil]; exact hp, hs, hgr, by simpa [sn] using hfd⟩)
      clear hgr hfd hp hs htr htl hi q1 q2 q3 q4 q5
      go_wp2
      refine bodyPost_end (results_none rfl _ _ _) rfl ?_
      exact HE.out
    | cons c r =>
      have f1 : (i : Int) < (b : Int) := by simp at htl; omega
      have f2 : decide (i < b) = true := decide_eq_true (by simp at htl; omega)
      have HP := Lib.hid (show s.Perm t1 ∧ Srt.Sd ltF s ∧ c0 :: ts = t1 ++ c :: r ∧ x.length + t1.length = i ∧ s.length = t1.length ∧ ts.length + 1 = t1.length + (r.length + 1) from ⟨hp, hs, htr, hi, hp.length_eq, by simpa using htl⟩)
      have HF := Lib.hid hfd
      clear hgr hfd hp hs htr htl hi q1 q2 q3 q4 q5
      go_wp2
      go_loopg [9] s.length (fun gk v9 wr => ∃ (j : Nat) (s1 s2 : TF), gk = s1.length ∧ v9 = .int .i64 j ∧ s = s1 ++ s2 ∧ x.length + s1.length = j ∧ Srt.Sd ltF (c :: s2) ∧ Gr (fun x => x = g) w wr ∧ FdT wr F g (x ++ (sn s1 ++ (c.2 :: (sn s2 ++ (sn r ++ y))))))
      case atStart => exact ⟨i, s, [], rfl, rfl, by simp, by have := HP.out; omega, List.pairwise_singleton _ _, HGR.out, by simpa [sn] using HF.out⟩
      case round =>
        obtain ⟨j, s1, s2, rfl, rfl, rfl, hj, hsd, hgx, hfx⟩ := hrel
        obtain ⟨q1, q2, q3, q4, q5⟩ := HN.out
        obtain ⟨p1, p2, p3, p4, p5, p6⟩ := HP.out
        have HGX := Lib.hid hgx
        rcases List.eq_nil_or_concat s1 with rfl | ⟨s0, d, rfl⟩
        · -- at the beginning
          have g1 : ¬ (a : Int) < (j : Int) := by simp at hj; omega
          have g2 : decide (a < j) = false := decide_eq_false (by simp at hj; omega)
          have HE := Lib.hid (show (c :: s2).Perm (t1 ++ [c]) ∧ Srt.Sd ltF (c :: s2) ∧ FdT wr F g (x ++ (sn (c :: s2) ++ (sn r ++ y))) from ⟨(List.Perm.cons c p1).trans (List.perm_append_comm (l₁ := [c])), hsd, hfx⟩)
          clear hgx hfx hsd hj q1 q2 q3 q4 q5 p1 p2 p3 p4 p5 p6 f1 f2
          go_wp2
          refine wp_region_held_drew (S := fun _ => True) (by kernel_rfl) trivial (fun hS0 => ?_)
          refine wpAnyH_take (i := 0) (v := (.int .i64 (j : Nat))) rfl (by kernel_rfl) (by kernel_rfl) (by kernel_rfl) (fun _ _ _ h => h) (Or.inl ⟨rfl, fun w' hS => by (unfold execOp; go_simp)⟩) hS0 ?_
          simp only [Act.put, List.getElem_toArray, List.getElem_cons_zero, List.getElem_cons_succ, List.setIfInBounds_toArray, List.set_cons_zero, List.set_cons_succ]
          refine wpAnyH_take (i := 1) (v := (.int .i64 (a : Nat))) rfl (by kernel_rfl) (by kernel_rfl) (by kernel_rfl) (fun _ _ _ h => h) (Or.inl ⟨rfl, fun w' hS => by (unfold execOp; go_simp)⟩) hS0 ?_
          simp only [Act.put, List.getElem_toArray, List.getElem_cons_zero, List.getElem_cons_succ, List.setIfInBounds_toArray, List.set_cons_zero, List.set_cons_succ]
          refine wpAnyH_take (i := 2) (v := (.bool false)) rfl (by kernel_rfl) (by kernel_rfl) (by kernel_rfl) (fun _ _ _ h => h) (Or.inl ⟨rfl, fun w' hS => by (unfold execOp; go_simp)⟩) hS0 ?_
          simp only [Act.put, List.getElem_toArray, List.getElem_cons_zero, List.getElem_cons_succ, List.setIfInBounds_toArray, List.set_cons_zero, List.set_cons_succ]
          refine wpAnyH_take (i := 3) (v := (.bool false)) rfl (by kernel_rfl) (by kernel_rfl) (by kernel_rfl) (fun _ _ _ h => h) (Or.inl ⟨rfl, fun w' hS => by (unfold execOp; go_simp)⟩) hS0 ?_
          simp only [Act.put, List.getElem_toArray, List.getElem_cons_zero, List.getElem_cons_succ, List.setIfInBounds_toArray, List.set_cons_zero, List.set_cons_succ]
          refine wpAnyH_take (i := 4) (v := undef) rfl (by kernel_rfl) (by kernel_rfl) (by kernel_rfl) (fun _ _ _ h => h) (Or.inr ⟨by kernel_rfl, rfl⟩) hS0 ?_
          simp only [Act.put, List.getElem_toArray, List.getElem_cons_zero, List.getElem_cons_succ, List.setIfInBounds_toArray, List.set_cons_zero, List.set_cons_succ]
          refine wpAnyH_take (i := 5) (v := undef) rfl (by kernel_rfl) (by kernel_rfl) (by kernel_rfl) (fun _ _ _ h => h) (Or.inr ⟨by kernel_rfl, rfl⟩) hS0 ?_
          simp only [Act.put, List.getElem_toArray, List.getElem_cons_zero, List.getElem_cons_succ, List.setIfInBounds_toArray, List.set_cons_zero, List.set_cons_succ]
          refine wpAnyH_take (i := 6) (v := undef) rfl (by kernel_rfl) (by kernel_rfl) (by kernel_rfl) (fun _ _ _ h => h) (Or.inr ⟨by kernel_rfl, rfl⟩) hS0 ?_
          simp only [Act.put, List.getElem_toArray, List.getElem_cons_zero, List.getElem_cons_succ, List.setIfInBounds_toArray, List.set_cons_zero, List.set_cons_succ]
          refine wpAnyH_take (i := 7) (v := undef) rfl (by kernel_rfl) (by kernel_rfl) (by kernel_rfl) (fun _ _ _ h => h) (Or.inr ⟨by kernel_rfl, rfl⟩) hS0 ?_
          simp only [Act.put, List.getElem_toArray, List.getElem_cons_zero, List.getElem_cons_succ, List.setIfInBounds_toArray, List.set_cons_zero, List.set_cons_succ]
          refine wpAnyH_take (i := 8) (v := undef) rfl (by kernel_rfl) (by kernel_rfl) (by kernel_rfl) (fun _ _ _ h => h) (Or.inr ⟨by kernel_rfl, rfl⟩) hS0 ?_
          simp only [Act.put, List.getElem_toArray, List.getElem_cons_zero, List.getElem_cons_succ, List.setIfInBounds_toArray, List.set_cons_zero, List.set_cons_succ]
          refine wpAnyH_take (i := 9) (v := undef) rfl (by kernel_rfl) (by kernel_rfl) (by kernel_rfl) (fun _ _ _ h => h) (Or.inr ⟨by kernel_rfl, rfl⟩) hS0 ?_
          simp only [Act.put, List.getElem_toArray, List.getElem_cons_zero, List.getElem_cons_succ, List.setIfInBounds_toArray, List.set_cons_zero, List.set_cons_succ]
          refine wpAnyH_take (i := 10) (v := undef) rfl (by kernel_rfl) (by kernel_rfl) (by kernel_rfl) (fun _ _ _ h => h) (Or.inr ⟨by kernel_rfl, rfl⟩) hS0 ?_
          simp only [Act.put, List.getElem_toArray, List.getElem_cons_zero, List.getElem_cons_succ, List.setIfInBounds_toArray, List.set_cons_zero, List.set_cons_succ]
          refine wpAnyH_take (i := 11) (v := undef) rfl (by kernel_rfl) (by kernel_rfl) (by kernel_rfl) (fun _ _ _ h => h) (Or.inr ⟨by kernel_rfl, rfl⟩) hS0 ?_
          simp only [Act.put, List.getElem_toArray, List.getElem_cons_zero, List.getElem_cons_succ, List.setIfInBounds_toArray, List.set_cons_zero, List.set_cons_succ]
          refine wpAnyH_take (i := 12) (v := undef) rfl (by kernel_rfl) (by kernel_rfl) (by kernel_rfl) (fun _ _ _ h => h) (Or.inr ⟨by kernel_rfl, rfl⟩) hS0 ?_
          simp only [Act.put, List.getElem_toArray, List.getElem_cons_zero, List.getElem_cons_succ, List.setIfInBounds_toArray, List.set_cons_zero, List.set_cons_succ]
          refine wpAnyH_take (i := 13) (v := undef) rfl (by kernel_rfl) (by kernel_rfl) (by kernel_rfl) (fun _ _ _ h => h) (Or.inr ⟨by kernel_rfl, rfl⟩) hS0 ?_
          simp only [Act.put, List.getElem_toArray, List.getElem_cons_zero, List.getElem_cons_succ, List.setIfInBounds_toArray, List.set_cons_zero, List.set_cons_succ]
          refine wpAnyH_take (i := 14) (v := undef) rfl (by kernel_rfl) (by kernel_rfl) (by kernel_rfl) (fun _ _ _ h => h) (Or.inr ⟨by kernel_rfl, rfl⟩) hS0 ?_
          simp only [Act.put, List.getElem_toArray, List.getElem_cons_zero, List.getElem_cons_succ, List.setIfInBounds_toArray, List.set_cons_zero, List.set_cons_succ]
          refine wpAnyH_take (i := 15) (v := undef) rfl (by kernel_rfl) (by kernel_rfl) (by kernel_rfl) (fun _ _ _ h => h) (Or.inr ⟨by kernel_rfl, rfl⟩) hS0 ?_
          simp only [Act.put, List.getElem_toArray, List.getElem_cons_zero, List.getElem_cons_succ, List.setIfInBounds_toArray, List.set_cons_zero, List.set_cons_succ]
          refine wpAnyH_take (i := 16) (v := (.bool false)) rfl (by kernel_rfl) (by kernel_rfl) (by kernel_rfl) (fun _ _ _ h => h) (Or.inl ⟨rfl, fun w' hS => by (unfold execOp; go_simp)⟩) hS0 ?_
          simp only [Act.put, List.getElem_toArray, List.getElem_cons_zero, List.getElem_cons_succ, List.setIfInBounds_toArray, List.set_cons_zero, List.set_cons_succ]
          refine wpAnyH_done (by kernel_rfl) ?_ _
          obtain ⟨i1, hi1⟩ : ∃ k, i + 1 = k := ⟨_, rfl⟩
          have e2 : (i : Int) + 1 = (i1 : Int) := by omega
          have w2 : IntKind.i64.wrap (i1 : Int) = (i1 : Int) := wrap_nat (by have := HN.out; have := HP.out; simp only [List.length_cons] at *; omega)
          go_wp2
          go_roundg r.length
          case measure => simp
          case rel =>
            obtain ⟨p1, p2, p3, p4, p5, p6⟩ := HP.out
            obtain ⟨k1, k2, k3⟩ := HE.out
            exact ⟨i1, c :: s2, t1 ++ [c], r, rfl, rfl, by rw [p3]; simp, k1, k2, by rw [List.length_append]; simp; omega, HGX.out.drew, k3.gr (S := fun _ => False) (Gr.refl _).drew (fun h => h) (fun _ _ h => h)⟩
        · rw [List.concat_eq_append] at *
          obtain ⟨P, hP⟩ : ∃ P, x ++ sn s0 = P := ⟨_, rfl⟩
          obtain ⟨Z, hZ⟩ : ∃ Z, sn s2 ++ (sn r ++ y) = Z := ⟨_, rfl⟩
          have el : x ++ (sn (s0 ++ [d]) ++ (c.2 :: (sn s2 ++ (sn r ++ y)))) = P ++ d.2 :: ([] ++ c.2 :: Z) := by rw [← hP, ← hZ, sn_app]; simp [sn]
          rw [el] at hfx
          obtain ⟨I, hI⟩ : ∃ I, P.length = I := ⟨_, rfl⟩
          have lP := congrArg List.length hP
          have lZ := congrArg List.length hZ
          simp only [List.length_append, sn_len, List.length_cons, List.length_nil] at lP lZ hj p5 p6 q3 q4
          have jI : I + 1 = j := by omega
          have gj : (P ++ d.2 :: ([] ++ c.2 :: Z))[j]? = some c.2 := by
            have := sw_get2 P [] Z d.2 c.2
            rwa [hI, List.length_nil, Nat.add_zero, jI] at this
          have gi : (P ++ d.2 :: ([] ++ c.2 :: Z))[I]? = some d.2 := by
            have := sw_get1 P [] Z d.2 c.2
            rwa [hI] at this
          have gs : ((P ++ d.2 :: ([] ++ c.2 :: Z)).set j d.2).set I c.2 = P ++ c.2 :: ([] ++ d.2 :: Z) := by
            have := sw_21 P [] Z d.2 c.2
            rwa [hI, List.length_nil, Nat.add_zero, jI] at this
          have ll : (P ++ d.2 :: ([] ++ c.2 :: Z)).length = n := by simp only [List.length_append, List.length_cons, List.length_nil]; omega
          have iN : I < n := by omega
          have jN : j < n := by omega
          have i0 : (0 : Int) ≤ (I : Int) := by omega
          have j0 : (0 : Int) ≤ (j : Int) := by omega
          have i1 : (I : Int) < (n : Int) := by omega
          have j1 : (j : Int) < (n : Int) := by omega
          have ej : (j : Int) - 1 = (I : Int) := by omega
          have wi : IntKind.i64.wrap (I : Int) = (I : Int) := wrap_nat (by omega)
          have wj : IntKind.i64.wrap (j : Int) = (j : Int) := wrap_nat (by omega)
          have g1 : (a : Int) < (j : Int) := by omega
          have g2 : decide (a < j) = true := decide_eq_true (by omega)
          have n2 : (n : Int) ≤ 100000 := by omega
          obtain ⟨D, hD⟩ : ∃ D, d.2 = D := ⟨_, rfl⟩
          obtain ⟨C, hC⟩ : ∃ C, c.2 = C := ⟨_, rfl⟩
          have hsd2 : Srt.Sd ltF (s0 ++ d :: s2) := by simpa using p2
          cases hq : ltF C D with
          | true =>
            have HZ := Lib.hid (show Srt.Sd ltF (c :: d :: s2) ∧ s0 ++ [d] ++ s2 = s0 ++ d :: s2 ∧ x.length + s0.length = I ∧ P ++ C :: ([] ++ D :: Z) = x ++ (sn s0 ++ (c.2 :: (sn (d :: s2) ++ (sn r ++ y)))) from ⟨ins_t hsd hsd2 (by rw [hC, hD]; exact hq), by simp, by omega, by rw [← hP, ← hZ, ← hC, ← hD]; simp [sn]⟩)
            rw [hD, hC] at hfx gj gi gs ll
            clear hgx hsd hj q1 q2 q3 q4 q5 p1 p2 p3 p4 p5 p6 f1 f2 hP hZ el hI lP lZ jI hD hC hsd2
            go_wp2
            have GL := Lib.hid (hfx.lt)
            obtain ⟨a1, a2, a3, a4, a5, a6, a7, a8, a9, hra, ac0, ac1, ac2, ac3, ac4, ac5⟩ := (hfx).at_ gj
            obtain ⟨a0, an⟩ : ∃ zz, C.name = zz := ⟨_, rfl⟩
            rw [an] at hra ac0
            obtain ⟨b1, b2, b3, b4, b5, b6, b7, b8, b9, hrb, bc0, bc1, bc2, bc3, bc4, bc5⟩ := (hfx).at_ gi
            obtain ⟨b0, bn⟩ : ∃ zz, D.name = zz := ⟨_, rfl⟩
            rw [bn] at hrb bc0
            refine wp_region_held_drew (S := fun V => Below wr.heap.size wr V) (by kernel_rfl) (Below.refl _ _).drew (fun hS0 => ?_)
            generalize wr.drew = W1 at hS0 ⊢
            refine wpAnyH_take (i := 0) (v := (.int .i64 (j : Nat))) rfl (by kernel_rfl) (by kernel_rfl) (by kernel_rfl) (fun _ _ _ h => h) (Or.inl ⟨rfl, fun w' hS => by (unfold execOp; go_simp)⟩) hS0 ?_
            simp only [Act.put, List.getElem_toArray, List.getElem_cons_zero, List.getElem_cons_succ, List.setIfInBounds_toArray, List.set_cons_zero, List.set_cons_succ]
            refine wpAnyH_take (i := 1) (v := (.int .i64 (a : Nat))) rfl (by kernel_rfl) (by kernel_rfl) (by kernel_rfl) (fun _ _ _ h => h) (Or.inl ⟨rfl, fun w' hS => by (unfold execOp; go_simp)⟩) hS0 ?_
            simp only [Act.put, List.getElem_toArray, List.getElem_cons_zero, List.getElem_cons_succ, List.setIfInBounds_toArray, List.set_cons_zero, List.set_cons_succ]
            refine wpAnyH_take (i := 2) (v := (.bool true)) rfl (by kernel_rfl) (by kernel_rfl) (by kernel_rfl) (fun _ _ _ h => h) (Or.inl ⟨rfl, fun w' hS => by (unfold execOp; go_simp)⟩) hS0 ?_
            simp only [Act.put, List.getElem_toArray, List.getElem_cons_zero, List.getElem_cons_succ, List.setIfInBounds_toArray, List.set_cons_zero, List.set_cons_succ]
            refine wpAnyH_take (i := 3) (v := (.bool true)) rfl (by kernel_rfl) (by kernel_rfl) (by kernel_rfl) (fun _ _ _ h => h) (Or.inl ⟨rfl, fun w' hS => by (unfold execOp; go_simp)⟩) hS0 ?_
            simp only [Act.put, List.getElem_toArray, List.getElem_cons_zero, List.getElem_cons_succ, List.setIfInBounds_toArray, List.set_cons_zero, List.set_cons_succ]
            refine wpAnyH_take (i := 4) (v := ((.func (Fn.func 50) #[] #[]))) rfl (by kernel_rfl) (by kernel_rfl) (by kernel_rfl) (fun _ _ _ h => h) (Or.inl ⟨by kernel_rfl, fun w' hS => by (unfold execOp; go_simp)⟩) hS0 ?_
            simp only [Act.put, List.getElem_toArray, List.getElem_cons_zero, List.getElem_cons_succ, List.setIfInBounds_toArray, List.set_cons_zero, List.set_cons_succ]
            refine wpAnyH_take (i := 5) (v := (.slice (some ⟨g, 0, none⟩) n cap)) rfl (by kernel_rfl) (by kernel_rfl) (by kernel_rfl) (fun _ _ _ h => h) (Or.inl ⟨by kernel_rfl, fun w' hS => by (unfold execOp; go_simp)⟩) hS0 ?_
            simp only [Act.put, List.getElem_toArray, List.getElem_cons_zero, List.getElem_cons_succ, List.setIfInBounds_toArray, List.set_cons_zero, List.set_cons_succ]
            refine wpAnyH_take (i := 6) (v := (.int .i64 (j : Nat))) rfl (by kernel_rfl) (by kernel_rfl) (by kernel_rfl) (fun _ _ _ h => h) (Or.inl ⟨by kernel_rfl, fun w' hS => by (unfold execOp; go_simp)⟩) hS0 ?_
            simp only [Act.put, List.getElem_toArray, List.getElem_cons_zero, List.getElem_cons_succ, List.setIfInBounds_toArray, List.set_cons_zero, List.set_cons_succ]
            refine wpAnyH_take (i := 7) (v := (.pointer (some ⟨g, j * 6, none⟩))) rfl (by kernel_rfl) (by kernel_rfl) (by kernel_rfl) (fun _ _ _ h => h) (Or.inl ⟨by kernel_rfl, fun w' hS => by (unfold execOp; go_simp)⟩) hS0 ?_
            simp only [Act.put, List.getElem_toArray, List.getElem_cons_zero, List.getElem_cons_succ, List.setIfInBounds_toArray, List.set_cons_zero, List.set_cons_succ]
            refine wpAnyH_take (i := 8) (v := (.agg #[.string a0, .int .i64 a1, .string a2, .string a3, .slice a4 a5 a6, .slice a7 a8 a9])) rfl (by kernel_rfl) (by kernel_rfl) (by kernel_rfl) (fun _ _ _ h => h) (Or.inl ⟨by kernel_rfl, fun w' hS => by (have y0 := (World.cell?_of_block (hS.block g GL.out)).trans ac0; have y1 := (World.cell?_of_block (hS.block g GL.out)).trans ac1; have y2 := (World.cell?_of_block (hS.block g GL.out)).trans ac2; have y3 := (World.cell?_of_block (hS.block g GL.out)).trans ac3; have y4 := (World.cell?_of_block (hS.block g GL.out)).trans ac4; have y5 := (World.cell?_of_block (hS.block g GL.out)).trans ac5; unfold execOp; go_simp)⟩) hS0 ?_
            simp only [Act.put, List.getElem_toArray, List.getElem_cons_zero, List.getElem_cons_succ, List.setIfInBounds_toArray, List.set_cons_zero, List.set_cons_succ]
            refine wpAnyH_take (i := 9) (v := (.slice (some ⟨g, 0, none⟩) n cap)) rfl (by kernel_rfl) (by kernel_rfl) (by kernel_rfl) (fun _ _ _ h => h) (Or.inl ⟨by kernel_rfl, fun w' hS => by (unfold execOp; go_simp)⟩) hS0 ?_
            simp only [Act.put, List.getElem_toArray, List.getElem_cons_zero, List.getElem_cons_succ, List.setIfInBounds_toArray, List.set_cons_zero, List.set_cons_succ]
            refine wpAnyH_take (i := 10) (v := (.int .i64 (j : Nat))) rfl (by kernel_rfl) (by kernel_rfl) (by kernel_rfl) (fun _ _ _ h => h) (Or.inl ⟨by kernel_rfl, fun w' hS => by (unfold execOp; go_simp)⟩) hS0 ?_
            simp only [Act.put, List.getElem_toArray, List.getElem_cons_zero, List.getElem_cons_succ, List.setIfInBounds_toArray, List.set_cons_zero, List.set_cons_succ]
            refine wpAnyH_take (i := 11) (v := (.int .i64 (I : Nat))) rfl (by kernel_rfl) (by kernel_rfl) (by kernel_rfl) (fun _ _ _ h => h) (Or.inl ⟨by kernel_rfl, fun w' hS => by (unfold execOp; go_simp)⟩) hS0 ?_
            simp only [Act.put, List.getElem_toArray, List.getElem_cons_zero, List.getElem_cons_succ, List.setIfInBounds_toArray, List.set_cons_zero, List.set_cons_succ]
            refine wpAnyH_take (i := 12) (v := (.pointer (some ⟨g, I * 6, none⟩))) rfl (by kernel_rfl) (by kernel_rfl) (by kernel_rfl) (fun _ _ _ h => h) (Or.inl ⟨by kernel_rfl, fun w' hS => by (unfold execOp; go_simp)⟩) hS0 ?_
            simp only [Act.put, List.getElem_toArray, List.getElem_cons_zero, List.getElem_cons_succ, List.setIfInBounds_toArray, List.set_cons_zero, List.set_cons_succ]
            refine wpAnyH_take (i := 13) (v := (.agg #[.string b0, .int .i64 b1, .string b2, .string b3, .slice b4 b5 b6, .slice b7 b8 b9])) rfl (by kernel_rfl) (by kernel_rfl) (by kernel_rfl) (fun _ _ _ h => h) (Or.inl ⟨by kernel_rfl, fun w' hS => by (have y0 := (World.cell?_of_block (hS.block g GL.out)).trans bc0; have y1 := (World.cell?_of_block (hS.block g GL.out)).trans bc1; have y2 := (World.cell?_of_block (hS.block g GL.out)).trans bc2; have y3 := (World.cell?_of_block (hS.block g GL.out)).trans bc3; have y4 := (World.cell?_of_block (hS.block g GL.out)).trans bc4; have y5 := (World.cell?_of_block (hS.block g GL.out)).trans bc5; unfold execOp; go_simp)⟩) hS0 ?_
            simp only [Act.put, List.getElem_toArray, List.getElem_cons_zero, List.getElem_cons_succ, List.setIfInBounds_toArray, List.set_cons_zero, List.set_cons_succ]
            refine wpAnyH_oneG (i := 14) (by kernel_rfl) rfl (by kernel_rfl) (op_call (args := #[.agg #[.string a0, .int .i64 a1, .string a2, .string a3, .slice a4 a5 a6, .slice a7 a8 a9], .agg #[.string b0, .int .i64 b1, .string b2, .string b3, .slice b4 b5 b6, .slice b7 b8 b9]]) (f := 50) (by unfold execOp; go_simp) ((cmp_any C D W1 F F [.string a0, .int .i64 a1, .string a2, .string a3, .slice a4 a5 a6, .slice a7 a8 a9] [.string b0, .int .i64 b1, .string b2, .string b3, .slice b4 b5 b6, .slice b7 b8 b9] (RFi_keeps _ _ _ _ _ _ (fun k _ hl => hS0.block k hl) hS0.size (fun _ _ h => h) hra) (RFi_keeps _ _ _ _ _ _ (fun k _ hl => hS0.block k hl) hS0.size (fun _ _ h => h) hrb)).mono ?_))
            rintro e w2 ⟨⟨nn, rfl, hlt⟩, hb2⟩
            have hS2 := hS0.trans (hb2.mono hS0.size)
            rw [hq] at hlt
            have hn0 : nn < 0 := of_decide_eq_true hlt
            refine And.intro hS2 ?_
            simp only [Act.put, List.getElem_toArray, List.getElem_cons_zero, List.getElem_cons_succ, List.setIfInBounds_toArray, List.set_cons_zero, List.set_cons_succ]
            refine wpAnyH_take (i := 15) (v := (.bool true)) rfl (by kernel_rfl) (by kernel_rfl) (by kernel_rfl) (fun _ _ _ h => h) (Or.inl ⟨by kernel_rfl, fun w' hS => by (unfold execOp; go_simp)⟩) hS2 ?_
            simp only [Act.put, List.getElem_toArray, List.getElem_cons_zero, List.getElem_cons_succ, List.setIfInBounds_toArray, List.set_cons_zero, List.set_cons_succ]
            refine wpAnyH_take (i := 16) (v := (.bool true)) rfl (by kernel_rfl) (by kernel_rfl) (by kernel_rfl) (fun _ _ _ h => h) (Or.inl ⟨rfl, fun w' hS => by (unfold execOp; go_simp)⟩) hS2 ?_
            simp only [Act.put, List.getElem_toArray, List.getElem_cons_zero, List.getElem_cons_succ, List.setIfInBounds_toArray, List.set_cons_zero, List.set_cons_succ]
            refine wpAnyH_done (by kernel_rfl) ?_ _
            go_wp2
            have hf2 := hfx.bel hS2
            have HG2 := Lib.hid (HGX.out.trans (Gr.of_below hS2))
            clear hra hrb
            clear ac0 ac1 ac2 ac3 ac4 ac5 bc0 bc1 bc2 bc3 bc4 bc5
            clear an bn hlt hn0 hb2 hS0 hS2 hfx
            have hfd0 : FdT w2.drew F g (P ++ D :: ([] ++ C :: Z)) := hf2.gr (S := fun _ => False) (Gr.refl _).drew (fun h => h) (fun _ _ h => h)
            have hg0 : Gr (fun x => x = g) w2 w2.drew := (Gr.refl w2).drew
            refine wp_region_held_drew (S := fun _ => True) (by kernel_rfl) trivial (fun hS0 => ?_)
            generalize w2.drew = W1 at hfd0 hg0 ⊢
            obtain ⟨a1, a2, a3, a4, a5, a6, a7, a8, a9, hra, ac0, ac1, ac2, ac3, ac4, ac5⟩ := (hfd0).at_ gj
            obtain ⟨a0, an⟩ : ∃ zz, C.name = zz := ⟨_, rfl⟩
            rw [an] at hra ac0
            obtain ⟨b1, b2, b3, b4, b5, b6, b7, b8, b9, hrb, bc0, bc1, bc2, bc3, bc4, bc5⟩ := (hfd0).at_ gi
            obtain ⟨b0, bn⟩ : ∃ zz, D.name = zz := ⟨_, rfl⟩
            rw [bn] at hrb bc0
            have hP1 := hfd0.put (i := j) (by omega) hrb
            have hG1 := putCs_gr g [.string b0, .int .i64 b1, .string b2, .string b3, .slice b4 b5 b6, .slice b7 b8 b9] (j * 6) W1
            have hV := hfd0.swap (i := j) (j := I) (by omega) (by omega) hra hrb
            have hG := hG1.trans (putCs_gr g [.string a0, .int .i64 a1, .string a2, .string a3, .slice a4 a5 a6, .slice a7 a8 a9] (I * 6) (putCs W1 g (j * 6) [.string b0, .int .i64 b1, .string b2, .string b3, .slice b4 b5 b6, .slice b7 b8 b9]))
            obtain ⟨z, hz⟩ : ∃ z, ((P ++ D :: ([] ++ C :: Z)).set (j) D)[I]? = some z := ⟨_, List.getElem?_eq_getElem (by rw [List.length_set]; omega)⟩
            obtain ⟨z1, z2, z3, z4, z5, z6, z7, z8, z9, hrz, zc0, zc1, zc2, zc3, zc4, zc5⟩ := (hP1).at_ hz
            obtain ⟨z0, zn⟩ : ∃ zz, z.name = zz := ⟨_, rfl⟩
            rw [zn] at hrz zc0
            have fi0 := hfd0.thaw (j * 6)
            have fj0 := hP1.thaw (I * 6)
            have fi1 := hfd0.thaw (j * 6 + 1)
            have fj1 := hP1.thaw (I * 6 + 1)
            have fi2 := hfd0.thaw (j * 6 + 2)
            have fj2 := hP1.thaw (I * 6 + 2)
            have fi3 := hfd0.thaw (j * 6 + 3)
            have fj3 := hP1.thaw (I * 6 + 3)
            have fi4 := hfd0.thaw (j * 6 + 4)
            have fj4 := hP1.thaw (I * 6 + 4)
            have fi5 := hfd0.thaw (j * 6 + 5)
            have fj5 := hP1.thaw (I * 6 + 5)
            have gl := hfd0.lt
            have gl2 := hP1.lt
            obtain ⟨V1, hV1⟩ : ∃ V, putCs W1 g (j * 6) [.string b0, .int .i64 b1, .string b2, .string b3, .slice b4 b5 b6, .slice b7 b8 b9] = V := ⟨_, rfl⟩
            rw [hV1] at hV hG hP1 hG1 hrz zc0 zc1 zc2 zc3 zc4 zc5 fj0 fj1 fj2 fj3 fj4 fj5 gl2
            obtain ⟨V2, hV2⟩ : ∃ V, putCs V1 g (I * 6) [.string a0, .int .i64 a1, .string a2, .string a3, .slice a4 a5 a6, .slice a7 a8 a9] = V := ⟨_, rfl⟩
            rw [hV2] at hV hG
            clear hP1 hG1 hrz hra hrb
            refine wpAnyH_take (i := 0) (v := (.slice (some ⟨g, 0, none⟩) n cap)) rfl (by kernel_rfl) (by kernel_rfl) (by kernel_rfl) (fun _ _ _ h => h) (Or.inl ⟨rfl, fun w' hS => by (unfold execOp; go_simp)⟩) hS0 ?_
            simp only [Act.put, List.getElem_toArray, List.getElem_cons_zero, List.getElem_cons_succ, List.setIfInBounds_toArray, List.set_cons_zero, List.set_cons_succ]
            refine wpAnyH_take (i := 1) (v := (.int .i64 (j : Nat))) rfl (by kernel_rfl) (by kernel_rfl) (by kernel_rfl) (fun _ _ _ h => h) (Or.inl ⟨rfl, fun w' hS => by (unfold execOp; go_simp)⟩) hS0 ?_
            simp only [Act.put, List.getElem_toArray, List.getElem_cons_zero, List.getElem_cons_succ, List.setIfInBounds_toArray, List.set_cons_zero, List.set_cons_succ]
            refine wpAnyH_take (i := 2) (v := (.slice (some ⟨g, 0, none⟩) n cap)) rfl (by kernel_rfl) (by kernel_rfl) (by kernel_rfl) (fun _ _ _ h => h) (Or.inl ⟨rfl, fun w' hS => by (unfold execOp; go_simp)⟩) hS0 ?_
            simp only [Act.put, List.getElem_toArray, List.getElem_cons_zero, List.getElem_cons_succ, List.setIfInBounds_toArray, List.set_cons_zero, List.set_cons_succ]
            refine wpAnyH_take (i := 3) (v := (.int .i64 (j : Nat))) rfl (by kernel_rfl) (by kernel_rfl) (by kernel_rfl) (fun _ _ _ h => h) (Or.inl ⟨rfl, fun w' hS => by (unfold execOp; go_simp)⟩) hS0 ?_
            simp only [Act.put, List.getElem_toArray, List.getElem_cons_zero, List.getElem_cons_succ, List.setIfInBounds_toArray, List.set_cons_zero, List.set_cons_succ]
            refine wpAnyH_take (i := 4) (v := (.int .i64 (I : Nat))) rfl (by kernel_rfl) (by kernel_rfl) (by kernel_rfl) (fun _ _ _ h => h) (Or.inl ⟨rfl, fun w' hS => by (unfold execOp; go_simp)⟩) hS0 ?_
            simp only [Act.put, List.getElem_toArray, List.getElem_cons_zero, List.getElem_cons_succ, List.setIfInBounds_toArray, List.set_cons_zero, List.set_cons_succ]
            refine wpAnyH_take (i := 5) (v := (.slice (some ⟨g, 0, none⟩) n cap)) rfl (by kernel_rfl) (by kernel_rfl) (by kernel_rfl) (fun _ _ _ h => h) (Or.inl ⟨rfl, fun w' hS => by (unfold execOp; go_simp)⟩) hS0 ?_
            simp only [Act.put, List.getElem_toArray, List.getElem_cons_zero, List.getElem_cons_succ, List.setIfInBounds_toArray, List.set_cons_zero, List.set_cons_succ]
            refine wpAnyH_take (i := 6) (v := (.int .i64 (j : Nat))) rfl (by kernel_rfl) (by kernel_rfl) (by kernel_rfl) (fun _ _ _ h => h) (Or.inl ⟨rfl, fun w' hS => by (unfold execOp; go_simp)⟩) hS0 ?_
            simp only [Act.put, List.getElem_toArray, List.getElem_cons_zero, List.getElem_cons_succ, List.setIfInBounds_toArray, List.set_cons_zero, List.set_cons_succ]
            refine wpAnyH_take (i := 7) (v := (.int .i64 (I : Nat))) rfl (by kernel_rfl) (by kernel_rfl) (by kernel_rfl) (fun _ _ _ h => h) (Or.inl ⟨rfl, fun w' hS => by (unfold execOp; go_simp)⟩) hS0 ?_
            simp only [Act.put, List.getElem_toArray, List.getElem_cons_zero, List.getElem_cons_succ, List.setIfInBounds_toArray, List.set_cons_zero, List.set_cons_succ]
            refine wpAnyH_take (i := 8) (v := (.pointer (some ⟨g, I * 6, none⟩))) rfl (by kernel_rfl) (by kernel_rfl) (by kernel_rfl) (fun _ _ _ h => h) (Or.inl ⟨rfl, fun w' hS => by (unfold execOp; go_simp)⟩) hS0 ?_
            simp only [Act.put, List.getElem_toArray, List.getElem_cons_zero, List.getElem_cons_succ, List.setIfInBounds_toArray, List.set_cons_zero, List.set_cons_succ]
            refine wpAnyH_take (i := 10) (v := (.slice (some ⟨g, 0, none⟩) n cap)) rfl (by kernel_rfl) (by kernel_rfl) (by kernel_rfl) (fun _ _ _ h => h) (Or.inl ⟨rfl, fun w' hS => by (unfold execOp; go_simp)⟩) hS0 ?_
            simp only [Act.put, List.getElem_toArray, List.getElem_cons_zero, List.getElem_cons_succ, List.setIfInBounds_toArray, List.set_cons_zero, List.set_cons_succ]
            refine wpAnyH_take (i := 11) (v := (.int .i64 (j : Nat))) rfl (by kernel_rfl) (by kernel_rfl) (by kernel_rfl) (fun _ _ _ h => h) (Or.inl ⟨rfl, fun w' hS => by (unfold execOp; go_simp)⟩) hS0 ?_
            simp only [Act.put, List.getElem_toArray, List.getElem_cons_zero, List.getElem_cons_succ, List.setIfInBounds_toArray, List.set_cons_zero, List.set_cons_succ]
            refine wpAnyH_take (i := 12) (v := (.pointer (some ⟨g, j * 6, none⟩))) rfl (by kernel_rfl) (by kernel_rfl) (by kernel_rfl) (fun _ _ _ h => h) (Or.inl ⟨rfl, fun w' hS => by (unfold execOp; go_simp)⟩) hS0 ?_
            simp only [Act.put, List.getElem_toArray, List.getElem_cons_zero, List.getElem_cons_succ, List.setIfInBounds_toArray, List.set_cons_zero, List.set_cons_succ]
            refine wpAnyH_two (i := 9) (j := 13) (by kernel_rfl) rfl rfl rfl rfl (op_val (v := .agg #[.string b0, .int .i64 b1, .string b2, .string b3, .slice b4 b5 b6, .slice b7 b8 b9]) (w' := W1) (by unfold execOp; go_simp) (And.intro trivial ?_)) (op_val (v := .agg #[.string a0, .int .i64 a1, .string a2, .string a3, .slice a4 a5 a6, .slice a7 a8 a9]) (w' := W1) (by unfold execOp; go_simp) (And.intro trivial ?_))
            · simp only [Act.put, List.getElem_toArray, List.getElem_cons_zero, List.getElem_cons_succ, List.setIfInBounds_toArray, List.set_cons_zero, List.set_cons_succ]
              refine wpAnyH_one (i := 13) (by kernel_rfl) rfl rfl (op_val (v := .agg #[.string a0, .int .i64 a1, .string a2, .string a3, .slice a4 a5 a6, .slice a7 a8 a9]) (w' := W1) (by unfold execOp; go_simp) (And.intro trivial ?_))
              simp only [Act.put, List.getElem_toArray, List.getElem_cons_zero, List.getElem_cons_succ, List.setIfInBounds_toArray, List.set_cons_zero, List.set_cons_succ]
              refine wpAnyH_take (i := 14) (v := (.pointer (some ⟨g, j * 6, none⟩))) rfl (by kernel_rfl) (by kernel_rfl) (by kernel_rfl) (fun _ _ _ h => h) (Or.inl ⟨rfl, fun w' hS => by (unfold execOp; go_simp)⟩) hS0 ?_
              simp only [Act.put, List.getElem_toArray, List.getElem_cons_zero, List.getElem_cons_succ, List.setIfInBounds_toArray, List.set_cons_zero, List.set_cons_succ]
              refine wpAnyH_one (i := 15) (by kernel_rfl) rfl rfl (op_skip (w' := V1) (by rw [← hV1]; simp only [putCs]; unfold execOp; go_simp) (And.intro trivial ?_))
              simp only [Act.put, List.getElem_toArray, List.getElem_cons_zero, List.getElem_cons_succ, List.setIfInBounds_toArray, List.set_cons_zero, List.set_cons_succ]
              refine wpAnyH_take (i := 16) (v := (.pointer (some ⟨g, I * 6, none⟩))) rfl (by kernel_rfl) (by kernel_rfl) (by kernel_rfl) (fun _ _ _ h => h) (Or.inl ⟨rfl, fun w' hS => by (unfold execOp; go_simp)⟩) hS0 ?_
              simp only [Act.put, List.getElem_toArray, List.getElem_cons_zero, List.getElem_cons_succ, List.setIfInBounds_toArray, List.set_cons_zero, List.set_cons_succ]
              refine wpAnyH_one (i := 17) (by kernel_rfl) rfl rfl (op_skip (w' := V2) (by rw [← hV2]; simp only [putCs]; unfold execOp; go_simp) (And.intro trivial ?_))
              simp only [Act.put, List.getElem_toArray, List.getElem_cons_zero, List.getElem_cons_succ, List.setIfInBounds_toArray, List.set_cons_zero, List.set_cons_succ]
              refine wpAnyH_done (by kernel_rfl) ?_ _
              try go_wp2
              go_roundg s0.length
              case measure => simp
              case rel =>
                obtain ⟨z1, z2, z3, z4⟩ := HZ.out
                rw [gs, z4] at hV
                exact ⟨I, s0, d :: s2, rfl, rfl, z2, z3, z1, (HG2.out.trans hg0).trans hG, hV⟩
            · simp only [Act.put, List.getElem_toArray, List.getElem_cons_zero, List.getElem_cons_succ, List.setIfInBounds_toArray, List.set_cons_zero, List.set_cons_succ]
              refine wpAnyH_one (i := 9) (by kernel_rfl) rfl rfl (op_val (v := .agg #[.string b0, .int .i64 b1, .string b2, .string b3, .slice b4 b5 b6, .slice b7 b8 b9]) (w' := W1) (by unfold execOp; go_simp) (And.intro trivial ?_))
              simp only [Act.put, List.getElem_toArray, List.getElem_cons_zero, List.getElem_cons_succ, List.setIfInBounds_toArray, List.set_cons_zero, List.set_cons_succ]
              refine wpAnyH_take (i := 14) (v := (.pointer (some ⟨g, j * 6, none⟩))) rfl (by kernel_rfl) (by kernel_rfl) (by kernel_rfl) (fun _ _ _ h => h) (Or.inl ⟨rfl, fun w' hS => by (unfold execOp; go_simp)⟩) hS0 ?_
              simp only [Act.put, List.getElem_toArray, List.getElem_cons_zero, List.getElem_cons_succ, List.setIfInBounds_toArray, List.set_cons_zero, List.set_cons_succ]
              refine wpAnyH_one (i := 15) (by kernel_rfl) rfl rfl (op_skip (w' := V1) (by rw [← hV1]; simp only [putCs]; unfold execOp; go_simp) (And.intro trivial ?_))
              simp only [Act.put, List.getElem_toArray, List.getElem_cons_zero, List.getElem_cons_succ, List.setIfInBounds_toArray, List.set_cons_zero, List.set_cons_succ]
              refine wpAnyH_take (i := 16) (v := (.pointer (some ⟨g, I * 6, none⟩))) rfl (by kernel_rfl) (by kernel_rfl) (by kernel_rfl) (fun _ _ _ h => h) (Or.inl ⟨rfl, fun w' hS => by (unfold execOp; go_simp)⟩) hS0 ?_
              simp only [Act.put, List.getElem_toArray, List.getElem_cons_zero, List.getElem_cons_succ, List.setIfInBounds_toArray, List.set_cons_zero, List.set_cons_succ]
              refine wpAnyH_one (i := 17) (by kernel_rfl) rfl rfl (op_skip (w' := V2) (by rw [← hV2]; simp only [putCs]; unfold execOp; go_simp) (And.intro trivial ?_))
              simp only [Act.put, List.getElem_toArray, List.getElem_cons_zero, List.getElem_cons_succ, List.setIfInBounds_toArray, List.set_cons_zero, List.set_cons_succ]
              refine wpAnyH_done (by kernel_rfl) ?_ _
              try go_wp2
              go_roundg s0.length
              case measure => simp
              case rel =>
                obtain ⟨z1, z2, z3, z4⟩ := HZ.out
                rw [gs, z4] at hV
                exact ⟨I, s0, d :: s2, rfl, rfl, z2, z3, z1, (HG2.out.trans hg0).trans hG, hV⟩
          | false =>
            have HE := Lib.hid (show (s0 ++ d :: c :: s2).Perm (t1 ++ [c]) ∧ Srt.Sd ltF (s0 ++ d :: c :: s2) ∧ FdT wr F g (x ++ (sn (s0 ++ d :: c :: s2) ++ (sn r ++ y))) from ⟨ins_p p1, ins_f hsd hsd2 (by rw [hC, hD]; exact hq) (ins_tag p1 p3 HTG.out), by rw [← el] at hfx; simpa [sn] using hfx⟩)
            rw [hD, hC] at hfx gj gi gs ll
            clear hgx hsd hj q1 q2 q3 q4 q5 p1 p2 p3 p4 p5 p6 f1 f2 hP hZ el hI lP lZ jI hD hC hsd2
            go_wp2
            have GL := Lib.hid (hfx.lt)
            obtain ⟨a1, a2, a3, a4, a5, a6, a7, a8, a9, hra, ac0, ac1, ac2, ac3, ac4, ac5⟩ := (hfx).at_ gj
            obtain ⟨a0, an⟩ : ∃ zz, C.name = zz := ⟨_, rfl⟩
            rw [an] at hra ac0
            obtain ⟨b1, b2, b3, b4, b5, b6, b7, b8, b9, hrb, bc0, bc1, bc2, bc3, bc4, bc5⟩ := (hfx).at_ gi
            obtain ⟨b0, bn⟩ : ∃ zz, D.name = zz := ⟨_, rfl⟩
            rw [bn] at hrb bc0
            refine wp_region_held_drew (S := fun V => Below wr.heap.size wr V) (by kernel_rfl) (Below.refl _ _).drew (fun hS0 => ?_)
            generalize wr.drew = W1 at hS0 ⊢
            refine wpAnyH_take (i := 0) (v := (.int .i64 (j : Nat))) rfl (by kernel_rfl) (by kernel_rfl) (by kernel_rfl) (fun _ _ _ h => h) (Or.inl ⟨rfl, fun w' hS => by (unfold execOp; go_simp)⟩) hS0 ?_
            simp only [Act.put, List.getElem_toArray, List.getElem_cons_zero, List.getElem_cons_succ, List.setIfInBounds_toArray, List.set_cons_zero, List.set_cons_succ]
            refine wpAnyH_take (i := 1) (v := (.int .i64 (a : Nat))) rfl (by kernel_rfl) (by kernel_rfl) (by kernel_rfl) (fun _ _ _ h => h) (Or.inl ⟨rfl, fun w' hS => by (unfold execOp; go_simp)⟩) hS0 ?_
            simp only [Act.put, List.getElem_toArray, List.getElem_cons_zero, List.getElem_cons_succ, List.setIfInBounds_toArray, List.set_cons_zero, List.set_cons_succ]
            refine wpAnyH_take (i := 2) (v := (.bool true)) rfl (by kernel_rfl) (by kernel_rfl) (by kernel_rfl) (fun _ _ _ h => h) (Or.inl ⟨rfl, fun w' hS => by (unfold execOp; go_simp)⟩) hS0 ?_
            simp only [Act.put, List.getElem_toArray, List.getElem_cons_zero, List.getElem_cons_succ, List.setIfInBounds_toArray, List.set_cons_zero, List.set_cons_succ]
            refine wpAnyH_take (i := 3) (v := (.bool true)) rfl (by kernel_rfl) (by kernel_rfl) (by kernel_rfl) (fun _ _ _ h => h) (Or.inl ⟨rfl, fun w' hS => by (unfold execOp; go_simp)⟩) hS0 ?_
            simp only [Act.put, List.getElem_toArray, List.getElem_cons_zero, List.getElem_cons_succ, List.setIfInBounds_toArray, List.set_cons_zero, List.set_cons_succ]
            refine wpAnyH_take (i := 4) (v := ((.func (Fn.func 50) #[] #[]))) rfl (by kernel_rfl) (by kernel_rfl) (by kernel_rfl) (fun _ _ _ h => h) (Or.inl ⟨by kernel_rfl, fun w' hS => by (unfold execOp; go_simp)⟩) hS0 ?_
            simp only [Act.put, List.getElem_toArray, List.getElem_cons_zero, List.getElem_cons_succ, List.setIfInBounds_toArray, List.set_cons_zero, List.set_cons_succ]
            refine wpAnyH_take (i := 5) (v := (.slice (some ⟨g, 0, none⟩) n cap)) rfl (by kernel_rfl) (by kernel_rfl) (by kernel_rfl) (fun _ _ _ h => h) (Or.inl ⟨by kernel_rfl, fun w' hS => by (unfold execOp; go_simp)⟩) hS0 ?_
            simp only [Act.put, List.getElem_toArray, List.getElem_cons_zero, List.getElem_cons_succ, List.setIfInBounds_toArray, List.set_cons_zero, List.set_cons_succ]
            refine wpAnyH_take (i := 6) (v := (.int .i64 (j : Nat))) rfl (by kernel_rfl) (by kernel_rfl) (by kernel_rfl) (fun _ _ _ h => h) (Or.inl ⟨by kernel_rfl, fun w' hS => by (unfold execOp; go_simp)⟩) hS0 ?_
            simp only [Act.put, List.getElem_toArray, List.getElem_cons_zero, List.getElem_cons_succ, List.setIfInBounds_toArray, List.set_cons_zero, List.set_cons_succ]
            refine wpAnyH_take (i := 7) (v := (.pointer (some ⟨g, j * 6, none⟩))) rfl (by kernel_rfl) (by kernel_rfl) (by kernel_rfl) (fun _ _ _ h => h) (Or.inl ⟨by kernel_rfl, fun w' hS => by (unfold execOp; go_simp)⟩) hS0 ?_
            simp only [Act.put, List.getElem_toArray, List.getElem_cons_zero, List.getElem_cons_succ, List.setIfInBounds_toArray, List.set_cons_zero, List.set_cons_succ]
            refine wpAnyH_take (i := 8) (v := (.agg #[.string a0, .int .i64 a1, .string a2, .string a3, .slice a4 a5 a6, .slice a7 a8 a9])) rfl (by kernel_rfl) (by kernel_rfl) (by kernel_rfl) (fun _ _ _ h => h) (Or.inl ⟨by kernel_rfl, fun w' hS => by (have y0 := (World.cell?_of_block (hS.block g GL.out)).trans ac0; have y1 := (World.cell?_of_block (hS.block g GL.out)).trans ac1; have y2 := (World.cell?_of_block (hS.block g GL.out)).trans ac2; have y3 := (World.cell?_of_block (hS.block g GL.out)).trans ac3; have y4 := (World.cell?_of_block (hS.block g GL.out)).trans ac4; have y5 := (World.cell?_of_block (hS.block g GL.out)).trans ac5; unfold execOp; go_simp)⟩) hS0 ?_
            simp only [Act.put, List.getElem_toArray, List.getElem_cons_zero, List.getElem_cons_succ, List.setIfInBounds_toArray, List.set_cons_zero, List.set_cons_succ]
            refine wpAnyH_take (i := 9) (v := (.slice (some ⟨g, 0, none⟩) n cap)) rfl (by kernel_rfl) (by kernel_rfl) (by kernel_rfl) (fun _ _ _ h => h) (Or.inl ⟨by kernel_rfl, fun w' hS => by (unfold execOp; go_simp)⟩) hS0 ?_
            simp only [Act.put, List.getElem_toArray, List.getElem_cons_zero, List.getElem_cons_succ, List.setIfInBounds_toArray, List.set_cons_zero, List.set_cons_succ]
            refine wpAnyH_take (i := 10) (v := (.int .i64 (j : Nat))) rfl (by kernel_rfl) (by kernel_rfl) (by kernel_rfl) (fun _ _ _ h => h) (Or.inl ⟨by kernel_rfl, fun w' hS => by (unfold execOp; go_simp)⟩) hS0 ?_
            simp only [Act.put, List.getElem_toArray, List.getElem_cons_zero, List.getElem_cons_succ, List.setIfInBounds_toArray, List.set_cons_zero, List.set_cons_succ]
            refine wpAnyH_take (i := 11) (v := (.int .i64 (I : Nat))) rfl (by kernel_rfl) (by kernel_rfl) (by kernel_rfl) (fun _ _ _ h => h) (Or.inl ⟨by kernel_rfl, fun w' hS => by (unfold execOp; go_simp)⟩) hS0 ?_
            simp only [Act.put, List.getElem_toArray, List.getElem_cons_zero, List.getElem_cons_succ, List.setIfInBounds_toArray, List.set_cons_zero, List.set_cons_succ]
            refine wpAnyH_take (i := 12) (v := (.pointer (some ⟨g, I * 6, none⟩))) rfl (by kernel_rfl) (by kernel_rfl) (by kernel_rfl) (fun _ _ _ h => h) (Or.inl ⟨by kernel_rfl, fun w' hS => by (unfold execOp; go_simp)⟩) hS0 ?_
            simp only [Act.put, List.getElem_toArray, List.getElem_cons_zero, List.getElem_cons_succ, List.setIfInBounds_toArray, List.set_cons_zero, List.set_cons_succ]
            refine wpAnyH_take (i := 13) (v := (.agg #[.string b0, .int .i64 b1, .string b2, .string b3, .slice b4 b5 b6, .slice b7 b8 b9])) rfl (by kernel_rfl) (by kernel_rfl) (by kernel_rfl) (fun _ _ _ h => h) (Or.inl ⟨by kernel_rfl, fun w' hS => by (have y0 := (World.cell?_of_block (hS.block g GL.out)).trans bc0; have y1 := (World.cell?_of_block (hS.block g GL.out)).trans bc1; have y2 := (World.cell?_of_block (hS.block g GL.out)).trans bc2; have y3 := (World.cell?_of_block (hS.block g GL.out)).trans bc3; have y4 := (World.cell?_of_block (hS.block g GL.out)).trans bc4; have y5 := (World.cell?_of_block (hS.block g GL.out)).trans bc5; unfold execOp; go_simp)⟩) hS0 ?_
            simp only [Act.put, List.getElem_toArray, List.getElem_cons_zero, List.getElem_cons_succ, List.setIfInBounds_toArray, List.set_cons_zero, List.set_cons_succ]
            refine wpAnyH_oneG (i := 14) (by kernel_rfl) rfl (by kernel_rfl) (op_call (args := #[.agg #[.string a0, .int .i64 a1, .string a2, .string a3, .slice a4 a5 a6, .slice a7 a8 a9], .agg #[.string b0, .int .i64 b1, .string b2, .string b3, .slice b4 b5 b6, .slice b7 b8 b9]]) (f := 50) (by unfold execOp; go_simp) ((cmp_any C D W1 F F [.string a0, .int .i64 a1, .string a2, .string a3, .slice a4 a5 a6, .slice a7 a8 a9] [.string b0, .int .i64 b1, .string b2, .string b3, .slice b4 b5 b6, .slice b7 b8 b9] (RFi_keeps _ _ _ _ _ _ (fun k _ hl => hS0.block k hl) hS0.size (fun _ _ h => h) hra) (RFi_keeps _ _ _ _ _ _ (fun k _ hl => hS0.block k hl) hS0.size (fun _ _ h => h) hrb)).mono ?_))
            rintro e w2 ⟨⟨nn, rfl, hlt⟩, hb2⟩
            have hS2 := hS0.trans (hb2.mono hS0.size)
            rw [hq] at hlt
            have hn0 : ¬ nn < 0 := of_decide_eq_false hlt
            refine And.intro hS2 ?_
            simp only [Act.put, List.getElem_toArray, List.getElem_cons_zero, List.getElem_cons_succ, List.setIfInBounds_toArray, List.set_cons_zero, List.set_cons_succ]
            refine wpAnyH_take (i := 15) (v := (.bool false)) rfl (by kernel_rfl) (by kernel_rfl) (by kernel_rfl) (fun _ _ _ h => h) (Or.inl ⟨by kernel_rfl, fun w' hS => by (unfold execOp; go_simp)⟩) hS2 ?_
            simp only [Act.put, List.getElem_toArray, List.getElem_cons_zero, List.getElem_cons_succ, List.setIfInBounds_toArray, List.set_cons_zero, List.set_cons_succ]
            refine wpAnyH_take (i := 16) (v := (.bool false)) rfl (by kernel_rfl) (by kernel_rfl) (by kernel_rfl) (fun _ _ _ h => h) (Or.inl ⟨rfl, fun w' hS => by (unfold execOp; go_simp)⟩) hS2 ?_
            simp only [Act.put, List.getElem_toArray, List.getElem_cons_zero, List.getElem_cons_succ, List.setIfInBounds_toArray, List.set_cons_zero, List.set_cons_succ]
            refine wpAnyH_done (by kernel_rfl) ?_ _
            obtain ⟨i2, hi2⟩ : ∃ k, i + 1 = k := ⟨_, rfl⟩
            have e2 : (i : Int) + 1 = (i2 : Int) := by omega
            have w2' : IntKind.i64.wrap (i2 : Int) = (i2 : Int) := wrap_nat (by have := HN.out; have := HP.out; simp only [List.length_cons] at *; omega)
            go_wp2
            go_roundg r.length
            case measure => simp
            case rel =>
              obtain ⟨p1, p2, p3, p4, p5, p6⟩ := HP.out
              obtain ⟨k1, k2, k3⟩ := HE.out
              exact ⟨i2, s0 ++ d :: c :: s2, t1 ++ [c], r, rfl, rfl, by rw [p3]; simp, k1, k2, by rw [List.length_append]; simp; omega, HGX.out.trans (Gr.of_below hS2), k3.bel hS2⟩
end Go.Proofs.Ytcfgjfahjaimiaa
