/-
  The pure parser with enough fuel never runs out, and goes on through its tokens.
-/
import Derived.Test.YtihnnbeepfgphaaGreatDoorParA
namespace Go.Proofs.YtihnnbeepfgphaaGreatDoor
open Go.RowKit
set_option linter.unusedVariables false
set_option linter.unusedSimpArgs false

def lvl : NT → Nat
  | .expr => 5 | .binary _ => 4 | .unary => 3 | .behind _ => 2 | .first => 2 | .firstMark => 1
  | .list _ => 6 | .call _ _ => 1 | .param => 1 | .field => 1 | .typeOf => 1 | .head _ => 1 | .otherwise => 1 | .decl => 1
  | .simple => 6 | .stat => 7 | .stats _ => 8 | .parts _ _ => 6 | .decls _ => 2
  | _ => 0
def eats : NT → Nat
  | .bins _ _ => 0 | .behind _ => 0 | .lists _ _ => 0 | .stats _ => 0 | .imports _ => 0 | .decls _ => 0 | .parts _ _ => 0
  | _ => 1
def okN (l : List T) : NT → Prop
  | .binary k => 1 ≤ k
  | .bins k _ => 1 ≤ k
  | .leap _ => mark l ≠ []
  | .makeCall => mark l ≠ []
  | .within a c _ => a ≠ [] ∧ c ≠ []
  | _ => True
/-- Tokens as a text has them, all of whose places are P at most. -/
def gd (P : Nat) (l : List T) : Prop := good l ∧ ∀ x ∈ l, x.2 ≤ P
def Fine (P c m : Nat) : R → Prop
  | .ok _ l' => gd P l' ∧ l'.length + c ≤ m
  | .bad a e => a ≤ P ∧ (e = 5 ∨ e = 3)
  | .out => False
section
variable {P : Nat}
theorem Fine.out {c m : Nat} {r : R} (h : Fine P c m r) : r ≠ .out := by rintro rfl; exact h
theorem Fine.mono {c m c' m' : Nat} {r : R} (h : Fine P c m r) (hm : m + c' ≤ m' + c) : Fine P c' m' r := by
  cases r with
  | ok t l => exact ⟨h.1, by have := h.2; omega⟩
  | bad a e => exact h
  | out => exact h
theorem good_ne {l : List T} (h : gd P l) : ∃ x r, l = x :: r ∧ x.2 ≤ P := by
  cases l with
  | nil => exact absurd h.1 id
  | cons x r => exact ⟨x, r, rfl, h.2 x (by simp)⟩
theorem good_tail {x : T} {r : List T} (h : gd P (x :: r)) (hx : x.1.k ≠ 0) : gd P r := by
  have h1 := h.1
  have : good (x :: r) = if x.1.k = 0 then r = [] ∧ x.1.t = [] ∧ x.1.n = 0 else good r := rfl
  rw [this, if_neg hx] at h1
  exact ⟨h1, fun y hy => h.2 y (by simp [hy])⟩
theorem mark_kind {x : T} {r : List T} (hm : mark (x :: r) ≠ []) : x.1.k ≠ 0 := by
  intro h0
  have : mark (x :: r) = if x.1.k = 2 ∨ x.1.k = 5 then x.1.t else [] := rfl
  rw [this, h0] at hm
  simp at hm
theorem Fine.ok {c m : Nat} {t : Tr} {l : List T} (h : gd P l) (hm : l.length + c ≤ m) : Fine P c m (.ok t l) := ⟨h, hm⟩
theorem Fine.refuse {c m : Nat} {l : List T} (h : gd P l) : Fine P c m (refuse l) := by
  obtain ⟨x, r, rfl, hx⟩ := good_ne h
  exact ⟨hx, .inl rfl⟩
theorem Fine.bnd {c m c' m' : Nat} {r : R} {f : Tr → List T → R} (h : Fine P c m r) (hf : ∀ t l, gd P l → l.length + c ≤ m → Fine P c' m' (f t l)) : Fine P c' m' (bnd r f) := by
  cases r with
  | ok t l => exact hf t l h.1 h.2
  | bad a e => exact h
  | out => exact h
theorem Fine.take {c m : Nat} {l : List T} {f : T → List T → R} (h : gd P l) (hm : mark l ≠ [] ∨ kind l ≠ 0) (hf : ∀ x r, l = x :: r → gd P r → r.length + 1 = l.length → Fine P c m (f x r)) : Fine P c m (takeR l f) := by
  obtain ⟨x, r, rfl, _⟩ := good_ne h
  have hk : x.1.k ≠ 0 := by
    rcases hm with hm | hm
    · exact mark_kind hm
    · exact hm
  exact hf x r rfl (good_tail h hk) rfl
theorem Fine.peek {c m : Nat} {l : List T} {f : T → List T → R} (h : gd P l) (hf : ∀ x r, l = x :: r → Fine P c m (f x r)) : Fine P c m (takeR l f) := by
  obtain ⟨x, r, rfl, _⟩ := good_ne h
  exact hf x r rfl
theorem Fine.want {c m : Nat} {l : List T} {s : List UInt8} {f : T → List T → R} (h : gd P l) (hs : s ≠ []) (hf : ∀ x r, l = x :: r → gd P r → r.length + 1 = l.length → Fine P c m (f x r)) : Fine P c m (want s l f) := by
  unfold Go.Proofs.YtihnnbeepfgphaaGreatDoor.want
  split
  · next hm => exact Fine.take h (.inl (by rw [hm]; exact hs)) hf
  · exact Fine.refuse h
theorem Fine.wantK {c m : Nat} {l : List T} {k : Int} {f : T → List T → R} (h : gd P l) (hs : k ≠ 0) (hf : ∀ x r, l = x :: r → gd P r → r.length + 1 = l.length → Fine P c m (f x r)) : Fine P c m (wantK k l f) := by
  unfold Go.Proofs.YtihnnbeepfgphaaGreatDoor.wantK
  split
  · next hm => exact Fine.take h (.inr (by rw [hm]; exact hs)) hf
  · exact Fine.refuse h
theorem Fine.enter {c m o : Nat} {l : List T} {s : List UInt8} {f : T → List T → R} (h : gd P l) (hs : s ≠ []) (hf : ∀ x r, l = x :: r → gd P r → r.length + 1 = l.length → Fine P c m (f x r)) : Fine P c m (enter s l o f) := by
  unfold Go.Proofs.YtihnnbeepfgphaaGreatDoor.enter
  refine Fine.want h hs fun x r h1 h2 h3 => ?_
  split
  · exact ⟨h.2 x (by rw [h1]; simp), .inr rfl⟩
  · exact hf x r h1 h2 h3
end
theorem op_mark {l : List T} {k : Nat} (hk : 1 ≤ k) (h : ¬ (opOf (mark l)).2 < k) : mark l ≠ [] := by
  intro e
  rw [e] at h
  exact h (by show 0 < k; omega)
theorem builtin_mark {l : List T} (h : builtin (mark l) = true) : mark l ≠ [] := by
  intro e
  rw [e] at h
  exact absurd h (by decide)
theorem isT_mark {l : List T} (h : isT (mark l) = true) : mark l ≠ [] := by
  intro e
  rw [e] at h
  exact absurd h (by decide)
theorem pt_eats (p : Pt) : eats p.nt = 1 := by cases p <;> rfl
theorem pt_lvl (p : Pt) : lvl p.nt ≤ 5 := by cases p <;> decide
theorem pt_ok (p : Pt) (l : List T) : okN l p.nt := by cases p <;> trivial

theorem Fine.takeM {P c m : Nat} {l : List T} {s : List UInt8} {f : T → List T → R} (h : gd P l) (hm : mark l = s) (hs : s ≠ []) (hf : ∀ x r, l = x :: r → gd P r → r.length + 1 = l.length → Fine P c m (f x r)) : Fine P c m (takeR l f) := Fine.take h (.inl (by rw [hm]; exact hs)) hf
theorem Fine.takeK {P c m : Nat} {l : List T} {k : Int} {f : T → List T → R} (h : gd P l) (hm : kind l = k) (hs : k ≠ 0) (hf : ∀ x r, l = x :: r → gd P r → r.length + 1 = l.length → Fine P c m (f x r)) : Fine P c m (takeR l f) := Fine.take h (.inr (by rw [hm]; exact hs)) hf
theorem ok_leap {l : List T} {s : List UInt8} (k : Int) (h : mark l = s) (hs : s ≠ []) : okN l (.leap k) := by show mark l ≠ []; rw [h]; exact hs
theorem ok_make {l : List T} {s : List UInt8} (h : mark l = s) (hs : s ≠ []) : okN l .makeCall := by show mark l ≠ []; rw [h]; exact hs
theorem fine_go {P : Nat} : ∀ (n : Nat) (nt : NT) (l : List T) (o : Nat), gd P l → okN l nt → 10 * l.length + lvl nt < n → Fine P (eats nt) l.length (go n nt l o)
  | 0, _, _, _, _, _, h => by omega
  | n + 1, nt, l, o, hg, hk, hn => by
    have ih := fine_go (P := P) n
    have hp := pt_eats
    have hq := pt_lvl
    cases nt
    case expr  =>
      simp only [lvl] at hn
      simp only [go]
      repeat (first
        | (with_reducible refine Fine.want (by assumption) (by first | (simp; done) | exact hk2.1 | exact hk2.2) ?_; intro x r _ _ hl)
        | (with_reducible refine Fine.wantK (by assumption) (by simp) ?_; intro x r _ _ hl)
        | (with_reducible refine Fine.enter (by assumption) (by first | (simp; done) | exact hk2.1) ?_; intro x r _ _ hl)
        | split
        | exact True.intro
        | (refine Fine.takeM (by assumption) (by assumption) (by simp) ?_; intro x r _ _ hl)
        | (refine Fine.takeK (by assumption) (by assumption) (by simp) ?_; intro x r _ _ hl)
        | (refine Fine.take (by assumption) (by first | exact .inl hk | exact .inl (builtin_mark (by assumption)) | exact .inl (isT_mark (by assumption)) | exact .inl (op_mark hk (by assumption))) ?_; intro x r _ _ hl)
        | (refine Fine.bnd (ih _ _ _ (by assumption) (by first | trivial | exact pt_ok _ _ | exact ok_leap _ (by assumption) (by simp) | exact ok_make (by assumption) (by simp) | exact And.intro (by simp) (by simp) | exact hk | (show 1 ≤ _; omega)) (by first | (simp only [lvl]; omega) | (have := pt_lvl p; omega))) ?_; intro t l _ hl; first | rw [pt_eats] at hl | simp only [eats] at hl)
        | exact Fine.refuse (by assumption)
        | exact Fine.ok (by assumption) (by first | (rw [pt_eats]; omega) | (simp only [eats]; omega) | (simp only [eats, pt_eats]; omega))
        | (refine Fine.mono (ih _ _ _ (by assumption) (by first | trivial | exact pt_ok _ _ | exact ok_leap _ (by assumption) (by simp) | exact ok_make (by assumption) (by simp) | exact And.intro (by simp) (by simp) | exact hk | (show 1 ≤ _; omega)) (by first | (simp only [lvl]; omega) | (have := pt_lvl p; omega))) (by first | (rw [pt_eats]; omega) | (simp only [eats]; omega) | (simp only [eats, pt_eats]; omega))))
    case binary k =>
      simp only [lvl] at hn
      simp only [go]
      repeat (first
        | (with_reducible refine Fine.want (by assumption) (by first | (simp; done) | exact hk2.1 | exact hk2.2) ?_; intro x r _ _ hl)
        | (with_reducible refine Fine.wantK (by assumption) (by simp) ?_; intro x r _ _ hl)
        | (with_reducible refine Fine.enter (by assumption) (by first | (simp; done) | exact hk2.1) ?_; intro x r _ _ hl)
        | split
        | exact True.intro
        | (refine Fine.takeM (by assumption) (by assumption) (by simp) ?_; intro x r _ _ hl)
        | (refine Fine.takeK (by assumption) (by assumption) (by simp) ?_; intro x r _ _ hl)
        | (refine Fine.take (by assumption) (by first | exact .inl hk | exact .inl (builtin_mark (by assumption)) | exact .inl (isT_mark (by assumption)) | exact .inl (op_mark hk (by assumption))) ?_; intro x r _ _ hl)
        | (refine Fine.bnd (ih _ _ _ (by assumption) (by first | trivial | exact pt_ok _ _ | exact ok_leap _ (by assumption) (by simp) | exact ok_make (by assumption) (by simp) | exact And.intro (by simp) (by simp) | exact hk | (show 1 ≤ _; omega)) (by first | (simp only [lvl]; omega) | (have := pt_lvl p; omega))) ?_; intro t l _ hl; first | rw [pt_eats] at hl | simp only [eats] at hl)
        | exact Fine.refuse (by assumption)
        | exact Fine.ok (by assumption) (by first | (rw [pt_eats]; omega) | (simp only [eats]; omega) | (simp only [eats, pt_eats]; omega))
        | (refine Fine.mono (ih _ _ _ (by assumption) (by first | trivial | exact pt_ok _ _ | exact ok_leap _ (by assumption) (by simp) | exact ok_make (by assumption) (by simp) | exact And.intro (by simp) (by simp) | exact hk | (show 1 ≤ _; omega)) (by first | (simp only [lvl]; omega) | (have := pt_lvl p; omega))) (by first | (rw [pt_eats]; omega) | (simp only [eats]; omega) | (simp only [eats, pt_eats]; omega))))
    case bins k t =>
      simp only [lvl] at hn
      simp only [go]
      repeat (first
        | (with_reducible refine Fine.want (by assumption) (by first | (simp; done) | exact hk2.1 | exact hk2.2) ?_; intro x r _ _ hl)
        | (with_reducible refine Fine.wantK (by assumption) (by simp) ?_; intro x r _ _ hl)
        | (with_reducible refine Fine.enter (by assumption) (by first | (simp; done) | exact hk2.1) ?_; intro x r _ _ hl)
        | split
        | exact True.intro
        | (refine Fine.takeM (by assumption) (by assumption) (by simp) ?_; intro x r _ _ hl)
        | (refine Fine.takeK (by assumption) (by assumption) (by simp) ?_; intro x r _ _ hl)
        | (refine Fine.take (by assumption) (by first | exact .inl hk | exact .inl (builtin_mark (by assumption)) | exact .inl (isT_mark (by assumption)) | exact .inl (op_mark hk (by assumption))) ?_; intro x r _ _ hl)
        | (refine Fine.bnd (ih _ _ _ (by assumption) (by first | trivial | exact pt_ok _ _ | exact ok_leap _ (by assumption) (by simp) | exact ok_make (by assumption) (by simp) | exact And.intro (by simp) (by simp) | exact hk | (show 1 ≤ _; omega)) (by first | (simp only [lvl]; omega) | (have := pt_lvl p; omega))) ?_; intro t l _ hl; first | rw [pt_eats] at hl | simp only [eats] at hl)
        | exact Fine.refuse (by assumption)
        | exact Fine.ok (by assumption) (by first | (rw [pt_eats]; omega) | (simp only [eats]; omega) | (simp only [eats, pt_eats]; omega))
        | (refine Fine.mono (ih _ _ _ (by assumption) (by first | trivial | exact pt_ok _ _ | exact ok_leap _ (by assumption) (by simp) | exact ok_make (by assumption) (by simp) | exact And.intro (by simp) (by simp) | exact hk | (show 1 ≤ _; omega)) (by first | (simp only [lvl]; omega) | (have := pt_lvl p; omega))) (by first | (rw [pt_eats]; omega) | (simp only [eats]; omega) | (simp only [eats, pt_eats]; omega))))
    case unary  =>
      simp only [lvl] at hn
      simp only [go]
      repeat (first
        | (with_reducible refine Fine.want (by assumption) (by first | (simp; done) | exact hk2.1 | exact hk2.2) ?_; intro x r _ _ hl)
        | (with_reducible refine Fine.wantK (by assumption) (by simp) ?_; intro x r _ _ hl)
        | (with_reducible refine Fine.enter (by assumption) (by first | (simp; done) | exact hk2.1) ?_; intro x r _ _ hl)
        | split
        | exact True.intro
        | (refine Fine.takeM (by assumption) (by assumption) (by simp) ?_; intro x r _ _ hl)
        | (refine Fine.takeK (by assumption) (by assumption) (by simp) ?_; intro x r _ _ hl)
        | (refine Fine.take (by assumption) (by first | exact .inl hk | exact .inl (builtin_mark (by assumption)) | exact .inl (isT_mark (by assumption)) | exact .inl (op_mark hk (by assumption))) ?_; intro x r _ _ hl)
        | (refine Fine.bnd (ih _ _ _ (by assumption) (by first | trivial | exact pt_ok _ _ | exact ok_leap _ (by assumption) (by simp) | exact ok_make (by assumption) (by simp) | exact And.intro (by simp) (by simp) | exact hk | (show 1 ≤ _; omega)) (by first | (simp only [lvl]; omega) | (have := pt_lvl p; omega))) ?_; intro t l _ hl; first | rw [pt_eats] at hl | simp only [eats] at hl)
        | exact Fine.refuse (by assumption)
        | exact Fine.ok (by assumption) (by first | (rw [pt_eats]; omega) | (simp only [eats]; omega) | (simp only [eats, pt_eats]; omega))
        | (refine Fine.mono (ih _ _ _ (by assumption) (by first | trivial | exact pt_ok _ _ | exact ok_leap _ (by assumption) (by simp) | exact ok_make (by assumption) (by simp) | exact And.intro (by simp) (by simp) | exact hk | (show 1 ≤ _; omega)) (by first | (simp only [lvl]; omega) | (have := pt_lvl p; omega))) (by first | (rw [pt_eats]; omega) | (simp only [eats]; omega) | (simp only [eats, pt_eats]; omega))))
    case behind t =>
      simp only [lvl] at hn
      simp only [go]
      repeat (first
        | (with_reducible refine Fine.want (by assumption) (by first | (simp; done) | exact hk2.1 | exact hk2.2) ?_; intro x r _ _ hl)
        | (with_reducible refine Fine.wantK (by assumption) (by simp) ?_; intro x r _ _ hl)
        | (with_reducible refine Fine.enter (by assumption) (by first | (simp; done) | exact hk2.1) ?_; intro x r _ _ hl)
        | split
        | exact True.intro
        | (refine Fine.takeM (by assumption) (by assumption) (by simp) ?_; intro x r _ _ hl)
        | (refine Fine.takeK (by assumption) (by assumption) (by simp) ?_; intro x r _ _ hl)
        | (refine Fine.take (by assumption) (by first | exact .inl hk | exact .inl (builtin_mark (by assumption)) | exact .inl (isT_mark (by assumption)) | exact .inl (op_mark hk (by assumption))) ?_; intro x r _ _ hl)
        | (refine Fine.bnd (ih _ _ _ (by assumption) (by first | trivial | exact pt_ok _ _ | exact ok_leap _ (by assumption) (by simp) | exact ok_make (by assumption) (by simp) | exact And.intro (by simp) (by simp) | exact hk | (show 1 ≤ _; omega)) (by first | (simp only [lvl]; omega) | (have := pt_lvl p; omega))) ?_; intro t l _ hl; first | rw [pt_eats] at hl | simp only [eats] at hl)
        | exact Fine.refuse (by assumption)
        | exact Fine.ok (by assumption) (by first | (rw [pt_eats]; omega) | (simp only [eats]; omega) | (simp only [eats, pt_eats]; omega))
        | (refine Fine.mono (ih _ _ _ (by assumption) (by first | trivial | exact pt_ok _ _ | exact ok_leap _ (by assumption) (by simp) | exact ok_make (by assumption) (by simp) | exact And.intro (by simp) (by simp) | exact hk | (show 1 ≤ _; omega)) (by first | (simp only [lvl]; omega) | (have := pt_lvl p; omega))) (by first | (rw [pt_eats]; omega) | (simp only [eats]; omega) | (simp only [eats, pt_eats]; omega))))
    case newStruct  =>
      simp only [lvl] at hn
      simp only [go]
      repeat (first
        | (with_reducible refine Fine.want (by assumption) (by first | (simp; done) | exact hk2.1 | exact hk2.2) ?_; intro x r _ _ hl)
        | (with_reducible refine Fine.wantK (by assumption) (by simp) ?_; intro x r _ _ hl)
        | (with_reducible refine Fine.enter (by assumption) (by first | (simp; done) | exact hk2.1) ?_; intro x r _ _ hl)
        | split
        | exact True.intro
        | (refine Fine.takeM (by assumption) (by assumption) (by simp) ?_; intro x r _ _ hl)
        | (refine Fine.takeK (by assumption) (by assumption) (by simp) ?_; intro x r _ _ hl)
        | (refine Fine.take (by assumption) (by first | exact .inl hk | exact .inl (builtin_mark (by assumption)) | exact .inl (isT_mark (by assumption)) | exact .inl (op_mark hk (by assumption))) ?_; intro x r _ _ hl)
        | (refine Fine.bnd (ih _ _ _ (by assumption) (by first | trivial | exact pt_ok _ _ | exact ok_leap _ (by assumption) (by simp) | exact ok_make (by assumption) (by simp) | exact And.intro (by simp) (by simp) | exact hk | (show 1 ≤ _; omega)) (by first | (simp only [lvl]; omega) | (have := pt_lvl p; omega))) ?_; intro t l _ hl; first | rw [pt_eats] at hl | simp only [eats] at hl)
        | exact Fine.refuse (by assumption)
        | exact Fine.ok (by assumption) (by first | (rw [pt_eats]; omega) | (simp only [eats]; omega) | (simp only [eats, pt_eats]; omega))
        | (refine Fine.mono (ih _ _ _ (by assumption) (by first | trivial | exact pt_ok _ _ | exact ok_leap _ (by assumption) (by simp) | exact ok_make (by assumption) (by simp) | exact And.intro (by simp) (by simp) | exact hk | (show 1 ≤ _; omega)) (by first | (simp only [lvl]; omega) | (have := pt_lvl p; omega))) (by first | (rw [pt_eats]; omega) | (simp only [eats]; omega) | (simp only [eats, pt_eats]; omega))))
    case key  =>
      simp only [lvl] at hn
      simp only [go]
      repeat (first
        | (with_reducible refine Fine.want (by assumption) (by first | (simp; done) | exact hk2.1 | exact hk2.2) ?_; intro x r _ _ hl)
        | (with_reducible refine Fine.wantK (by assumption) (by simp) ?_; intro x r _ _ hl)
        | (with_reducible refine Fine.enter (by assumption) (by first | (simp; done) | exact hk2.1) ?_; intro x r _ _ hl)
        | split
        | exact True.intro
        | (refine Fine.takeM (by assumption) (by assumption) (by simp) ?_; intro x r _ _ hl)
        | (refine Fine.takeK (by assumption) (by assumption) (by simp) ?_; intro x r _ _ hl)
        | (refine Fine.take (by assumption) (by first | exact .inl hk | exact .inl (builtin_mark (by assumption)) | exact .inl (isT_mark (by assumption)) | exact .inl (op_mark hk (by assumption))) ?_; intro x r _ _ hl)
        | (refine Fine.bnd (ih _ _ _ (by assumption) (by first | trivial | exact pt_ok _ _ | exact ok_leap _ (by assumption) (by simp) | exact ok_make (by assumption) (by simp) | exact And.intro (by simp) (by simp) | exact hk | (show 1 ≤ _; omega)) (by first | (simp only [lvl]; omega) | (have := pt_lvl p; omega))) ?_; intro t l _ hl; first | rw [pt_eats] at hl | simp only [eats] at hl)
        | exact Fine.refuse (by assumption)
        | exact Fine.ok (by assumption) (by first | (rw [pt_eats]; omega) | (simp only [eats]; omega) | (simp only [eats, pt_eats]; omega))
        | (refine Fine.mono (ih _ _ _ (by assumption) (by first | trivial | exact pt_ok _ _ | exact ok_leap _ (by assumption) (by simp) | exact ok_make (by assumption) (by simp) | exact And.intro (by simp) (by simp) | exact hk | (show 1 ≤ _; omega)) (by first | (simp only [lvl]; omega) | (have := pt_lvl p; omega))) (by first | (rw [pt_eats]; omega) | (simp only [eats]; omega) | (simp only [eats, pt_eats]; omega))))
    case within a c p =>
      have hk2 : a ≠ [] ∧ c ≠ [] := hk
      simp only [lvl] at hn
      simp only [go]
      repeat (first
        | (with_reducible refine Fine.want (by assumption) (by first | (simp; done) | exact hk2.1 | exact hk2.2) ?_; intro x r _ _ hl)
        | (with_reducible refine Fine.wantK (by assumption) (by simp) ?_; intro x r _ _ hl)
        | (with_reducible refine Fine.enter (by assumption) (by first | (simp; done) | exact hk2.1) ?_; intro x r _ _ hl)
        | split
        | exact True.intro
        | (refine Fine.takeM (by assumption) (by assumption) (by simp) ?_; intro x r _ _ hl)
        | (refine Fine.takeK (by assumption) (by assumption) (by simp) ?_; intro x r _ _ hl)
        | (refine Fine.take (by assumption) (by first | exact .inl hk | exact .inl (builtin_mark (by assumption)) | exact .inl (isT_mark (by assumption)) | exact .inl (op_mark hk (by assumption))) ?_; intro x r _ _ hl)
        | (refine Fine.bnd (ih _ _ _ (by assumption) (by first | trivial | exact pt_ok _ _ | exact ok_leap _ (by assumption) (by simp) | exact ok_make (by assumption) (by simp) | exact And.intro (by simp) (by simp) | exact hk | (show 1 ≤ _; omega)) (by first | (simp only [lvl]; omega) | (have := pt_lvl p; omega))) ?_; intro t l _ hl; first | rw [pt_eats] at hl | simp only [eats] at hl)
        | exact Fine.refuse (by assumption)
        | exact Fine.ok (by assumption) (by first | (rw [pt_eats]; omega) | (simp only [eats]; omega) | (simp only [eats, pt_eats]; omega))
        | (refine Fine.mono (ih _ _ _ (by assumption) (by first | trivial | exact pt_ok _ _ | exact ok_leap _ (by assumption) (by simp) | exact ok_make (by assumption) (by simp) | exact And.intro (by simp) (by simp) | exact hk | (show 1 ≤ _; omega)) (by first | (simp only [lvl]; omega) | (have := pt_lvl p; omega))) (by first | (rw [pt_eats]; omega) | (simp only [eats]; omega) | (simp only [eats, pt_eats]; omega))))
    case list p =>
      simp only [lvl] at hn
      simp only [go]
      repeat (first
        | (with_reducible refine Fine.want (by assumption) (by first | (simp; done) | exact hk2.1 | exact hk2.2) ?_; intro x r _ _ hl)
        | (with_reducible refine Fine.wantK (by assumption) (by simp) ?_; intro x r _ _ hl)
        | (with_reducible refine Fine.enter (by assumption) (by first | (simp; done) | exact hk2.1) ?_; intro x r _ _ hl)
        | split
        | exact True.intro
        | (refine Fine.takeM (by assumption) (by assumption) (by simp) ?_; intro x r _ _ hl)
        | (refine Fine.takeK (by assumption) (by assumption) (by simp) ?_; intro x r _ _ hl)
        | (refine Fine.take (by assumption) (by first | exact .inl hk | exact .inl (builtin_mark (by assumption)) | exact .inl (isT_mark (by assumption)) | exact .inl (op_mark hk (by assumption))) ?_; intro x r _ _ hl)
        | (refine Fine.bnd (ih _ _ _ (by assumption) (by first | trivial | exact pt_ok _ _ | exact ok_leap _ (by assumption) (by simp) | exact ok_make (by assumption) (by simp) | exact And.intro (by simp) (by simp) | exact hk | (show 1 ≤ _; omega)) (by first | (simp only [lvl]; omega) | (have := pt_lvl p; omega))) ?_; intro t l _ hl; first | rw [pt_eats] at hl | simp only [eats] at hl)
        | exact Fine.refuse (by assumption)
        | exact Fine.ok (by assumption) (by first | (rw [pt_eats]; omega) | (simp only [eats]; omega) | (simp only [eats, pt_eats]; omega))
        | (refine Fine.mono (ih _ _ _ (by assumption) (by first | trivial | exact pt_ok _ _ | exact ok_leap _ (by assumption) (by simp) | exact ok_make (by assumption) (by simp) | exact And.intro (by simp) (by simp) | exact hk | (show 1 ≤ _; omega)) (by first | (simp only [lvl]; omega) | (have := pt_lvl p; omega))) (by first | (rw [pt_eats]; omega) | (simp only [eats]; omega) | (simp only [eats, pt_eats]; omega))))
    case lists p acc =>
      simp only [lvl] at hn
      simp only [go]
      repeat (first
        | (with_reducible refine Fine.want (by assumption) (by first | (simp; done) | exact hk2.1 | exact hk2.2) ?_; intro x r _ _ hl)
        | (with_reducible refine Fine.wantK (by assumption) (by simp) ?_; intro x r _ _ hl)
        | (with_reducible refine Fine.enter (by assumption) (by first | (simp; done) | exact hk2.1) ?_; intro x r _ _ hl)
        | split
        | exact True.intro
        | (refine Fine.takeM (by assumption) (by assumption) (by simp) ?_; intro x r _ _ hl)
        | (refine Fine.takeK (by assumption) (by assumption) (by simp) ?_; intro x r _ _ hl)
        | (refine Fine.take (by assumption) (by first | exact .inl hk | exact .inl (builtin_mark (by assumption)) | exact .inl (isT_mark (by assumption)) | exact .inl (op_mark hk (by assumption))) ?_; intro x r _ _ hl)
        | (refine Fine.bnd (ih _ _ _ (by assumption) (by first | trivial | exact pt_ok _ _ | exact ok_leap _ (by assumption) (by simp) | exact ok_make (by assumption) (by simp) | exact And.intro (by simp) (by simp) | exact hk | (show 1 ≤ _; omega)) (by first | (simp only [lvl]; omega) | (have := pt_lvl p; omega))) ?_; intro t l _ hl; first | rw [pt_eats] at hl | simp only [eats] at hl)
        | exact Fine.refuse (by assumption)
        | exact Fine.ok (by assumption) (by first | (rw [pt_eats]; omega) | (simp only [eats]; omega) | (simp only [eats, pt_eats]; omega))
        | (refine Fine.mono (ih _ _ _ (by assumption) (by first | trivial | exact pt_ok _ _ | exact ok_leap _ (by assumption) (by simp) | exact ok_make (by assumption) (by simp) | exact And.intro (by simp) (by simp) | exact hk | (show 1 ≤ _; omega)) (by first | (simp only [lvl]; omega) | (have := pt_lvl p; omega))) (by first | (rw [pt_eats]; omega) | (simp only [eats]; omega) | (simp only [eats, pt_eats]; omega))))
    case call t p =>
      simp only [lvl] at hn
      simp only [go]
      refine Fine.peek (by assumption) fun x r _ => ?_
      repeat (first
        | (with_reducible refine Fine.want (by assumption) (by first | (simp; done) | exact hk2.1 | exact hk2.2) ?_; intro x r _ _ hl)
        | (with_reducible refine Fine.wantK (by assumption) (by simp) ?_; intro x r _ _ hl)
        | (with_reducible refine Fine.enter (by assumption) (by first | (simp; done) | exact hk2.1) ?_; intro x r _ _ hl)
        | split
        | exact True.intro
        | (refine Fine.takeM (by assumption) (by assumption) (by simp) ?_; intro x r _ _ hl)
        | (refine Fine.takeK (by assumption) (by assumption) (by simp) ?_; intro x r _ _ hl)
        | (refine Fine.take (by assumption) (by first | exact .inl hk | exact .inl (builtin_mark (by assumption)) | exact .inl (isT_mark (by assumption)) | exact .inl (op_mark hk (by assumption))) ?_; intro x r _ _ hl)
        | (refine Fine.bnd (ih _ _ _ (by assumption) (by first | trivial | exact pt_ok _ _ | exact ok_leap _ (by assumption) (by simp) | exact ok_make (by assumption) (by simp) | exact And.intro (by simp) (by simp) | exact hk | (show 1 ≤ _; omega)) (by first | (simp only [lvl]; omega) | (have := pt_lvl p; omega))) ?_; intro t l _ hl; first | rw [pt_eats] at hl | simp only [eats] at hl)
        | exact Fine.refuse (by assumption)
        | exact Fine.ok (by assumption) (by first | (rw [pt_eats]; omega) | (simp only [eats]; omega) | (simp only [eats, pt_eats]; omega))
        | (refine Fine.mono (ih _ _ _ (by assumption) (by first | trivial | exact pt_ok _ _ | exact ok_leap _ (by assumption) (by simp) | exact ok_make (by assumption) (by simp) | exact And.intro (by simp) (by simp) | exact hk | (show 1 ≤ _; omega)) (by first | (simp only [lvl]; omega) | (have := pt_lvl p; omega))) (by first | (rw [pt_eats]; omega) | (simp only [eats]; omega) | (simp only [eats, pt_eats]; omega))))
    case indexed t =>
      simp only [lvl] at hn
      simp only [go]
      repeat (first
        | (with_reducible refine Fine.want (by assumption) (by first | (simp; done) | exact hk2.1 | exact hk2.2) ?_; intro x r _ _ hl)
        | (with_reducible refine Fine.wantK (by assumption) (by simp) ?_; intro x r _ _ hl)
        | (with_reducible refine Fine.enter (by assumption) (by first | (simp; done) | exact hk2.1) ?_; intro x r _ _ hl)
        | split
        | exact True.intro
        | (refine Fine.takeM (by assumption) (by assumption) (by simp) ?_; intro x r _ _ hl)
        | (refine Fine.takeK (by assumption) (by assumption) (by simp) ?_; intro x r _ _ hl)
        | (refine Fine.take (by assumption) (by first | exact .inl hk | exact .inl (builtin_mark (by assumption)) | exact .inl (isT_mark (by assumption)) | exact .inl (op_mark hk (by assumption))) ?_; intro x r _ _ hl)
        | (refine Fine.bnd (ih _ _ _ (by assumption) (by first | trivial | exact pt_ok _ _ | exact ok_leap _ (by assumption) (by simp) | exact ok_make (by assumption) (by simp) | exact And.intro (by simp) (by simp) | exact hk | (show 1 ≤ _; omega)) (by first | (simp only [lvl]; omega) | (have := pt_lvl p; omega))) ?_; intro t l _ hl; first | rw [pt_eats] at hl | simp only [eats] at hl)
        | exact Fine.refuse (by assumption)
        | exact Fine.ok (by assumption) (by first | (rw [pt_eats]; omega) | (simp only [eats]; omega) | (simp only [eats, pt_eats]; omega))
        | (refine Fine.mono (ih _ _ _ (by assumption) (by first | trivial | exact pt_ok _ _ | exact ok_leap _ (by assumption) (by simp) | exact ok_make (by assumption) (by simp) | exact And.intro (by simp) (by simp) | exact hk | (show 1 ≤ _; omega)) (by first | (simp only [lvl]; omega) | (have := pt_lvl p; omega))) (by first | (rw [pt_eats]; omega) | (simp only [eats]; omega) | (simp only [eats, pt_eats]; omega))))
    case selected t =>
      simp only [lvl] at hn
      simp only [go]
      repeat (first
        | (with_reducible refine Fine.want (by assumption) (by first | (simp; done) | exact hk2.1 | exact hk2.2) ?_; intro x r _ _ hl)
        | (with_reducible refine Fine.wantK (by assumption) (by simp) ?_; intro x r _ _ hl)
        | (with_reducible refine Fine.enter (by assumption) (by first | (simp; done) | exact hk2.1) ?_; intro x r _ _ hl)
        | split
        | exact True.intro
        | (refine Fine.takeM (by assumption) (by assumption) (by simp) ?_; intro x r _ _ hl)
        | (refine Fine.takeK (by assumption) (by assumption) (by simp) ?_; intro x r _ _ hl)
        | (refine Fine.take (by assumption) (by first | exact .inl hk | exact .inl (builtin_mark (by assumption)) | exact .inl (isT_mark (by assumption)) | exact .inl (op_mark hk (by assumption))) ?_; intro x r _ _ hl)
        | (refine Fine.bnd (ih _ _ _ (by assumption) (by first | trivial | exact pt_ok _ _ | exact ok_leap _ (by assumption) (by simp) | exact ok_make (by assumption) (by simp) | exact And.intro (by simp) (by simp) | exact hk | (show 1 ≤ _; omega)) (by first | (simp only [lvl]; omega) | (have := pt_lvl p; omega))) ?_; intro t l _ hl; first | rw [pt_eats] at hl | simp only [eats] at hl)
        | exact Fine.refuse (by assumption)
        | exact Fine.ok (by assumption) (by first | (rw [pt_eats]; omega) | (simp only [eats]; omega) | (simp only [eats, pt_eats]; omega))
        | (refine Fine.mono (ih _ _ _ (by assumption) (by first | trivial | exact pt_ok _ _ | exact ok_leap _ (by assumption) (by simp) | exact ok_make (by assumption) (by simp) | exact And.intro (by simp) (by simp) | exact hk | (show 1 ≤ _; omega)) (by first | (simp only [lvl]; omega) | (have := pt_lvl p; omega))) (by first | (rw [pt_eats]; omega) | (simp only [eats]; omega) | (simp only [eats, pt_eats]; omega))))
    case first  =>
      simp only [lvl] at hn
      simp only [go]
      repeat (first
        | (with_reducible refine Fine.want (by assumption) (by first | (simp; done) | exact hk2.1 | exact hk2.2) ?_; intro x r _ _ hl)
        | (with_reducible refine Fine.wantK (by assumption) (by simp) ?_; intro x r _ _ hl)
        | (with_reducible refine Fine.enter (by assumption) (by first | (simp; done) | exact hk2.1) ?_; intro x r _ _ hl)
        | split
        | exact True.intro
        | (refine Fine.takeM (by assumption) (by assumption) (by simp) ?_; intro x r _ _ hl)
        | (refine Fine.takeK (by assumption) (by assumption) (by simp) ?_; intro x r _ _ hl)
        | (refine Fine.take (by assumption) (by first | exact .inl hk | exact .inl (builtin_mark (by assumption)) | exact .inl (isT_mark (by assumption)) | exact .inl (op_mark hk (by assumption))) ?_; intro x r _ _ hl)
        | (refine Fine.bnd (ih _ _ _ (by assumption) (by first | trivial | exact pt_ok _ _ | exact ok_leap _ (by assumption) (by simp) | exact ok_make (by assumption) (by simp) | exact And.intro (by simp) (by simp) | exact hk | (show 1 ≤ _; omega)) (by first | (simp only [lvl]; omega) | (have := pt_lvl p; omega))) ?_; intro t l _ hl; first | rw [pt_eats] at hl | simp only [eats] at hl)
        | exact Fine.refuse (by assumption)
        | exact Fine.ok (by assumption) (by first | (rw [pt_eats]; omega) | (simp only [eats]; omega) | (simp only [eats, pt_eats]; omega))
        | (refine Fine.mono (ih _ _ _ (by assumption) (by first | trivial | exact pt_ok _ _ | exact ok_leap _ (by assumption) (by simp) | exact ok_make (by assumption) (by simp) | exact And.intro (by simp) (by simp) | exact hk | (show 1 ≤ _; omega)) (by first | (simp only [lvl]; omega) | (have := pt_lvl p; omega))) (by first | (rw [pt_eats]; omega) | (simp only [eats]; omega) | (simp only [eats, pt_eats]; omega))))
    case firstMark  =>
      simp only [lvl] at hn
      simp only [go]
      repeat (first
        | (with_reducible refine Fine.want (by assumption) (by first | (simp; done) | exact hk2.1 | exact hk2.2) ?_; intro x r _ _ hl)
        | (with_reducible refine Fine.wantK (by assumption) (by simp) ?_; intro x r _ _ hl)
        | (with_reducible refine Fine.enter (by assumption) (by first | (simp; done) | exact hk2.1) ?_; intro x r _ _ hl)
        | split
        | exact True.intro
        | (refine Fine.takeM (by assumption) (by assumption) (by simp) ?_; intro x r _ _ hl)
        | (refine Fine.takeK (by assumption) (by assumption) (by simp) ?_; intro x r _ _ hl)
        | (refine Fine.take (by assumption) (by first | exact .inl hk | exact .inl (builtin_mark (by assumption)) | exact .inl (isT_mark (by assumption)) | exact .inl (op_mark hk (by assumption))) ?_; intro x r _ _ hl)
        | (refine Fine.bnd (ih _ _ _ (by assumption) (by first | trivial | exact pt_ok _ _ | exact ok_leap _ (by assumption) (by simp) | exact ok_make (by assumption) (by simp) | exact And.intro (by simp) (by simp) | exact hk | (show 1 ≤ _; omega)) (by first | (simp only [lvl]; omega) | (have := pt_lvl p; omega))) ?_; intro t l _ hl; first | rw [pt_eats] at hl | simp only [eats] at hl)
        | exact Fine.refuse (by assumption)
        | exact Fine.ok (by assumption) (by first | (rw [pt_eats]; omega) | (simp only [eats]; omega) | (simp only [eats, pt_eats]; omega))
        | (refine Fine.mono (ih _ _ _ (by assumption) (by first | trivial | exact pt_ok _ _ | exact ok_leap _ (by assumption) (by simp) | exact ok_make (by assumption) (by simp) | exact And.intro (by simp) (by simp) | exact hk | (show 1 ≤ _; omega)) (by first | (simp only [lvl]; omega) | (have := pt_lvl p; omega))) (by first | (rw [pt_eats]; omega) | (simp only [eats]; omega) | (simp only [eats, pt_eats]; omega))))
    case inBrackets  =>
      simp only [lvl] at hn
      simp only [go]
      repeat (first
        | (with_reducible refine Fine.want (by assumption) (by first | (simp; done) | exact hk2.1 | exact hk2.2) ?_; intro x r _ _ hl)
        | (with_reducible refine Fine.wantK (by assumption) (by simp) ?_; intro x r _ _ hl)
        | (with_reducible refine Fine.enter (by assumption) (by first | (simp; done) | exact hk2.1) ?_; intro x r _ _ hl)
        | split
        | exact True.intro
        | (refine Fine.takeM (by assumption) (by assumption) (by simp) ?_; intro x r _ _ hl)
        | (refine Fine.takeK (by assumption) (by assumption) (by simp) ?_; intro x r _ _ hl)
        | (refine Fine.take (by assumption) (by first | exact .inl hk | exact .inl (builtin_mark (by assumption)) | exact .inl (isT_mark (by assumption)) | exact .inl (op_mark hk (by assumption))) ?_; intro x r _ _ hl)
        | (refine Fine.bnd (ih _ _ _ (by assumption) (by first | trivial | exact pt_ok _ _ | exact ok_leap _ (by assumption) (by simp) | exact ok_make (by assumption) (by simp) | exact And.intro (by simp) (by simp) | exact hk | (show 1 ≤ _; omega)) (by first | (simp only [lvl]; omega) | (have := pt_lvl p; omega))) ?_; intro t l _ hl; first | rw [pt_eats] at hl | simp only [eats] at hl)
        | exact Fine.refuse (by assumption)
        | exact Fine.ok (by assumption) (by first | (rw [pt_eats]; omega) | (simp only [eats]; omega) | (simp only [eats, pt_eats]; omega))
        | (refine Fine.mono (ih _ _ _ (by assumption) (by first | trivial | exact pt_ok _ _ | exact ok_leap _ (by assumption) (by simp) | exact ok_make (by assumption) (by simp) | exact And.intro (by simp) (by simp) | exact hk | (show 1 ≤ _; omega)) (by first | (simp only [lvl]; omega) | (have := pt_lvl p; omega))) (by first | (rw [pt_eats]; omega) | (simp only [eats]; omega) | (simp only [eats, pt_eats]; omega))))
    case literalList  =>
      simp only [lvl] at hn
      simp only [go]
      repeat (first
        | (with_reducible refine Fine.want (by assumption) (by first | (simp; done) | exact hk2.1 | exact hk2.2) ?_; intro x r _ _ hl)
        | (with_reducible refine Fine.wantK (by assumption) (by simp) ?_; intro x r _ _ hl)
        | (with_reducible refine Fine.enter (by assumption) (by first | (simp; done) | exact hk2.1) ?_; intro x r _ _ hl)
        | split
        | exact True.intro
        | (refine Fine.takeM (by assumption) (by assumption) (by simp) ?_; intro x r _ _ hl)
        | (refine Fine.takeK (by assumption) (by assumption) (by simp) ?_; intro x r _ _ hl)
        | (refine Fine.take (by assumption) (by first | exact .inl hk | exact .inl (builtin_mark (by assumption)) | exact .inl (isT_mark (by assumption)) | exact .inl (op_mark hk (by assumption))) ?_; intro x r _ _ hl)
        | (refine Fine.bnd (ih _ _ _ (by assumption) (by first | trivial | exact pt_ok _ _ | exact ok_leap _ (by assumption) (by simp) | exact ok_make (by assumption) (by simp) | exact And.intro (by simp) (by simp) | exact hk | (show 1 ≤ _; omega)) (by first | (simp only [lvl]; omega) | (have := pt_lvl p; omega))) ?_; intro t l _ hl; first | rw [pt_eats] at hl | simp only [eats] at hl)
        | exact Fine.refuse (by assumption)
        | exact Fine.ok (by assumption) (by first | (rw [pt_eats]; omega) | (simp only [eats]; omega) | (simp only [eats, pt_eats]; omega))
        | (refine Fine.mono (ih _ _ _ (by assumption) (by first | trivial | exact pt_ok _ _ | exact ok_leap _ (by assumption) (by simp) | exact ok_make (by assumption) (by simp) | exact And.intro (by simp) (by simp) | exact hk | (show 1 ≤ _; omega)) (by first | (simp only [lvl]; omega) | (have := pt_lvl p; omega))) (by first | (rw [pt_eats]; omega) | (simp only [eats]; omega) | (simp only [eats, pt_eats]; omega))))
    case literalFunc  =>
      simp only [lvl] at hn
      simp only [go]
      repeat (first
        | (with_reducible refine Fine.want (by assumption) (by first | (simp; done) | exact hk2.1 | exact hk2.2) ?_; intro x r _ _ hl)
        | (with_reducible refine Fine.wantK (by assumption) (by simp) ?_; intro x r _ _ hl)
        | (with_reducible refine Fine.enter (by assumption) (by first | (simp; done) | exact hk2.1) ?_; intro x r _ _ hl)
        | split
        | exact True.intro
        | (refine Fine.takeM (by assumption) (by assumption) (by simp) ?_; intro x r _ _ hl)
        | (refine Fine.takeK (by assumption) (by assumption) (by simp) ?_; intro x r _ _ hl)
        | (refine Fine.take (by assumption) (by first | exact .inl hk | exact .inl (builtin_mark (by assumption)) | exact .inl (isT_mark (by assumption)) | exact .inl (op_mark hk (by assumption))) ?_; intro x r _ _ hl)
        | (refine Fine.bnd (ih _ _ _ (by assumption) (by first | trivial | exact pt_ok _ _ | exact ok_leap _ (by assumption) (by simp) | exact ok_make (by assumption) (by simp) | exact And.intro (by simp) (by simp) | exact hk | (show 1 ≤ _; omega)) (by first | (simp only [lvl]; omega) | (have := pt_lvl p; omega))) ?_; intro t l _ hl; first | rw [pt_eats] at hl | simp only [eats] at hl)
        | exact Fine.refuse (by assumption)
        | exact Fine.ok (by assumption) (by first | (rw [pt_eats]; omega) | (simp only [eats]; omega) | (simp only [eats, pt_eats]; omega))
        | (refine Fine.mono (ih _ _ _ (by assumption) (by first | trivial | exact pt_ok _ _ | exact ok_leap _ (by assumption) (by simp) | exact ok_make (by assumption) (by simp) | exact And.intro (by simp) (by simp) | exact hk | (show 1 ≤ _; omega)) (by first | (simp only [lvl]; omega) | (have := pt_lvl p; omega))) (by first | (rw [pt_eats]; omega) | (simp only [eats]; omega) | (simp only [eats, pt_eats]; omega))))
    case makeCall  =>
      simp only [lvl] at hn
      simp only [go]
      repeat (first
        | (with_reducible refine Fine.want (by assumption) (by first | (simp; done) | exact hk2.1 | exact hk2.2) ?_; intro x r _ _ hl)
        | (with_reducible refine Fine.wantK (by assumption) (by simp) ?_; intro x r _ _ hl)
        | (with_reducible refine Fine.enter (by assumption) (by first | (simp; done) | exact hk2.1) ?_; intro x r _ _ hl)
        | split
        | exact True.intro
        | (refine Fine.takeM (by assumption) (by assumption) (by simp) ?_; intro x r _ _ hl)
        | (refine Fine.takeK (by assumption) (by assumption) (by simp) ?_; intro x r _ _ hl)
        | (refine Fine.take (by assumption) (by first | exact .inl hk | exact .inl (builtin_mark (by assumption)) | exact .inl (isT_mark (by assumption)) | exact .inl (op_mark hk (by assumption))) ?_; intro x r _ _ hl)
        | (refine Fine.bnd (ih _ _ _ (by assumption) (by first | trivial | exact pt_ok _ _ | exact ok_leap _ (by assumption) (by simp) | exact ok_make (by assumption) (by simp) | exact And.intro (by simp) (by simp) | exact hk | (show 1 ≤ _; omega)) (by first | (simp only [lvl]; omega) | (have := pt_lvl p; omega))) ?_; intro t l _ hl; first | rw [pt_eats] at hl | simp only [eats] at hl)
        | exact Fine.refuse (by assumption)
        | exact Fine.ok (by assumption) (by first | (rw [pt_eats]; omega) | (simp only [eats]; omega) | (simp only [eats, pt_eats]; omega))
        | (refine Fine.mono (ih _ _ _ (by assumption) (by first | trivial | exact pt_ok _ _ | exact ok_leap _ (by assumption) (by simp) | exact ok_make (by assumption) (by simp) | exact And.intro (by simp) (by simp) | exact hk | (show 1 ≤ _; omega)) (by first | (simp only [lvl]; omega) | (have := pt_lvl p; omega))) (by first | (rw [pt_eats]; omega) | (simp only [eats]; omega) | (simp only [eats, pt_eats]; omega))))
    case block  =>
      simp only [lvl] at hn
      simp only [go]
      repeat (first
        | (with_reducible refine Fine.want (by assumption) (by first | (simp; done) | exact hk2.1 | exact hk2.2) ?_; intro x r _ _ hl)
        | (with_reducible refine Fine.wantK (by assumption) (by simp) ?_; intro x r _ _ hl)
        | (with_reducible refine Fine.enter (by assumption) (by first | (simp; done) | exact hk2.1) ?_; intro x r _ _ hl)
        | split
        | exact True.intro
        | (refine Fine.takeM (by assumption) (by assumption) (by simp) ?_; intro x r _ _ hl)
        | (refine Fine.takeK (by assumption) (by assumption) (by simp) ?_; intro x r _ _ hl)
        | (refine Fine.take (by assumption) (by first | exact .inl hk | exact .inl (builtin_mark (by assumption)) | exact .inl (isT_mark (by assumption)) | exact .inl (op_mark hk (by assumption))) ?_; intro x r _ _ hl)
        | (refine Fine.bnd (ih _ _ _ (by assumption) (by first | trivial | exact pt_ok _ _ | exact ok_leap _ (by assumption) (by simp) | exact ok_make (by assumption) (by simp) | exact And.intro (by simp) (by simp) | exact hk | (show 1 ≤ _; omega)) (by first | (simp only [lvl]; omega) | (have := pt_lvl p; omega))) ?_; intro t l _ hl; first | rw [pt_eats] at hl | simp only [eats] at hl)
        | exact Fine.refuse (by assumption)
        | exact Fine.ok (by assumption) (by first | (rw [pt_eats]; omega) | (simp only [eats]; omega) | (simp only [eats, pt_eats]; omega))
        | (refine Fine.mono (ih _ _ _ (by assumption) (by first | trivial | exact pt_ok _ _ | exact ok_leap _ (by assumption) (by simp) | exact ok_make (by assumption) (by simp) | exact And.intro (by simp) (by simp) | exact hk | (show 1 ≤ _; omega)) (by first | (simp only [lvl]; omega) | (have := pt_lvl p; omega))) (by first | (rw [pt_eats]; omega) | (simp only [eats]; omega) | (simp only [eats, pt_eats]; omega))))
    case stats acc =>
      simp only [lvl] at hn
      simp only [go]
      repeat (first
        | (with_reducible refine Fine.want (by assumption) (by first | (simp; done) | exact hk2.1 | exact hk2.2) ?_; intro x r _ _ hl)
        | (with_reducible refine Fine.wantK (by assumption) (by simp) ?_; intro x r _ _ hl)
        | (with_reducible refine Fine.enter (by assumption) (by first | (simp; done) | exact hk2.1) ?_; intro x r _ _ hl)
        | split
        | exact True.intro
        | (refine Fine.takeM (by assumption) (by assumption) (by simp) ?_; intro x r _ _ hl)
        | (refine Fine.takeK (by assumption) (by assumption) (by simp) ?_; intro x r _ _ hl)
        | (refine Fine.take (by assumption) (by first | exact .inl hk | exact .inl (builtin_mark (by assumption)) | exact .inl (isT_mark (by assumption)) | exact .inl (op_mark hk (by assumption))) ?_; intro x r _ _ hl)
        | (refine Fine.bnd (ih _ _ _ (by assumption) (by first | trivial | exact pt_ok _ _ | exact ok_leap _ (by assumption) (by simp) | exact ok_make (by assumption) (by simp) | exact And.intro (by simp) (by simp) | exact hk | (show 1 ≤ _; omega)) (by first | (simp only [lvl]; omega) | (have := pt_lvl p; omega))) ?_; intro t l _ hl; first | rw [pt_eats] at hl | simp only [eats] at hl)
        | exact Fine.refuse (by assumption)
        | exact Fine.ok (by assumption) (by first | (rw [pt_eats]; omega) | (simp only [eats]; omega) | (simp only [eats, pt_eats]; omega))
        | (refine Fine.mono (ih _ _ _ (by assumption) (by first | trivial | exact pt_ok _ _ | exact ok_leap _ (by assumption) (by simp) | exact ok_make (by assumption) (by simp) | exact And.intro (by simp) (by simp) | exact hk | (show 1 ≤ _; omega)) (by first | (simp only [lvl]; omega) | (have := pt_lvl p; omega))) (by first | (rw [pt_eats]; omega) | (simp only [eats]; omega) | (simp only [eats, pt_eats]; omega))))
    case stat  =>
      simp only [lvl] at hn
      simp only [go]
      repeat (first
        | (with_reducible refine Fine.want (by assumption) (by first | (simp; done) | exact hk2.1 | exact hk2.2) ?_; intro x r _ _ hl)
        | (with_reducible refine Fine.wantK (by assumption) (by simp) ?_; intro x r _ _ hl)
        | (with_reducible refine Fine.enter (by assumption) (by first | (simp; done) | exact hk2.1) ?_; intro x r _ _ hl)
        | split
        | exact True.intro
        | (refine Fine.takeM (by assumption) (by assumption) (by simp) ?_; intro x r _ _ hl)
        | (refine Fine.takeK (by assumption) (by assumption) (by simp) ?_; intro x r _ _ hl)
        | (refine Fine.take (by assumption) (by first | exact .inl hk | exact .inl (builtin_mark (by assumption)) | exact .inl (isT_mark (by assumption)) | exact .inl (op_mark hk (by assumption))) ?_; intro x r _ _ hl)
        | (refine Fine.bnd (ih _ _ _ (by assumption) (by first | trivial | exact pt_ok _ _ | exact ok_leap _ (by assumption) (by simp) | exact ok_make (by assumption) (by simp) | exact And.intro (by simp) (by simp) | exact hk | (show 1 ≤ _; omega)) (by first | (simp only [lvl]; omega) | (have := pt_lvl p; omega))) ?_; intro t l _ hl; first | rw [pt_eats] at hl | simp only [eats] at hl)
        | exact Fine.refuse (by assumption)
        | exact Fine.ok (by assumption) (by first | (rw [pt_eats]; omega) | (simp only [eats]; omega) | (simp only [eats, pt_eats]; omega))
        | (refine Fine.mono (ih _ _ _ (by assumption) (by first | trivial | exact pt_ok _ _ | exact ok_leap _ (by assumption) (by simp) | exact ok_make (by assumption) (by simp) | exact And.intro (by simp) (by simp) | exact hk | (show 1 ≤ _; omega)) (by first | (simp only [lvl]; omega) | (have := pt_lvl p; omega))) (by first | (rw [pt_eats]; omega) | (simp only [eats]; omega) | (simp only [eats, pt_eats]; omega))))
    case branch  =>
      simp only [lvl] at hn
      simp only [go]
      repeat (first
        | (with_reducible refine Fine.want (by assumption) (by first | (simp; done) | exact hk2.1 | exact hk2.2) ?_; intro x r _ _ hl)
        | (with_reducible refine Fine.wantK (by assumption) (by simp) ?_; intro x r _ _ hl)
        | (with_reducible refine Fine.enter (by assumption) (by first | (simp; done) | exact hk2.1) ?_; intro x r _ _ hl)
        | split
        | exact True.intro
        | (refine Fine.takeM (by assumption) (by assumption) (by simp) ?_; intro x r _ _ hl)
        | (refine Fine.takeK (by assumption) (by assumption) (by simp) ?_; intro x r _ _ hl)
        | (refine Fine.take (by assumption) (by first | exact .inl hk | exact .inl (builtin_mark (by assumption)) | exact .inl (isT_mark (by assumption)) | exact .inl (op_mark hk (by assumption))) ?_; intro x r _ _ hl)
        | (refine Fine.bnd (ih _ _ _ (by assumption) (by first | trivial | exact pt_ok _ _ | exact ok_leap _ (by assumption) (by simp) | exact ok_make (by assumption) (by simp) | exact And.intro (by simp) (by simp) | exact hk | (show 1 ≤ _; omega)) (by first | (simp only [lvl]; omega) | (have := pt_lvl p; omega))) ?_; intro t l _ hl; first | rw [pt_eats] at hl | simp only [eats] at hl)
        | exact Fine.refuse (by assumption)
        | exact Fine.ok (by assumption) (by first | (rw [pt_eats]; omega) | (simp only [eats]; omega) | (simp only [eats, pt_eats]; omega))
        | (refine Fine.mono (ih _ _ _ (by assumption) (by first | trivial | exact pt_ok _ _ | exact ok_leap _ (by assumption) (by simp) | exact ok_make (by assumption) (by simp) | exact And.intro (by simp) (by simp) | exact hk | (show 1 ≤ _; omega)) (by first | (simp only [lvl]; omega) | (have := pt_lvl p; omega))) (by first | (rw [pt_eats]; omega) | (simp only [eats]; omega) | (simp only [eats, pt_eats]; omega))))
    case otherwise  =>
      simp only [lvl] at hn
      simp only [go]
      repeat (first
        | (with_reducible refine Fine.want (by assumption) (by first | (simp; done) | exact hk2.1 | exact hk2.2) ?_; intro x r _ _ hl)
        | (with_reducible refine Fine.wantK (by assumption) (by simp) ?_; intro x r _ _ hl)
        | (with_reducible refine Fine.enter (by assumption) (by first | (simp; done) | exact hk2.1) ?_; intro x r _ _ hl)
        | split
        | exact True.intro
        | (refine Fine.takeM (by assumption) (by assumption) (by simp) ?_; intro x r _ _ hl)
        | (refine Fine.takeK (by assumption) (by assumption) (by simp) ?_; intro x r _ _ hl)
        | (refine Fine.take (by assumption) (by first | exact .inl hk | exact .inl (builtin_mark (by assumption)) | exact .inl (isT_mark (by assumption)) | exact .inl (op_mark hk (by assumption))) ?_; intro x r _ _ hl)
        | (refine Fine.bnd (ih _ _ _ (by assumption) (by first | trivial | exact pt_ok _ _ | exact ok_leap _ (by assumption) (by simp) | exact ok_make (by assumption) (by simp) | exact And.intro (by simp) (by simp) | exact hk | (show 1 ≤ _; omega)) (by first | (simp only [lvl]; omega) | (have := pt_lvl p; omega))) ?_; intro t l _ hl; first | rw [pt_eats] at hl | simp only [eats] at hl)
        | exact Fine.refuse (by assumption)
        | exact Fine.ok (by assumption) (by first | (rw [pt_eats]; omega) | (simp only [eats]; omega) | (simp only [eats, pt_eats]; omega))
        | (refine Fine.mono (ih _ _ _ (by assumption) (by first | trivial | exact pt_ok _ _ | exact ok_leap _ (by assumption) (by simp) | exact ok_make (by assumption) (by simp) | exact And.intro (by simp) (by simp) | exact hk | (show 1 ≤ _; omega)) (by first | (simp only [lvl]; omega) | (have := pt_lvl p; omega))) (by first | (rw [pt_eats]; omega) | (simp only [eats]; omega) | (simp only [eats, pt_eats]; omega))))
    case loop  =>
      simp only [lvl] at hn
      simp only [go]
      repeat (first
        | (with_reducible refine Fine.want (by assumption) (by first | (simp; done) | exact hk2.1 | exact hk2.2) ?_; intro x r _ _ hl)
        | (with_reducible refine Fine.wantK (by assumption) (by simp) ?_; intro x r _ _ hl)
        | (with_reducible refine Fine.enter (by assumption) (by first | (simp; done) | exact hk2.1) ?_; intro x r _ _ hl)
        | split
        | exact True.intro
        | (refine Fine.takeM (by assumption) (by assumption) (by simp) ?_; intro x r _ _ hl)
        | (refine Fine.takeK (by assumption) (by assumption) (by simp) ?_; intro x r _ _ hl)
        | (refine Fine.take (by assumption) (by first | exact .inl hk | exact .inl (builtin_mark (by assumption)) | exact .inl (isT_mark (by assumption)) | exact .inl (op_mark hk (by assumption))) ?_; intro x r _ _ hl)
        | (refine Fine.bnd (ih _ _ _ (by assumption) (by first | trivial | exact pt_ok _ _ | exact ok_leap _ (by assumption) (by simp) | exact ok_make (by assumption) (by simp) | exact And.intro (by simp) (by simp) | exact hk | (show 1 ≤ _; omega)) (by first | (simp only [lvl]; omega) | (have := pt_lvl p; omega))) ?_; intro t l _ hl; first | rw [pt_eats] at hl | simp only [eats] at hl)
        | exact Fine.refuse (by assumption)
        | exact Fine.ok (by assumption) (by first | (rw [pt_eats]; omega) | (simp only [eats]; omega) | (simp only [eats, pt_eats]; omega))
        | (refine Fine.mono (ih _ _ _ (by assumption) (by first | trivial | exact pt_ok _ _ | exact ok_leap _ (by assumption) (by simp) | exact ok_make (by assumption) (by simp) | exact And.intro (by simp) (by simp) | exact hk | (show 1 ≤ _; omega)) (by first | (simp only [lvl]; omega) | (have := pt_lvl p; omega))) (by first | (rw [pt_eats]; omega) | (simp only [eats]; omega) | (simp only [eats, pt_eats]; omega))))
    case leap k =>
      simp only [lvl] at hn
      simp only [go]
      repeat (first
        | (with_reducible refine Fine.want (by assumption) (by first | (simp; done) | exact hk2.1 | exact hk2.2) ?_; intro x r _ _ hl)
        | (with_reducible refine Fine.wantK (by assumption) (by simp) ?_; intro x r _ _ hl)
        | (with_reducible refine Fine.enter (by assumption) (by first | (simp; done) | exact hk2.1) ?_; intro x r _ _ hl)
        | split
        | exact True.intro
        | (refine Fine.takeM (by assumption) (by assumption) (by simp) ?_; intro x r _ _ hl)
        | (refine Fine.takeK (by assumption) (by assumption) (by simp) ?_; intro x r _ _ hl)
        | (refine Fine.take (by assumption) (by first | exact .inl hk | exact .inl (builtin_mark (by assumption)) | exact .inl (isT_mark (by assumption)) | exact .inl (op_mark hk (by assumption))) ?_; intro x r _ _ hl)
        | (refine Fine.bnd (ih _ _ _ (by assumption) (by first | trivial | exact pt_ok _ _ | exact ok_leap _ (by assumption) (by simp) | exact ok_make (by assumption) (by simp) | exact And.intro (by simp) (by simp) | exact hk | (show 1 ≤ _; omega)) (by first | (simp only [lvl]; omega) | (have := pt_lvl p; omega))) ?_; intro t l _ hl; first | rw [pt_eats] at hl | simp only [eats] at hl)
        | exact Fine.refuse (by assumption)
        | exact Fine.ok (by assumption) (by first | (rw [pt_eats]; omega) | (simp only [eats]; omega) | (simp only [eats, pt_eats]; omega))
        | (refine Fine.mono (ih _ _ _ (by assumption) (by first | trivial | exact pt_ok _ _ | exact ok_leap _ (by assumption) (by simp) | exact ok_make (by assumption) (by simp) | exact And.intro (by simp) (by simp) | exact hk | (show 1 ≤ _; omega)) (by first | (simp only [lvl]; omega) | (have := pt_lvl p; omega))) (by first | (rw [pt_eats]; omega) | (simp only [eats]; omega) | (simp only [eats, pt_eats]; omega))))
    case giveBack  =>
      simp only [lvl] at hn
      simp only [go]
      repeat (first
        | (with_reducible refine Fine.want (by assumption) (by first | (simp; done) | exact hk2.1 | exact hk2.2) ?_; intro x r _ _ hl)
        | (with_reducible refine Fine.wantK (by assumption) (by simp) ?_; intro x r _ _ hl)
        | (with_reducible refine Fine.enter (by assumption) (by first | (simp; done) | exact hk2.1) ?_; intro x r _ _ hl)
        | split
        | exact True.intro
        | (refine Fine.takeM (by assumption) (by assumption) (by simp) ?_; intro x r _ _ hl)
        | (refine Fine.takeK (by assumption) (by assumption) (by simp) ?_; intro x r _ _ hl)
        | (refine Fine.take (by assumption) (by first | exact .inl hk | exact .inl (builtin_mark (by assumption)) | exact .inl (isT_mark (by assumption)) | exact .inl (op_mark hk (by assumption))) ?_; intro x r _ _ hl)
        | (refine Fine.bnd (ih _ _ _ (by assumption) (by first | trivial | exact pt_ok _ _ | exact ok_leap _ (by assumption) (by simp) | exact ok_make (by assumption) (by simp) | exact And.intro (by simp) (by simp) | exact hk | (show 1 ≤ _; omega)) (by first | (simp only [lvl]; omega) | (have := pt_lvl p; omega))) ?_; intro t l _ hl; first | rw [pt_eats] at hl | simp only [eats] at hl)
        | exact Fine.refuse (by assumption)
        | exact Fine.ok (by assumption) (by first | (rw [pt_eats]; omega) | (simp only [eats]; omega) | (simp only [eats, pt_eats]; omega))
        | (refine Fine.mono (ih _ _ _ (by assumption) (by first | trivial | exact pt_ok _ _ | exact ok_leap _ (by assumption) (by simp) | exact ok_make (by assumption) (by simp) | exact And.intro (by simp) (by simp) | exact hk | (show 1 ≤ _; omega)) (by first | (simp only [lvl]; omega) | (have := pt_lvl p; omega))) (by first | (rw [pt_eats]; omega) | (simp only [eats]; omega) | (simp only [eats, pt_eats]; omega))))
    case define  =>
      simp only [lvl] at hn
      simp only [go]
      repeat (first
        | (with_reducible refine Fine.want (by assumption) (by first | (simp; done) | exact hk2.1 | exact hk2.2) ?_; intro x r _ _ hl)
        | (with_reducible refine Fine.wantK (by assumption) (by simp) ?_; intro x r _ _ hl)
        | (with_reducible refine Fine.enter (by assumption) (by first | (simp; done) | exact hk2.1) ?_; intro x r _ _ hl)
        | split
        | exact True.intro
        | (refine Fine.takeM (by assumption) (by assumption) (by simp) ?_; intro x r _ _ hl)
        | (refine Fine.takeK (by assumption) (by assumption) (by simp) ?_; intro x r _ _ hl)
        | (refine Fine.take (by assumption) (by first | exact .inl hk | exact .inl (builtin_mark (by assumption)) | exact .inl (isT_mark (by assumption)) | exact .inl (op_mark hk (by assumption))) ?_; intro x r _ _ hl)
        | (refine Fine.bnd (ih _ _ _ (by assumption) (by first | trivial | exact pt_ok _ _ | exact ok_leap _ (by assumption) (by simp) | exact ok_make (by assumption) (by simp) | exact And.intro (by simp) (by simp) | exact hk | (show 1 ≤ _; omega)) (by first | (simp only [lvl]; omega) | (have := pt_lvl p; omega))) ?_; intro t l _ hl; first | rw [pt_eats] at hl | simp only [eats] at hl)
        | exact Fine.refuse (by assumption)
        | exact Fine.ok (by assumption) (by first | (rw [pt_eats]; omega) | (simp only [eats]; omega) | (simp only [eats, pt_eats]; omega))
        | (refine Fine.mono (ih _ _ _ (by assumption) (by first | trivial | exact pt_ok _ _ | exact ok_leap _ (by assumption) (by simp) | exact ok_make (by assumption) (by simp) | exact And.intro (by simp) (by simp) | exact hk | (show 1 ≤ _; omega)) (by first | (simp only [lvl]; omega) | (have := pt_lvl p; omega))) (by first | (rw [pt_eats]; omega) | (simp only [eats]; omega) | (simp only [eats, pt_eats]; omega))))
    case simple  =>
      simp only [lvl] at hn
      simp only [go]
      repeat (first
        | (with_reducible refine Fine.want (by assumption) (by first | (simp; done) | exact hk2.1 | exact hk2.2) ?_; intro x r _ _ hl)
        | (with_reducible refine Fine.wantK (by assumption) (by simp) ?_; intro x r _ _ hl)
        | (with_reducible refine Fine.enter (by assumption) (by first | (simp; done) | exact hk2.1) ?_; intro x r _ _ hl)
        | split
        | exact True.intro
        | (refine Fine.takeM (by assumption) (by assumption) (by simp) ?_; intro x r _ _ hl)
        | (refine Fine.takeK (by assumption) (by assumption) (by simp) ?_; intro x r _ _ hl)
        | (refine Fine.take (by assumption) (by first | exact .inl hk | exact .inl (builtin_mark (by assumption)) | exact .inl (isT_mark (by assumption)) | exact .inl (op_mark hk (by assumption))) ?_; intro x r _ _ hl)
        | (refine Fine.bnd (ih _ _ _ (by assumption) (by first | trivial | exact pt_ok _ _ | exact ok_leap _ (by assumption) (by simp) | exact ok_make (by assumption) (by simp) | exact And.intro (by simp) (by simp) | exact hk | (show 1 ≤ _; omega)) (by first | (simp only [lvl]; omega) | (have := pt_lvl p; omega))) ?_; intro t l _ hl; first | rw [pt_eats] at hl | simp only [eats] at hl)
        | exact Fine.refuse (by assumption)
        | exact Fine.ok (by assumption) (by first | (rw [pt_eats]; omega) | (simp only [eats]; omega) | (simp only [eats, pt_eats]; omega))
        | (refine Fine.mono (ih _ _ _ (by assumption) (by first | trivial | exact pt_ok _ _ | exact ok_leap _ (by assumption) (by simp) | exact ok_make (by assumption) (by simp) | exact And.intro (by simp) (by simp) | exact hk | (show 1 ≤ _; omega)) (by first | (simp only [lvl]; omega) | (have := pt_lvl p; omega))) (by first | (rw [pt_eats]; omega) | (simp only [eats]; omega) | (simp only [eats, pt_eats]; omega))))
    case variable_  =>
      simp only [lvl] at hn
      simp only [go]
      repeat (first
        | (with_reducible refine Fine.want (by assumption) (by first | (simp; done) | exact hk2.1 | exact hk2.2) ?_; intro x r _ _ hl)
        | (with_reducible refine Fine.wantK (by assumption) (by simp) ?_; intro x r _ _ hl)
        | (with_reducible refine Fine.enter (by assumption) (by first | (simp; done) | exact hk2.1) ?_; intro x r _ _ hl)
        | split
        | exact True.intro
        | (refine Fine.takeM (by assumption) (by assumption) (by simp) ?_; intro x r _ _ hl)
        | (refine Fine.takeK (by assumption) (by assumption) (by simp) ?_; intro x r _ _ hl)
        | (refine Fine.take (by assumption) (by first | exact .inl hk | exact .inl (builtin_mark (by assumption)) | exact .inl (isT_mark (by assumption)) | exact .inl (op_mark hk (by assumption))) ?_; intro x r _ _ hl)
        | (refine Fine.bnd (ih _ _ _ (by assumption) (by first | trivial | exact pt_ok _ _ | exact ok_leap _ (by assumption) (by simp) | exact ok_make (by assumption) (by simp) | exact And.intro (by simp) (by simp) | exact hk | (show 1 ≤ _; omega)) (by first | (simp only [lvl]; omega) | (have := pt_lvl p; omega))) ?_; intro t l _ hl; first | rw [pt_eats] at hl | simp only [eats] at hl)
        | exact Fine.refuse (by assumption)
        | exact Fine.ok (by assumption) (by first | (rw [pt_eats]; omega) | (simp only [eats]; omega) | (simp only [eats, pt_eats]; omega))
        | (refine Fine.mono (ih _ _ _ (by assumption) (by first | trivial | exact pt_ok _ _ | exact ok_leap _ (by assumption) (by simp) | exact ok_make (by assumption) (by simp) | exact And.intro (by simp) (by simp) | exact hk | (show 1 ≤ _; omega)) (by first | (simp only [lvl]; omega) | (have := pt_lvl p; omega))) (by first | (rw [pt_eats]; omega) | (simp only [eats]; omega) | (simp only [eats, pt_eats]; omega))))
    case named k =>
      simp only [lvl] at hn
      simp only [go]
      repeat (first
        | (with_reducible refine Fine.want (by assumption) (by first | (simp; done) | exact hk2.1 | exact hk2.2) ?_; intro x r _ _ hl)
        | (with_reducible refine Fine.wantK (by assumption) (by simp) ?_; intro x r _ _ hl)
        | (with_reducible refine Fine.enter (by assumption) (by first | (simp; done) | exact hk2.1) ?_; intro x r _ _ hl)
        | split
        | exact True.intro
        | (refine Fine.takeM (by assumption) (by assumption) (by simp) ?_; intro x r _ _ hl)
        | (refine Fine.takeK (by assumption) (by assumption) (by simp) ?_; intro x r _ _ hl)
        | (refine Fine.take (by assumption) (by first | exact .inl hk | exact .inl (builtin_mark (by assumption)) | exact .inl (isT_mark (by assumption)) | exact .inl (op_mark hk (by assumption))) ?_; intro x r _ _ hl)
        | (refine Fine.bnd (ih _ _ _ (by assumption) (by first | trivial | exact pt_ok _ _ | exact ok_leap _ (by assumption) (by simp) | exact ok_make (by assumption) (by simp) | exact And.intro (by simp) (by simp) | exact hk | (show 1 ≤ _; omega)) (by first | (simp only [lvl]; omega) | (have := pt_lvl p; omega))) ?_; intro t l _ hl; first | rw [pt_eats] at hl | simp only [eats] at hl)
        | exact Fine.refuse (by assumption)
        | exact Fine.ok (by assumption) (by first | (rw [pt_eats]; omega) | (simp only [eats]; omega) | (simp only [eats, pt_eats]; omega))
        | (refine Fine.mono (ih _ _ _ (by assumption) (by first | trivial | exact pt_ok _ _ | exact ok_leap _ (by assumption) (by simp) | exact ok_make (by assumption) (by simp) | exact And.intro (by simp) (by simp) | exact hk | (show 1 ≤ _; omega)) (by first | (simp only [lvl]; omega) | (have := pt_lvl p; omega))) (by first | (rw [pt_eats]; omega) | (simp only [eats]; omega) | (simp only [eats, pt_eats]; omega))))
    case param  =>
      simp only [lvl] at hn
      simp only [go]
      repeat (first
        | (with_reducible refine Fine.want (by assumption) (by first | (simp; done) | exact hk2.1 | exact hk2.2) ?_; intro x r _ _ hl)
        | (with_reducible refine Fine.wantK (by assumption) (by simp) ?_; intro x r _ _ hl)
        | (with_reducible refine Fine.enter (by assumption) (by first | (simp; done) | exact hk2.1) ?_; intro x r _ _ hl)
        | split
        | exact True.intro
        | (refine Fine.takeM (by assumption) (by assumption) (by simp) ?_; intro x r _ _ hl)
        | (refine Fine.takeK (by assumption) (by assumption) (by simp) ?_; intro x r _ _ hl)
        | (refine Fine.take (by assumption) (by first | exact .inl hk | exact .inl (builtin_mark (by assumption)) | exact .inl (isT_mark (by assumption)) | exact .inl (op_mark hk (by assumption))) ?_; intro x r _ _ hl)
        | (refine Fine.bnd (ih _ _ _ (by assumption) (by first | trivial | exact pt_ok _ _ | exact ok_leap _ (by assumption) (by simp) | exact ok_make (by assumption) (by simp) | exact And.intro (by simp) (by simp) | exact hk | (show 1 ≤ _; omega)) (by first | (simp only [lvl]; omega) | (have := pt_lvl p; omega))) ?_; intro t l _ hl; first | rw [pt_eats] at hl | simp only [eats] at hl)
        | exact Fine.refuse (by assumption)
        | exact Fine.ok (by assumption) (by first | (rw [pt_eats]; omega) | (simp only [eats]; omega) | (simp only [eats, pt_eats]; omega))
        | (refine Fine.mono (ih _ _ _ (by assumption) (by first | trivial | exact pt_ok _ _ | exact ok_leap _ (by assumption) (by simp) | exact ok_make (by assumption) (by simp) | exact And.intro (by simp) (by simp) | exact hk | (show 1 ≤ _; omega)) (by first | (simp only [lvl]; omega) | (have := pt_lvl p; omega))) (by first | (rw [pt_eats]; omega) | (simp only [eats]; omega) | (simp only [eats, pt_eats]; omega))))
    case typeOf  =>
      simp only [lvl] at hn
      simp only [go]
      repeat (first
        | (with_reducible refine Fine.want (by assumption) (by first | (simp; done) | exact hk2.1 | exact hk2.2) ?_; intro x r _ _ hl)
        | (with_reducible refine Fine.wantK (by assumption) (by simp) ?_; intro x r _ _ hl)
        | (with_reducible refine Fine.enter (by assumption) (by first | (simp; done) | exact hk2.1) ?_; intro x r _ _ hl)
        | split
        | exact True.intro
        | (refine Fine.takeM (by assumption) (by assumption) (by simp) ?_; intro x r _ _ hl)
        | (refine Fine.takeK (by assumption) (by assumption) (by simp) ?_; intro x r _ _ hl)
        | (refine Fine.take (by assumption) (by first | exact .inl hk | exact .inl (builtin_mark (by assumption)) | exact .inl (isT_mark (by assumption)) | exact .inl (op_mark hk (by assumption))) ?_; intro x r _ _ hl)
        | (refine Fine.bnd (ih _ _ _ (by assumption) (by first | trivial | exact pt_ok _ _ | exact ok_leap _ (by assumption) (by simp) | exact ok_make (by assumption) (by simp) | exact And.intro (by simp) (by simp) | exact hk | (show 1 ≤ _; omega)) (by first | (simp only [lvl]; omega) | (have := pt_lvl p; omega))) ?_; intro t l _ hl; first | rw [pt_eats] at hl | simp only [eats] at hl)
        | exact Fine.refuse (by assumption)
        | exact Fine.ok (by assumption) (by first | (rw [pt_eats]; omega) | (simp only [eats]; omega) | (simp only [eats, pt_eats]; omega))
        | (refine Fine.mono (ih _ _ _ (by assumption) (by first | trivial | exact pt_ok _ _ | exact ok_leap _ (by assumption) (by simp) | exact ok_make (by assumption) (by simp) | exact And.intro (by simp) (by simp) | exact hk | (show 1 ≤ _; omega)) (by first | (simp only [lvl]; omega) | (have := pt_lvl p; omega))) (by first | (rw [pt_eats]; omega) | (simp only [eats]; omega) | (simp only [eats, pt_eats]; omega))))
    case typeName  =>
      simp only [lvl] at hn
      simp only [go]
      repeat (first
        | (with_reducible refine Fine.want (by assumption) (by first | (simp; done) | exact hk2.1 | exact hk2.2) ?_; intro x r _ _ hl)
        | (with_reducible refine Fine.wantK (by assumption) (by simp) ?_; intro x r _ _ hl)
        | (with_reducible refine Fine.enter (by assumption) (by first | (simp; done) | exact hk2.1) ?_; intro x r _ _ hl)
        | split
        | exact True.intro
        | (refine Fine.takeM (by assumption) (by assumption) (by simp) ?_; intro x r _ _ hl)
        | (refine Fine.takeK (by assumption) (by assumption) (by simp) ?_; intro x r _ _ hl)
        | (refine Fine.take (by assumption) (by first | exact .inl hk | exact .inl (builtin_mark (by assumption)) | exact .inl (isT_mark (by assumption)) | exact .inl (op_mark hk (by assumption))) ?_; intro x r _ _ hl)
        | (refine Fine.bnd (ih _ _ _ (by assumption) (by first | trivial | exact pt_ok _ _ | exact ok_leap _ (by assumption) (by simp) | exact ok_make (by assumption) (by simp) | exact And.intro (by simp) (by simp) | exact hk | (show 1 ≤ _; omega)) (by first | (simp only [lvl]; omega) | (have := pt_lvl p; omega))) ?_; intro t l _ hl; first | rw [pt_eats] at hl | simp only [eats] at hl)
        | exact Fine.refuse (by assumption)
        | exact Fine.ok (by assumption) (by first | (rw [pt_eats]; omega) | (simp only [eats]; omega) | (simp only [eats, pt_eats]; omega))
        | (refine Fine.mono (ih _ _ _ (by assumption) (by first | trivial | exact pt_ok _ _ | exact ok_leap _ (by assumption) (by simp) | exact ok_make (by assumption) (by simp) | exact And.intro (by simp) (by simp) | exact hk | (show 1 ≤ _; omega)) (by first | (simp only [lvl]; omega) | (have := pt_lvl p; omega))) (by first | (rw [pt_eats]; omega) | (simp only [eats]; omega) | (simp only [eats, pt_eats]; omega))))
    case head p =>
      simp only [lvl] at hn
      simp only [go]
      repeat (first
        | (with_reducible refine Fine.want (by assumption) (by first | (simp; done) | exact hk2.1 | exact hk2.2) ?_; intro x r _ _ hl)
        | (with_reducible refine Fine.wantK (by assumption) (by simp) ?_; intro x r _ _ hl)
        | (with_reducible refine Fine.enter (by assumption) (by first | (simp; done) | exact hk2.1) ?_; intro x r _ _ hl)
        | split
        | exact True.intro
        | (refine Fine.takeM (by assumption) (by assumption) (by simp) ?_; intro x r _ _ hl)
        | (refine Fine.takeK (by assumption) (by assumption) (by simp) ?_; intro x r _ _ hl)
        | (refine Fine.take (by assumption) (by first | exact .inl hk | exact .inl (builtin_mark (by assumption)) | exact .inl (isT_mark (by assumption)) | exact .inl (op_mark hk (by assumption))) ?_; intro x r _ _ hl)
        | (refine Fine.bnd (ih _ _ _ (by assumption) (by first | trivial | exact pt_ok _ _ | exact ok_leap _ (by assumption) (by simp) | exact ok_make (by assumption) (by simp) | exact And.intro (by simp) (by simp) | exact hk | (show 1 ≤ _; omega)) (by first | (simp only [lvl]; omega) | (have := pt_lvl p; omega))) ?_; intro t l _ hl; first | rw [pt_eats] at hl | simp only [eats] at hl)
        | exact Fine.refuse (by assumption)
        | exact Fine.ok (by assumption) (by first | (rw [pt_eats]; omega) | (simp only [eats]; omega) | (simp only [eats, pt_eats]; omega))
        | (refine Fine.mono (ih _ _ _ (by assumption) (by first | trivial | exact pt_ok _ _ | exact ok_leap _ (by assumption) (by simp) | exact ok_make (by assumption) (by simp) | exact And.intro (by simp) (by simp) | exact hk | (show 1 ≤ _; omega)) (by first | (simp only [lvl]; omega) | (have := pt_lvl p; omega))) (by first | (rw [pt_eats]; omega) | (simp only [eats]; omega) | (simp only [eats, pt_eats]; omega))))
    case file  =>
      simp only [lvl] at hn
      simp only [go]
      repeat (first
        | (with_reducible refine Fine.want (by assumption) (by first | (simp; done) | exact hk2.1 | exact hk2.2) ?_; intro x r _ _ hl)
        | (with_reducible refine Fine.wantK (by assumption) (by simp) ?_; intro x r _ _ hl)
        | (with_reducible refine Fine.enter (by assumption) (by first | (simp; done) | exact hk2.1) ?_; intro x r _ _ hl)
        | split
        | exact True.intro
        | (refine Fine.takeM (by assumption) (by assumption) (by simp) ?_; intro x r _ _ hl)
        | (refine Fine.takeK (by assumption) (by assumption) (by simp) ?_; intro x r _ _ hl)
        | (refine Fine.take (by assumption) (by first | exact .inl hk | exact .inl (builtin_mark (by assumption)) | exact .inl (isT_mark (by assumption)) | exact .inl (op_mark hk (by assumption))) ?_; intro x r _ _ hl)
        | (refine Fine.bnd (ih _ _ _ (by assumption) (by first | trivial | exact pt_ok _ _ | exact ok_leap _ (by assumption) (by simp) | exact ok_make (by assumption) (by simp) | exact And.intro (by simp) (by simp) | exact hk | (show 1 ≤ _; omega)) (by first | (simp only [lvl]; omega) | (have := pt_lvl p; omega))) ?_; intro t l _ hl; first | rw [pt_eats] at hl | simp only [eats] at hl)
        | exact Fine.refuse (by assumption)
        | exact Fine.ok (by assumption) (by first | (rw [pt_eats]; omega) | (simp only [eats]; omega) | (simp only [eats, pt_eats]; omega))
        | (refine Fine.mono (ih _ _ _ (by assumption) (by first | trivial | exact pt_ok _ _ | exact ok_leap _ (by assumption) (by simp) | exact ok_make (by assumption) (by simp) | exact And.intro (by simp) (by simp) | exact hk | (show 1 ≤ _; omega)) (by first | (simp only [lvl]; omega) | (have := pt_lvl p; omega))) (by first | (rw [pt_eats]; omega) | (simp only [eats]; omega) | (simp only [eats, pt_eats]; omega))))
    case imports acc =>
      simp only [lvl] at hn
      simp only [go]
      repeat (first
        | (with_reducible refine Fine.want (by assumption) (by first | (simp; done) | exact hk2.1 | exact hk2.2) ?_; intro x r _ _ hl)
        | (with_reducible refine Fine.wantK (by assumption) (by simp) ?_; intro x r _ _ hl)
        | (with_reducible refine Fine.enter (by assumption) (by first | (simp; done) | exact hk2.1) ?_; intro x r _ _ hl)
        | split
        | exact True.intro
        | (refine Fine.takeM (by assumption) (by assumption) (by simp) ?_; intro x r _ _ hl)
        | (refine Fine.takeK (by assumption) (by assumption) (by simp) ?_; intro x r _ _ hl)
        | (refine Fine.take (by assumption) (by first | exact .inl hk | exact .inl (builtin_mark (by assumption)) | exact .inl (isT_mark (by assumption)) | exact .inl (op_mark hk (by assumption))) ?_; intro x r _ _ hl)
        | (refine Fine.bnd (ih _ _ _ (by assumption) (by first | trivial | exact pt_ok _ _ | exact ok_leap _ (by assumption) (by simp) | exact ok_make (by assumption) (by simp) | exact And.intro (by simp) (by simp) | exact hk | (show 1 ≤ _; omega)) (by first | (simp only [lvl]; omega) | (have := pt_lvl p; omega))) ?_; intro t l _ hl; first | rw [pt_eats] at hl | simp only [eats] at hl)
        | exact Fine.refuse (by assumption)
        | exact Fine.ok (by assumption) (by first | (rw [pt_eats]; omega) | (simp only [eats]; omega) | (simp only [eats, pt_eats]; omega))
        | (refine Fine.mono (ih _ _ _ (by assumption) (by first | trivial | exact pt_ok _ _ | exact ok_leap _ (by assumption) (by simp) | exact ok_make (by assumption) (by simp) | exact And.intro (by simp) (by simp) | exact hk | (show 1 ≤ _; omega)) (by first | (simp only [lvl]; omega) | (have := pt_lvl p; omega))) (by first | (rw [pt_eats]; omega) | (simp only [eats]; omega) | (simp only [eats, pt_eats]; omega))))
    case decls acc =>
      simp only [lvl] at hn
      simp only [go]
      repeat (first
        | (with_reducible refine Fine.want (by assumption) (by first | (simp; done) | exact hk2.1 | exact hk2.2) ?_; intro x r _ _ hl)
        | (with_reducible refine Fine.wantK (by assumption) (by simp) ?_; intro x r _ _ hl)
        | (with_reducible refine Fine.enter (by assumption) (by first | (simp; done) | exact hk2.1) ?_; intro x r _ _ hl)
        | split
        | exact True.intro
        | (refine Fine.takeM (by assumption) (by assumption) (by simp) ?_; intro x r _ _ hl)
        | (refine Fine.takeK (by assumption) (by assumption) (by simp) ?_; intro x r _ _ hl)
        | (refine Fine.take (by assumption) (by first | exact .inl hk | exact .inl (builtin_mark (by assumption)) | exact .inl (isT_mark (by assumption)) | exact .inl (op_mark hk (by assumption))) ?_; intro x r _ _ hl)
        | (refine Fine.bnd (ih _ _ _ (by assumption) (by first | trivial | exact pt_ok _ _ | exact ok_leap _ (by assumption) (by simp) | exact ok_make (by assumption) (by simp) | exact And.intro (by simp) (by simp) | exact hk | (show 1 ≤ _; omega)) (by first | (simp only [lvl]; omega) | (have := pt_lvl p; omega))) ?_; intro t l _ hl; first | rw [pt_eats] at hl | simp only [eats] at hl)
        | exact Fine.refuse (by assumption)
        | exact Fine.ok (by assumption) (by first | (rw [pt_eats]; omega) | (simp only [eats]; omega) | (simp only [eats, pt_eats]; omega))
        | (refine Fine.mono (ih _ _ _ (by assumption) (by first | trivial | exact pt_ok _ _ | exact ok_leap _ (by assumption) (by simp) | exact ok_make (by assumption) (by simp) | exact And.intro (by simp) (by simp) | exact hk | (show 1 ≤ _; omega)) (by first | (simp only [lvl]; omega) | (have := pt_lvl p; omega))) (by first | (rw [pt_eats]; omega) | (simp only [eats]; omega) | (simp only [eats, pt_eats]; omega))))
    case decl  =>
      simp only [lvl] at hn
      simp only [go]
      repeat (first
        | (with_reducible refine Fine.want (by assumption) (by first | (simp; done) | exact hk2.1 | exact hk2.2) ?_; intro x r _ _ hl)
        | (with_reducible refine Fine.wantK (by assumption) (by simp) ?_; intro x r _ _ hl)
        | (with_reducible refine Fine.enter (by assumption) (by first | (simp; done) | exact hk2.1) ?_; intro x r _ _ hl)
        | split
        | exact True.intro
        | (refine Fine.takeM (by assumption) (by assumption) (by simp) ?_; intro x r _ _ hl)
        | (refine Fine.takeK (by assumption) (by assumption) (by simp) ?_; intro x r _ _ hl)
        | (refine Fine.take (by assumption) (by first | exact .inl hk | exact .inl (builtin_mark (by assumption)) | exact .inl (isT_mark (by assumption)) | exact .inl (op_mark hk (by assumption))) ?_; intro x r _ _ hl)
        | (refine Fine.bnd (ih _ _ _ (by assumption) (by first | trivial | exact pt_ok _ _ | exact ok_leap _ (by assumption) (by simp) | exact ok_make (by assumption) (by simp) | exact And.intro (by simp) (by simp) | exact hk | (show 1 ≤ _; omega)) (by first | (simp only [lvl]; omega) | (have := pt_lvl p; omega))) ?_; intro t l _ hl; first | rw [pt_eats] at hl | simp only [eats] at hl)
        | exact Fine.refuse (by assumption)
        | exact Fine.ok (by assumption) (by first | (rw [pt_eats]; omega) | (simp only [eats]; omega) | (simp only [eats, pt_eats]; omega))
        | (refine Fine.mono (ih _ _ _ (by assumption) (by first | trivial | exact pt_ok _ _ | exact ok_leap _ (by assumption) (by simp) | exact ok_make (by assumption) (by simp) | exact And.intro (by simp) (by simp) | exact hk | (show 1 ≤ _; omega)) (by first | (simp only [lvl]; omega) | (have := pt_lvl p; omega))) (by first | (rw [pt_eats]; omega) | (simp only [eats]; omega) | (simp only [eats, pt_eats]; omega))))
    case constant  =>
      simp only [lvl] at hn
      simp only [go]
      repeat (first
        | (with_reducible refine Fine.want (by assumption) (by first | (simp; done) | exact hk2.1 | exact hk2.2) ?_; intro x r _ _ hl)
        | (with_reducible refine Fine.wantK (by assumption) (by simp) ?_; intro x r _ _ hl)
        | (with_reducible refine Fine.enter (by assumption) (by first | (simp; done) | exact hk2.1) ?_; intro x r _ _ hl)
        | split
        | exact True.intro
        | (refine Fine.takeM (by assumption) (by assumption) (by simp) ?_; intro x r _ _ hl)
        | (refine Fine.takeK (by assumption) (by assumption) (by simp) ?_; intro x r _ _ hl)
        | (refine Fine.take (by assumption) (by first | exact .inl hk | exact .inl (builtin_mark (by assumption)) | exact .inl (isT_mark (by assumption)) | exact .inl (op_mark hk (by assumption))) ?_; intro x r _ _ hl)
        | (refine Fine.bnd (ih _ _ _ (by assumption) (by first | trivial | exact pt_ok _ _ | exact ok_leap _ (by assumption) (by simp) | exact ok_make (by assumption) (by simp) | exact And.intro (by simp) (by simp) | exact hk | (show 1 ≤ _; omega)) (by first | (simp only [lvl]; omega) | (have := pt_lvl p; omega))) ?_; intro t l _ hl; first | rw [pt_eats] at hl | simp only [eats] at hl)
        | exact Fine.refuse (by assumption)
        | exact Fine.ok (by assumption) (by first | (rw [pt_eats]; omega) | (simp only [eats]; omega) | (simp only [eats, pt_eats]; omega))
        | (refine Fine.mono (ih _ _ _ (by assumption) (by first | trivial | exact pt_ok _ _ | exact ok_leap _ (by assumption) (by simp) | exact ok_make (by assumption) (by simp) | exact And.intro (by simp) (by simp) | exact hk | (show 1 ≤ _; omega)) (by first | (simp only [lvl]; omega) | (have := pt_lvl p; omega))) (by first | (rw [pt_eats]; omega) | (simp only [eats]; omega) | (simp only [eats, pt_eats]; omega))))
    case declaredType  =>
      simp only [lvl] at hn
      simp only [go]
      repeat (first
        | (with_reducible refine Fine.want (by assumption) (by first | (simp; done) | exact hk2.1 | exact hk2.2) ?_; intro x r _ _ hl)
        | (with_reducible refine Fine.wantK (by assumption) (by simp) ?_; intro x r _ _ hl)
        | (with_reducible refine Fine.enter (by assumption) (by first | (simp; done) | exact hk2.1) ?_; intro x r _ _ hl)
        | split
        | exact True.intro
        | (refine Fine.takeM (by assumption) (by assumption) (by simp) ?_; intro x r _ _ hl)
        | (refine Fine.takeK (by assumption) (by assumption) (by simp) ?_; intro x r _ _ hl)
        | (refine Fine.take (by assumption) (by first | exact .inl hk | exact .inl (builtin_mark (by assumption)) | exact .inl (isT_mark (by assumption)) | exact .inl (op_mark hk (by assumption))) ?_; intro x r _ _ hl)
        | (refine Fine.bnd (ih _ _ _ (by assumption) (by first | trivial | exact pt_ok _ _ | exact ok_leap _ (by assumption) (by simp) | exact ok_make (by assumption) (by simp) | exact And.intro (by simp) (by simp) | exact hk | (show 1 ≤ _; omega)) (by first | (simp only [lvl]; omega) | (have := pt_lvl p; omega))) ?_; intro t l _ hl; first | rw [pt_eats] at hl | simp only [eats] at hl)
        | exact Fine.refuse (by assumption)
        | exact Fine.ok (by assumption) (by first | (rw [pt_eats]; omega) | (simp only [eats]; omega) | (simp only [eats, pt_eats]; omega))
        | (refine Fine.mono (ih _ _ _ (by assumption) (by first | trivial | exact pt_ok _ _ | exact ok_leap _ (by assumption) (by simp) | exact ok_make (by assumption) (by simp) | exact And.intro (by simp) (by simp) | exact hk | (show 1 ≤ _; omega)) (by first | (simp only [lvl]; omega) | (have := pt_lvl p; omega))) (by first | (rw [pt_eats]; omega) | (simp only [eats]; omega) | (simp only [eats, pt_eats]; omega))))
    case parts p acc =>
      simp only [lvl] at hn
      simp only [go]
      repeat (first
        | (with_reducible refine Fine.want (by assumption) (by first | (simp; done) | exact hk2.1 | exact hk2.2) ?_; intro x r _ _ hl)
        | (with_reducible refine Fine.wantK (by assumption) (by simp) ?_; intro x r _ _ hl)
        | (with_reducible refine Fine.enter (by assumption) (by first | (simp; done) | exact hk2.1) ?_; intro x r _ _ hl)
        | split
        | exact True.intro
        | (refine Fine.takeM (by assumption) (by assumption) (by simp) ?_; intro x r _ _ hl)
        | (refine Fine.takeK (by assumption) (by assumption) (by simp) ?_; intro x r _ _ hl)
        | (refine Fine.take (by assumption) (by first | exact .inl hk | exact .inl (builtin_mark (by assumption)) | exact .inl (isT_mark (by assumption)) | exact .inl (op_mark hk (by assumption))) ?_; intro x r _ _ hl)
        | (refine Fine.bnd (ih _ _ _ (by assumption) (by first | trivial | exact pt_ok _ _ | exact ok_leap _ (by assumption) (by simp) | exact ok_make (by assumption) (by simp) | exact And.intro (by simp) (by simp) | exact hk | (show 1 ≤ _; omega)) (by first | (simp only [lvl]; omega) | (have := pt_lvl p; omega))) ?_; intro t l _ hl; first | rw [pt_eats] at hl | simp only [eats] at hl)
        | exact Fine.refuse (by assumption)
        | exact Fine.ok (by assumption) (by first | (rw [pt_eats]; omega) | (simp only [eats]; omega) | (simp only [eats, pt_eats]; omega))
        | (refine Fine.mono (ih _ _ _ (by assumption) (by first | trivial | exact pt_ok _ _ | exact ok_leap _ (by assumption) (by simp) | exact ok_make (by assumption) (by simp) | exact And.intro (by simp) (by simp) | exact hk | (show 1 ≤ _; omega)) (by first | (simp only [lvl]; omega) | (have := pt_lvl p; omega))) (by first | (rw [pt_eats]; omega) | (simp only [eats]; omega) | (simp only [eats, pt_eats]; omega))))
    case field  =>
      simp only [lvl] at hn
      simp only [go]
      repeat (first
        | (with_reducible refine Fine.want (by assumption) (by first | (simp; done) | exact hk2.1 | exact hk2.2) ?_; intro x r _ _ hl)
        | (with_reducible refine Fine.wantK (by assumption) (by simp) ?_; intro x r _ _ hl)
        | (with_reducible refine Fine.enter (by assumption) (by first | (simp; done) | exact hk2.1) ?_; intro x r _ _ hl)
        | split
        | exact True.intro
        | (refine Fine.takeM (by assumption) (by assumption) (by simp) ?_; intro x r _ _ hl)
        | (refine Fine.takeK (by assumption) (by assumption) (by simp) ?_; intro x r _ _ hl)
        | (refine Fine.take (by assumption) (by first | exact .inl hk | exact .inl (builtin_mark (by assumption)) | exact .inl (isT_mark (by assumption)) | exact .inl (op_mark hk (by assumption))) ?_; intro x r _ _ hl)
        | (refine Fine.bnd (ih _ _ _ (by assumption) (by first | trivial | exact pt_ok _ _ | exact ok_leap _ (by assumption) (by simp) | exact ok_make (by assumption) (by simp) | exact And.intro (by simp) (by simp) | exact hk | (show 1 ≤ _; omega)) (by first | (simp only [lvl]; omega) | (have := pt_lvl p; omega))) ?_; intro t l _ hl; first | rw [pt_eats] at hl | simp only [eats] at hl)
        | exact Fine.refuse (by assumption)
        | exact Fine.ok (by assumption) (by first | (rw [pt_eats]; omega) | (simp only [eats]; omega) | (simp only [eats, pt_eats]; omega))
        | (refine Fine.mono (ih _ _ _ (by assumption) (by first | trivial | exact pt_ok _ _ | exact ok_leap _ (by assumption) (by simp) | exact ok_make (by assumption) (by simp) | exact And.intro (by simp) (by simp) | exact hk | (show 1 ≤ _; omega)) (by first | (simp only [lvl]; omega) | (have := pt_lvl p; omega))) (by first | (rw [pt_eats]; omega) | (simp only [eats]; omega) | (simp only [eats, pt_eats]; omega))))
    case sig  =>
      simp only [lvl] at hn
      simp only [go]
      repeat (first
        | (with_reducible refine Fine.want (by assumption) (by first | (simp; done) | exact hk2.1 | exact hk2.2) ?_; intro x r _ _ hl)
        | (with_reducible refine Fine.wantK (by assumption) (by simp) ?_; intro x r _ _ hl)
        | (with_reducible refine Fine.enter (by assumption) (by first | (simp; done) | exact hk2.1) ?_; intro x r _ _ hl)
        | split
        | exact True.intro
        | (refine Fine.takeM (by assumption) (by assumption) (by simp) ?_; intro x r _ _ hl)
        | (refine Fine.takeK (by assumption) (by assumption) (by simp) ?_; intro x r _ _ hl)
        | (refine Fine.take (by assumption) (by first | exact .inl hk | exact .inl (builtin_mark (by assumption)) | exact .inl (isT_mark (by assumption)) | exact .inl (op_mark hk (by assumption))) ?_; intro x r _ _ hl)
        | (refine Fine.bnd (ih _ _ _ (by assumption) (by first | trivial | exact pt_ok _ _ | exact ok_leap _ (by assumption) (by simp) | exact ok_make (by assumption) (by simp) | exact And.intro (by simp) (by simp) | exact hk | (show 1 ≤ _; omega)) (by first | (simp only [lvl]; omega) | (have := pt_lvl p; omega))) ?_; intro t l _ hl; first | rw [pt_eats] at hl | simp only [eats] at hl)
        | exact Fine.refuse (by assumption)
        | exact Fine.ok (by assumption) (by first | (rw [pt_eats]; omega) | (simp only [eats]; omega) | (simp only [eats, pt_eats]; omega))
        | (refine Fine.mono (ih _ _ _ (by assumption) (by first | trivial | exact pt_ok _ _ | exact ok_leap _ (by assumption) (by simp) | exact ok_make (by assumption) (by simp) | exact And.intro (by simp) (by simp) | exact hk | (show 1 ≤ _; omega)) (by first | (simp only [lvl]; omega) | (have := pt_lvl p; omega))) (by first | (rw [pt_eats]; omega) | (simp only [eats]; omega) | (simp only [eats, pt_eats]; omega))))
    case declaredFunc  =>
      simp only [lvl] at hn
      simp only [go]
      repeat (first
        | (with_reducible refine Fine.want (by assumption) (by first | (simp; done) | exact hk2.1 | exact hk2.2) ?_; intro x r _ _ hl)
        | (with_reducible refine Fine.wantK (by assumption) (by simp) ?_; intro x r _ _ hl)
        | (with_reducible refine Fine.enter (by assumption) (by first | (simp; done) | exact hk2.1) ?_; intro x r _ _ hl)
        | split
        | exact True.intro
        | (refine Fine.takeM (by assumption) (by assumption) (by simp) ?_; intro x r _ _ hl)
        | (refine Fine.takeK (by assumption) (by assumption) (by simp) ?_; intro x r _ _ hl)
        | (refine Fine.take (by assumption) (by first | exact .inl hk | exact .inl (builtin_mark (by assumption)) | exact .inl (isT_mark (by assumption)) | exact .inl (op_mark hk (by assumption))) ?_; intro x r _ _ hl)
        | (refine Fine.bnd (ih _ _ _ (by assumption) (by first | trivial | exact pt_ok _ _ | exact ok_leap _ (by assumption) (by simp) | exact ok_make (by assumption) (by simp) | exact And.intro (by simp) (by simp) | exact hk | (show 1 ≤ _; omega)) (by first | (simp only [lvl]; omega) | (have := pt_lvl p; omega))) ?_; intro t l _ hl; first | rw [pt_eats] at hl | simp only [eats] at hl)
        | exact Fine.refuse (by assumption)
        | exact Fine.ok (by assumption) (by first | (rw [pt_eats]; omega) | (simp only [eats]; omega) | (simp only [eats, pt_eats]; omega))
        | (refine Fine.mono (ih _ _ _ (by assumption) (by first | trivial | exact pt_ok _ _ | exact ok_leap _ (by assumption) (by simp) | exact ok_make (by assumption) (by simp) | exact And.intro (by simp) (by simp) | exact hk | (show 1 ≤ _; omega)) (by first | (simp only [lvl]; omega) | (have := pt_lvl p; omega))) (by first | (rw [pt_eats]; omega) | (simp only [eats]; omega) | (simp only [eats, pt_eats]; omega))))
    case receiver  =>
      simp only [lvl] at hn
      simp only [go]
      repeat (first
        | (with_reducible refine Fine.want (by assumption) (by first | (simp; done) | exact hk2.1 | exact hk2.2) ?_; intro x r _ _ hl)
        | (with_reducible refine Fine.wantK (by assumption) (by simp) ?_; intro x r _ _ hl)
        | (with_reducible refine Fine.enter (by assumption) (by first | (simp; done) | exact hk2.1) ?_; intro x r _ _ hl)
        | split
        | exact True.intro
        | (refine Fine.takeM (by assumption) (by assumption) (by simp) ?_; intro x r _ _ hl)
        | (refine Fine.takeK (by assumption) (by assumption) (by simp) ?_; intro x r _ _ hl)
        | (refine Fine.take (by assumption) (by first | exact .inl hk | exact .inl (builtin_mark (by assumption)) | exact .inl (isT_mark (by assumption)) | exact .inl (op_mark hk (by assumption))) ?_; intro x r _ _ hl)
        | (refine Fine.bnd (ih _ _ _ (by assumption) (by first | trivial | exact pt_ok _ _ | exact ok_leap _ (by assumption) (by simp) | exact ok_make (by assumption) (by simp) | exact And.intro (by simp) (by simp) | exact hk | (show 1 ≤ _; omega)) (by first | (simp only [lvl]; omega) | (have := pt_lvl p; omega))) ?_; intro t l _ hl; first | rw [pt_eats] at hl | simp only [eats] at hl)
        | exact Fine.refuse (by assumption)
        | exact Fine.ok (by assumption) (by first | (rw [pt_eats]; omega) | (simp only [eats]; omega) | (simp only [eats, pt_eats]; omega))
        | (refine Fine.mono (ih _ _ _ (by assumption) (by first | trivial | exact pt_ok _ _ | exact ok_leap _ (by assumption) (by simp) | exact ok_make (by assumption) (by simp) | exact And.intro (by simp) (by simp) | exact hk | (show 1 ≤ _; omega)) (by first | (simp only [lvl]; omega) | (have := pt_lvl p; omega))) (by first | (rw [pt_eats]; omega) | (simp only [eats]; omega) | (simp only [eats, pt_eats]; omega))))
    case typeVar  =>
      simp only [lvl] at hn
      simp only [go]
      repeat (first
        | (with_reducible refine Fine.want (by assumption) (by first | (simp; done) | exact hk2.1 | exact hk2.2) ?_; intro x r _ _ hl)
        | (with_reducible refine Fine.wantK (by assumption) (by simp) ?_; intro x r _ _ hl)
        | (with_reducible refine Fine.enter (by assumption) (by first | (simp; done) | exact hk2.1) ?_; intro x r _ _ hl)
        | split
        | exact True.intro
        | (refine Fine.takeM (by assumption) (by assumption) (by simp) ?_; intro x r _ _ hl)
        | (refine Fine.takeK (by assumption) (by assumption) (by simp) ?_; intro x r _ _ hl)
        | (refine Fine.take (by assumption) (by first | exact .inl hk | exact .inl (builtin_mark (by assumption)) | exact .inl (isT_mark (by assumption)) | exact .inl (op_mark hk (by assumption))) ?_; intro x r _ _ hl)
        | (refine Fine.bnd (ih _ _ _ (by assumption) (by first | trivial | exact pt_ok _ _ | exact ok_leap _ (by assumption) (by simp) | exact ok_make (by assumption) (by simp) | exact And.intro (by simp) (by simp) | exact hk | (show 1 ≤ _; omega)) (by first | (simp only [lvl]; omega) | (have := pt_lvl p; omega))) ?_; intro t l _ hl; first | rw [pt_eats] at hl | simp only [eats] at hl)
        | exact Fine.refuse (by assumption)
        | exact Fine.ok (by assumption) (by first | (rw [pt_eats]; omega) | (simp only [eats]; omega) | (simp only [eats, pt_eats]; omega))
        | (refine Fine.mono (ih _ _ _ (by assumption) (by first | trivial | exact pt_ok _ _ | exact ok_leap _ (by assumption) (by simp) | exact ok_make (by assumption) (by simp) | exact And.intro (by simp) (by simp) | exact hk | (show 1 ≤ _; omega)) (by first | (simp only [lvl]; omega) | (have := pt_lvl p; omega))) (by first | (rw [pt_eats]; omega) | (simp only [eats]; omega) | (simp only [eats, pt_eats]; omega))))
end Go.Proofs.YtihnnbeepfgphaaGreatDoor
