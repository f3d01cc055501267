/-
  A type that is made, its parts by appends: memory.
-/
import Derived.Test.YtkgilhdoahkakaaTyYc
import Derived.Test.YtkgilhdoahkakaaSpl
namespace Go.Proofs.Ytkgilhdoahkakaa
open Go.RowKit
set_option linter.unusedVariables false
set_option linter.unusedSimpArgs false

section
variable {P : Program} {ops : Array Oper} {Q : Exit → Act → World → Prop}
theorem wpAny_one {n i : Nat} {L : Array Bool} {a : Act} {w : World} {o : Oper} (hr : Region.ready .any ops L = [i]) (ho : ops[i]? = some o) (hg : o.guard = none)
    (h : o.wp P a w (fun a' w' => wpAny P .any ops Q n (L.setIfInBounds i true) a' w') Q) : wpAny P .any ops Q (n + 1) L a w := by
  refine ⟨fun h0 => (by rw [hr] at h0; cases h0), fun j hj => ?_⟩
  rw [hr] at hj
  obtain rfl : j = i := by simpa using hj
  unfold wpOp
  have hw : Region.wanted o (yielded ops a.tmps) = true := by simp [Region.wanted, hg]
  simp only [ho, hw, if_true]
  exact .inl h
theorem wpAny_done {L : Array Bool} {a : Act} {w : World} (hr : Region.ready .any ops L = []) (h : Q .normal a w) : ∀ n, wpAny P .any ops Q n L a w
  | 0 => ⟨hr, h⟩
  | n + 1 => ⟨fun _ => h, fun i hi => by rw [hr] at hi; cases hi⟩
end
theorem add0 (g j : Nat) : (⟨g, 0, none⟩ : Addr).add j = ⟨g, j, none⟩ := by
  unfold Addr.add
  by_cases hj : j = 0 <;> simp [hj]
theorem RTs.snoc2 {w : World} {F : Nat → Prop} {u : Ty} {us : List Value} (hu : RT w F u us) : ∀ {ts : List Ty} {xs : List Value}, RTs w F ts xs → RTs w F (ts ++ [u]) (xs ++ us)
  | [], xs, h => by
    simp only [RTs] at h
    subst h
    simp only [List.nil_append, RTs]
    exact ⟨us, [], by simp, hu, rfl⟩
  | t :: r, xs, h => by
    simp only [RTs] at h
    obtain ⟨a, q, rfl, h2, h3⟩ := h
    simp only [List.cons_append, RTs]
    exact ⟨a, q ++ us, by rw [List.append_assoc], h2, RTs.snoc2 hu h3⟩
/-- A slice of types of one's own, the types' parts elsewhere. -/
def OwnT (w : World) (lo : Nat) (A : Option Addr) (c : Nat) (ts : List Ty) : Prop := ∃ xs, w.ownsRow lo 24 5 (.slice A ts.length c) ts.length xs ∧ RTs w (fun q => lo ≤ q ∧ (Value.slice A ts.length c).ownBlock ≠ some q) ts xs
theorem OwnT.nil_ (w : World) (lo : Nat) : OwnT w lo none 0 [] := ⟨[], ⟨rfl, .inl ⟨rfl, rfl⟩⟩, by simp only [RTs]⟩
theorem OwnT.lo {w : World} {lo : Nat} {A : Option Addr} {c : Nat} {ts : List Ty} (h : OwnT w lo A c ts) {q : Nat} (hq : (Value.slice A ts.length c).ownBlock = some q) : lo ≤ q ∧ q < w.heap.size := by
  obtain ⟨xs, h1, h2⟩ := h
  rcases h1.2 with ⟨he, hn⟩ | ⟨g, cap, cur, he, hg, hh, _⟩
  · rw [he] at hq; simp [Value.ownBlock] at hq
  · rw [he] at hq
    simp only [Value.ownBlock, Option.some.injEq] at hq
    subst hq
    exact ⟨hg, (Blk.lt (show Blk w g 24 cur from hh))⟩
theorem OwnT.bel {w w' : World} {lo : Nat} {A : Option Addr} {c : Nat} {ts : List Ty} (h : OwnT w lo A c ts) (hb : Below w.heap.size w w') : OwnT w' lo A c ts := by
  obtain ⟨xs, h1, h2⟩ := h
  exact ⟨xs, own_below h1 hb, RTs.keep (fun g _ hg => hb.block g hg) hb.size (fun _ _ h => h) _ _ h2⟩
theorem OwnT.set_ {w : World} {lo : Nat} {A : Option Addr} {c : Nat} {ts : List Ty} (h : OwnT w lo A c ts) {g : Nat} (hg : g < lo) (i : Nat) (v : Value) : OwnT (w.setCell ⟨g, i, none⟩ v) lo A c ts := by
  obtain ⟨xs, h1, h2⟩ := h
  have hG := (Gr.refl (S := fun x => x = g) w).in_ (g := g) i v
  exact ⟨xs, ownsRow_setCell_below h1 hg v, RTs.keep (fun k hk hl => hG.block k hl (fun e => by have : k = g := e; have := hk.1; omega)) hG.size (fun _ _ h => h) _ _ h2⟩
/-- Behind an append of one more. -/
theorem OwnT.more {w w' : World} {lo : Nat} {A A' : Option Addr} {c c' : Nat} {ts : List Ty} {u : Ty} {us xs : List Value} {B : Nat} (hB : lo ≤ B)
    (hx : RTs w (fun q => lo ≤ q ∧ (Value.slice A ts.length c).ownBlock ≠ some q) ts xs) (hu : RT w (fun q => B ≤ q) u us) (hBo : ∀ q, (Value.slice A ts.length c).ownBlock = some q → q < B)
    (ho : w'.ownsRow lo 24 5 (.slice A' (ts.length + 1) c') (ts.length + 1) (xs ++ us)) (hg : w.grownBy w' (Value.slice A ts.length c).ownBlock)
    (hn : (Value.slice A' (ts.length + 1) c').ownBlock = (Value.slice A ts.length c).ownBlock ∨ (Value.slice A' (ts.length + 1) c').ownBlock = some w.heap.size) : OwnT w' lo A' c' (ts ++ [u]) := by
  have hl : (ts ++ [u]).length = ts.length + 1 := by simp
  have key : ∀ q, q < w.heap.size → (Value.slice A ts.length c).ownBlock ≠ some q → (Value.slice A' (ts.length + 1) c').ownBlock ≠ some q := by
    intro q hq h1 h2
    rcases hn with hn | hn
    · exact h1 (hn.symm.trans h2)
    · rw [hn] at h2
      injection h2 with h2
      omega
  refine ⟨xs ++ us, by rw [hl]; exact ho, ?_⟩
  rw [hl]
  refine RTs.snoc2 ?_ ?_
  · refine RT.keep (F := fun q => B ≤ q) (fun k hk hlt => hg.block k hlt (fun e => by have := hBo k e.symm; have : B ≤ k := hk; omega)) hg.size (fun k hlt hk => ⟨Nat.le_trans hB hk, key k hlt (fun e => by have := hBo k e; have : B ≤ k := hk; omega)⟩) _ _ hu
  · exact RTs.keep (fun k hk hlt => hg.block k hlt (fun e => hk.2 e.symm)) hg.size (fun k hlt hk => ⟨hk.1, key k hlt hk.2⟩) _ _ hx
theorem OwnT.sl {w : World} {lo : Nat} {A : Option Addr} {c : Nat} {ts : List Ty} (h : OwnT w lo A c ts) : SlT w (fun q => lo ≤ q) A ts := by
  obtain ⟨xs, h1, h2⟩ := h
  refine ⟨xs, ⟨h1.1, fun hn => ?_⟩, RTs.keep (fun _ _ _ => rfl) (Nat.le_refl _) (fun _ _ h => h.1) _ _ h2⟩
  obtain ⟨g, cap, hv, hg, hlt⟩ := h1.form hn
  have hA : A = some ⟨g, 0, none⟩ := by injection hv
  subst hA
  exact ⟨g, 0, rfl, hg, hlt, fun j u hu => by rw [Nat.zero_add, ← add0]; exact h1.cells (g := g) rfl j u hu⟩
/-- The appended slice as an act. -/
theorem five_one (k : Int) (p n : ByteArray) (A B : Option Addr) (a b c d : Nat) : ∀ u ∈ [Value.int .i64 k, .string p, .string n, .slice A a b, .slice B c d], u.oneCell' = true := by
  intro u hu
  simp only [List.mem_cons, List.not_mem_nil, or_false] at hu
  rcases hu with rfl | rfl | rfl | rfl | rfl <;> rfl
theorem op_append5 {o : Oper} {a : Act} {w : World} {K : Act → World → Prop} {Q : Exit → Act → World → Prop} (s x : Operand) (ho : o.op = .call { callee := .builtin .append, args := #[s, x], argTypes := #[22, 22] }) (hty : o.type = 22)
    (lo : Nat) (A : Option Addr) (c : Nat) (ts : List Ty) (hs : a.eval s = .slice A ts.length c) (xs : List Value) (hown : w.ownsRow lo 24 5 (.slice A ts.length c) ts.length xs) (hlo : lo ≤ w.heap.size) (hlen : ts.length ≤ 2000000)
    (g : Nat) (k : Int) (p n : ByteArray) (A1 B1 : Option Addr) (m1 c1 l1 d1 : Nat) (hx : a.eval x = .slice (some ⟨g, 0, none⟩) 1 1) (hb : Blk w g 24 #[.int .i64 k, .string p, .string n, .slice A1 m1 c1, .slice B1 l1 d1])
    (h : ∀ A' c' w', w'.ownsRow lo 24 5 (.slice A' (ts.length + 1) c') (ts.length + 1) (xs ++ [.int .i64 k, .string p, .string n, .slice A1 m1 c1, .slice B1 l1 d1]) → w.grownBy w' (Value.slice A ts.length c).ownBlock → ((Value.slice A' (ts.length + 1) c').ownBlock = (Value.slice A ts.length c).ownBlock ∨ (Value.slice A' (ts.length + 1) c').ownBlock = some w.heap.size) → K (a.put o.dst (.slice A' (ts.length + 1) c')) w') : o.wp Try.prog a w K Q := by
  obtain ⟨i, hi, hzz⟩ := Option.map_eq_some_iff.1 info_type
  simp only [Prod.mk.injEq] at hzz
  obtain ⟨hz, hsz, hby⟩ := hzz
  refine wp_append_any (P := Try.prog) w s x 22 ho lo 24 i (.agg z5) 5 88 Try.underlying22 hi hz hsz hby rfl (by omega) _ _ _ hs hown (g + 1) _ 1 1 [.int .i64 k, .string p, .string n, .slice A1 m1 c1, .slice B1 l1 d1] hx ⟨rfl, fun _ => ⟨_, rfl, by show g < g + 1; omega, fun j u hu => ?_⟩⟩ (five_one _ _ _ _ _ _ _ _ _) (by unfold maxLen; omega) (by omega) hlo ?_
  · have e : (⟨g, 0, none⟩ : Addr).add j = ⟨g, j, none⟩ := by
      unfold Addr.add
      by_cases hj : j = 0 <;> simp [hj]
    rw [e, hb.cell, ← Array.getElem?_toList]
    exact hu
  · intro v' w' h2 h3 h4
    obtain ⟨A', c', rfl⟩ := own_shape h2
    exact h A' c' w' h2 h3 h4
/-- What a loop of appends leaves: what was there, the boxes, the type that is made. -/
structure LU (w wr : World) (c5 u5 : Array Value) (A : Option Addr) (c : Nat) (ts : List Ty) : Prop where
  bel : Below w.heap.size w wr
  box : Blk wr w.heap.size 24 c5
  res : Blk wr (w.heap.size + 1) 24 #[.int .i64 0, .string ⟨#[]⟩, .string ⟨#[]⟩, .slice none 0 0, .slice none 0 0]
  u : Blk wr (w.heap.size + 1 + 1) 24 u5
  own : OwnT wr (w.heap.size + 1 + 1 + 1) A c ts
theorem LU.bel2 {w wr V : World} {c5 u5 : Array Value} {A : Option Addr} {c : Nat} {ts : List Ty} (h : LU w wr c5 u5 A c ts) (hb : Below wr.heap.size wr V) : LU w V c5 u5 A c ts :=
  ⟨h.bel.trans (hb.mono h.bel.size), h.box.bel2 hb, h.res.bel2 hb, h.u.bel2 hb, h.own.bel hb⟩
/-- Behind the append and the store into the type that is made. -/
theorem LU.grow {w V w' : World} {c5 u5 : Array Value} {A A' : Option Addr} {c c' : Nat} {ts : List Ty} {u : Ty} {us xs : List Value} {B : Nat} (h : LU w V c5 u5 A c ts) (hB : w.heap.size + 1 + 1 + 1 ≤ B)
    (hx : RTs V (fun q => w.heap.size + 1 + 1 + 1 ≤ q ∧ (Value.slice A ts.length c).ownBlock ≠ some q) ts xs) (hu : RT V (fun q => B ≤ q) u us) (hBo : ∀ q, (Value.slice A ts.length c).ownBlock = some q → q < B)
    (ho : w'.ownsRow (w.heap.size + 1 + 1 + 1) 24 5 (.slice A' (ts.length + 1) c') (ts.length + 1) (xs ++ us)) (hg : V.grownBy w' (Value.slice A ts.length c).ownBlock)
    (hn : (Value.slice A' (ts.length + 1) c').ownBlock = (Value.slice A ts.length c).ownBlock ∨ (Value.slice A' (ts.length + 1) c').ownBlock = some V.heap.size) : LU w w' c5 u5 A' c' (ts ++ [u]) := by
  have key : ∀ q, q < w.heap.size + 1 + 1 + 1 → some q ≠ (Value.slice A ts.length c).ownBlock := fun q hq e => by have := (h.own.lo e.symm).1; omega
  refine ⟨h.bel.grown hg (Nat.le_trans h.bel.size (Nat.le_refl _)) (fun g e => by have := (h.own.lo e).1; omega), h.box.grown hg (key _ (by omega)), h.res.grown hg (key _ (by omega)), h.u.grown hg (key _ (by omega)), OwnT.more hB hx hu hBo ho hg hn⟩
theorem LU.put {w V : World} {c5 u5 : Array Value} {A : Option Addr} {c : Nat} {ts : List Ty} (h : LU w V c5 u5 A c ts) (i : Nat) (v : Value) : LU w (V.setCell ⟨w.heap.size + 1 + 1, i, none⟩ v) c5 (u5.setIfInBounds i v) A c ts :=
  ⟨h.bel.setCell (p := ⟨w.heap.size + 1 + 1, i, none⟩) (by show w.heap.size ≤ w.heap.size + 1 + 1; omega) v, h.box.far (by show w.heap.size ≠ w.heap.size + 1 + 1; omega) v, h.res.far (by show w.heap.size + 1 ≠ w.heap.size + 1 + 1; omega) v, h.u.set_ i v, h.own.set_ (by omega) i v⟩
/-- Beside an append: a slice of types that keeps clear of the row. -/
theorem SlT.beside {V w' : World} {lo : Nat} {A A' A3 : Option Addr} {n n' c c' : Nat} {l : List Ty} (h : SlT V (fun q => lo ≤ q ∧ (Value.slice A n c).ownBlock ≠ some q) A3 l) (hg : V.grownBy w' (Value.slice A n c).ownBlock)
    (hn : (Value.slice A' n' c').ownBlock = (Value.slice A n c).ownBlock ∨ (Value.slice A' n' c').ownBlock = some V.heap.size) : SlT w' (fun q => lo ≤ q ∧ (Value.slice A' n' c').ownBlock ≠ some q) A3 l :=
  h.keep (fun k hk hlt => hg.block k hlt (fun e => hk.2 e.symm)) hg.size (fun k hlt hk => ⟨hk.1, fun e => by
    rcases hn with hn | hn
    · exact hk.2 (hn.symm.trans e)
    · rw [hn] at e; injection e with e; omega⟩)
end Go.Proofs.Ytkgilhdoahkakaa
