/-
  Slices of texts that are built up, and slices of such.
-/
import Derived.Test.YtibfikadamfpdaaGo
namespace Go.Proofs.Ytibfikadamfpdaa
open Go.RowKit
set_option linter.unusedVariables false
set_option linter.unusedSimpArgs false

theorem app_gen {w : World} {ops : Array Oper} {rest : List Oper} {o : Oper} {a : Act} {Q : Exit → Act → World → Prop} (t e : TypeId) (z : Value) (bytes : Nat) (hgd : o.guard = none) (s x : Operand)
    (ho : o.op = .call { callee := .builtin .append, args := #[s, x], argTypes := #[t, t] })
    (ht : Try.prog.underlying t = some (.slice e)) (hinf : (Try.prog.info? e).map (fun i => (i.zero, i.size, i.bytes)) = some (some z, 1, bytes)) (hzs : z.cells.size = 1) (hby : bytes ≤ 1000)
    (base : Nat) (ov : Value) (m : Nat) (xs : List Value) (y : Value) (nb : Nat) (hs : a.eval s = ov) (hown : w.ownsRow base e 1 ov m xs) (hx : a.eval x = .slice (some ⟨nb, 0, none⟩) 1 1) (hb : Blk w nb e #[y]) (hy : y.oneCell' = true) (hl : m ≤ 1000) (hbase : base ≤ w.heap.size)
    (h : ∀ A' c' w', w'.ownsRow base e 1 (.slice A' (m + 1) c') (m + 1) (xs ++ [y]) → w.grownBy w' ov.ownBlock → ((Value.slice A' (m + 1) c').ownBlock = ov.ownBlock ∨ (Value.slice A' (m + 1) c').ownBlock = some w.heap.size) → wpList Try.prog ops Q rest (a.put o.dst (.slice A' (m + 1) c')) w') : wpList Try.prog ops Q (o :: rest) a w := by
  obtain ⟨i0, hi0, hz0, hz1, hz2⟩ := info_parts hinf
  refine wpList_append_any w hgd s x _ ho base e i0 _ 1 bytes ht hi0 hz0 hz1 hz2 hzs (by omega) ov m xs hs hown (nb + 1) (some ⟨nb, 0, none⟩) 1 1 [y] hx ⟨rfl, fun _ => ⟨_, rfl, by simp, fun j u hu => by rw [add0]; exact (hb.cell j).trans (by simpa using hu)⟩⟩ (by simpa using hy) (by simp only [maxLen]; omega) (by
    have : (m + 1) * bytes ≤ 1001 * 1000 := Nat.mul_le_mul (by omega) hby
    omega) hbase ?_
  intro v' w' h1 h2 h3
  obtain ⟨A', c', rfl⟩ := own_shape h1
  exact h A' c' w' h1 h2 h3
theorem info_str : (Try.prog.info? 9).map (fun i => (i.zero, i.size, i.bytes)) = some (some (.string ⟨#[]⟩), 1, 16) := by kernel_rfl
theorem info_strs : (Try.prog.info? 22).map (fun i => (i.zero, i.size, i.bytes)) = some (some (.slice none 0 0), 1, 24) := by kernel_rfl
theorem own_ne {w : World} {base base' : Nat} {e e' : TypeId} {v v' : Value} {n n' : Nat} {xs xs' : List Value} (h : w.ownsRow base e 1 v n xs) (h' : w.ownsRow base' e' 1 v' n' xs') (hne : e ≠ e') : v.ownBlock = none ∨ v.ownBlock ≠ v'.ownBlock := by
  rcases h.2 with ⟨rfl, _⟩ | ⟨g, cap, cur, rfl, _, hg, _⟩
  · exact .inl rfl
  · refine .inr fun he => ?_
    rcases h'.2 with ⟨rfl, _⟩ | ⟨g', cap', cur', rfl, _, hg', _⟩
    · simp [Value.ownBlock] at he
    · simp [Value.ownBlock] at he
      subst he
      rw [hg] at hg'
      injection hg' with hg'
      injection hg' with _ h2
      exact hne h2
/-- Rows of texts, in a slice of one's own. -/
structure TurnM (lo X : Nat) (wr : World) (tv : Value) (rows : List (List ByteArray)) (xs : List Value) : Prop where
  own : wr.ownsRow lo 22 1 tv rows.length xs
  row : ∀ (i : Nat) (r : List ByteArray), rows[i]? = some r → ∃ A' c, xs[i]? = some (Value.slice A' r.length c) ∧ wr.ownsRow lo 9 1 (.slice A' r.length c) r.length (r.map Value.string) ∧ ∀ k, (Value.slice A' r.length c).ownBlock = some k → k < X
theorem TurnM.none_ (lo X : Nat) (w : World) : TurnM lo X w (.slice none 0 0) [] [] := ⟨World.ownsRow_nil _ _ _ _, fun i r h => by simp at h⟩
/-- Another row of texts turned: these stay. -/
theorem TurnM.grown {lo X : Nat} {wr w' : World} {tv : Value} {rows : List (List ByteArray)} {xs : List Value} (h : TurnM lo X wr tv rows xs) {base : Nat} {lv : Value} {n : Nat} {ys : List Value} (hl : wr.ownsRow base 9 1 lv n ys) (hb : X ≤ base) (hg : wr.grownBy w' lv.ownBlock) : TurnM lo X w' tv rows xs :=
  ⟨h.own.kept hg (own_ne h.own hl (by decide)), fun i r hr => by
    obtain ⟨A', c, h1, h2, h3⟩ := h.row i r hr
    refine ⟨A', c, h1, h2.kept hg ?_, h3⟩
    cases e : (Value.slice A' r.length c).ownBlock with
    | none => exact .inl rfl
    | some k =>
      refine .inr fun e2 => ?_
      have := h3 k e
      have := (hl.lt k e2.symm).1
      omega⟩
theorem TurnM.below {lo X : Nat} {wr w' : World} {tv : Value} {rows : List (List ByteArray)} {xs : List Value} (h : TurnM lo X wr tv rows xs) (hb : Below wr.heap.size wr w') : TurnM lo X w' tv rows xs :=
  ⟨own_below h.own hb, fun i r hr => by
    obtain ⟨A', c, h1, h2, h3⟩ := h.row i r hr
    exact ⟨A', c, h1, own_below h2 hb, h3⟩⟩
theorem TurnM.more {lo X X' : Nat} {wr : World} {tv : Value} {rows : List (List ByteArray)} {xs : List Value} (h : TurnM lo X wr tv rows xs) (hX : X ≤ X') : TurnM lo X' wr tv rows xs :=
  ⟨h.own, fun i r hr => by
    obtain ⟨A', c, h1, h2, h3⟩ := h.row i r hr
    exact ⟨A', c, h1, h2, fun k hk => by have := h3 k hk; omega⟩⟩
/-- A row more. -/
theorem TurnM.snoc {lo X : Nat} {wr w' : World} {tv tv' : Value} {rows : List (List ByteArray)} {xs : List Value} (h : TurnM lo X wr tv rows xs) {A' : Option Addr} {c : Nat} {r : List ByteArray} (hr : wr.ownsRow lo 9 1 (.slice A' r.length c) r.length (r.map Value.string)) (hX : X ≤ wr.heap.size)
    (ho : w'.ownsRow lo 22 1 tv' (rows.length + 1) (xs ++ [.slice A' r.length c])) (hg : wr.grownBy w' tv.ownBlock) : TurnM lo wr.heap.size w' tv' (rows ++ [r]) (xs ++ [.slice A' r.length c]) := by
  have hxl : xs.length = rows.length := by have := h.own.1; omega
  refine ⟨by simpa using ho, fun i q hq => ?_⟩
  by_cases hi : i < rows.length
  · rw [List.getElem?_append_left hi] at hq
    obtain ⟨B', d, h1, h2, h3⟩ := h.row i q hq
    exact ⟨B', d, by rw [List.getElem?_append_left (by omega)]; exact h1, h2.kept hg (own_ne h2 h.own (by decide)), fun k hk => by have := h3 k hk; omega⟩
  · have hil := (List.getElem?_eq_some_iff.1 hq).1
    simp at hil
    have hie : i = rows.length := by omega
    subst hie
    simp at hq
    subst hq
    exact ⟨A', c, by rw [← hxl]; simp, hr.kept hg (own_ne hr h.own (by decide)), fun k hk => (hr.lt k hk).2⟩
theorem TurnM.sln {lo X : Nat} {wr : World} {A : Option Addr} {c : Nat} {rows : List (List ByteArray)} {xs : List Value} (h : TurnM lo X wr (.slice A rows.length c) rows xs) : SlN wr wr.heap.size A (rows.map fun r => r.map Value.string) := by
  refine ⟨xs, by have := h.own.1; simp; omega, SlV.own h.own, fun i l hl => ?_⟩
  simp only [List.getElem?_map, Option.map_eq_some_iff] at hl
  obtain ⟨r, hr, rfl⟩ := hl
  obtain ⟨A', c', h1, h2, _⟩ := h.row i r hr
  exact ⟨A', c', by rw [List.length_map]; exact h1, SlV.own h2⟩
theorem grown_below {lo : Nat} {w0 wr w' : World} {row : Option Nat} (hb : Below lo w0 wr) (hg : wr.grownBy w' row) (hlo : lo ≤ wr.heap.size) (hr : ∀ k, row = some k → lo ≤ k) : Below lo w0 w' :=
  hb.trans ⟨hg.os, hg.tape, hg.output, hg.size, fun k hk => hg.block k (by omega) fun e => by have := hr k e.symm; omega⟩

/-! ## Imports turned round and doubled change nothing. -/
def dupR (r : List ByteArray) : List ByteArray := r.reverse.flatMap fun s => [s, s]
theorem mem_dup {r : List ByteArray} {s : ByteArray} : s ∈ dupR r ↔ s ∈ r := by
  unfold dupR
  rw [List.mem_flatMap]
  constructor
  · rintro ⟨a, ha, h⟩
    have : s = a := by simpa using h
    rw [this]; simpa using ha
  · intro h
    exact ⟨s, by simpa using h, by simp⟩
theorem dup_length (r : List ByteArray) : (dupR r).length = 2 * r.length := by
  have h : ∀ l : List ByteArray, (l.flatMap fun s => [s, s]).length = 2 * l.length := by
    intro l
    induction l with
    | nil => rfl
    | cons a l ih => simp only [List.flatMap_cons, List.length_append, List.length_cons, List.length_nil, ih]; omega
  unfold dupR
  rw [h, List.length_reverse]
theorem any_dup {r : List ByteArray} {p : ByteArray → Bool} : (dupR r).any p = r.any p := by
  rw [Bool.eq_iff_iff, List.any_eq_true, List.any_eq_true]
  constructor
  · rintro ⟨s, h1, h2⟩; exact ⟨s, mem_dup.1 h1, h2⟩
  · rintro ⟨s, h1, h2⟩; exact ⟨s, mem_dup.2 h1, h2⟩
theorem ofN_dup (R : List (List ByteArray)) (i : Nat) : ofN (R.map dupR) i = dupR (ofN R i) := by
  unfold ofN
  rw [List.getElem?_map]
  cases R[i]? with
  | none => rfl
  | some r => rfl
theorem res_dup (N : List ByteArray) (R : List (List ByteArray)) : resN N (R.map dupR) = resN N R := by
  have h1 : lk N (R.map dupR) = lk N R := by
    funext i j
    unfold lk lkL
    rw [ofN_dup, any_dup]
  have h2 : bad9 N (R.map dupR) = bad9 N R := by
    unfold bad9 badL
    congr 1
    funext i
    rw [ofN_dup, any_dup]
  unfold resN
  rw [h1, h2]
end Go.Proofs.Ytibfikadamfpdaa
