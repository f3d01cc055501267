/-
  Names, a ring and a chain while they are made.
-/
import Derived.Test.YtibfikadamfpdaaWo
namespace Go.Proofs.Ytibfikadamfpdaa
open Go.RowKit
set_option linter.unusedVariables false
set_option linter.unusedSimpArgs false

/-- One of the rows: none, or a block of its own. -/
def OneR (lo : Nat) (Z : Option Nat) (wr : World) (v : Value) (r : List ByteArray) : Prop :=
  (v = .slice none 0 0 ∧ r = []) ∨ ∃ g s, v = .slice (some ⟨g, 0, none⟩) 1 1 ∧ r = [s] ∧ Blk wr g 9 #[.string s] ∧ lo ≤ g ∧ Z ≠ some g
structure RowsM (lo : Nat) (Z : Option Nat) (wr : World) (tv : Value) (rows : List (List ByteArray)) (xs : List Value) : Prop where
  own : wr.ownsRow lo 22 1 tv rows.length xs
  row : ∀ (i : Nat) (r : List ByteArray), rows[i]? = some r → ∃ v, xs[i]? = some v ∧ OneR lo Z wr v r
theorem RowsM.none_ (lo : Nat) (Z : Option Nat) (w : World) : RowsM lo Z w (.slice none 0 0) [] [] := ⟨World.ownsRow_nil _ _ _ _, fun i r h => by simp at h⟩
section
variable {lo : Nat} {Z Z' : Option Nat} {wr w' : World} {tv tv' v : Value} {rows : List (List ByteArray)} {xs : List Value} {r : List ByteArray}
theorem OneR.turn (h : OneR lo Z wr v r) (hk : ∀ g c, Blk wr g 9 c → Z ≠ some g → Blk w' g 9 c ∧ Z' ≠ some g) : OneR lo Z' w' v r := by
  rcases h with h | ⟨g, s, h1, h2, h3, h4, h5⟩
  · exact .inl h
  · obtain ⟨a, b⟩ := hk g _ h3 h5
    exact .inr ⟨g, s, h1, h2, a, h4, b⟩
theorem RowsM.turn (h : RowsM lo Z wr tv rows xs) (ho : w'.ownsRow lo 22 1 tv rows.length xs) (hk : ∀ g c, Blk wr g 9 c → Z ≠ some g → Blk w' g 9 c ∧ Z' ≠ some g) : RowsM lo Z' w' tv rows xs :=
  ⟨ho, fun i r hr => by
    obtain ⟨v, h1, h2⟩ := h.row i r hr
    exact ⟨v, h1, h2.turn hk⟩⟩
theorem RowsM.snoc (h : RowsM lo Z wr tv rows xs) (ho : w'.ownsRow lo 22 1 tv' (rows.length + 1) (xs ++ [v])) (hk : ∀ g c, Blk wr g 9 c → Z ≠ some g → Blk w' g 9 c ∧ Z' ≠ some g) (hv : OneR lo Z' w' v r) : RowsM lo Z' w' tv' (rows ++ [r]) (xs ++ [v]) := by
  have hxl : xs.length = rows.length := by have := h.own.1; omega
  refine ⟨by simpa using ho, fun i q hq => ?_⟩
  by_cases hi : i < rows.length
  · rw [List.getElem?_append_left hi] at hq
    obtain ⟨u, h1, h2⟩ := h.row i q hq
    exact ⟨u, by rw [List.getElem?_append_left (by omega)]; exact h1, h2.turn hk⟩
  · have hil := (List.getElem?_eq_some_iff.1 hq).1
    simp at hil
    have hie : i = rows.length := by omega
    subst hie
    simp at hq
    subst hq
    exact ⟨v, by rw [← hxl]; simp, hv⟩
theorem RowsM.sln {A : Option Addr} {c : Nat} (h : RowsM lo Z wr (.slice A rows.length c) rows xs) : SlN wr wr.heap.size A (rows.map fun r => r.map Value.string) := by
  refine ⟨xs, by have := h.own.1; simp; omega, SlV.own h.own, fun i l hl => ?_⟩
  simp only [List.getElem?_map, Option.map_eq_some_iff] at hl
  obtain ⟨r, hr, rfl⟩ := hl
  obtain ⟨v, h1, h2⟩ := h.row i r hr
  rcases h2 with ⟨rfl, rfl⟩ | ⟨g, s, rfl, rfl, h3, _⟩
  · exact ⟨none, 0, h1, SlV.nil_ _ _ _⟩
  · exact ⟨some ⟨g, 0, none⟩, 1, h1, fun _ => ⟨g, 0, rfl, h3.lt, fun j u hu => by rw [Nat.zero_add, h3.cell]; simpa using hu⟩⟩
end
theorem str_block {w : World} {base : Nat} {v : Value} {n : Nat} {ys : List Value} (h : w.ownsRow base 22 1 v n ys) {g : Nat} {c : Array Value} (hb : Blk w g 9 c) : v.ownBlock ≠ some g := own_blk_ne h hb (by decide)
/-- Names, ring, chain. -/
structure RS (w0 wr : World) (nv rv cv : Value) (ns : List ByteArray) (ring chain : List (List ByteArray)) (xr xc : List Value) : Prop where
  names : wr.ownsRow w0.heap.size 9 1 nv ns.length (ns.map Value.string)
  ringM : RowsM w0.heap.size nv.ownBlock wr rv ring xr
  chainM : RowsM w0.heap.size nv.ownBlock wr cv chain xc
  two : ∀ k, rv.ownBlock = some k → cv.ownBlock ≠ some k
  bel : Below w0.heap.size w0 wr
section
variable {w0 wr w' : World} {nv rv cv nv' rv' cv' : Value} {ns : List ByteArray} {ring chain : List (List ByteArray)} {xr xc : List Value}
theorem RS.start (w : World) : RS w w (.slice none 0 0) (.slice none 0 0) (.slice none 0 0) [] [] [] [] [] :=
  ⟨World.ownsRow_nil _ _ _ _, RowsM.none_ _ _ _, RowsM.none_ _ _ _, fun k h => by simp [Value.ownBlock] at h, Below.refl _ _⟩
theorem RS.below (h : RS w0 wr nv rv cv ns ring chain xr xc) (hb : Below wr.heap.size wr w') : RS w0 w' nv rv cv ns ring chain xr xc :=
  ⟨own_below h.names hb, h.ringM.turn (own_below h.ringM.own hb) (fun g c h1 h2 => ⟨h1.bel2 hb, h2⟩), h.chainM.turn (own_below h.chainM.own hb) (fun g c h1 h2 => ⟨h1.bel2 hb, h2⟩), h.two, h.bel.trans (hb.mono h.bel.size)⟩
theorem RS.addName (h : RS w0 wr nv rv cv ns ring chain xr xc) {s : ByteArray} (ho : w'.ownsRow w0.heap.size 9 1 nv' (ns.length + 1) (ns.map Value.string ++ [.string s])) (hg : wr.grownBy w' nv.ownBlock) (hv : nv'.ownBlock = nv.ownBlock ∨ nv'.ownBlock = some wr.heap.size) : RS w0 w' nv' rv cv (ns ++ [s]) ring chain xr xc := by
  have hk : ∀ g c, Blk wr g 9 c → nv.ownBlock ≠ some g → Blk w' g 9 c ∧ nv'.ownBlock ≠ some g := fun g c h1 h2 =>
    ⟨h1.grown hg (fun e => h2 e.symm), fun e => by
      rcases hv with e1 | e1
      · exact h2 (e1 ▸ e)
      · rw [e1] at e
        injection e with e
        have := h1.lt
        omega⟩
  exact ⟨by simpa using ho, h.ringM.turn (h.ringM.own.kept hg (own_ne h.ringM.own h.names (by decide))) hk, h.chainM.turn (h.chainM.own.kept hg (own_ne h.chainM.own h.names (by decide))) hk, h.two, grown_below h.bel hg h.bel.size fun k hk => (h.names.lt k hk).1⟩
theorem RS.addRing (h : RS w0 wr nv rv cv ns ring chain xr xc) {v : Value} {r : List ByteArray} (hr : OneR w0.heap.size nv.ownBlock wr v r) (ho : w'.ownsRow w0.heap.size 22 1 rv' (ring.length + 1) (xr ++ [v])) (hg : wr.grownBy w' rv.ownBlock) (hv : rv'.ownBlock = rv.ownBlock ∨ rv'.ownBlock = some wr.heap.size) : RS w0 w' nv rv' cv ns (ring ++ [r]) chain (xr ++ [v]) xc := by
  have hk : ∀ g c, Blk wr g 9 c → nv.ownBlock ≠ some g → Blk w' g 9 c ∧ nv.ownBlock ≠ some g := fun g c h1 h2 => ⟨h1.grown hg (fun e => str_block h.ringM.own h1 e.symm), h2⟩
  have hcr : cv.ownBlock = none ∨ cv.ownBlock ≠ rv.ownBlock := by
    cases e : cv.ownBlock with
    | none => exact .inl rfl
    | some k => exact .inr fun e2 => h.two k e2.symm e
  refine ⟨h.names.kept hg (own_ne h.names h.ringM.own (by decide)), h.ringM.snoc ho hk (hr.turn hk), h.chainM.turn (h.chainM.own.kept hg hcr) hk, fun k h1 h2 => ?_, grown_below h.bel hg h.bel.size fun k hk => (h.ringM.own.lt k hk).1⟩
  rcases hv with e1 | e1
  · exact h.two k (e1 ▸ h1) h2
  · rw [e1] at h1
    injection h1 with h1
    have := (h.chainM.own.lt k h2).2
    omega
theorem RS.addChain (h : RS w0 wr nv rv cv ns ring chain xr xc) {v : Value} {r : List ByteArray} (hr : OneR w0.heap.size nv.ownBlock wr v r) (ho : w'.ownsRow w0.heap.size 22 1 cv' (chain.length + 1) (xc ++ [v])) (hg : wr.grownBy w' cv.ownBlock) (hv : cv'.ownBlock = cv.ownBlock ∨ cv'.ownBlock = some wr.heap.size) : RS w0 w' nv rv cv' ns ring (chain ++ [r]) xr (xc ++ [v]) := by
  have hk : ∀ g c, Blk wr g 9 c → nv.ownBlock ≠ some g → Blk w' g 9 c ∧ nv.ownBlock ≠ some g := fun g c h1 h2 => ⟨h1.grown hg (fun e => str_block h.chainM.own h1 e.symm), h2⟩
  have hcr : rv.ownBlock = none ∨ rv.ownBlock ≠ cv.ownBlock := by
    cases e : rv.ownBlock with
    | none => exact .inl rfl
    | some k => exact .inr fun e2 => h.two k e e2.symm
  refine ⟨h.names.kept hg (own_ne h.names h.chainM.own (by decide)), h.ringM.turn (h.ringM.own.kept hg hcr) hk, h.chainM.snoc ho hk (hr.turn hk), fun k h1 h2 => ?_, grown_below h.bel hg h.bel.size fun k hk => (h.chainM.own.lt k hk).1⟩
  rcases hv with e1 | e1
  · exact h.two k h1 (e1 ▸ h2)
  · rw [e1] at h2
    injection h2 with h2
    have := (h.ringM.own.lt k h1).2
    omega
/-- A new block holds one text. -/
theorem RS.one (h : RS w0 wr nv rv cv ns ring chain xr xc) (s : ByteArray) : RS w0 (wr.alloc (.cells #[.string s] 9)) nv rv cv ns ring chain xr xc ∧ OneR w0.heap.size nv.ownBlock (wr.alloc (.cells #[.string s] 9)) (.slice (some ⟨wr.heap.size, 0, none⟩) 1 1) [s] :=
  ⟨h.below ((Below.refl _ _).alloc (Nat.le_refl _) _), .inr ⟨wr.heap.size, s, rfl, rfl, Blk.new _ _ _, h.bel.size, fun e => by have := (h.names.lt _ e).2; omega⟩⟩
theorem OneR.below {lo : Nat} {Z : Option Nat} {wr w' : World} {v : Value} {r : List ByteArray} (h : OneR lo Z wr v r) (hb : Below wr.heap.size wr w') : OneR lo Z w' v r := h.turn fun g c h1 h2 => ⟨h1.bel2 hb, h2⟩
end
end Go.Proofs.Ytibfikadamfpdaa
