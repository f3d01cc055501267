/-
  How many one imports; the order.
-/
import Derived.Test.YtibfikadamfpdaaHs
import Derived.Test.YtibfikadamfpdaaKa
import Derived.Test.YtibfikadamfpdaaLk
namespace Go.Proofs.Ytibfikadamfpdaa
open Go.RowKit
set_option linter.unusedVariables false
set_option linter.unusedSimpArgs false

theorem app_int {w : World} {ops : Array Oper} {rest : List Oper} {o : Oper} {a : Act} {Q : Exit → Act → World → Prop} (hgd : o.guard = none) (s x : Operand)
    (ho : o.op = .call { callee := .builtin .append, args := #[s, x], argTypes := #[26, 26] })
    (base : Nat) (ov : Value) (l : List Nat) (y nb : Nat) (hs : a.eval s = ov) (hown : w.ownsRow base 3 1 ov l.length (ints l)) (hx : a.eval x = .slice (some ⟨nb, 0, none⟩) 1 1) (hb : Blk w nb 3 #[.int .i64 y]) (hl : l.length ≤ 1000) (hbase : base ≤ w.heap.size)
    (h : ∀ A' c' w', w'.ownsRow base 3 1 (.slice A' (l.length + 1) c') (l ++ [y]).length (ints (l ++ [y])) → w.grownBy w' ov.ownBlock → ((Value.slice A' (l.length + 1) c').ownBlock = ov.ownBlock ∨ (Value.slice A' (l.length + 1) c').ownBlock = some w.heap.size) → wpList Try.prog ops Q rest (a.put o.dst (.slice A' (l.length + 1) c')) w') : wpList Try.prog ops Q (o :: rest) a w := by
  obtain ⟨i0, hi0, hz0, hz1, hz2⟩ := info_parts int_info
  refine wpList_append_any w hgd s x _ ho base 3 i0 _ 1 8 Try.underlying26 hi0 hz0 hz1 hz2 rfl (by omega) ov l.length (ints l) hs hown (nb + 1) (some ⟨nb, 0, none⟩) 1 1 [.int .i64 y] hx ⟨rfl, fun _ => ⟨_, rfl, by simp, fun j u hu => by rw [add0]; exact (hb.cell j).trans (by simpa using hu)⟩⟩ (by simp [Value.oneCell']) (by simp only [maxLen]; omega) (by omega) hbase ?_
  intro v' w' h1 h2 h3
  obtain ⟨A', c', rfl⟩ := own_shape h1
  exact h A' c' w' (by simpa [ints] using h1) h2 h3
theorem cnt_take {n : Nat} {tt : Nat → Nat → Bool} {i : Nat} : cntN n tt [] i = ((List.range n).filter (tt i)).length := by
  unfold cntN
  congr 1
  apply List.filter_congr
  intro x _
  simp
set_option maxRecDepth 100000 in
set_option maxHeartbeats 1000000 in
theorem imports_any (w : World) (B : Nat) (A : Option Addr) (n c i : Nat) (tt : Nat → Nat → Bool) (hT : SlN w B A (tabL n tt)) (hn : n ≤ 100) (hi : i < n) :
    Calls Try.prog 29 #[.slice A n c, .int .i64 i] w fun e w' => e = .returned (.int .i64 (cntN n tt [] i : Int)) ∧ w = w' := by
  obtain ⟨g, o, A', d, rfl, hg, hc, hr⟩ := hT.at_ (tabL_get hi)
  rw [rowB_length] at hc
  have HR := Lib.hid hr
  have n1 : (n : Int) ≤ 100 := by omega
  have i1 : (i : Int) < (n : Int) := by omega
  have i0 : (0 : Int) ≤ (i : Int) := by omega
  rw [cnt_take]
  obtain ⟨p, hp⟩ : ∃ p, tt i = p := ⟨_, rfl⟩
  rw [hp]
  have HP := Lib.hid hp
  clear hT hr hp
  go_enter Try.func29, Try.ntmps29
  go_wp2
  go_loopg [5, 13] n (fun gk v5 v13 wr => ∃ j : Nat, j + gk = n ∧ v13 = .int .i64 j ∧ v5 = .int .i64 (((List.range j).filter p).length : Int) ∧ w = wr)
  case atStart => exact ⟨0, by simp, rfl, rfl, rfl⟩
  case round =>
    obtain ⟨j, hj, rfl, rfl, rfl⟩ := hrel
    cases gk with
    | zero =>
      obtain rfl : j = n := by omega
      clear hj
      go_wp2
      go_ret
      exact ⟨rfl, rfl⟩
    | succ f =>
      have hjn : j < n := by omega
      have j1 : (j : Int) < (n : Int) := by omega
      have hle : ((List.range j).filter p).length ≤ j := by have := List.length_filter_le p (List.range j); simpa using this
      obtain ⟨g2, o2, rfl, _, hcj⟩ := HR.out.at_ (rowB_get (g := tt i) hjn)
      rw [HP.out] at hcj
      have hst : ((List.range (j + 1)).filter p).length = ((List.range j).filter p).length + if p j = true then 1 else 0 := by
        rw [List.range_succ, List.filter_append, List.length_append]
        cases hpj : p j <;> simp [hpj]
      have HS := Lib.hid hst
      clear hst
      obtain ⟨q, hq⟩ : ∃ q, ((List.range j).filter p).length = q := ⟨_, rfl⟩
      rw [hq] at HS hle
      rw [hq]
      have q0 : (q : Int) ≤ 100 := by omega
      clear hq
      cases hpj : p j with
      | true =>
        rw [hpj] at hcj
        have HPJ := Lib.hid hpj
        clear hpj
        go_wp2
        go_roundg f
        case measure => omega
        case rel => exact ⟨j + 1, by omega, by go_num, by rw [HS.out, HPJ.out]; go_num, rfl⟩
      | false =>
        rw [hpj] at hcj
        have HPJ := Lib.hid hpj
        clear hpj
        go_wp2
        go_roundg f
        case measure => omega
        case rel => exact ⟨j + 1, by omega, by go_num, by rw [HS.out, HPJ.out]; rfl, rfl⟩
/-- Numbers in memory. -/
def rowI (n : Nat) (f : Nat → Nat) : List Value := (List.range n).map fun j => Value.int .i64 (f j : Int)
theorem rowI_length (n : Nat) (g : Nat → Nat) : (rowI n g).length = n := by simp [rowI]
theorem rowI_get {n : Nat} {g : Nat → Nat} {j : Nat} (h : j < n) : (rowI n g)[j]? = some (.int .i64 (g j : Int)) := by simp [rowI, h]
theorem rowI_zero (n : Nat) : List.replicate n (Value.int .i64 0) = rowI n (fun _ => 0) := by
  apply List.ext_getElem?
  intro i
  by_cases h : i < n
  · rw [rowI_get h]; simp [h]
  · rw [List.getElem?_eq_none (by simp; omega), List.getElem?_eq_none (by rw [rowI_length]; omega)]
theorem rowI_set {n : Nat} {g : Nat → Nat} {t x : Nat} : (rowI n g).toArray.setIfInBounds t (.int .i64 (x : Int)) = (rowI n (fun j => if j = t then x else g j)).toArray := by
  apply Array.toList_inj.1
  rw [Array.toList_setIfInBounds]
  apply List.ext_getElem?
  intro i
  show ((rowI n g).set t _)[i]? = (rowI n _)[i]?
  by_cases h : i < n
  · rw [rowI_get h, List.getElem?_set]
    by_cases e : t = i
    · subst e; simp [rowI_length, h]
    · rw [if_neg e, rowI_get h, if_neg (fun h' => e h'.symm)]
  · rw [List.getElem?_eq_none (by rw [List.length_set, rowI_length]; omega), List.getElem?_eq_none (by rw [rowI_length]; omega)]
theorem rowI_congr {n : Nat} {f g : Nat → Nat} (h : ∀ i, i < n → f i = g i) : rowI n f = rowI n g := by
  unfold rowI
  apply List.map_congr_left
  intro x hx
  rw [h x (by simpa using hx)]
end Go.Proofs.Ytibfikadamfpdaa
