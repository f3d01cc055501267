/-
  Which place comes first; what stands twice, what is left.
-/
import Derived.Test.YtibfikadamfpdaaQu
namespace Go.Proofs.Ytibfikadamfpdaa
open Go.RowKit
set_option linter.unusedVariables false
set_option linter.unusedSimpArgs false

def fst9 {α : Type} [DecidableEq α] : List α → α → Option Nat
  | [], _ => none
  | a :: r, s => if a = s then some 0 else (fst9 r s).map (· + 1)
section
variable {α : Type} [DecidableEq α]
theorem fst9_at {s : α} : ∀ {l : List α} {j : Nat}, l[j]? = some s → (∀ k, k < j → l[k]? ≠ some s) → fst9 l s = some j
  | [], j, h, _ => by simp at h
  | a :: r, 0, h, _ => by simp at h; simp [fst9, h]
  | a :: r, j + 1, h, k => by
    have h0 : a ≠ s := fun e => k 0 (by omega) (by simp [e])
    have := fst9_at (l := r) (j := j) (s := s) (by simpa using h) (fun i hi => by have := k (i + 1) (by omega); simpa using this)
    simp [fst9, h0, this]
theorem fst9_none {s : α} : ∀ {l : List α}, s ∉ l → fst9 l s = none
  | [], _ => rfl
  | a :: r, h => by
    have h0 : a ≠ s := fun e => h (by simp [e])
    simp [fst9, h0, fst9_none (l := r) (s := s) (fun e => h (by simp [e]))]
theorem fst9_some {s : α} : ∀ {l : List α} {j : Nat}, fst9 l s = some j → l[j]? = some s ∧ ∀ k, k < j → l[k]? ≠ some s
  | [], j, h => by simp [fst9] at h
  | a :: r, j, h => by
    by_cases h0 : a = s
    · simp [fst9, h0] at h
      subst h
      exact ⟨by simp [h0], fun k hk => absurd hk (by omega)⟩
    · simp only [fst9, h0, if_false, Option.map_eq_some_iff] at h
      obtain ⟨i, hi, rfl⟩ := h
      obtain ⟨h1, h2⟩ := fst9_some hi
      refine ⟨by simpa using h1, fun k hk => ?_⟩
      cases k with
      | zero => simpa using h0
      | succ k => have := h2 k (by omega); simpa using this
theorem fst9_lt {s : α} {l : List α} {j : Nat} (h : fst9 l s = some j) : j < l.length := (List.getElem?_eq_some_iff.1 (fst9_some h).1).1
theorem fst9_mem {s : α} {l : List α} (h : s ∈ l) : ∃ j, fst9 l s = some j := by
  cases e : fst9 l s with
  | some j => exact ⟨j, rfl⟩
  | none =>
    exfalso
    induction l with
    | nil => simp at h
    | cons a r ih =>
      by_cases h0 : a = s
      · simp [fst9, h0] at e
      · simp [fst9, h0] at e
        exact ih (by rcases List.mem_cons.1 h with h | h; exact absurd h.symm h0; exact h) e
theorem fst9_isSome {s : α} {l : List α} : (fst9 l s).isSome = true ↔ s ∈ l := by
  constructor
  · intro h
    obtain ⟨j, hj⟩ := Option.isSome_iff_exists.1 h
    exact List.mem_of_getElem? (fst9_some hj).1
  · intro h
    obtain ⟨j, hj⟩ := fst9_mem h
    simp [hj]
def posZ : Option Nat → Int
  | none => -1
  | some i => (i : Int)
theorem posZ_nonneg (o : Option Nat) : decide (0 ≤ posZ o) = o.isSome := by
  cases o with
  | none => rfl
  | some i => simp [posZ]
end
theorem str_eq (a b : ByteArray) : (a.toList == b.toList) = decide (a = b) := by
  by_cases h : a = b
  · simp [h]
  · have : ¬ a.toList = b.toList := fun e => h (toList_inj.1 e)
    simp [h, this]
set_option maxRecDepth 100000 in
set_option maxHeartbeats 1000000 in
theorem idxS_any (w : World) (B : Nat) (A : Option Addr) (c : Nat) (l : List ByteArray) (s : ByteArray) (hl : SlV w B A (l.map Value.string)) (hn : l.length ≤ 100) :
    Calls Try.prog 28 #[.slice A l.length c, .string s] w fun e w' => e = .returned (.int .i64 (posZ (fst9 l s))) ∧ w = w' := by
  have HL := Lib.hid hl
  have n1 : (l.length : Int) ≤ 100 := by omega
  clear hl
  go_enter Try.func28, Try.ntmps28
  go_wp2
  go_loopg [8] l.length (fun gk v8 wr => ∃ j : Nat, j + gk = l.length ∧ v8 = .int .i64 j ∧ (∀ k, k < j → l[k]? ≠ some s) ∧ w = wr)
  case atStart => exact ⟨0, by simp, rfl, fun k hk => absurd hk (by omega), rfl⟩
  case round =>
    obtain ⟨j, hj, rfl, hk, rfl⟩ := hrel
    have HK := Lib.hid hk
    clear hk
    cases gk with
    | zero =>
      obtain rfl : j = l.length := by omega
      clear hj
      go_wp2
      go_ret
      have : fst9 l s = none := fst9_none fun h => by
        obtain ⟨k, hk⟩ := List.getElem?_of_mem h
        exact HK.out k (List.getElem?_eq_some_iff.1 hk).1 hk
      exact ⟨by rw [this]; rfl, rfl⟩
    | succ f =>
      have hjl : j < l.length := by omega
      obtain ⟨u, hu⟩ : ∃ u, l[j]? = some u := ⟨_, List.getElem?_eq_getElem hjl⟩
      obtain ⟨g, o, rfl, hg, hc⟩ := HL.out.at_ (k := j) (u := .string u) (by simp [hu])
      have HU := Lib.hid hu
      have j1 : (j : Int) < (l.length : Int) := by omega
      clear hu
      by_cases he : s = u
      · have e1 : (s.toList == u.toList) = true := by rw [str_eq]; simpa using he
        have HE := Lib.hid he
        clear he
        go_wp2
        go_ret
        exact ⟨by rw [fst9_at (by rw [HU.out, HE.out]) HK.out]; rfl, rfl⟩
      · have e1 : (s.toList == u.toList) = false := by rw [str_eq]; simpa using he
        have HE := Lib.hid he
        clear he
        go_wp2
        go_roundg f
        case measure => omega
        case rel =>
          refine ⟨j + 1, by omega, by go_num, fun k hk => ?_, rfl⟩
          by_cases hkj : k = j
          · subst hkj
            rw [HU.out]
            exact fun e => HE.out (Option.some.inj e).symm
          · exact HK.out k (by omega)
set_option maxRecDepth 100000 in
set_option maxHeartbeats 1000000 in
theorem idxI_any (w : World) (B : Nat) (A : Option Addr) (c : Nat) (l : List Nat) (s : Nat) (hl : SlV w B A (ints l)) (hn : l.length ≤ 100) :
    Calls Try.prog 37 #[.slice A l.length c, .int .i64 (s : Int)] w fun e w' => e = .returned (.int .i64 (posZ (fst9 l s))) ∧ w = w' := by
  have HL := Lib.hid hl
  have n1 : (l.length : Int) ≤ 100 := by omega
  clear hl
  go_enter Try.func37, Try.ntmps37
  go_wp2
  go_loopg [8] l.length (fun gk v8 wr => ∃ j : Nat, j + gk = l.length ∧ v8 = .int .i64 j ∧ (∀ k, k < j → l[k]? ≠ some s) ∧ w = wr)
  case atStart => exact ⟨0, by simp, rfl, fun k hk => absurd hk (by omega), rfl⟩
  case round =>
    obtain ⟨j, hj, rfl, hk, rfl⟩ := hrel
    have HK := Lib.hid hk
    clear hk
    cases gk with
    | zero =>
      obtain rfl : j = l.length := by omega
      clear hj
      go_wp2
      go_ret
      have : fst9 l s = none := fst9_none fun h => by
        obtain ⟨k, hk⟩ := List.getElem?_of_mem h
        exact HK.out k (List.getElem?_eq_some_iff.1 hk).1 hk
      exact ⟨by rw [this]; rfl, rfl⟩
    | succ f =>
      have hjl : j < l.length := by omega
      obtain ⟨u, hu⟩ : ∃ u, l[j]? = some u := ⟨_, List.getElem?_eq_getElem hjl⟩
      obtain ⟨g, o, rfl, hg, hc⟩ := HL.out.at_ (k := j) (u := .int .i64 (u : Int)) (by simp [ints, hu])
      have HU := Lib.hid hu
      have j1 : (j : Int) < (l.length : Int) := by omega
      clear hu
      by_cases he : s = u
      · have e1 : ((s : Int) == (u : Int)) = true := by exact beq_iff_eq.2 (show (s : Int) = (u : Int) by omega)
        have HE := Lib.hid he
        clear he
        go_wp2
        go_ret
        exact ⟨by rw [fst9_at (by rw [HU.out, HE.out]) HK.out]; rfl, rfl⟩
      · have e1 : ((s : Int) == (u : Int)) = false := by exact beq_eq_false_iff_ne.2 (show (s : Int) ≠ (u : Int) by omega)
        have HE := Lib.hid he
        clear he
        go_wp2
        go_roundg f
        case measure => omega
        case rel =>
          refine ⟨j + 1, by omega, by go_num, fun k hk => ?_, rfl⟩
          by_cases hkj : k = j
          · subst hkj
            rw [HU.out]
            exact fun e => HE.out (Option.some.inj e).symm
          · exact HK.out k (by omega)
set_option maxRecDepth 100000 in
theorem conS_any (w : World) (B : Nat) (A : Option Addr) (c : Nat) (l : List ByteArray) (s : ByteArray) (hl : SlV w B A (l.map Value.string)) (hn : l.length ≤ 100) :
    Calls Try.prog 27 #[.slice A l.length c, .string s] w fun e w' => e = .returned (.bool (fst9 l s).isSome) ∧ w = w' := by
  have HC := idxS_any w B A c l s hl hn
  have e := posZ_nonneg (fst9 l s)
  have HE := Lib.hid e
  clear e hl hn
  go_enter Try.func27, Try.ntmps27
  go_wp2_with (go_at_call 28; (with_reducible refine HC.mono ?_); rintro e w1 ⟨rfl, rfl⟩)
  go_ret
  exact ⟨by rw [← HE.out]; rfl, rfl⟩
set_option maxRecDepth 100000 in
theorem conI_any (w : World) (B : Nat) (A : Option Addr) (c : Nat) (l : List Nat) (s : Nat) (hl : SlV w B A (ints l)) (hn : l.length ≤ 100) :
    Calls Try.prog 33 #[.slice A l.length c, .int .i64 (s : Int)] w fun e w' => e = .returned (.bool (fst9 l s).isSome) ∧ w = w' := by
  have HC := idxI_any w B A c l s hl hn
  have e := posZ_nonneg (fst9 l s)
  have HE := Lib.hid e
  clear e hl hn
  go_enter Try.func33, Try.ntmps33
  go_wp2_with (go_at_call 37; (with_reducible refine HC.mono ?_); rintro e w1 ⟨rfl, rfl⟩)
  go_ret
  exact ⟨by rw [← HE.out]; rfl, rfl⟩
/-- The first place whose text stands ahead of it too. -/
def twice9 (N : List ByteArray) : Option Nat := (List.range N.length).find? fun i => (fst9 (N.take i) (txt9 N i)).isSome
def left9 (o : List Nat) (n : Nat) : Option Nat := (List.range n).find? fun i => !(fst9 o i).isSome
theorem find_at {p : Nat → Bool} {n j : Nat} (hj : j < n) (h : p j = true) (hk : ∀ k, k < j → p k = false) : (List.range n).find? p = some j := by
  rw [List.find?_range_eq_some]
  exact ⟨h, by simpa using hj, fun k hk' => by rw [hk k hk']; rfl⟩
theorem find_none {p : Nat → Bool} {n : Nat} (hk : ∀ k, k < n → p k = false) : (List.range n).find? p = none := by
  rw [List.find?_eq_none]
  intro x hx
  rw [hk x (by simpa using hx)]
  simp
def TwoP (w : World) (o : Option Nat) (e : Ending) (w' : World) : Prop := e = .returned (.tuple #[.int .i64 ((o.getD 0 : Nat) : Int), .bool o.isSome]) ∧ w = w'
set_option maxRecDepth 100000 in
set_option maxHeartbeats 1000000 in
theorem twice_any (w : World) (B : Nat) (A : Option Addr) (c : Nat) (N : List ByteArray) (hl : SlV w B A (N.map Value.string)) (hn : N.length ≤ 100) (hc : N.length ≤ c) :
    Calls Try.prog 22 #[.slice A N.length c] w (TwoP w (twice9 N)) := by
  have HL := Lib.hid hl
  have n1 : (N.length : Int) ≤ 100 := by omega
  have c1 : (N.length : Int) ≤ (c : Int) := by omega
  clear hl
  go_enter Try.func22, Try.ntmps22
  go_wp2
  go_loopg [8] (N.length) (fun gk v8 wr => ∃ j : Nat, j + gk = N.length ∧ v8 = .int .i64 j ∧ (∀ k, k < j → (fun i => (fst9 (N.take i) (txt9 N i)).isSome) k = false) ∧ w = wr)
  case atStart => exact ⟨0, by simp, rfl, fun k hk => absurd hk (by omega), rfl⟩
  case round =>
    obtain ⟨j, hj, rfl, hk, rfl⟩ := hrel
    have HK := Lib.hid hk
    clear hk
    cases gk with
    | zero =>
      have ej : j = N.length := by omega
      have HP := Lib.hid (show twice9 N = none from find_none (by rw [← ej]; exact HK.out))
      have nlt : ¬ (j : Int) < (N.length : Int) := by omega
      clear hj ej
      go_wp2
      go_ret2
      exact ⟨by rw [HP.out]; rfl, rfl⟩
    | succ f =>
      have hjl : j < N.length := by omega
      have j0 : (0 : Int) ≤ (j : Int) := by omega
      have j1 : (j : Int) < (N.length : Int) := by omega
      have j2 : j ≤ N.length := by omega
      obtain ⟨g, o, rfl, hg, hc1⟩ := HL.out.at_ (txt9_get hjl)
      have hlen : (N.take j).length = j := by simp; omega
      have j3 : (j : Int) ≤ (c : Int) := by omega
      cases ht : (fun i => (fst9 (N.take i) (txt9 N i)).isSome) j with
      | true =>
        have HT := Lib.hid ht
        have HC := conS_any w B _ c (N.take j) (txt9 N j) (by rw [List.map_take]; exact HL.out.take j) (by simp; omega)
        rw [show (fst9 (N.take j) (txt9 N j)).isSome = _ from ht, hlen] at HC
        clear ht
        go_wp2_with (go_at_call 27; (with_reducible refine HC.mono ?_); rintro e w1 ⟨rfl, rfl⟩)
        go_ret2
        exact ⟨by rw [show twice9 N = some j from find_at hjl HT.out HK.out]; rfl, rfl⟩
      | false =>
        have HT := Lib.hid ht
        have HC := conS_any w B _ c (N.take j) (txt9 N j) (by rw [List.map_take]; exact HL.out.take j) (by simp; omega)
        rw [show (fst9 (N.take j) (txt9 N j)).isSome = _ from ht, hlen] at HC
        clear ht
        go_wp2_with (go_at_call 27; (with_reducible refine HC.mono ?_); rintro e w1 ⟨rfl, rfl⟩)
        go_roundg f
        case measure => omega
        case rel =>
          refine ⟨j + 1, by omega, by go_num, fun k hk => ?_, rfl⟩
          by_cases hkj : k = j
          · rw [hkj]; exact HT.out
          · exact HK.out k (by omega)
set_option maxRecDepth 100000 in
set_option maxHeartbeats 1000000 in
theorem left_any (w : World) (B : Nat) (A : Option Addr) (c : Nat) (l : List Nat) (n : Nat) (hl : SlV w B A (ints l)) (hn : l.length ≤ 100) (hn2 : n ≤ 100) :
    Calls Try.prog 25 #[.slice A l.length c, .int .i64 n] w (TwoP w (left9 l n)) := by
  have HL := Lib.hid hl
  have n1 : (n : Int) ≤ 100 := by omega
  clear hl
  go_enter Try.func25, Try.ntmps25
  go_wp2
  go_loopg [8] (n) (fun gk v8 wr => ∃ j : Nat, j + gk = n ∧ v8 = .int .i64 j ∧ (∀ k, k < j → (fun i => !(fst9 l i).isSome) k = false) ∧ w = wr)
  case atStart => exact ⟨0, by simp, rfl, fun k hk => absurd hk (by omega), rfl⟩
  case round =>
    obtain ⟨j, hj, rfl, hk, rfl⟩ := hrel
    have HK := Lib.hid hk
    clear hk
    cases gk with
    | zero =>
      have ej : j = n := by omega
      have HP := Lib.hid (show left9 l n = none from find_none (by rw [← ej]; exact HK.out))
      have nlt : ¬ (j : Int) < (n : Int) := by omega
      clear hj ej
      go_wp2
      go_ret2
      exact ⟨by rw [HP.out]; rfl, rfl⟩
    | succ f =>
      have hjl : j < n := by omega
      have j0 : (0 : Int) ≤ (j : Int) := by omega
      have j1 : (j : Int) < (n : Int) := by omega
      have j2 : j ≤ n := by omega
      cases ht : (fun i => !(fst9 l i).isSome) j with
      | true =>
        have HT := Lib.hid ht
        have HC := conI_any w B A c l j HL.out hn
        rw [show (fst9 l j).isSome = !((fun i => !(fst9 l i).isSome) j) from by simp, ht] at HC
        clear ht
        go_wp2_with (go_at_call 33; (with_reducible refine HC.mono ?_); rintro e w1 ⟨rfl, rfl⟩)
        go_ret2
        exact ⟨by rw [show left9 l n = some j from find_at hjl HT.out HK.out]; rfl, rfl⟩
      | false =>
        have HT := Lib.hid ht
        have HC := conI_any w B A c l j HL.out hn
        rw [show (fst9 l j).isSome = !((fun i => !(fst9 l i).isSome) j) from by simp, ht] at HC
        clear ht
        go_wp2_with (go_at_call 33; (with_reducible refine HC.mono ?_); rintro e w1 ⟨rfl, rfl⟩)
        go_roundg f
        case measure => omega
        case rel =>
          refine ⟨j + 1, by omega, by go_num, fun k hk => ?_, rfl⟩
          by_cases hkj : k = j
          · rw [hkj]; exact HT.out
          · exact HK.out k (by omega)
end Go.Proofs.Ytibfikadamfpdaa
