/-
  Both what the packages import and their order.
-/
import Derived.Test.YtibfikadamfpdaaOw
namespace Go.Proofs.Ytibfikadamfpdaa
open Go.RowKit
set_option linter.unusedVariables false
set_option linter.unusedSimpArgs false

/-- The order, a package's number, an error. -/
def resN (N : List ByteArray) (R : List (List ByteArray)) : List Nat × Nat × Nat :=
  if 8 < N.length then ([], 0, 12)
  else match twice9 N with
  | some i => ([], i, 7)
  | none => match bad9 N R with
    | some i => ([], i, 6)
    | none => match left9 (ordN N (lk N R)) N.length with
      | some i => ([], i, 9)
      | none => (ordN N (lk N R), 0, 0)
theorem ordF_len {n : Nat} {tt lt : Nat → Nat → Bool} : ∀ (f : Nat) (o : List Nat), (ordF n tt lt f o).length ≤ o.length + f
  | 0, o => by simp [ordF]
  | f + 1, o => by
    simp only [ordF]
    cases bestN n tt lt o with
    | none => show o.length ≤ _; omega
    | some b =>
      have := ordF_len (n := n) (tt := tt) (lt := lt) f (o ++ [b])
      simp at this
      show (ordF n tt lt f (o ++ [b])).length ≤ _
      omega
theorem ordN_len (N : List ByteArray) (tt : Nat → Nat → Bool) : (ordN N tt).length ≤ N.length := by
  have := ordF_len (n := N.length) (tt := tt) (lt := nlt N) N.length []
  simpa [ordN] using this
theorem find_spec {p : Nat → Bool} {n j : Nat} (h : (List.range n).find? p = some j) : j < n ∧ p j = true ∧ ∀ k, k < j → p k = false := by
  rw [List.find?_range_eq_some] at h
  obtain ⟨h1, h2, h3⟩ := h
  exact ⟨by simpa using h2, h1, fun k hk => by simpa using h3 k hk⟩
theorem find_spec_none {p : Nat → Bool} {n : Nat} (h : (List.range n).find? p = none) : ∀ k, k < n → p k = false := by
  rw [List.find?_eq_none] at h
  intro k hk
  simpa using h k (by simpa using hk)
theorem apart_of {N : List ByteArray} (h : twice9 N = none) : Apart N := by
  have h1 := find_spec_none h
  have key : ∀ a b, a < b → b < N.length → txt9 N a ≠ txt9 N b := fun a b hab hb e => by
    have h2 := h1 b hb
    have h3 : txt9 N b ∈ N.take b := by
      rw [← e]
      refine List.mem_of_getElem? (i := a) ?_
      rw [List.getElem?_take, if_pos hab]
      simp [txt9, List.getElem?_eq_getElem (show a < N.length by omega)]
    rw [fst9_isSome.2 h3] at h2
    cases h2
  intro a b ha hb e
  rcases Nat.lt_trichotomy a b with h2 | h2 | h2
  · exact absurd e (key a b h2 hb)
  · exact h2
  · exact absurd e.symm (key b a h2 ha)
/-- What ordered answers. -/
def Ord4 (w : World) (N : List ByteArray) (R : List (List ByteArray)) (e : Ending) (w' : World) : Prop :=
  (∃ lv A c, e = .returned (.tuple #[lv, .slice A (resN N R).1.length c, .int .i64 ((resN N R).2.1 : Int), .int .i64 ((resN N R).2.2 : Int)]) ∧ SlV w' w'.heap.size A (ints (resN N R).1) ∧
    ((resN N R).2.2 = 0 → ∃ D d, lv = .slice D N.length d ∧ SlN w' w'.heap.size D (tabL N.length (lk N R)))) ∧ Below w.heap.size w w'
theorem Ord4.fault {w w' : World} {N : List ByteArray} {R : List (List ByteArray)} {e : Ending} (i k : Nat) (hr : resN N R = ([], i, k)) (hk : k ≠ 0) (he : e = .returned (.tuple #[.slice none 0 0, .slice none 0 0, .int .i64 (i : Int), .int .i64 (k : Int)])) (hb : Below w.heap.size w w') : Ord4 w N R e w' := by
  refine ⟨⟨_, none, 0, by rw [hr]; exact he, by rw [hr]; exact SlV.nil_ _ _ _, fun h => ?_⟩, hb⟩
  rw [hr] at h
  exact absurd h hk
set_option maxRecDepth 100000 in
set_option maxHeartbeats 2000000 in
theorem ordered_any (w : World) (B : Nat) (A D : Option Addr) (c d : Nat) (N : List ByteArray) (R : List (List ByteArray)) (hN : SlV w B A (N.map Value.string)) (hR : SlN w B D (R.map fun r => r.map Value.string)) (hB : B ≤ w.heap.size) (hc : N.length ≤ c) (hn : N.length ≤ 12) (hr : R.length ≤ 100) (hrr : ∀ r ∈ R, r.length ≤ 100) :
    Calls Try.prog 17 #[.slice A N.length c, .slice D R.length d] w (Ord4 w N R) := by
  have n1 : (N.length : Int) ≤ 12 := by omega
  by_cases h8 : 8 < N.length
  · have HR := Lib.hid (show resN N R = ([], 0, 12) by unfold resN; rw [if_pos h8])
    have m1 : (8 : Int) < (N.length : Int) := by omega
    clear hN hR hrr
    go_enter Try.func17, Try.ntmps17
    go_wp2
    exact bodyPost_ret (v := .tuple #[.slice none 0 0, .slice none 0 0, .int .i64 0, .int .i64 12]) (by simp [results, Try.results17, go_sem]) rfl (Ord4.fault 0 12 HR.out (by omega) rfl (Below.refl _ _))
  · have m1 : (N.length : Int) ≤ 8 := by omega
    have HTW := twice_any w B A c N hN (by omega) hc
    cases ht : twice9 N with
    | some i =>
      rw [ht] at HTW
      have HR := Lib.hid (show resN N R = ([], i, 7) by unfold resN; rw [if_neg h8, ht])
      clear hN hR hrr ht h8
      go_enter Try.func17, Try.ntmps17
      go_wp2_with (go_at_call 22; (with_reducible refine HTW.mono ?_); rintro e w1 ⟨rfl, rfl⟩)
      exact bodyPost_ret (v := .tuple #[.slice none 0 0, .slice none 0 0, .int .i64 (i : Int), .int .i64 7]) (by simp [results, Try.results17, go_sem]) rfl (Ord4.fault i 7 HR.out (by omega) rfl (Below.refl _ _))
    | none =>
      rw [ht] at HTW
      have HLK := linked_any w B A D c d N R hN hR (by omega) hB hr hrr
      have hap := apart_of ht
      cases hb : bad9 N R with
      | some i =>
        have HR := Lib.hid (show resN N R = ([], i, 6) by unfold resN; rw [if_neg h8, ht]; simp only [hb])
        have HB := Lib.hid hb
        clear hN hR hrr ht h8 hap hb
        go_enter Try.func17, Try.ntmps17
        go_wp2_with (first
          | (go_at_call 23; (with_reducible refine HLK.mono ?_); rintro e w1 ⟨hb1, he1⟩; rw [HB.out] at he1; obtain rfl := he1)
          | (go_at_call 22; (with_reducible refine HTW.mono ?_); rintro e w1 ⟨rfl, rfl⟩))
        exact bodyPost_ret (v := .tuple #[.slice none 0 0, .slice none 0 0, .int .i64 (i : Int), .int .i64 6]) (by simp [results, Try.results17, go_sem]) rfl (Ord4.fault i 6 HR.out (by omega) rfl hb1)
      | none =>
        have HN := Lib.hid hN
        have HAP := Lib.hid hap
        have HB := Lib.hid hb
        have HT := Lib.hid ht
        have HOR := Lib.hid (fun (w1 : World) (hb1 : Below w.heap.size w w1) (D' : Option Addr) (hs : SlN w1 w1.heap.size D' (tabL N.length (lk N R))) => order_any w1 w1.heap.size A D' c N.length N (lk N R) ((hN.more hB).below hb1 |>.more hb1.size) hs (Nat.le_refl _) (by omega) hap)
        have hLL := ordN_len N (lk N R)
        obtain ⟨L, hL⟩ : ∃ L, ordN N (lk N R) = L := ⟨_, rfl⟩
        have hL8 : L.length ≤ 100 := by rw [← hL]; omega
        clear hLL
        cases hlf : left9 L N.length with
        | some i =>
          have HR := Lib.hid (show resN N R = ([], i, 9) by unfold resN; rw [if_neg h8, ht]; simp only [hb, hL, hlf])
          have HL := Lib.hid hL
          have HLF := Lib.hid hlf
          have HL8 := Lib.hid hL8
          clear hN hR hrr ht h8 hap hb hL hlf hL8
          go_enter Try.func17, Try.ntmps17
          go_wp2_with (first
            | (go_at_call 25; (with_reducible refine HLE.out.mono ?_); rintro e w3 ⟨rfl, rfl⟩)
            | (go_at_call 24; (with_reducible refine HO.out.mono ?_); rintro e w2 hr2; have hr2 := hr2; rw [HL.out] at hr2; obtain ⟨⟨A2, c2, rfl, ho2⟩, hb2⟩ := hr2; have hle := left_any w2 w2.heap.size A2 c2 L N.length (SlV.own ho2) HL8.out (by omega); rw [HLF.out] at hle; have HLE := Lib.hid hle; have HX := Lib.hid (And.intro (HB1.out.trans (hb2.mono HB1.out.size)) (And.intro (SlV.own ho2) ((HS1.out.below hb2).more hb2.size))); clear ho2 hb2 hle)
            | (go_at_call 23; (with_reducible refine HLK.mono ?_); rintro e w1 ⟨hb1, he1⟩; rw [HB.out] at he1; obtain ⟨D1, rfl, hs1⟩ := he1; have HO := Lib.hid (HOR.out w1 hb1 D1 hs1); have HB1 := Lib.hid hb1; have HS1 := Lib.hid hs1; clear hb1 hs1)
            | (go_at_call 22; (with_reducible refine HTW.mono ?_); rintro e w1 ⟨rfl, rfl⟩))
          exact bodyPost_ret (v := .tuple #[.slice none 0 0, .slice none 0 0, .int .i64 (i : Int), .int .i64 9]) (by simp [results, Try.results17, go_sem]) rfl (Ord4.fault i 9 HR.out (by omega) rfl HX.out.1)
        | none =>
          have HR := Lib.hid (show resN N R = (L, 0, 0) by unfold resN; rw [if_neg h8, ht]; simp only [hb, hL, hlf])
          have HL := Lib.hid hL
          have HLF := Lib.hid hlf
          have HL8 := Lib.hid hL8
          clear hN hR hrr ht h8 hap hb hL hlf hL8
          go_enter Try.func17, Try.ntmps17
          go_wp2_with (first
            | (go_at_call 25; (with_reducible refine HLE.out.mono ?_); rintro e w3 ⟨rfl, rfl⟩)
            | (go_at_call 24; (with_reducible refine HO.out.mono ?_); rintro e w2 hr2; have hr2 := hr2; rw [HL.out] at hr2; obtain ⟨⟨A2, c2, rfl, ho2⟩, hb2⟩ := hr2; have hle := left_any w2 w2.heap.size A2 c2 L N.length (SlV.own ho2) HL8.out (by omega); rw [HLF.out] at hle; have HLE := Lib.hid hle; have HX := Lib.hid (And.intro (HB1.out.trans (hb2.mono HB1.out.size)) (And.intro (SlV.own ho2) ((HS1.out.below hb2).more hb2.size))); clear ho2 hb2 hle)
            | (go_at_call 23; (with_reducible refine HLK.mono ?_); rintro e w1 ⟨hb1, he1⟩; rw [HB.out] at he1; obtain ⟨D1, rfl, hs1⟩ := he1; have HO := Lib.hid (HOR.out w1 hb1 D1 hs1); have HB1 := Lib.hid hb1; have HS1 := Lib.hid hs1; clear hb1 hs1)
            | (go_at_call 22; (with_reducible refine HTW.mono ?_); rintro e w1 ⟨rfl, rfl⟩))
          refine bodyPost_ret (v := .tuple #[.slice D1 N.length N.length, .slice A2 L.length c2, .int .i64 0, .int .i64 0]) (by simp [results, Try.results17, go_sem]) rfl ?_
          obtain ⟨h1, h2, h3⟩ := HX.out
          refine ⟨⟨.slice D1 N.length N.length, A2, c2, by rw [HR.out]; rfl, ?_, fun _ => ⟨D1, N.length, rfl, h3⟩⟩, h1⟩
          rw [HR.out]
          exact h2
/-- What Order answers. -/
def Ord3 (w : World) (N : List ByteArray) (R : List (List ByteArray)) (e : Ending) (w' : World) : Prop :=
  (∃ A c, e = .returned (.tuple #[.slice A (resN N R).1.length c, .int .i64 ((resN N R).2.1 : Int), .int .i64 ((resN N R).2.2 : Int)]) ∧ SlV w' w'.heap.size A (ints (resN N R).1)) ∧ Below w.heap.size w w'
set_option maxRecDepth 100000 in
set_option maxHeartbeats 2000000 in
theorem gorder_any (w : World) (B : Nat) (A D : Option Addr) (c d : Nat) (N : List ByteArray) (R : List (List ByteArray)) (hN : SlV w B A (N.map Value.string)) (hR : SlN w B D (R.map fun r => r.map Value.string)) (hB : B ≤ w.heap.size) (hc : N.length ≤ c) (hn : N.length ≤ 12) (hr : R.length ≤ 100) (hrr : ∀ r ∈ R, r.length ≤ 100) :
    Calls Try.prog 10 #[.slice A N.length c, .slice D R.length d] w (Ord3 w N R) := by
  have HO := ordered_any w B A D c d N R hN hR hB hc hn hr hrr
  unfold Ord4 at HO
  have HX : Hid (∀ e w', Ord3 w N R e w' → Ord3 w N R e w') := Lib.hid fun _ _ h => h
  unfold Ord3
  generalize resN N R = r at HO ⊢
  obtain ⟨L, at_, er⟩ := r
  simp only at HO ⊢
  clear hN hR hrr HX
  go_enter Try.func10, Try.ntmps10
  go_wp2_with (go_at_call 17; (with_reducible refine HO.mono ?_); rintro e w1 ⟨⟨lv, A1, c1, rfl, hs, _⟩, hb⟩)
  exact bodyPost_ret (v := .tuple #[.slice A1 L.length c1, .int .i64 (at_ : Int), .int .i64 (er : Int)]) (by simp [results, Try.results10, go_sem]) rfl ⟨⟨A1, c1, rfl, hs⟩, hb⟩
end Go.Proofs.Ytibfikadamfpdaa
