/-
  The document's own order.
-/
import Derived.Test.YtibfikadamfpdaaRf
import Derived.Test.YtibfikadamfpdaaAw
namespace Go.Proofs.Ytibfikadamfpdaa
open Go.RowKit
set_option linter.unusedVariables false
set_option linter.unusedSimpArgs false

def bestZ : Option Nat → Int
  | none => -1
  | some i => (i : Int)
theorem twice_at {N : List ByteArray} {i : Nat} (hi : i < N.length) : ∃ j, fst9 N (txt9 N i) = some j ∧ j ≤ i ∧ ((fst9 (N.take i) (txt9 N i)).isSome = decide (j < i)) := by
  have hm : txt9 N i ∈ N := List.mem_of_getElem? (i := i) (by simp [txt9, List.getElem?_eq_getElem hi])
  obtain ⟨j, hj⟩ := fst9_mem hm
  obtain ⟨h1, h2⟩ := fst9_some hj
  have hji : j ≤ i := by
    rcases Nat.lt_or_ge i j with h | h
    · exact absurd (by simp [txt9, List.getElem?_eq_getElem hi]) (h2 i h)
    · exact h
  refine ⟨j, hj, hji, ?_⟩
  by_cases h : j < i
  · rw [show decide (j < i) = true from by simpa using h, fst9_isSome]
    refine List.mem_of_getElem? (i := j) ?_
    rw [List.getElem?_take, if_pos h]
    exact h1
  · rw [show decide (j < i) = false from by simpa using h]
    cases e : (fst9 (N.take i) (txt9 N i)).isSome with
    | false => rfl
    | true =>
      exfalso
      obtain ⟨k, hk⟩ := List.getElem?_of_mem (fst9_isSome.1 e)
      rw [List.getElem?_take] at hk
      split at hk
      · exact h2 k (by omega) hk
      · cases hk
theorem of_fix (w : World) (B : Nat) (D : Option Addr) (d i : Nat) (R : List (List ByteArray)) (hR : SlN w B D (R.map fun r => r.map Value.string)) (hr : R.length ≤ 100) (hi : i ≤ 100) :
    ∃ LA lc, SlV w B LA ((ofN R i).map Value.string) ∧ ∀ k, Calls Try.prog 19 #[.slice D R.length d, .int .i64 i] (w.drewN k) fun e w' => e = .returned (.slice LA (ofN R i).length lc) ∧ w' = w.drewN k := by
  have r1 : (R.length : Int) ≤ 100 := by omega
  have i0 : (0 : Int) ≤ (i : Int) := by omega
  by_cases h : i < R.length
  · obtain ⟨r, hri⟩ : ∃ r, R[i]? = some r := ⟨_, List.getElem?_eq_getElem h⟩
    obtain ⟨g, o, A', d', rfl, hg, hc, hs⟩ := hR.at_ (k := i) (l := r.map Value.string) (by simp [hri])
    rw [List.length_map] at hc
    have ho : ofN R i = r := by simp [ofN, hri]
    rw [ho]
    refine ⟨A', d', hs, fun k => ?_⟩
    have hc' : (w.drewN k).cell? ⟨g, o + i, none⟩ = some (.slice A' r.length d') := hc
    generalize w.drewN k = W at hc' ⊢
    have i1 : (i : Int) < (R.length : Int) := by omega
    clear hR hs hri hc ho
    go_enter Try.func19, Try.ntmps19
    go_wp2
    go_ret
    exact ⟨rfl, rfl⟩
  · have ho : ofN R i = [] := by simp [ofN, List.getElem?_eq_none (show R.length ≤ i by omega)]
    rw [ho]
    refine ⟨none, 0, SlV.nil_ _ _ _, fun k => ?_⟩
    have i1 : (R.length : Int) ≤ (i : Int) := by omega
    generalize w.drewN k = W
    clear hR ho
    go_enter Try.func19, Try.ntmps19
    go_wp2
    go_ret
    exact ⟨rfl, rfl⟩
theorem SlV.drewN {w : World} {B : Nat} {A : Option Addr} {xs : List Value} (h : SlV w B A xs) (k : Nat) : SlV (w.drewN k) B A xs := h
theorem best_succ {n : Nat} {tt lt : Nat → Nat → Bool} {o : List Nat} (i : Nat) : (List.range (i + 1)).foldl (bestStep n tt lt o) none = bestStep n tt lt o ((List.range i).foldl (bestStep n tt lt o) none) i := by
  rw [List.range_succ, List.foldl_append]; rfl
theorem bs_not {n : Nat} {tt lt : Nat → Nat → Bool} {o : List Nat} {b : Option Nat} {i : Nat} (h : rdyN n tt o i = false) : bestStep n tt lt o b i = b := by simp [bestStep, h]
theorem bs_none {n : Nat} {tt lt : Nat → Nat → Bool} {o : List Nat} {i : Nat} (h : rdyN n tt o i = true) : bestStep n tt lt o none i = some i := by simp [bestStep, h]
theorem bs_some {n : Nat} {tt lt : Nat → Nat → Bool} {o : List Nat} {b i : Nat} (h : rdyN n tt o i = true) : bestStep n tt lt o (some b) i = if lt i b = true then some i else some b := by simp [bestStep, h]
theorem rowB_congr {n : Nat} {f g : Nat → Bool} (h : ∀ i, i < n → f i = g i) : rowB n f = rowB n g := by
  unfold rowB
  apply List.map_congr_left
  intro x hx
  rw [h x (by simpa using hx)]
set_option maxRecDepth 100000 in
set_option maxHeartbeats 8000000 in
theorem rorder_any (w : World) (B : Nat) (A D : Option Addr) (c d : Nat) (N : List ByteArray) (R : List (List ByteArray)) (hN : SlV w B A (N.map Value.string)) (hR : SlN w B D (R.map fun r => r.map Value.string)) (hB : B ≤ w.heap.size) (hn : N.length ≤ 12) (hr : R.length ≤ 100) (hrr : ∀ r ∈ R, r.length ≤ 100) :
    Calls Try.prog 11 #[.slice A N.length c, .slice D R.length d] w (Ord3 w N R) := by
  have n1 : (N.length : Int) ≤ 12 := by omega
  have HN := Lib.hid hN
  have HR := Lib.hid hR
  have HRR := Lib.hid hrr
  clear hN hR hrr
  by_cases h8 : 8 < N.length
  · have HRS := Lib.hid (show resN N R = ([], 0, 12) by unfold resN; rw [if_pos h8])
    have m1 : (8 : Int) < (N.length : Int) := by omega
    go_enter Try.func11, Try.ntmps11
    go_wp2
    exact bodyPost_ret (v := .tuple #[.slice none 0 0, .int .i64 0, .int .i64 12]) (by simp [results, Try.results11, go_sem]) rfl ⟨⟨none, 0, by rw [HRS.out]; rfl, by rw [HRS.out]; exact SlV.nil_ _ _ _⟩, Below.refl _ _⟩
  · have m1 : (N.length : Int) ≤ 8 := by omega
    have H8 := Lib.hid h8
    have m2 : decide ((8 : Int) < (N.length : Int)) = false := decide_eq_false (by omega)
    go_enter Try.func11, Try.ntmps11
    go_wp2
    go_loopg [7] N.length (fun gk v7 wr => ∃ i : Nat, i + gk = N.length ∧ v7 = .int .i64 i ∧ (∀ k, k < i → (fst9 (N.take k) (txt9 N k)).isSome = false) ∧ w = wr)
    case atStart => exact ⟨0, by simp, rfl, fun k hk => absurd hk (by omega), rfl⟩
    case round =>
      obtain ⟨i, hi, rfl, hk, rfl⟩ := hrel
      have HK := Lib.hid hk
      clear hk
      cases gk with
      | succ gf =>
        have hil : i < N.length := by omega
        have i0 : (0 : Int) ≤ (i : Int) := by omega
        have i1 : (i : Int) < (N.length : Int) := by omega
        obtain ⟨j, hj1, hj2, hj3⟩ := twice_at hil
        obtain ⟨g, o, rfl, hg, hc⟩ := HN.out.at_ (txt9_get hil)
        have hpl := place_any w B (some ⟨g, o, none⟩) c N (txt9 N i) HN.out (by omega)
        rw [hj1] at hpl
        simp only [posZ] at hpl
        by_cases hji : j < i
        · have HS := Lib.hid (hj3.trans (decide_eq_true hji))
          have j1 : (j : Int) < (i : Int) := by omega
          clear hj1 hj3
          go_wp2_with (go_at_call 18; (with_reducible refine hpl.mono ?_); rintro e w2 ⟨rfl, rfl⟩)
          have hres : resN N R = ([], i, 7) := by
            unfold resN
            rw [if_neg H8.out, show twice9 N = some i from find_at hil HS.out HK.out]
          exact bodyPost_ret (v := .tuple #[.slice none 0 0, .int .i64 (i : Int), .int .i64 7]) (by simp [results, Try.results11, go_sem]) rfl ⟨⟨none, 0, by rw [hres]; rfl, by rw [hres]; exact SlV.nil_ _ _ _⟩, Below.refl _ _⟩
        · have HS := Lib.hid (hj3.trans (decide_eq_false hji))
          have j1 : (i : Int) ≤ (j : Int) := by omega
          clear hj1 hj3
          go_wp2_with (go_at_call 18; (with_reducible refine hpl.mono ?_); rintro e w2 ⟨rfl, rfl⟩)
          go_roundg gf
          case measure => omega
          case rel =>
            refine ⟨i + 1, by omega, by go_num, fun k hk => ?_, rfl⟩
            by_cases hki : k = i
            · rw [hki]; exact HS.out
            · exact HK.out k (by omega)
      | zero =>
        have HTW := Lib.hid (show twice9 N = none from find_none (by
          obtain rfl : i = N.length := by omega
          exact HK.out))
        have ei : decide (i < N.length) = false := decide_eq_false (by omega)
        clear HK
        clear hi
        go_wp2
        go_loopg [8] N.length (fun gk v8 wr => ∃ i : Nat, i + gk = N.length ∧ v8 = .int .i64 i ∧ (∀ k, k < i → badL N (ofN R k) = false) ∧ w = wr)
        case atStart => exact ⟨0, by simp, rfl, fun k hk => absurd hk (by omega), rfl⟩
        case round =>
          obtain ⟨i, hi, rfl, hk, rfl⟩ := hrel
          have HK := Lib.hid hk
          clear hk
          cases gk with
          | succ gf =>
            have hil : i < N.length := by omega
            have i0 : (0 : Int) ≤ (i : Int) := by omega
            have i1 : (i : Int) < (N.length : Int) := by omega
            have hof := of_any w B D d i R HR.out hr (by omega)
            have hol : (ofN R i).length ≤ 100 := by
              unfold ofN
              cases e : R[i]? with
              | none => simp
              | some r => exact HRR.out r (List.mem_of_getElem? e)
            obtain ⟨l, hl⟩ : ∃ l, ofN R i = l := ⟨_, rfl⟩
            rw [hl] at hof hol
            have l1 : (l.length : Int) ≤ 100 := by omega
            have HL := Lib.hid hl
            clear hl
            go_wp2_with (go_at_call 19; (with_reducible refine hof.mono ?_); rintro e w2 ⟨⟨LA, lc, rfl, hls⟩, rfl⟩; have HLS := Lib.hid hls; clear hls)
            go_loopg [10] l.length (fun gk v10 wr => ∃ k : Nat, k + gk = l.length ∧ v10 = .int .i64 k ∧ (∀ s ∈ l.take k, (fst9 N s).isNone = false) ∧ w = wr)
            case atStart => exact ⟨0, by simp, rfl, fun s hs => by simp at hs, rfl⟩
            case round =>
              obtain ⟨k, hkk, rfl, hkn, rfl⟩ := hrel
              have HKN := Lib.hid hkn
              clear hkn
              cases gk with
              | zero =>
                have HB := Lib.hid (show badL N l = false from by
                  obtain rfl : k = l.length := by omega
                  have := HKN.out
                  rw [List.take_length] at this
                  unfold badL
                  rw [List.any_eq_false]
                  intro s hs
                  rw [this s hs]; simp)
                have ek : decide (k < l.length) = false := decide_eq_false (by omega)
                clear hkk HKN
                go_wp2
                go_roundg gf
                case measure => omega
                case rel =>
                  refine ⟨i + 1, by omega, by go_num, fun q hq => ?_, rfl⟩
                  by_cases hqi : q = i
                  · rw [hqi, HL.out]; exact HB.out
                  · exact HK.out q (by omega)
              | succ fk =>
                have hkl : k < l.length := by omega
                have k0 : (0 : Int) ≤ (k : Int) := by omega
                have k1 : (k : Int) < (l.length : Int) := by omega
                obtain ⟨s, hs⟩ : ∃ s, l[k]? = some s := ⟨_, List.getElem?_eq_getElem hkl⟩
                obtain ⟨sg, so, rfl, _, hsc⟩ := HLS.out.at_ (k := k) (u := .string s) (by simp [hs])
                have hpl := place_any w B A c N s HN.out (by omega)
                have HTS := Lib.hid (show l.take (k + 1) = l.take k ++ [s] by rw [List.take_add_one, hs]; rfl)
                have HSM := Lib.hid (List.mem_of_getElem? hs)
                clear hs
                cases hf : fst9 N s with
                | none =>
                  rw [hf] at hpl
                  simp only [posZ] at hpl
                  have HF := Lib.hid hf
                  clear hf
                  go_wp2_with (go_at_call 18; (with_reducible refine hpl.mono ?_); rintro e w2 ⟨rfl, rfl⟩)
                  have hbad : bad9 N R = some i := find_at hil (by
                    show badL N (ofN R i) = true
                    rw [HL.out]
                    unfold badL
                    rw [List.any_eq_true]
                    exact ⟨s, HSM.out, by rw [HF.out]; rfl⟩) HK.out
                  have hres : resN N R = ([], i, 6) := by
                    unfold resN
                    rw [if_neg H8.out, HTW.out]
                    simp only [hbad]
                  exact bodyPost_ret (v := .tuple #[.slice none 0 0, .int .i64 (i : Int), .int .i64 6]) (by simp [results, Try.results11, go_sem]) rfl ⟨⟨none, 0, by rw [hres]; rfl, by rw [hres]; exact SlV.nil_ _ _ _⟩, Below.refl _ _⟩
                | some t =>
                  rw [hf] at hpl
                  simp only [posZ] at hpl
                  have t0 : (0 : Int) ≤ (t : Int) := by omega
                  have HF := Lib.hid hf
                  clear hf
                  go_wp2_with (go_at_call 18; (with_reducible refine hpl.mono ?_); rintro e w2 ⟨rfl, rfl⟩)
                  go_roundg fk
                  case measure => omega
                  case rel =>
                    refine ⟨k + 1, by omega, by go_num, fun q hq => ?_, rfl⟩
                    rw [HTS.out] at hq
                    rcases List.mem_append.1 hq with hq | hq
                    · exact HKN.out q hq
                    · rw [List.mem_singleton.1 hq, HF.out]; rfl
          | zero =>
            have HBD := Lib.hid (show bad9 N R = none from find_none (by
              obtain rfl : i = N.length := by omega
              exact HK.out))
            have HBK := Lib.hid (show ∀ k, k < N.length → badL N (ofN R k) = false from by
              obtain rfl : i = N.length := by omega
              exact HK.out)
            have ei2 : decide (i < N.length) = false := decide_eq_false (by omega)
            clear HK
            clear hi
            have hmk := run_mkb N.length (by omega) w
            obtain ⟨W1, hW1⟩ : ∃ W1, w.alloc (.cells (List.replicate N.length (Value.bool false)).toArray 4) = W1 := ⟨_, rfl⟩
            rw [hW1] at hmk
            have HB0 := Lib.hid (show Below w.heap.size w W1 by rw [← hW1]; exact (Below.refl _ w).alloc (Nat.le_refl _) _)
            have HT0 := Lib.hid (show Blk W1 w.heap.size 4 (rowB N.length fun j => ([] : List Nat).contains j).toArray by
              rw [← hW1, rowB_zero]
              exact Blk.new _ _ _)
            clear hW1
            --LOOP4
            go_wp2
            go_loopg [11] N.length (fun gk v11 wr => ∃ o A2 c2, gk + o.length = N.length ∧ v11 = .slice A2 o.length c2 ∧ wr.ownsRow w.heap.size 3 1 (.slice A2 o.length c2) o.length (ints o) ∧ Blk wr w.heap.size 4 (rowB N.length fun j => o.contains j).toArray ∧ Below w.heap.size w wr ∧ ordN N (lk N R) = ordF N.length (lk N R) (nlt N) gk o)
            case atStart => exact ⟨[], none, 0, by simp, rfl, World.ownsRow_nil _ _ _ _, HT0.out, HB0.out, rfl⟩
            case round =>
              obtain ⟨o, A2, c2, ho, rfl, ho2, ht, hb, hrun⟩ := hrel
              have HRUN := Lib.hid hrun
              have HX := Lib.hid (And.intro ho2 (And.intro ht hb))
              clear hrun ho2 ht hb
              cases gk with
              | zero =>
                have HL := Lib.hid (show ordN N (lk N R) = o from HRUN.out)
                have eo : decide (o.length < N.length) = false := decide_eq_false (by omega)
                clear ho
                go_wp2
                go_loopg [15] N.length (fun gk v15 wr => ∃ q : Nat, q + gk = N.length ∧ v15 = .int .i64 q ∧ (∀ k, k < q → (!(fst9 o k).isSome) = false) ∧ Below w.heap.size w wr ∧ SlV wr wr.heap.size A2 (ints o) ∧ Blk wr w.heap.size 4 (rowB N.length fun j => o.contains j).toArray)
                case atStart => exact ⟨0, by simp, rfl, fun k hk => absurd hk (by omega), HX.out.2.2, SlV.own HX.out.1, HX.out.2.1⟩
                case round =>
                  obtain ⟨q, hq, rfl, hk, hb, hs, ht⟩ := hrel
                  have HK := Lib.hid hk
                  have HZ := Lib.hid (And.intro hb hs)
                  clear hk hb hs
                  cases gk with
                  | zero =>
                    have HLF := Lib.hid (show left9 o N.length = none from find_none (by
                      obtain rfl : q = N.length := by omega
                      exact HK.out))
                    have eq : decide (q < N.length) = false := decide_eq_false (by omega)
                    clear hq ht
                    go_wp2
                    have hres : resN N R = (o, 0, 0) := by
                      unfold resN
                      rw [if_neg H8.out, HTW.out]
                      simp only [HBD.out, HL.out, HLF.out]
                    exact bodyPost_ret (v := .tuple #[.slice A2 o.length c2, .int .i64 0, .int .i64 0]) (by simp [results, Try.results11, go_sem]) rfl ⟨⟨A2, c2, by rw [hres]; rfl, by rw [hres]; exact HZ.out.2⟩, HZ.out.1⟩
                  | succ f6 =>
                    have hqn : q < N.length := by omega
                    have q0 : (0 : Int) ≤ (q : Int) := by omega
                    have q1 : (q : Int) < (N.length : Int) := by omega
                    have htc : wr.cell? ⟨w.heap.size, q, none⟩ = some (.bool (o.contains q)) := (ht.cell q).trans (by rw [List.getElem?_toArray]; exact rowB_get (g := fun j => o.contains j) hqn)
                    have htl := ht.lt
                    have HT6 := Lib.hid ht
                    have hcs : o.contains q = (fst9 o q).isSome := by
                      cases e : o.contains q with
                      | true => exact (fst9_isSome.2 (by simpa using e)).symm
                      | false =>
                        cases e2 : (fst9 o q).isSome with
                        | false => rfl
                        | true => have := fst9_isSome.1 e2; simp at e; exact absurd this e
                    clear ht
                    cases hc : o.contains q with
                    | true =>
                      rw [hc] at htc
                      have HS := Lib.hid (hcs.symm.trans hc)
                      clear hcs hc
                      go_wp2
                      go_roundg f6
                      case measure => omega
                      case rel =>
                        refine ⟨q + 1, by omega, by go_num, fun k hk => ?_, HZ.out.1, HZ.out.2, HT6.out⟩
                        by_cases hkq : k = q
                        · rw [hkq, HS.out]; rfl
                        · exact HK.out k (by omega)
                    | false =>
                      rw [hc] at htc
                      have HS := Lib.hid (hcs.symm.trans hc)
                      clear hcs hc
                      go_wp2
                      have hres : resN N R = ([], q, 9) := by
                        unfold resN
                        rw [if_neg H8.out, HTW.out]
                        simp only [HBD.out, HL.out]
                        rw [show left9 o N.length = some q from find_at hqn (by show (!(fst9 o q).isSome) = true; rw [HS.out]; rfl) HK.out]
                      exact bodyPost_ret (v := .tuple #[.slice none 0 0, .int .i64 (q : Int), .int .i64 9]) (by simp [results, Try.results11, go_sem]) rfl ⟨⟨none, 0, by rw [hres]; rfl, by rw [hres]; exact SlV.nil_ _ _ _⟩, HZ.out.1⟩
              | succ f4 =>
                have eo : decide (o.length < N.length) = true := decide_eq_true (by omega)
                go_wp2
                go_loopg [13, 14] N.length (fun gk v13 v14 wr => ∃ i5 : Nat, i5 + gk = N.length ∧ v14 = .int .i64 i5 ∧ v13 = .int .i64 (bestZ ((List.range i5).foldl (bestStep N.length (lk N R) (nlt N) o) none)) ∧ Below w.heap.size w wr ∧ wr.ownsRow w.heap.size 3 1 (.slice A2 o.length c2) o.length (ints o) ∧ Blk wr w.heap.size 4 (rowB N.length fun j => o.contains j).toArray)
                case atStart => exact ⟨0, by simp, rfl, rfl, HX.out.2.2, HX.out.1, HX.out.2.1⟩
                case round =>
                  obtain ⟨i5, hi5, rfl, rfl, hb, ho2, ht⟩ := hrel
                  have HZ5 := Lib.hid (And.intro hb (And.intro ho2 ht))
                  cases gk with
                  | zero =>
                    have hBP := best_range (n := N.length) (tt := lk N R) (nlt_ord N) (nlt_irr N) o i5
                    have ei5 : decide (i5 < N.length) = false := decide_eq_false (by omega)
                    have hin : i5 = N.length := by omega
                    obtain ⟨b, hbst⟩ : ∃ b, (List.range i5).foldl (bestStep N.length (lk N R) (nlt N) o) none = b := ⟨_, rfl⟩
                    have HBE := Lib.hid (show bestN N.length (lk N R) (nlt N) o = b from by rw [← hbst, hin]; rfl)
                    rw [hbst] at hBP ⊢
                    clear hbst
                    cases b with
                    | none =>
                      have HL := Lib.hid (show ordN N (lk N R) = o from by rw [HRUN.out]; exact ordF_none HBE.out _)
                      have HX := Lib.hid (And.intro ho2 (And.intro ht hb))
                      simp only [bestZ]
                      clear hBP hb ho2 ht hin hi5
                      go_wp2
                      go_loopg [15] N.length (fun gk v15 wr => ∃ q : Nat, q + gk = N.length ∧ v15 = .int .i64 q ∧ (∀ k, k < q → (!(fst9 o k).isSome) = false) ∧ Below w.heap.size w wr ∧ SlV wr wr.heap.size A2 (ints o) ∧ Blk wr w.heap.size 4 (rowB N.length fun j => o.contains j).toArray)
                      case atStart => exact ⟨0, by simp, rfl, fun k hk => absurd hk (by omega), HX.out.2.2, SlV.own HX.out.1, HX.out.2.1⟩
                      case round =>
                        obtain ⟨q, hq, rfl, hk, hb, hs, ht⟩ := hrel
                        have HK := Lib.hid hk
                        have HZ := Lib.hid (And.intro hb hs)
                        clear hk hb hs
                        cases gk with
                        | zero =>
                          have HLF := Lib.hid (show left9 o N.length = none from find_none (by
                            obtain rfl : q = N.length := by omega
                            exact HK.out))
                          have eq : decide (q < N.length) = false := decide_eq_false (by omega)
                          clear hq ht
                          go_wp2
                          have hres : resN N R = (o, 0, 0) := by
                            unfold resN
                            rw [if_neg H8.out, HTW.out]
                            simp only [HBD.out, HL.out, HLF.out]
                          exact bodyPost_ret (v := .tuple #[.slice A2 o.length c2, .int .i64 0, .int .i64 0]) (by simp [results, Try.results11, go_sem]) rfl ⟨⟨A2, c2, by rw [hres]; rfl, by rw [hres]; exact HZ.out.2⟩, HZ.out.1⟩
                        | succ f6 =>
                          have hqn : q < N.length := by omega
                          have q0 : (0 : Int) ≤ (q : Int) := by omega
                          have q1 : (q : Int) < (N.length : Int) := by omega
                          have htc : wr.cell? ⟨w.heap.size, q, none⟩ = some (.bool (o.contains q)) := (ht.cell q).trans (by rw [List.getElem?_toArray]; exact rowB_get (g := fun j => o.contains j) hqn)
                          have htl := ht.lt
                          have HT6 := Lib.hid ht
                          have hcs : o.contains q = (fst9 o q).isSome := by
                            cases e : o.contains q with
                            | true => exact (fst9_isSome.2 (by simpa using e)).symm
                            | false =>
                              cases e2 : (fst9 o q).isSome with
                              | false => rfl
                              | true => have := fst9_isSome.1 e2; simp at e; exact absurd this e
                          clear ht
                          cases hc : o.contains q with
                          | true =>
                            rw [hc] at htc
                            have HS := Lib.hid (hcs.symm.trans hc)
                            clear hcs hc
                            go_wp2
                            go_roundg f6
                            case measure => omega
                            case rel =>
                              refine ⟨q + 1, by omega, by go_num, fun k hk => ?_, HZ.out.1, HZ.out.2, HT6.out⟩
                              by_cases hkq : k = q
                              · rw [hkq, HS.out]; rfl
                              · exact HK.out k (by omega)
                          | false =>
                            rw [hc] at htc
                            have HS := Lib.hid (hcs.symm.trans hc)
                            clear hcs hc
                            go_wp2
                            have hres : resN N R = ([], q, 9) := by
                              unfold resN
                              rw [if_neg H8.out, HTW.out]
                              simp only [HBD.out, HL.out]
                              rw [show left9 o N.length = some q from find_at hqn (by show (!(fst9 o q).isSome) = true; rw [HS.out]; rfl) HK.out]
                            exact bodyPost_ret (v := .tuple #[.slice none 0 0, .int .i64 (q : Int), .int .i64 9]) (by simp [results, Try.results11, go_sem]) rfl ⟨⟨none, 0, by rw [hres]; rfl, by rw [hres]; exact SlV.nil_ _ _ _⟩, HZ.out.1⟩
                    | some b =>
                      obtain ⟨hbl, _, _⟩ := hBP
                      rw [hin] at hbl
                      have b0 : (0 : Int) ≤ (b : Int) := by omega
                      have b1 : (b : Int) < (N.length : Int) := by omega
                      simp only [bestZ]
                      have HR2 := Lib.hid (show ordN N (lk N R) = ordF N.length (lk N R) (nlt N) f4 (o ++ [b]) from by rw [HRUN.out]; simp only [ordF, HBE.out])
                      obtain ⟨u, hu⟩ : ∃ u, wr.cell? ⟨w.heap.size, b, none⟩ = some u := ⟨_, (ht.cell b).trans (by simpa using rowB_get (g := fun j => o.contains j) hbl)⟩
                      have hff := ht.frozen b
                      have htl := ht.lt
                      obtain ⟨W2, hW2⟩ : ∃ W2, wr.setCell ⟨w.heap.size, b, none⟩ (.bool true) = W2 := ⟨_, rfl⟩
                      have hne := own_blk_ne ho2 ht (by decide)
                      have ho3 : W2.ownsRow w.heap.size 3 1 (.slice A2 o.length c2) o.length (ints o) := by rw [← hW2]; exact own_set (p := ⟨w.heap.size, b, none⟩) ho2 hne _
                      have ht3 : Blk W2 w.heap.size 4 (rowB N.length fun j => (o ++ [b]).contains j).toArray := by
                        rw [← hW2]
                        have h := ht.set_ b (.bool true)
                        rw [show (rowB N.length fun j => o.contains j).toArray.setIfInBounds b (.bool true) = (rowB N.length fun j => (o ++ [b]).contains j).toArray from by
                          apply Array.toList_inj.1
                          rw [Array.toList_setIfInBounds]
                          show (rowB N.length fun j => o.contains j).set b (.bool true) = _
                          rw [rowB_set]
                          exact rowB_congr fun j hj => by
                            by_cases e : b = j
                            · subst e; simp
                            · have e2 : ¬ j = b := fun h => e h.symm
                              simp [e, e2]] at h
                        exact h
                      have hb3 : Below w.heap.size w W2 := by rw [← hW2]; exact hb.setCell (p := ⟨w.heap.size, b, none⟩) (Nat.le_refl _) _
                      have HO3 := Lib.hid ho3
                      have HT3 := Lib.hid ht3
                      have HB3 := Lib.hid hb3
                      have hol : o.length ≤ 1000 := by omega
                      clear hb ho2 ht ho3 ht3 hb3 hne hin hi5 hbl
                      go_wp2_with (at_builtin; refine app_int rfl (.tmp 105) (.tmp 107) rfl w.heap.size (.slice A2 o.length c2) o b W2.heap.size rfl (HO3.out.alloc _) rfl (Blk.new _ _ _) hol (by have := HB3.out.size; simp; omega) ?_; intro A3 c3 w3 ho4 hg4 hv4; have HO4 := Lib.hid ho4; have HG4 := Lib.hid hg4; clear ho4 hg4 hv4)
                      go_roundg f4
                      case measure => omega
                      case rel =>
                        have hne4 : (Value.slice A2 o.length c2).ownBlock ≠ some w.heap.size := own_blk_ne HO3.out HT3.out (by decide)
                        refine ⟨o ++ [b], A3, c3, by simp; omega, by simp, by simpa using HO4.out, (HT3.out.alloc _).grown HG4.out (fun e => hne4 e.symm), ?_, HR2.out⟩
                        have hal := HB3.out.alloc (o := .cells #[.int .i64 (b : Int)] 3) (by have := HB3.out.size; omega)
                        refine hal.trans ⟨HG4.out.os, HG4.out.tape, HG4.out.output, HG4.out.size, fun k hk => HG4.out.block k (by have := hal.size; omega) fun e => ?_⟩
                        have := (HO3.out.lt k e.symm).1
                        omega
                  | succ f5 =>
                    have hil5 : i5 < N.length := by omega
                    have z0 : (0 : Int) ≤ (i5 : Int) := by omega
                    have z1 : (i5 : Int) < (N.length : Int) := by omega
                    have HBS := Lib.hid (best_succ (n := N.length) (tt := lk N R) (lt := nlt N) (o := o) i5)
                    have htc : wr.cell? ⟨w.heap.size, i5, none⟩ = some (.bool (o.contains i5)) := (ht.cell i5).trans (by rw [List.getElem?_toArray]; exact rowB_get (g := fun j => o.contains j) hil5)
                    have htl := ht.lt
                    have hBP := best_range (n := N.length) (tt := lk N R) (nlt_ord N) (nlt_irr N) o i5
                    obtain ⟨b, hbst⟩ : ∃ b, (List.range i5).foldl (bestStep N.length (lk N R) (nlt N) o) none = b := ⟨_, rfl⟩
                    rw [hbst] at hBP HBS ⊢
                    clear hbst
                    have hNw := HN.out.below (hb.mono hB)
                    obtain ⟨LA, lc, hls, hof⟩ := of_fix wr B D d i5 R (HR.out.below (hb.mono hB)) hr (by omega)
                    have hol5 : (ofN R i5).length ≤ 100 := by
                      unfold ofN
                      cases e : R[i5]? with
                      | none => simp
                      | some r => exact HRR.out r (List.mem_of_getElem? e)
                    have hrd := fun k => ready_any (wr.drewN k) wr.heap.size A LA (some ⟨w.heap.size, 0, none⟩) c lc N.length N (ofN R i5) (fun j => o.contains j) ((hNw.more (by have := hb.size; omega)).drewN k) ((hls.more (by have := hb.size; omega)).drewN k) (SlV.drewN (fun _ => ⟨_, 0, rfl, htl, fun j u hu => by rw [Nat.zero_add, ht.cell]; simpa using hu⟩) k) (by omega) hol5 (HBK.out i5 hil5)
                    rw [rdyL_cnt (HBK.out i5 hil5)] at hrd
                    have HCT := Lib.hid (show rdyN N.length (lk N R) o i5 = (!o.contains i5 && cntN N.length (lk N R) o i5 == 0) from rfl)
                    obtain ⟨l5, hl5⟩ : ∃ l, ofN R i5 = l := ⟨_, rfl⟩
                    rw [hl5] at hof hrd
                    clear hls hol5 hl5
                    cases hc : o.contains i5 with
                    | true =>
                      rw [hc] at htc
                      have HC := Lib.hid hc
                      clear hc hBP hb ho2 ht hNw hof hrd
                      go_wp2
                      go_quiet (fail)
                      go_wp2
                      go_roundg f5
                      case measure => omega
                      case rel =>
                        refine ⟨i5 + 1, by omega, by go_num, ?_, below_drewN HZ5.out.1 _, own_below HZ5.out.2.1 (below_drewN (Below.refl _ _) _), HZ5.out.2.2⟩
                        rw [HBS.out, bs_not (by rw [HCT.out, HC.out]; rfl)]
                    | false =>
                      rw [hc] at htc
                      have HC := Lib.hid hc
                      obtain ⟨rd, hrdy⟩ : ∃ rd, (cntN N.length (lk N R) o i5 == 0) = rd := ⟨_, rfl⟩
                      rw [hrdy] at hrd
                      have HRD := Lib.hid hrdy
                      clear hc hrdy
                      cases rd with
                      | false =>
                        clear hBP hb ho2 ht hNw
                        go_wp2
                        go_quiet ((first | (go_at_call 20; exact Calls.quiet_of_same (hrd _)) | (go_at_call 19; exact Calls.quiet_of_same (hof _))))
                        go_wp2
                        go_roundg f5
                        case measure => omega
                        case rel =>
                          refine ⟨i5 + 1, by omega, by go_num, ?_, below_drewN HZ5.out.1 _, own_below HZ5.out.2.1 (below_drewN (Below.refl _ _) _), HZ5.out.2.2⟩
                          rw [HBS.out, bs_not (by rw [HCT.out, HC.out, HRD.out]; rfl)]
                      | true =>
                        cases b with
                        | none =>
                          simp only [bestZ]
                          clear hBP hb ho2 ht hNw
                          go_wp2
                          go_quiet ((first | (go_at_call 20; exact Calls.quiet_of_same (hrd _)) | (go_at_call 19; exact Calls.quiet_of_same (hof _))))
                          go_wp2
                          go_roundg f5
                          case measure => omega
                          case rel =>
                            refine ⟨i5 + 1, by omega, by go_num, ?_, below_drewN HZ5.out.1 _, own_below HZ5.out.2.1 (below_drewN (Below.refl _ _) _), HZ5.out.2.2⟩
                            rw [HBS.out, bs_none (by rw [HCT.out, HC.out, HRD.out]; rfl)]; rfl
                        | some b =>
                          simp only [bestZ]
                          obtain ⟨hbl, _, _⟩ := hBP
                          have y0 : (0 : Int) ≤ (b : Int) := by omega
                          have y1 : (b : Int) < (N.length : Int) := by omega
                          have y2 : decide ((b : Int) < 0) = false := decide_eq_false (by omega)
                          obtain ⟨ng, no, hA, hng, hc1⟩ := hNw.at_ (txt9_get hil5)
                          obtain ⟨ng', no', hA', hng', hc2⟩ := hNw.at_ (txt9_get (show b < N.length by omega))
                          rw [hA] at hA'
                          simp at hA'
                          obtain ⟨rfl, rfl⟩ := hA'
                          subst hA
                          cases hlt : nlt N i5 b with
                          | true =>
                            have hlt2 : Op.bytesLess (txt9 N i5).toList (txt9 N b).toList = true := hlt
                            have HLT := Lib.hid hlt
                            clear hb ho2 ht hNw hlt hbl
                            go_wp2
                            go_quiet ((first | (go_at_call 20; exact Calls.quiet_of_same (hrd _)) | (go_at_call 19; exact Calls.quiet_of_same (hof _))))
                            go_wp2
                            go_roundg f5
                            case measure => omega
                            case rel =>
                              refine ⟨i5 + 1, by omega, by go_num, ?_, below_drewN HZ5.out.1 _, own_below HZ5.out.2.1 (below_drewN (Below.refl _ _) _), HZ5.out.2.2⟩
                              rw [HBS.out, bs_some (by rw [HCT.out, HC.out, HRD.out]; rfl), HLT.out]; rfl
                          | false =>
                            have hlt2 : Op.bytesLess (txt9 N i5).toList (txt9 N b).toList = false := hlt
                            have HLT := Lib.hid hlt
                            clear hb ho2 ht hNw hlt hbl
                            go_wp2
                            go_quiet ((first | (go_at_call 20; exact Calls.quiet_of_same (hrd _)) | (go_at_call 19; exact Calls.quiet_of_same (hof _))))
                            go_wp2
                            go_roundg f5
                            case measure => omega
                            case rel =>
                              refine ⟨i5 + 1, by omega, by go_num, ?_, below_drewN HZ5.out.1 _, own_below HZ5.out.2.1 (below_drewN (Below.refl _ _) _), HZ5.out.2.2⟩
                              rw [HBS.out, bs_some (by rw [HCT.out, HC.out, HRD.out]; rfl), HLT.out]; rfl
end Go.Proofs.Ytibfikadamfpdaa
