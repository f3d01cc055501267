/-
  What one needs, as the document says: the walk.
-/
import Derived.Test.YtibfikadamfpdaaRe
namespace Go.Proofs.Ytibfikadamfpdaa
open Go.RowKit
set_option linter.unusedVariables false
set_option linter.unusedSimpArgs false

/-- A pass under way: so far up to i. -/
structure PassI (N : List ByteArray) (R : List (List ByteArray)) (a : Nat) (S S' : Nat → Bool) (b : Bool) (i : Nat) : Prop where
  top : S' a = true
  sub : ∀ x, x < N.length → S' x = true → ReachN N.length (lk N R) a x
  no : b = false → (∀ x, x < N.length → S' x = S x) ∧ ∀ x, x < i → S x = true → ∀ j, j < N.length → lk N R x j = true → S j = true
  yes : b = true → cntF N.length S' < cntF N.length S
/-- .. and so many of what i imports. -/
structure PassJ (N : List ByteArray) (R : List (List ByteArray)) (a : Nat) (S S' : Nat → Bool) (b : Bool) (i q : Nat) : Prop where
  p : PassI N R a S S' b i
  on : 0 < q → S' i = true
  got : b = false → ∀ s ∈ (ofN R i).take q, ∀ t, fst9 N s = some t → S t = true
theorem PassI.here {N : List ByteArray} {R : List (List ByteArray)} {a i : Nat} {S S' : Nat → Bool} {b : Bool} (h : PassI N R a S S' b i) : PassJ N R a S S' b i 0 :=
  ⟨h, fun h => absurd h (by omega), fun _ s hs => by simp at hs⟩
theorem PassJ.off {N : List ByteArray} {R : List (List ByteArray)} {a i q : Nat} {S S' : Nat → Bool} {b : Bool} (h : PassJ N R a S S' b i q) (hi : i < N.length) (hs : S' i = false) : PassI N R a S S' b (i + 1) :=
  ⟨h.p.top, h.p.sub, fun hb => ⟨(h.p.no hb).1, fun x hx hsx j hj ht => by
    by_cases e : x = i
    · rw [e, ← (h.p.no hb).1 i hi, hs] at hsx; cases hsx
    · exact (h.p.no hb).2 x (by omega) hsx j hj ht⟩, h.p.yes⟩
theorem PassJ.over {N : List ByteArray} {R : List (List ByteArray)} {a i q : Nat} {S S' : Nat → Bool} {b : Bool} (h : PassJ N R a S S' b i q) (hq : (ofN R i).length ≤ q) : PassI N R a S S' b (i + 1) :=
  ⟨h.p.top, h.p.sub, fun hb => ⟨(h.p.no hb).1, fun x hx hsx j hj ht => by
    by_cases e : x = i
    · subst e
      unfold lk lkL at ht
      rw [List.any_eq_true] at ht
      obtain ⟨s, hs, hf⟩ := ht
      have := h.got hb s (by rw [List.take_of_length_le hq]; exact hs) j (by simpa using hf)
      exact this
    · exact (h.p.no hb).2 x (by omega) hsx j hj ht⟩, h.p.yes⟩
theorem PassJ.seen {N : List ByteArray} {R : List (List ByteArray)} {a i q t : Nat} {S S' : Nat → Bool} {b : Bool} {s : ByteArray} (h : PassJ N R a S S' b i q) (hs : (ofN R i)[q]? = some s) (hf : fst9 N s = some t) (hi : S' i = true) (ht : S' t = true) : PassJ N R a S S' b i (q + 1) :=
  ⟨h.p, fun _ => hi, fun hb s' hs' t' hf' => by
    rw [List.take_add_one, hs] at hs'
    rcases List.mem_append.1 hs' with e | e
    · exact h.got hb s' e t' hf'
    · have e2 : s' = s := by simpa using e
      rw [e2, hf] at hf'
      rw [← Option.some.inj hf', ← (h.p.no hb).1 t (fst9_lt hf)]
      exact ht⟩
theorem PassJ.put {N : List ByteArray} {R : List (List ByteArray)} {a i q t : Nat} {S S' : Nat → Bool} {b : Bool} {s : ByteArray} (h : PassJ N R a S S' b i q) (hin : i < N.length) (hs : (ofN R i)[q]? = some s) (hf : fst9 N s = some t) (hi : S' i = true) (ht : S' t = false) : PassJ N R a S (fun j => S' j || t == j) true i (q + 1) := by
  have hc := cntF_set (n := N.length) (fst9_lt hf) ht
  refine ⟨⟨by simp [h.p.top], fun x hx hsx => ?_, (fun hb => by cases hb), fun _ => ?_⟩, (fun _ => by simp [hi]), (fun hb => by cases hb)⟩
  · simp only [Bool.or_eq_true, beq_iff_eq] at hsx
    rcases hsx with e | e
    · exact h.p.sub x hx e
    · subst e
      refine .step (h.p.sub i hin hi) hx ?_
      unfold lk lkL
      rw [List.any_eq_true]
      exact ⟨s, List.mem_of_getElem? hs, by rw [hf]; simp⟩
  · cases b with
    | true => have := h.p.yes rfl; omega
    | false =>
      have := (h.p.no rfl).1
      rw [cntF_congr this] at hc
      exact hc
set_option maxRecDepth 100000 in
set_option maxHeartbeats 8000000 in
theorem rbelow_any (w : World) (B : Nat) (A D : Option Addr) (c d : Nat) (N : List ByteArray) (R : List (List ByteArray)) (at_ : Int) (hN : SlV w B A (N.map Value.string)) (hR : SlN w B D (R.map fun r => r.map Value.string)) (hB : B ≤ w.heap.size) (hn : N.length ≤ 12) (hr : R.length ≤ 100) (hrr : ∀ r ∈ R, r.length ≤ 100) :
    Calls Try.prog 15 #[.slice A N.length c, .slice D R.length d, .int .i64 at_] w (BelP w N R at_) := by
  have HO := rorder_any w B A D c d N R hN hR hB hn hr hrr
  unfold Ord3 at HO
  have n1 : (N.length : Int) ≤ 12 := by omega
  by_cases hg : (resN N R).2.2 = 0 ∧ 0 ≤ at_ ∧ at_ < (N.length : Int)
  · obtain ⟨her, ha0, ha1⟩ := hg
    obtain ⟨a, rfl⟩ : ∃ a : Nat, at_ = (a : Int) := ⟨at_.toNat, by omega⟩
    have han : a < N.length := by omega
    have HER := Lib.hid her
    have HBAD := Lib.hid (show bad9 N R = none from by
      unfold resN at her
      split at her
      · simp at her
      · cases ht : twice9 N with
        | some i => rw [ht] at her; simp at her
        | none =>
          rw [ht] at her
          simp only at her
          cases hb : bad9 N R with
          | some i => rw [hb] at her; simp at her
          | none => rfl)
    rw [her] at HO
    rw [show ((0 : Nat) : Int) = 0 from rfl] at HO
    have HN := Lib.hid hN
    have HR := Lib.hid hR
    have HRR := Lib.hid hrr
    have hmk := fun W => run_mkb N.length (by omega) W
    have HMK := Lib.hid hmk
    have d0 : decide ((a : Int) < 0) = false := decide_eq_false (by omega)
    have d1 : decide (N.length ≤ a) = false := decide_eq_false (by omega)
    have HBK := Lib.hid (show ∀ i, i < N.length → badL N (ofN R i) = false from find_spec_none HBAD.out)
    clear hN hR hrr her hmk
    go_enter Try.func15, Try.ntmps15
    go_wp2_with (go_at_call 11; (with_reducible refine HO.mono ?_); rintro e w2 ⟨⟨A2, c2, rfl, hs2⟩, hb2⟩; have HB2 := Lib.hid hb2; clear hs2 hb2; have hmk := HMK.out w2; obtain ⟨W3, hW3⟩ : ∃ W3, w2.alloc (.cells (List.replicate N.length (Value.bool false)).toArray 4) = W3 := ⟨_, rfl⟩; rw [hW3] at hmk; have HB3 := Lib.hid (show Below w2.heap.size w2 W3 by rw [← hW3]; exact (Below.refl _ w2).alloc (Nat.le_refl _) _); have hT3 : Blk W3 w2.heap.size 4 (rowB N.length fun _ => false).toArray := (by rw [← hW3, ← rowB_zero]; exact Blk.new _ _ _); have hc3 : W3.cell? ⟨w2.heap.size, a, none⟩ = some (.bool false) := (hT3.cell a).trans (by rw [List.getElem?_toArray]; exact rowB_get han); have hf3 := hT3.frozen a; have hl3 := hT3.lt; have HT3 := Lib.hid hT3; clear hW3 hT3)
    have hT4 : Blk (W3.setCell ⟨w2.heap.size, a, none⟩ (.bool true)) w2.heap.size 4 (rowB N.length fun j => a == j).toArray := by
      have h := HT3.out.set_ a (.bool true)
      rw [show (rowB N.length fun _ => false).toArray.setIfInBounds a (.bool true) = (rowB N.length fun j => a == j).toArray from by
        apply Array.toList_inj.1
        rw [Array.toList_setIfInBounds]
        show (rowB N.length fun _ => false).set a (.bool true) = _
        rw [rowB_set]
        simp] at h
      exact h
    have hB4 : Below w2.heap.size w2 (W3.setCell ⟨w2.heap.size, a, none⟩ (.bool true)) := HB3.out.setCell (p := ⟨w2.heap.size, a, none⟩) (Nat.le_refl _) _
    have HT4 := Lib.hid hT4
    have HB4 := Lib.hid hB4
    clear hc3 hf3 hl3 hT4 hB4 hmk
    generalize (W3.setCell ⟨w2.heap.size, a, none⟩ (.bool true)) = W4 at HT4 HB4 ⊢
    clear HT3 HB3 HMK
    go_loopg [11] (N.length + 2) (fun gk v11 wr => ∃ S b, v11 = .bool b ∧ Blk wr w2.heap.size 4 (rowB N.length S).toArray ∧ Below w2.heap.size w2 wr ∧ S a = true ∧ (∀ x, x < N.length → S x = true → ReachN N.length (lk N R) a x) ∧ (b = false → ClosedN N.length (lk N R) S) ∧ cntF N.length S + (if b = true then 1 else 0) ≤ gk)
    case atStart =>
      refine ⟨fun j => a == j, true, rfl, HT4.out, HB4.out, by simp, fun x _ h => ?_, (fun h => by cases h), ?_⟩
      · have : a = x := by simpa using h
        subst this; exact .base
      · have := List.length_filter_le (fun j => !(a == j)) (List.range N.length)
        rw [List.length_range] at this
        simp only [cntF, if_true]
        omega
    case round =>
      obtain ⟨S, b, rfl, ht, hb, hS1, hS2, hS3, hcnt⟩ := hrel
      have HSS := Lib.hid (And.intro hS1 (And.intro hS2 hS3))
      have HT := Lib.hid ht
      have HB := Lib.hid hb
      clear hS1 hS2 hS3 ht hb
      cases b with
      | false =>
        clear hcnt
        have HIR := Lib.hid (isR_of han HSS.out.1 (HSS.out.2.2 rfl) HSS.out.2.1)
        go_wp2
        go_loopg [16, 17] N.length (fun gk v16 v17 wr => ∃ q : Nat, ∃ A6 c6, q + gk = N.length ∧ v17 = .int .i64 q ∧ v16 = .slice A6 (filtN q S).length c6 ∧ wr.ownsRow (w2.heap.size + 1) 3 1 v16 (filtN q S).length (ints (filtN q S)) ∧ Blk wr w2.heap.size 4 (rowB N.length S).toArray ∧ Below w2.heap.size w2 wr)
        case atStart => exact ⟨0, none, 0, by simp, rfl, rfl, World.ownsRow_nil _ _ _ _, HT.out, HB.out⟩
        case round =>
          obtain ⟨q, A6, c6, hq, rfl, rfl, ho, ht, hb⟩ := hrel
          have HO6 := Lib.hid ho
          have HB6 := Lib.hid hb
          cases gk with
          | zero =>
            have hqn : q = N.length := by omega
            have eq : decide (q < N.length) = false := decide_eq_false (by omega)
            rw [hqn] at ho HO6 ⊢
            clear ho ht hb hq hqn eq
            have eq : decide (N.length < N.length) = false := decide_eq_false (by omega)
            go_wp2
            go_ret
            exact ⟨below_next HB2.out HB6.out, .inr ⟨HER.out, a, S, A6, c6, rfl, han, HIR.out, rfl, SlV.own HO6.out⟩⟩
          | succ f6 =>
            have hqn : q < N.length := by omega
            have q0 : (0 : Int) ≤ (q : Int) := by omega
            have q1 : (q : Int) < (N.length : Int) := by omega
            have htc : wr.cell? ⟨w2.heap.size, q, none⟩ = some (.bool (S q)) := (ht.cell q).trans (by rw [List.getElem?_toArray]; exact rowB_get hqn)
            have htl := ht.lt
            have HF := Lib.hid (filtN_succ q S)
            have hfl : (filtN q S).length ≤ 1000 := by have := filtN_le q S; omega
            have HT6 := Lib.hid ht
            obtain ⟨l6, hl6⟩ : ∃ l, filtN q S = l := ⟨_, rfl⟩
            rw [hl6] at HF HO6 hfl ⊢
            clear ho ht hb hl6
            cases hsq : S q with
            | false =>
              rw [hsq] at htc HF
              have HFO := Lib.hid (show filtN (q + 1) S = l6 by rw [HF.out]; simp)
              clear hsq
              go_wp2
              go_roundg f6
              case measure => omega
              case rel => exact ⟨q + 1, A6, c6, by omega, by go_num, by rw [HFO.out], by rw [HFO.out]; exact HO6.out, HT6.out, HB6.out⟩
            | true =>
              rw [hsq] at htc HF
              have HFO := Lib.hid (show filtN (q + 1) S = l6 ++ [q] by rw [HF.out]; simp)
              clear hsq
              go_wp2_with (at_builtin; refine app_int rfl (.tmp 89) (.tmp 91) rfl (w2.heap.size + 1) (.slice A6 l6.length c6) l6 q wr.heap.size rfl (HO6.out.alloc _) rfl (Blk.new _ _ _) hfl (by simp; omega) ?_; intro A9 c9 w9 ho9 hg9 hv9; have HO9 := Lib.hid ho9; have HG9 := Lib.hid hg9; clear ho9 hg9 hv9)
              go_roundg f6
              case measure => omega
              case rel =>
                have hba : Below wr.heap.size wr (wr.alloc (.cells #[.int .i64 (q : Int)] 3)) := (Below.refl _ _).alloc (Nat.le_refl _) _
                have hne : (Value.slice A6 l6.length c6).ownBlock ≠ some w2.heap.size := fun e => by have := (HO6.out.lt _ e).1; omega
                refine ⟨q + 1, A9, c9, by omega, by go_num, by rw [HFO.out]; simp, by rw [HFO.out]; simpa using HO9.out, (HT6.out.bel2 hba).grown HG9.out (fun e => hne e.symm), ?_⟩
                refine (HB6.out.trans (hba.mono HB6.out.size)).trans ⟨HG9.out.os, HG9.out.tape, HG9.out.output, HG9.out.size, fun k hk => HG9.out.block k (by have := HB6.out.size; simp; omega) fun e => ?_⟩
                have := (HO6.out.lt k e.symm).1
                omega
      | true =>
        simp only [if_true] at hcnt
        obtain ⟨f, rfl⟩ : ∃ f, gk = f + 1 := ⟨gk - 1, by omega⟩
        go_wp2
        go_loopg [11, 12] N.length (fun gk v11 v12 wr => ∃ i : Nat, ∃ S' b', i + gk = N.length ∧ v12 = .int .i64 i ∧ v11 = .bool b' ∧ Blk wr w2.heap.size 4 (rowB N.length S').toArray ∧ Below w2.heap.size w2 wr ∧ PassI N R a S S' b' i)
        case atStart => exact ⟨0, S, false, by simp, rfl, rfl, HT.out, HB.out, HSS.out.1, HSS.out.2.1, fun _ => ⟨fun _ _ => rfl, fun x hx => absurd hx (by omega)⟩, (fun h => by cases h)⟩
        case round =>
          obtain ⟨i, S', b', hi, rfl, rfl, ht, hb, hp⟩ := hrel
          have HT5 := Lib.hid ht
          have HB5 := Lib.hid hb
          have HP5 := Lib.hid hp
          cases gk with
          | zero =>
            have hin : i = N.length := by omega
            have ei : decide (i < N.length) = false := decide_eq_false (by omega)
            rw [hin] at HP5
            clear ht hb hp hi hin
            go_wp2
            go_roundg f
            case measure => omega
            case rel =>
              refine ⟨S', b', rfl, HT5.out, HB5.out, HP5.out.top, HP5.out.sub, fun hb' => ?_, ?_⟩
              · obtain ⟨e1, e2⟩ := HP5.out.no hb'
                intro x hx hsx j hj ht
                rw [e1 j hj]
                rw [e1 x hx] at hsx
                exact e2 x hx hsx j hj ht
              · cases b' with
                | true => have := HP5.out.yes rfl; simp; omega
                | false =>
                  have := cntF_congr (HP5.out.no rfl).1
                  simp
                  omega
          | succ gf =>
            have hil : i < N.length := by omega
            have i0 : (0 : Int) ≤ (i : Int) := by omega
            have i1 : (i : Int) < (N.length : Int) := by omega
            have HNW := Lib.hid (show ∀ (W : World), Below w2.heap.size w2 W → SlV W B A (N.map Value.string) from fun W hbW => HN.out.below ((HB2.out.trans (hbW.mono HB2.out.size)).mono hB))
            have hbw := HB2.out.trans (hb.mono HB2.out.size)
            have hof := of_any wr B D d i R (HR.out.below (hbw.mono hB)) hr (by omega)
            have hol : (ofN R i).length ≤ 100 := by
              unfold ofN
              cases e : R[i]? with
              | none => simp
              | some r => exact HRR.out r (List.mem_of_getElem? e)
            obtain ⟨l, hl⟩ : ∃ l, ofN R i = l := ⟨_, rfl⟩
            have HL := Lib.hid hl
            rw [hl] at hof hol
            have l1 : (l.length : Int) ≤ 100 := by omega
            have hbk := HBK.out i hil
            rw [hl] at hbk
            have HBL := Lib.hid hbk
            clear ht hb hp hl hbw hbk
            go_wp2_with (go_at_call 19; (with_reducible refine hof.mono ?_); rintro e w6 ⟨⟨LA, lc, rfl, hls⟩, rfl⟩; have HLS := Lib.hid hls; clear hls)
            have HLW := Lib.hid (show ∀ (W : World), Below w2.heap.size w2 W → SlV W B LA (l.map Value.string) from fun W hbW => by
              intro hne
              obtain ⟨g, o, e, h1, h2⟩ := HLS.out hne
              refine ⟨g, o, e, h1, fun j u hu => ?_⟩
              have z1 := HB5.out.cell (p := ⟨g, o + j, none⟩) (by have := HB2.out.size; show g < _; omega)
              have z2 := hbW.cell (p := ⟨g, o + j, none⟩) (by have := HB2.out.size; show g < _; omega)
              exact z2.trans (z1.symm.trans (h2 j u hu)))
            go_loopg [11, 14] l.length (fun gk v11 v14 wr => ∃ q : Nat, ∃ S' b', q + gk = l.length ∧ v14 = .int .i64 q ∧ v11 = .bool b' ∧ Blk wr w2.heap.size 4 (rowB N.length S').toArray ∧ Below w2.heap.size w2 wr ∧ PassJ N R a S S' b' i q)
            case atStart => exact ⟨0, S', b', by simp, rfl, rfl, HT5.out, HB5.out, HP5.out.here⟩
            case round =>
              obtain ⟨q, S', b', hq, rfl, rfl, ht, hb, hp⟩ := hrel
              have HT6 := Lib.hid ht
              have HB6 := Lib.hid hb
              have HP6 := Lib.hid hp
              have htc : wr.cell? ⟨w2.heap.size, i, none⟩ = some (.bool (S' i)) := (ht.cell i).trans (by rw [List.getElem?_toArray]; exact rowB_get hil)
              have htl := ht.lt
              cases hsi : S' i with
              | false =>
                rw [hsi] at htc
                have HSI := Lib.hid hsi
                clear ht hb hp hsi
                go_wp2
                go_roundg gf
                case measure => omega
                case rel => exact ⟨i + 1, S', b', by omega, by go_num, rfl, HT6.out, HB6.out, HP6.out.off hil HSI.out⟩
              | true =>
                rw [hsi] at htc
                have HSI := Lib.hid hsi
                cases gk with
                | zero =>
                  have eq : decide (q < l.length) = false := decide_eq_false (by omega)
                  have eq2 : (l.length : Int) ≤ (q : Int) := by omega
                  have hql : (ofN R i).length ≤ q := by rw [HL.out]; omega
                  clear ht hb hp hsi hq
                  go_wp2
                  go_roundg gf
                  case measure => omega
                  case rel => exact ⟨i + 1, S', b', by omega, by go_num, rfl, HT6.out, HB6.out, HP6.out.over hql⟩
                | succ qf =>
                  have hql : q < l.length := by omega
                  have q0 : (0 : Int) ≤ (q : Int) := by omega
                  have q1 : (q : Int) < (l.length : Int) := by omega
                  obtain ⟨s, hs⟩ : ∃ s, l[q]? = some s := ⟨_, List.getElem?_eq_getElem hql⟩
                  obtain ⟨sg, so, rfl, hsg, hsc⟩ := (HLW.out wr hb).at_ (k := q) (u := .string s) (by simp [hs])
                  have hpl := place_any wr B A c N s (HNW.out wr hb) (by omega)
                  have hko : ∃ t, fst9 N s = some t := by
                    have := HBL.out
                    unfold badL at this
                    rw [List.any_eq_false] at this
                    have h2 := this s (List.mem_of_getElem? hs)
                    cases e : fst9 N s with
                    | none => rw [e] at h2; exact absurd rfl h2
                    | some t => exact ⟨t, rfl⟩
                  obtain ⟨t, hft⟩ := hko
                  rw [hft] at hpl
                  simp only [posZ] at hpl
                  have htn := fst9_lt hft
                  have t0 : (0 : Int) ≤ (t : Int) := by omega
                  have t1 : (t : Int) < (N.length : Int) := by omega
                  have htt : wr.cell? ⟨w2.heap.size, t, none⟩ = some (.bool (S' t)) := (ht.cell t).trans (by rw [List.getElem?_toArray]; exact rowB_get htn)
                  have htf := ht.frozen t
                  have HSQ := Lib.hid (show (ofN R i)[q]? = some s by rw [HL.out]; exact hs)
                  have HFT := Lib.hid hft
                  cases hst : S' t with
                  | true =>
                    rw [hst] at htt
                    have HST := Lib.hid hst
                    clear ht hb hp hsi hs hft hst htn
                    go_wp2_with (go_at_call 18; (with_reducible refine hpl.mono ?_); rintro e w7 ⟨rfl, rfl⟩)
                    go_roundg qf
                    case measure => omega
                    case rel => exact ⟨q + 1, S', b', by omega, by go_num, rfl, HT6.out, HB6.out, HP6.out.seen HSQ.out HFT.out HSI.out HST.out⟩
                  | false =>
                    rw [hst] at htt
                    have HST := Lib.hid hst
                    have HT7 := Lib.hid (show Blk (wr.setCell ⟨w2.heap.size, t, none⟩ (.bool true)) w2.heap.size 4 (rowB N.length fun j => S' j || t == j).toArray from by
                      have h := ht.set_ t (.bool true)
                      rw [show (rowB N.length S').toArray.setIfInBounds t (.bool true) = (rowB N.length fun j => S' j || t == j).toArray from by
                        apply Array.toList_inj.1
                        rw [Array.toList_setIfInBounds]
                        show (rowB N.length S').set t (.bool true) = _
                        rw [rowB_set]] at h
                      exact h)
                    have HB7 := Lib.hid (hb.setCell (p := ⟨w2.heap.size, t, none⟩) (Nat.le_refl _) (.bool true))
                    clear ht hb hp hsi hs hft hst htn
                    go_wp2_with (go_at_call 18; (with_reducible refine hpl.mono ?_); rintro e w7 ⟨rfl, rfl⟩)
                    go_roundg qf
                    case measure => omega
                    case rel => exact ⟨q + 1, _, true, by omega, by go_num, rfl, HT7.out, HB7.out, HP6.out.put hil HSQ.out HFT.out HSI.out HST.out⟩
  · have HG := Lib.hid hg
    obtain ⟨⟨L, p, er⟩, hr⟩ : ∃ r, resN N R = r := ⟨_, rfl⟩
    have hg2 := hg
    rw [hr] at HO hg2
    simp only at HO hg2
    clear hN hR hrr hg
    by_cases her : er = 0
    · subst her
      rw [show ((0 : Nat) : Int) = 0 from rfl] at HO
      by_cases h0 : at_ < 0
      · clear hg2 hr
        go_enter Try.func15, Try.ntmps15
        go_wp2_with (go_at_call 11; (with_reducible refine HO.mono ?_); rintro e w2 ⟨⟨A2, c2, rfl, hs2⟩, hb2⟩; have HB2 := Lib.hid hb2; clear hs2 hb2)
        go_ret
        exact ⟨HB2.out, .inl ⟨HG.out, rfl⟩⟩
      · have h1 : (N.length : Int) ≤ at_ := by
          rcases Int.lt_or_le at_ (N.length : Int) with h | h
          · exact absurd ⟨rfl, by omega, h⟩ hg2
          · exact h
        have h2 : 0 ≤ at_ := by omega
        clear hg2 hr h0
        go_enter Try.func15, Try.ntmps15
        go_wp2_with (go_at_call 11; (with_reducible refine HO.mono ?_); rintro e w2 ⟨⟨A2, c2, rfl, hs2⟩, hb2⟩; have HB2 := Lib.hid hb2; clear hs2 hb2)
        go_ret
        exact ⟨HB2.out, .inl ⟨HG.out, rfl⟩⟩
    · have he : ((er : Int) != 0) = true := by
        have : (er : Int) ≠ 0 := by omega
        simpa using this
      clear hg2 hr her
      go_enter Try.func15, Try.ntmps15
      go_wp2_with (go_at_call 11; (with_reducible refine HO.mono ?_); rintro e w2 ⟨⟨A2, c2, rfl, hs2⟩, hb2⟩; have HB2 := Lib.hid hb2; clear hs2 hb2)
      go_ret
      exact ⟨HB2.out, .inl ⟨HG.out, rfl⟩⟩
end Go.Proofs.Ytibfikadamfpdaa
