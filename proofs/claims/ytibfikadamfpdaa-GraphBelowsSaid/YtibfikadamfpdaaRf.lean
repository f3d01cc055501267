/-
  The document's own: places, what is imported, what is ready.
-/
import Derived.Test.YtibfikadamfpdaaOd
namespace Go.Proofs.Ytibfikadamfpdaa
open Go.RowKit
set_option linter.unusedVariables false
set_option linter.unusedSimpArgs false

set_option maxRecDepth 100000 in
set_option maxHeartbeats 1000000 in
theorem place_any (w : World) (B : Nat) (A : Option Addr) (c : Nat) (l : List ByteArray) (s : ByteArray) (hl : SlV w B A (l.map Value.string)) (hn : l.length ≤ 100) :
    Calls Try.prog 18 #[.slice A l.length c, .string s] w fun e w' => e = .returned (.int .i64 (posZ (fst9 l s))) ∧ w = w' := by
  have HL := Lib.hid hl
  have n1 : (l.length : Int) ≤ 100 := by omega
  clear hl
  go_enter Try.func18, Try.ntmps18
  go_wp2
  go_loopg [5] l.length (fun gk v5 wr => ∃ j : Nat, j + gk = l.length ∧ v5 = .int .i64 j ∧ (∀ k, k < j → l[k]? ≠ some s) ∧ w = wr)
  case atStart => exact ⟨0, by simp, rfl, fun k hk => absurd hk (by omega), rfl⟩
  case round =>
    obtain ⟨j, hj, rfl, hk, rfl⟩ := hrel
    have HK := Lib.hid hk
    clear hk
    cases gk with
    | zero =>
      obtain rfl : j = l.length := by omega
      clear hj
      go_wp2
      go_ret
      have : fst9 l s = none := fst9_none fun h => by
        obtain ⟨k, hk⟩ := List.getElem?_of_mem h
        exact HK.out k (List.getElem?_eq_some_iff.1 hk).1 hk
      exact ⟨by rw [this]; rfl, rfl⟩
    | succ f =>
      have hjl : j < l.length := by omega
      obtain ⟨u, hu⟩ : ∃ u, l[j]? = some u := ⟨_, List.getElem?_eq_getElem hjl⟩
      obtain ⟨g, o, rfl, hg, hc⟩ := HL.out.at_ (k := j) (u := .string u) (by simp [hu])
      have HU := Lib.hid hu
      have j1 : (j : Int) < (l.length : Int) := by omega
      clear hu
      by_cases he : s = u
      · have e1 : (u.toList == s.toList) = true := by rw [str_eq]; simpa using he.symm
        have HE := Lib.hid he
        clear he
        go_wp2
        go_ret
        exact ⟨by rw [fst9_at (by rw [HU.out, HE.out]) HK.out]; rfl, rfl⟩
      · have e1 : (u.toList == s.toList) = false := by rw [str_eq]; simpa using (fun e => he e.symm)
        have HE := Lib.hid he
        clear he
        go_wp2
        go_roundg f
        case measure => omega
        case rel =>
          refine ⟨j + 1, by omega, by go_num, fun k hk => ?_, rfl⟩
          by_cases hkj : k = j
          · subst hkj
            rw [HU.out]
            exact fun e => HE.out (Option.some.inj e).symm
          · exact HK.out k (by omega)
set_option maxRecDepth 100000 in
theorem of_any (w : World) (B : Nat) (D : Option Addr) (d i : Nat) (R : List (List ByteArray)) (hR : SlN w B D (R.map fun r => r.map Value.string)) (hr : R.length ≤ 100) (hi : i ≤ 100) :
    Calls Try.prog 19 #[.slice D R.length d, .int .i64 i] w fun e w' => (∃ A c, e = .returned (.slice A (ofN R i).length c) ∧ SlV w B A ((ofN R i).map Value.string)) ∧ w = w' := by
  have r1 : (R.length : Int) ≤ 100 := by omega
  have i0 : (0 : Int) ≤ (i : Int) := by omega
  by_cases h : i < R.length
  · obtain ⟨r, hri⟩ : ∃ r, R[i]? = some r := ⟨_, List.getElem?_eq_getElem h⟩
    obtain ⟨g, o, A', d', rfl, hg, hc, hs⟩ := hR.at_ (k := i) (l := r.map Value.string) (by simp [hri])
    rw [List.length_map] at hc
    have HO := Lib.hid (show ofN R i = r by simp [ofN, hri])
    have HS := Lib.hid hs
    have i1 : (i : Int) < (R.length : Int) := by omega
    clear hR hs hri
    go_enter Try.func19, Try.ntmps19
    go_wp2
    go_ret
    exact ⟨⟨A', d', by rw [HO.out]; rfl, by rw [HO.out]; exact HS.out⟩, rfl⟩
  · have HO := Lib.hid (show ofN R i = [] by simp [ofN, List.getElem?_eq_none (show R.length ≤ i by omega)])
    have i1 : (R.length : Int) ≤ (i : Int) := by omega
    clear hR
    go_enter Try.func19, Try.ntmps19
    go_wp2
    go_ret
    exact ⟨⟨none, 0, by rw [HO.out]; rfl, by rw [HO.out]; exact SlV.nil_ _ _ _⟩, rfl⟩
def rdyL (N : List ByteArray) (l : List ByteArray) (th : Nat → Bool) : Bool := l.all fun s => ((fst9 N s).map th).getD false
set_option maxRecDepth 100000 in
set_option maxHeartbeats 1000000 in
theorem ready_any (w : World) (B : Nat) (A L D : Option Addr) (c lc d : Nat) (N l : List ByteArray) (th : Nat → Bool) (hN : SlV w B A (N.map Value.string)) (hl : SlV w B L (l.map Value.string)) (hD : SlV w B D (rowB N.length th)) (hn : N.length ≤ 100) (hll : l.length ≤ 100) (hk : badL N l = false) :
    Calls Try.prog 20 #[.slice A N.length c, .slice L l.length lc, .slice D N.length d] w fun e w' => e = .returned (.bool (rdyL N l th)) ∧ w' = w := by
  obtain ⟨res, hres⟩ : ∃ b, rdyL N l th = b := ⟨_, rfl⟩
  have HRES := Lib.hid hres
  rw [hres]
  have HP := Lib.hid (fun s => place_any w B A c N s hN hn)
  have HL := Lib.hid hl
  have HD := Lib.hid hD
  have HK := Lib.hid hk
  have n1 : (N.length : Int) ≤ 100 := by omega
  have l1 : (l.length : Int) ≤ 100 := by omega
  clear hN hl hD hk hres
  go_enter Try.func20, Try.ntmps20
  go_wp2
  go_loopg [7] l.length (fun gk v7 wr => ∃ j : Nat, j + gk = l.length ∧ v7 = .int .i64 j ∧ res = rdyL N (l.drop j) th ∧ w = wr)
  case atStart => exact ⟨0, by simp, rfl, by rw [← HRES.out]; rfl, rfl⟩
  case round =>
    obtain ⟨j, hj, rfl, hr, rfl⟩ := hrel
    cases gk with
    | zero =>
      obtain rfl : j = l.length := by omega
      have hr2 : res = true := by rw [hr, List.drop_length]; rfl
      subst hr2
      clear hj hr
      go_wp2
      go_ret
      exact ⟨rfl, rfl⟩
    | succ f =>
      have hjl : j < l.length := by omega
      obtain ⟨s, hs⟩ : ∃ s, l[j]? = some s := ⟨_, List.getElem?_eq_getElem hjl⟩
      obtain ⟨g, o, rfl, hg, hc⟩ := HL.out.at_ (k := j) (u := .string s) (by simp [hs])
      have j0 : (0 : Int) ≤ (j : Int) := by omega
      have j1 : (j : Int) < (l.length : Int) := by omega
      have hsm : s ∈ l := List.mem_of_getElem? hs
      have hko : ∃ t, fst9 N s = some t := by
        have := HK.out
        unfold badL at this
        rw [List.any_eq_false] at this
        have h2 := this s hsm
        cases e : fst9 N s with
        | none => rw [e] at h2; exact absurd rfl h2
        | some t => exact ⟨t, rfl⟩
      obtain ⟨t, ht⟩ := hko
      have htl := fst9_lt ht
      have hpl := HP.out s
      rw [ht] at hpl
      simp only [posZ] at hpl
      obtain ⟨g2, o2, rfl, hg2, hc2⟩ := HD.out.at_ (rowB_get (g := th) htl)
      have t0 : (0 : Int) ≤ (t : Int) := by omega
      have t1 : (t : Int) < (N.length : Int) := by omega
      obtain ⟨h3, h4⟩ := List.getElem?_eq_some_iff.1 hs
      have hr2 : res = (th t && rdyL N (l.drop (j + 1)) th) := by
        rw [hr]
        unfold rdyL
        rw [List.drop_eq_getElem_cons h3, h4, List.all_cons, ht]
        rfl
      clear h3 h4 hs hsm ht hr htl
      cases hth : th t with
      | false =>
        rw [hth] at hc2 hr2
        rw [Bool.false_and] at hr2
        subst hr2
        clear hth
        go_wp2_with (go_at_call 18; (with_reducible refine hpl.mono ?_); rintro e w2 ⟨rfl, rfl⟩)
        go_ret
        exact ⟨rfl, rfl⟩
      | true =>
        rw [hth] at hc2 hr2
        rw [Bool.true_and] at hr2
        have HRR := Lib.hid hr2
        clear hth hr2
        go_wp2_with (go_at_call 18; (with_reducible refine hpl.mono ?_); rintro e w2 ⟨rfl, rfl⟩)
        go_roundg f
        case measure => omega
        case rel => exact ⟨j + 1, by omega, by go_num, HRR.out, rfl⟩
theorem rdyL_cnt {N : List ByteArray} {R : List (List ByteArray)} {o : List Nat} {i : Nat} (hk : badL N (ofN R i) = false) : rdyL N (ofN R i) (fun j => o.contains j) = (cntN N.length (lk N R) o i == 0) := by
  rw [Bool.eq_iff_iff]
  unfold rdyL cntN
  rw [List.all_eq_true, beq_iff_eq, List.length_eq_zero_iff, List.filter_eq_nil_iff]
  unfold badL at hk
  rw [List.any_eq_false] at hk
  constructor
  · intro h j hj hc
    simp only [Bool.and_eq_true, lk, lkL, List.any_eq_true, beq_iff_eq] at hc
    obtain ⟨⟨s, hs, hf⟩, h2⟩ := hc
    have h3 := h s hs
    rw [hf] at h3
    simp at h3 h2
    exact h2 h3
  · intro h s hs
    have h2 := hk s hs
    cases e : fst9 N s with
    | none => rw [e] at h2; exact absurd rfl h2
    | some t =>
      have h3 := h t (by simpa using fst9_lt e)
      simp only [Option.map_some, Option.getD_some]
      cases hc : o.contains t with
      | true => rfl
      | false =>
        exfalso
        apply h3
        rw [hc]
        simp only [Bool.not_false, Bool.and_true, lk, lkL, List.any_eq_true, beq_iff_eq]
        exact ⟨s, hs, e⟩
end Go.Proofs.Ytibfikadamfpdaa
