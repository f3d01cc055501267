/-
  The laws' own helpers.
-/
import Derived.Test.YtibfikadamfpdaaOd
namespace Go.Proofs.Ytibfikadamfpdaa
open Go.RowKit
set_option linter.unusedVariables false
set_option linter.unusedSimpArgs false

set_option maxRecDepth 100000 in
theorem num_any (n : Int) (w : World) : Calls Try.prog 13 #[.int .i64 n] w fun e w' => e = .returned (.int .i64 n) ∧ w = w' := by
  go_enter Try.func13, Try.ntmps13
  go_wp2
  go_ret
  exact ⟨rfl, rfl⟩
set_option maxRecDepth 100000 in
set_option maxHeartbeats 1000000 in
theorem same_any (w : World) (B B' : Nat) (A A' : Option Addr) (c c' : Nat) (l m : List Nat) (hl : SlV w B A (ints l)) (hm : SlV w B' A' (ints m)) (hn : l.length ≤ 1000) (hn2 : m.length ≤ 1000) :
    Calls Try.prog 12 #[.slice A l.length c, .slice A' m.length c'] w (TruthP w (decide (l = m))) := by
  have HL := Lib.hid hl
  have HM := Lib.hid hm
  have n1 : (l.length : Int) ≤ 1000 := by omega
  have n2 : (m.length : Int) ≤ 1000 := by omega
  clear hl hm
  by_cases hlen : l.length = m.length
  · have hlen' : (l.length : Int) = (m.length : Int) := by omega
    have HLEN := Lib.hid hlen
    have hb : ((l.length : Int) != (m.length : Int)) = false := by rw [hlen']; simp
    clear hlen hlen'
    go_enter Try.func12, Try.ntmps12
    go_wp2
    go_loopg [5] l.length (fun gk v5 wr => ∃ j : Nat, j + gk = l.length ∧ v5 = .int .i64 j ∧ (∀ k, k < j → l[k]? = m[k]?) ∧ Below w.heap.size w wr)
    case atStart => exact ⟨0, by simp, rfl, fun k hk => absurd hk (by omega), Below.refl _ _⟩
    case round =>
      obtain ⟨j, hj, rfl, hk, hbl⟩ := hrel
      have HK := Lib.hid hk
      have HB := Lib.hid hbl
      cases gk with
      | zero =>
        obtain rfl : j = l.length := by omega
        clear hj hk hbl
        go_wp2
        go_ret
        refine ⟨?_, HB.out⟩
        have : l = m := by
          apply List.ext_getElem?
          intro i
          by_cases h : i < l.length
          · exact HK.out i h
          · rw [List.getElem?_eq_none (by omega), List.getElem?_eq_none (by rw [← HLEN.out]; omega)]
        rw [show decide (l = m) = true from by simpa using this]
        rfl
      | succ f =>
        have hjl : j < l.length := by omega
        have hjm : j < m.length := by rw [← HLEN.out]; exact hjl
        have j0 : (0 : Int) ≤ (j : Int) := by omega
        have j1 : (j : Int) < (l.length : Int) := by omega
        have j2 : (j : Int) < (m.length : Int) := by omega
        obtain ⟨g, o, rfl, hg, hc⟩ := HL.out.at_ (ints_get hjl)
        obtain ⟨g', o', rfl, hg', hc'⟩ := HM.out.at_ (ints_get hjm)
        have z1 := World.block_lt_of_cell? w _ hc
        have z2 := World.block_lt_of_cell? w _ hc'
        have hc1 := (hbl.cell (p := ⟨g, o + j, none⟩) z1).trans hc
        have hc2 := (hbl.cell (p := ⟨g', o' + j, none⟩) z2).trans hc'
        have f1 := fl_get hjl
        have f2 := fl_get hjm
        have HF := Lib.hid (And.intro f1 f2)
        clear hc hc' hk hbl hjm z1 z2 hg hg' f1 f2
        by_cases he : fl l j = fl m j
        · have e1 : ((fl l j : Int) != (fl m j : Int)) = false := by rw [he]; simp
          have HE := Lib.hid he
          clear he
          go_wp2
          go_quiet (fail)
          go_wp2
          go_roundg f
          case measure => omega
          case rel =>
            refine ⟨j + 1, by omega, by go_num, fun k hk => ?_, below_drewN HB.out _⟩
            by_cases hkj : k = j
            · rw [hkj, HF.out.1, HF.out.2, HE.out]
            · exact HK.out k (by omega)
        · have e1 : ((fl l j : Int) != (fl m j : Int)) = true := by
            have : (fl l j : Int) ≠ (fl m j : Int) := by omega
            simpa using this
          have HE := Lib.hid he
          clear he
          go_wp2
          go_quiet (fail)
          go_wp2
          go_ret
          refine ⟨?_, below_drewN HB.out _⟩
          have : l ≠ m := fun e => HE.out (by rw [e])
          rw [show decide (l = m) = false from by simpa using this]
          rfl
  · have hb : ((l.length : Int) != (m.length : Int)) = true := by
      have : (l.length : Int) ≠ (m.length : Int) := by omega
      simpa using this
    have HLEN := Lib.hid hlen
    clear hlen
    go_enter Try.func12, Try.ntmps12
    go_wp2
    go_ret
    refine ⟨?_, Below.refl _ _⟩
    have : l ≠ m := fun e => HLEN.out (by rw [e])
    rw [show decide (l = m) = false from by simpa using this]
    rfl
def heavyB (N : List ByteArray) (R : List (List ByteArray)) : Bool := decide (12 < N.length) || decide (20 < R.length) || R.any fun r => decide (40 < r.length)
theorem heavy_no {N : List ByteArray} {R : List (List ByteArray)} (h : heavyB N R = false) : N.length ≤ 12 ∧ R.length ≤ 20 ∧ ∀ r ∈ R, r.length ≤ 40 := by
  simp only [heavyB, Bool.or_eq_false_iff, decide_eq_false_iff_not, List.any_eq_false, decide_eq_true_eq] at h
  obtain ⟨⟨h1, h2⟩, h3⟩ := h
  exact ⟨by omega, by omega, fun r hr => by have := h3 r hr; omega⟩
set_option maxRecDepth 100000 in
set_option maxHeartbeats 1000000 in
theorem heavy_any (w : World) (B : Nat) (A D : Option Addr) (c d : Nat) (N : List ByteArray) (R : List (List ByteArray)) (hR : SlN w B D (R.map fun r => r.map Value.string)) :
    Calls Try.prog 8 #[.slice A N.length c, .slice D R.length d] w fun e w' => e = .returned (.bool (heavyB N R)) ∧ w = w' := by
  have HR := Lib.hid hR
  obtain ⟨res, hres⟩ : ∃ b, heavyB N R = b := ⟨_, rfl⟩
  have HRES := Lib.hid hres
  rw [hres]
  clear hR hres
  by_cases h1 : 12 < N.length
  · have e1 : (12 : Int) < (N.length : Int) := by omega
    go_enter Try.func8, Try.ntmps8
    go_wp2
    go_ret
    exact ⟨by rw [← HRES.out]; simp [heavyB, h1], rfl⟩
  · have e1 : (N.length : Int) ≤ 12 := by omega
    by_cases h2 : 20 < R.length
    · have e2 : (20 : Int) < (R.length : Int) := by omega
      go_enter Try.func8, Try.ntmps8
      go_wp2
      go_ret
      exact ⟨by rw [← HRES.out]; simp [heavyB, h2], rfl⟩
    · have e2 : (R.length : Int) ≤ 20 := by omega
      have hres2 : res = R.any fun r => decide (40 < r.length) := by
        rw [← HRES.out]; simp [heavyB, h1, h2]
      have HX := Lib.hid hres2
      clear hres2 h1 h2
      go_enter Try.func8, Try.ntmps8
      go_wp2
      go_loopg [5] R.length (fun gk v5 wr => ∃ j : Nat, j + gk = R.length ∧ v5 = .int .i64 j ∧ res = ((R.drop j).any fun r => decide (40 < r.length)) ∧ w = wr)
      case atStart => exact ⟨0, by simp, rfl, by rw [HX.out]; rfl, rfl⟩
      case round =>
        obtain ⟨j, hj, rfl, hr, rfl⟩ := hrel
        cases gk with
        | zero =>
          obtain rfl : j = R.length := by omega
          rw [List.drop_length, List.any_nil] at hr
          subst hr
          clear hj
          go_wp2
          go_ret
          exact ⟨rfl, rfl⟩
        | succ f =>
          have hjl : j < R.length := by omega
          obtain ⟨r, hrj⟩ : ∃ r, R[j]? = some r := ⟨_, List.getElem?_eq_getElem hjl⟩
          obtain ⟨g, o, A', d', rfl, hg, hc, _⟩ := HR.out.at_ (k := j) (l := r.map Value.string) (by simp [hrj])
          rw [List.length_map] at hc
          have j0 : (0 : Int) ≤ (j : Int) := by omega
          have j1 : (j : Int) < (R.length : Int) := by omega
          obtain ⟨h3, h4⟩ := List.getElem?_eq_some_iff.1 hrj
          rw [List.drop_eq_getElem_cons h3, h4, List.any_cons] at hr
          clear h3 h4 hrj
          by_cases h40 : 40 < r.length
          · rw [show decide (40 < r.length) = true from by simpa using h40, Bool.true_or] at hr
            subst hr
            have b1 : (40 : Int) < (r.length : Int) := by omega
            go_wp2
            go_ret
            exact ⟨rfl, rfl⟩
          · rw [show decide (40 < r.length) = false from by simpa using h40, Bool.false_or] at hr
            have HRR := Lib.hid hr
            have b1 : (r.length : Int) ≤ 40 := by omega
            clear hr h40
            go_wp2
            go_roundg f
            case measure => omega
            case rel => exact ⟨j + 1, by omega, by go_num, HRR.out, rfl⟩
end Go.Proofs.Ytibfikadamfpdaa
