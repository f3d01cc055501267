/-
  More parts than a statement goes through: walks.
-/
import Derived.Test.YtcfgjfahjaimiaaTyD
namespace Go.Proofs.Ytcfgjfahjaimiaa
open Go.RowKit
set_option linter.unusedVariables false
set_option linter.unusedSimpArgs false

set_option maxRecDepth 100000 in
set_option maxHeartbeats 2000000 in
theorem great_any (l : List Ty) (hl : l.length ≤ 9000000000000000000) (w : World) (F : Nat → Prop) (A : Option Addr) (c : Nat) (ha : SlT w F A l) :
    Calls Try.prog 9 #[.slice A l.length c] w (TruthP w (decide (400 < countL l))) := by
  have HA := Lib.hid ha
  have n0 : (0 : Int) ≤ (l.length : Int) := by omega
  have n1 : (l.length : Int) ≤ 9000000000000000000 := by omega
  have HL := Lib.hid n1
  clear ha n1 hl
  go_enter Try.func9, Try.ntmps9
  go_wp2
  go_loopg [3, 4] l.length (fun gk v3 v4 wr => ∃ (j : Nat) (x : Int), j + gk = l.length ∧ v4 = .int .i64 j ∧ v3 = .int .i64 x ∧ x = min (countL (l.take j) : Int) 401 ∧ Below w.heap.size w wr)
  case atStart => exact ⟨0, 0, by simp, rfl, rfl, by simp [countL_nil]; omega, Below.refl _ _⟩
  case round =>
    obtain ⟨j, x, hj, rfl, rfl, hx, hb⟩ := hrel
    have x0 : 0 ≤ x := by omega
    have x1 : x ≤ 401 := by omega
    cases gk with
    | zero =>
      obtain rfl : j = l.length := by omega
      rw [List.take_length] at hx
      have hg : decide (x > 400) = decide (400 < countL l) := decide_eq_decide.2 (by omega)
      have HG := Lib.hid hg
      clear hx hg hj
      go_wp2
      go_ret
      exact ⟨by rw [← HG.out]; simp, hb⟩
    | succ f =>
      have hjl : j < l.length := by omega
      obtain ⟨u, hu⟩ : ∃ u, l[j]? = some u := ⟨_, List.getElem?_eq_getElem hjl⟩
      have hct := countL_take l j u hu
      have hck := count_kid l j u hu
      have j1 : (j : Int) < (l.length : Int) := by omega
      have j0 : (0 : Int) ≤ (j : Int) := by omega
      have j2 : (j : Int) ≤ 9000000000000000000 := by have := HL.out; omega
      by_cases hg : x ≤ 400
      · have hgd : decide (x ≤ 400) = true := by simpa using hg
        obtain ⟨q, o, vs, rfl, hFq, hgl, hrep, hat⟩ := (HA.out.bel hb).at_ hu
        have HC := Lib.hid (count_any u.count u (Nat.le_refl _) wr F vs (400 - x) hrep (by omega) (by omega))
        obtain ⟨k1, p1, n1', A1, m1, c1, B1, l1, d1, rfl⟩ := hrep.shape
        have q0 := hat 0 _ rfl
        have q1 := hat 1 _ rfl
        have q2 := hat 2 _ rfl
        have q3 := hat 3 _ rfl
        have q4 := hat 4 _ rfl
        simp only [Nat.add_zero] at q0
        obtain ⟨y, hy⟩ : ∃ y, min (u.count : Int) (400 - x + 1) = y := ⟨_, rfl⟩
        rw [hy] at HC
        have hy0 : 0 ≤ y := by omega
        have hy1 : y ≤ 401 - x := by omega
        have hxy : x + y = min (countL (l.take (j + 1)) : Int) 401 := by omega
        have HXY := Lib.hid hxy
        have HB := Lib.hid hb
        clear hat hrep hct hck hy hxy hx hu hb hg
        go_wp2_with (go_at_call 21; refine HC.out.mono ?_; rintro e w5 ⟨rfl, hb5⟩)
        go_roundg f
        case measure => omega
        case rel => exact ⟨j + 1, x + y, by omega, by go_num, rfl, HXY.out, HB.out.trans (hb5.mono HB.out.size)⟩
      · have hgd : decide (x ≤ 400) = false := by simpa using hg
        have hx2 : x = 401 := by omega
        have hm := countL_append (l.take j) (l.drop j)
        rw [List.take_append_drop] at hm
        have hgg : decide (400 < countL l) = true := by simp; omega
        have HGG := Lib.hid hgg
        subst hx2
        clear hct hck hx hu hm hgg hg
        go_wp2
        go_ret
        exact ⟨by rw [HGG.out]; rfl, hb⟩
end Go.Proofs.Ytcfgjfahjaimiaa
