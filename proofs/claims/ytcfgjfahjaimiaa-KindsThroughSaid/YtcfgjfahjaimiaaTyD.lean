/-
  How many parts types have: the document's count, walks.
-/
import Derived.Test.YtcfgjfahjaimiaaTyC
namespace Go.Proofs.Ytcfgjfahjaimiaa
open Go.RowKit
set_option linter.unusedVariables false
set_option linter.unusedSimpArgs false

theorem len_take_count (l : List Ty) (j : Nat) (h : j ≤ l.length) : j ≤ countL (l.take j) := by
  have := len_countL (l.take j)
  rw [List.length_take] at this
  omega
set_option maxRecDepth 100000 in
set_option maxHeartbeats 4000000 in
theorem count_any : ∀ (N : Nat) (t : Ty), t.count ≤ N → ∀ (w : World) (F : Nat → Prop) (vs : List Value) (M : Int), RT w F t vs → 0 ≤ M → M ≤ 2000000 →
    Calls Try.prog 21 #[.agg vs.toArray, .int .i64 M] w fun e w' => e = .returned (.int .i64 (min (t.count : Int) (M + 1))) ∧ Below w.heap.size w w'
  | 0, t, ht, _, _, _, _, _, _, _ => by have := count_pos t; omega
  | N + 1, .mk k p n la lr, ht, w, F, vs, M, hr, hM, hM2 => by
    have ih := count_any N
    rw [count_mk] at ht ⊢
    obtain ⟨A, c, B, d, rfl, ha, hb⟩ := hr.openL
    have HA := Lib.hid ha
    have HB := Lib.hid hb
    clear hr ha hb
    show Calls Try.prog 21 #[.agg #[.int .i64 k, .string p, .string n, .slice A la.length c, .slice B lr.length d], .int .i64 M] w _
    go_enter Try.func21, Try.ntmps21
    go_wp2
    go_loopg [5, 6] la.length (fun gk v5 v6 wr => ∃ (j : Nat) (x : Int), j + gk = la.length ∧ v6 = .int .i64 j ∧ v5 = .int .i64 x ∧ (j : Int) ≤ x ∧ x = min (1 + (countL (la.take j) : Int)) (M + 1) ∧ Below w.heap.size w wr ∧ Blk wr w.heap.size 26 #[.int .i64 k, .string p, .string n, .slice A la.length c, .slice B lr.length d])
    case atStart => exact ⟨0, 1, by simp, rfl, rfl, by simp, by simp [countL_nil]; omega, (Below.refl _ _).alloc (Nat.le_refl _) _, Blk.new _ _ _⟩
    case round =>
      obtain ⟨j, x, hj, rfl, rfl, hjx, hx, hb, hbx⟩ := hrel
      have bx := hbx.cell 3
      have bz := hbx.lt
      have x0' : 0 ≤ x := by omega
      have x1' : x ≤ M + 1 := by omega
      cases gk with
      | zero =>
        obtain rfl : j = la.length := by omega
        rw [List.take_length] at hx
        have hj9 : (0 : Int) ≤ (la.length : Int) := by omega
        have HX1 := Lib.hid hx
        clear hx hj
        go_wp2
        have HX0 := Lib.hid HX1.out
        have hB0 := hb
        have hbx0 := hbx
        have xx0 : 0 ≤ x := x0'
        have xx1 : x ≤ M + 1 := x1'
        obtain ⟨x00, hx00⟩ : ∃ z, z = x := ⟨_, rfl⟩
        rw [← hx00] at HX0 xx0 xx1 ⊢
        clear bx bz HX1 hb hbx x0' x1' hx00
        go_loopg [5, 7] lr.length (fun gk v5 v7 wr => ∃ (j : Nat) (x : Int), j + gk = lr.length ∧ v7 = .int .i64 j ∧ v5 = .int .i64 x ∧ (j : Int) ≤ x ∧ x = min (x00 + (countL (lr.take j) : Int)) (M + 1) ∧ Below w.heap.size w wr ∧ Blk wr w.heap.size 26 #[.int .i64 k, .string p, .string n, .slice A la.length c, .slice B lr.length d])
        case atStart => exact ⟨0, x00, by simp, rfl, rfl, by simpa using xx0, by simp [countL_nil]; omega, hB0, hbx0⟩
        case round =>
          obtain ⟨j, x, hj, rfl, rfl, hjx, hx, hb, hbx⟩ := hrel
          have bx := hbx.cell 4
          have bz := hbx.lt
          have x0' : 0 ≤ x := by omega
          have x1' : x ≤ M + 1 := by omega
          cases gk with
          | zero =>
            obtain rfl : j = lr.length := by omega
            rw [List.take_length] at hx
            have hj9 : (0 : Int) ≤ (lr.length : Int) := by omega
            have HX1 := Lib.hid hx
            clear hx hj
            go_wp2
            go_ret
            exact ⟨by refine congrArg (fun z => Ending.returned (Value.int IntKind.i64 z)) ?_; have := HX1.out; have := HX0.out; omega, hb⟩
          | succ f =>
            have hjl : j < lr.length := by omega
            have j1 : (j : Int) < (lr.length : Int) := by omega
            have j0 : (0 : Int) ≤ (j : Int) := by omega
            obtain ⟨u, hu⟩ : ∃ u, lr[j]? = some u := ⟨_, List.getElem?_eq_getElem hjl⟩
            have hck := count_kid lr j u hu
            have hct := countL_take lr j u hu
            have hlc := len_take_count lr j (by omega)
            by_cases hle : x ≤ M
            · obtain ⟨g, o, vs, hA, hF, hgl, hrep, hat⟩ := HB.out.at_ hu
              subst hA
              have HI := Lib.hid (fun w' (hb' : Below w.heap.size w w') => ih u (by omega) w' F vs (M - x) (hrep.bel hb') (by omega) (by omega))
              obtain ⟨k1, p1, n1, A1, m1, c1, B1, l1, d1, rfl⟩ := hrep.shape
              have q0 := (hb.cell (p := ⟨g, _, none⟩) hgl).trans (hat 0 _ rfl)
              have q1 := (hb.cell (p := ⟨g, _, none⟩) hgl).trans (hat 1 _ rfl)
              have q2 := (hb.cell (p := ⟨g, _, none⟩) hgl).trans (hat 2 _ rfl)
              have q3 := (hb.cell (p := ⟨g, _, none⟩) hgl).trans (hat 3 _ rfl)
              have q4 := (hb.cell (p := ⟨g, _, none⟩) hgl).trans (hat 4 _ rfl)
              simp only [Nat.add_zero] at q0
              have j2 : (j : Int) ≤ 2000000 := by omega
              obtain ⟨y, hy⟩ : ∃ y, min (u.count : Int) (M - x + 1) = y := ⟨_, rfl⟩
              have y0 : 0 ≤ y := by omega
              have y1 : y ≤ 2000001 := by omega
              rw [hy] at HI
              have HUP := Lib.hid (count_pos u)
              have HY := Lib.hid hy
              have HXX := Lib.hid hx
              have HCT := Lib.hid hct
              clear hu hat hrep hy hx hct hck hlc
              go_wp2_with (go_at_call 21; refine (HI.out _ hb).mono ?_; rintro e w5 ⟨rfl, hb5⟩)
              have hB5 := hb.trans (hb5.mono hb.size)
              have hbx5 := hbx.bel2 hb5
              go_roundg f
              case measure => omega
              case rel => exact ⟨j + 1, x + y, by omega, by go_num, rfl, by have := HY.out; have := HUP.out; omega, by have := HY.out; have := HXX.out; have := HCT.out; omega, hB5, hbx5⟩
            · have hnle : ¬ x ≤ M := hle
              have HX1 := Lib.hid (show x = min (x00 + (countL lr : Int)) (M + 1) by omega)
              have j2 : (j : Int) ≤ 2000001 := by omega
              clear hle hx hck hct hlc hu
              go_wp2
              go_ret
              exact ⟨by refine congrArg (fun z => Ending.returned (Value.int IntKind.i64 z)) ?_; have := HX1.out; have := HX0.out; omega, hb⟩
      | succ f =>
        have hjl : j < la.length := by omega
        have j1 : (j : Int) < (la.length : Int) := by omega
        have j0 : (0 : Int) ≤ (j : Int) := by omega
        obtain ⟨u, hu⟩ : ∃ u, la[j]? = some u := ⟨_, List.getElem?_eq_getElem hjl⟩
        have hck := count_kid la j u hu
        have hct := countL_take la j u hu
        have hlc := len_take_count la j (by omega)
        by_cases hle : x ≤ M
        · obtain ⟨g, o, vs, hA, hF, hgl, hrep, hat⟩ := HA.out.at_ hu
          subst hA
          have HI := Lib.hid (fun w' (hb' : Below w.heap.size w w') => ih u (by omega) w' F vs (M - x) (hrep.bel hb') (by omega) (by omega))
          obtain ⟨k1, p1, n1, A1, m1, c1, B1, l1, d1, rfl⟩ := hrep.shape
          have q0 := (hb.cell (p := ⟨g, _, none⟩) hgl).trans (hat 0 _ rfl)
          have q1 := (hb.cell (p := ⟨g, _, none⟩) hgl).trans (hat 1 _ rfl)
          have q2 := (hb.cell (p := ⟨g, _, none⟩) hgl).trans (hat 2 _ rfl)
          have q3 := (hb.cell (p := ⟨g, _, none⟩) hgl).trans (hat 3 _ rfl)
          have q4 := (hb.cell (p := ⟨g, _, none⟩) hgl).trans (hat 4 _ rfl)
          simp only [Nat.add_zero] at q0
          have j2 : (j : Int) ≤ 2000000 := by omega
          obtain ⟨y, hy⟩ : ∃ y, min (u.count : Int) (M - x + 1) = y := ⟨_, rfl⟩
          have y0 : 0 ≤ y := by omega
          have y1 : y ≤ 2000001 := by omega
          rw [hy] at HI
          have HUP := Lib.hid (count_pos u)
          have HY := Lib.hid hy
          have HXX := Lib.hid hx
          have HCT := Lib.hid hct
          clear hu hat hrep hy hx hct hck hlc
          go_wp2_with (go_at_call 21; refine (HI.out _ hb).mono ?_; rintro e w5 ⟨rfl, hb5⟩)
          have hB5 := hb.trans (hb5.mono hb.size)
          have hbx5 := hbx.bel2 hb5
          go_roundg f
          case measure => omega
          case rel => exact ⟨j + 1, x + y, by omega, by go_num, rfl, by have := HY.out; have := HUP.out; omega, by have := HY.out; have := HXX.out; have := HCT.out; omega, hB5, hbx5⟩
        · have hnle : ¬ x ≤ M := hle
          have HX1 := Lib.hid (show x = min (1 + (countL la : Int)) (M + 1) by omega)
          have j2 : (j : Int) ≤ 2000001 := by omega
          clear hle hx hck hct hlc hu
          go_wp2
          have HX0 := Lib.hid HX1.out
          have hB0 := hb
          have hbx0 := hbx
          have xx0 : 0 ≤ x := x0'
          have xx1 : x ≤ M + 1 := x1'
          obtain ⟨x00, hx00⟩ : ∃ z, z = x := ⟨_, rfl⟩
          rw [← hx00] at HX0 xx0 xx1 ⊢
          clear bx bz HX1 hb hbx x0' x1' hx00
          go_loopg [5, 7] lr.length (fun gk v5 v7 wr => ∃ (j : Nat) (x : Int), j + gk = lr.length ∧ v7 = .int .i64 j ∧ v5 = .int .i64 x ∧ (j : Int) ≤ x ∧ x = min (x00 + (countL (lr.take j) : Int)) (M + 1) ∧ Below w.heap.size w wr ∧ Blk wr w.heap.size 26 #[.int .i64 k, .string p, .string n, .slice A la.length c, .slice B lr.length d])
          case atStart => exact ⟨0, x00, by simp, rfl, rfl, by simpa using xx0, by simp [countL_nil]; omega, hB0, hbx0⟩
          case round =>
            obtain ⟨j, x, hj, rfl, rfl, hjx, hx, hb, hbx⟩ := hrel
            have bx := hbx.cell 4
            have bz := hbx.lt
            have x0' : 0 ≤ x := by omega
            have x1' : x ≤ M + 1 := by omega
            cases gk with
            | zero =>
              obtain rfl : j = lr.length := by omega
              rw [List.take_length] at hx
              have hj9 : (0 : Int) ≤ (lr.length : Int) := by omega
              have HX1 := Lib.hid hx
              clear hx hj
              go_wp2
              go_ret
              exact ⟨by refine congrArg (fun z => Ending.returned (Value.int IntKind.i64 z)) ?_; have := HX1.out; have := HX0.out; omega, hb⟩
            | succ f =>
              have hjl : j < lr.length := by omega
              have j1 : (j : Int) < (lr.length : Int) := by omega
              have j0 : (0 : Int) ≤ (j : Int) := by omega
              obtain ⟨u, hu⟩ : ∃ u, lr[j]? = some u := ⟨_, List.getElem?_eq_getElem hjl⟩
              have hck := count_kid lr j u hu
              have hct := countL_take lr j u hu
              have hlc := len_take_count lr j (by omega)
              by_cases hle : x ≤ M
              · obtain ⟨g, o, vs, hA, hF, hgl, hrep, hat⟩ := HB.out.at_ hu
                subst hA
                have HI := Lib.hid (fun w' (hb' : Below w.heap.size w w') => ih u (by omega) w' F vs (M - x) (hrep.bel hb') (by omega) (by omega))
                obtain ⟨k1, p1, n1, A1, m1, c1, B1, l1, d1, rfl⟩ := hrep.shape
                have q0 := (hb.cell (p := ⟨g, _, none⟩) hgl).trans (hat 0 _ rfl)
                have q1 := (hb.cell (p := ⟨g, _, none⟩) hgl).trans (hat 1 _ rfl)
                have q2 := (hb.cell (p := ⟨g, _, none⟩) hgl).trans (hat 2 _ rfl)
                have q3 := (hb.cell (p := ⟨g, _, none⟩) hgl).trans (hat 3 _ rfl)
                have q4 := (hb.cell (p := ⟨g, _, none⟩) hgl).trans (hat 4 _ rfl)
                simp only [Nat.add_zero] at q0
                have j2 : (j : Int) ≤ 2000000 := by omega
                obtain ⟨y, hy⟩ : ∃ y, min (u.count : Int) (M - x + 1) = y := ⟨_, rfl⟩
                have y0 : 0 ≤ y := by omega
                have y1 : y ≤ 2000001 := by omega
                rw [hy] at HI
                have HUP := Lib.hid (count_pos u)
                have HY := Lib.hid hy
                have HXX := Lib.hid hx
                have HCT := Lib.hid hct
                clear hu hat hrep hy hx hct hck hlc
                go_wp2_with (go_at_call 21; refine (HI.out _ hb).mono ?_; rintro e w5 ⟨rfl, hb5⟩)
                have hB5 := hb.trans (hb5.mono hb.size)
                have hbx5 := hbx.bel2 hb5
                go_roundg f
                case measure => omega
                case rel => exact ⟨j + 1, x + y, by omega, by go_num, rfl, by have := HY.out; have := HUP.out; omega, by have := HY.out; have := HXX.out; have := HCT.out; omega, hB5, hbx5⟩
              · have hnle : ¬ x ≤ M := hle
                have HX1 := Lib.hid (show x = min (x00 + (countL lr : Int)) (M + 1) by omega)
                have j2 : (j : Int) ≤ 2000001 := by omega
                clear hle hx hck hct hlc hu
                go_wp2
                go_ret
                exact ⟨by refine congrArg (fun z => Ending.returned (Value.int IntKind.i64 z)) ?_; have := HX1.out; have := HX0.out; omega, hb⟩
end Go.Proofs.Ytcfgjfahjaimiaa
