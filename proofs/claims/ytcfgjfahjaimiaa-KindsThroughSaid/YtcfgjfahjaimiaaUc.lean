/-
  Parts of the tree code: the document's count, walks.
-/
import Derived.Test.YtcfgjfahjaimiaaUb
import Derived.Test.YtcfgjfahjaimiaaTyU
namespace Go.Proofs.Ytcfgjfahjaimiaa
open Go.RowKit
set_option linter.unusedVariables false
set_option linter.unusedSimpArgs false

/-- A count up to a number: what is not above it is exact. -/
def CntP (c : Nat) (M top : Int) (w : World) (e : Ending) (w' : World) : Prop := ∃ r : Int, e = .returned (.int .i64 r) ∧ 0 ≤ r ∧ r ≤ top ∧ (r ≤ M → r = c) ∧ w = w'
theorem cntEs_take (l : List Ex) (j : Nat) (t : Ex) (h : l[j]? = some t) : cntEs (l.take (j + 1)) = cntEs (l.take j) + t.cnt := by rw [cntEs_sum, cntEs_sum]; exact sumL_take _ _ _ _ h
theorem cntEs_kid (l : List Ex) (j : Nat) (t : Ex) (h : l[j]? = some t) : cntEs (l.take j) + t.cnt ≤ cntEs l := by rw [cntEs_sum, cntEs_sum]; exact sumL_kid _ _ _ _ h
theorem cntSs_take (l : List St) (j : Nat) (t : St) (h : l[j]? = some t) : cntSs (l.take (j + 1)) = cntSs (l.take j) + t.cnt := by rw [cntSs_sum, cntSs_sum]; exact sumL_take _ _ _ _ h
theorem cntSs_kid (l : List St) (j : Nat) (t : St) (h : l[j]? = some t) : cntSs (l.take j) + t.cnt ≤ cntSs l := by rw [cntSs_sum, cntSs_sum]; exact sumL_kid _ _ _ _ h
set_option maxRecDepth 100000 in
set_option maxHeartbeats 4000000 in
theorem exprs_any : ∀ (N : Nat) (l : List Ex), cntEs l ≤ N → okEs 140737488355328 l → l.length ≤ 140737488355328 → ∀ (w : World) (F : Nat → Prop) (A : Option Addr) (c : Nat) (M : Int), SlG 4 RE w F A l → 0 ≤ M → M ≤ 2000000 →
    Calls Try.prog 60 #[.slice A l.length c, .int .i64 M] w (CntP (cntEs l) M (M + 1) w)
  | N, l, ht, hok, hlen, w, F, A, c, M, hr, hM, hM2 => by
    have ih : ∀ (k : List Ex), cntEs k < N → okEs 140737488355328 k → k.length ≤ 140737488355328 → ∀ (w : World) (F : Nat → Prop) (A : Option Addr) (c : Nat) (M : Int), SlG 4 RE w F A k → 0 ≤ M → M ≤ 2000000 → Calls Try.prog 60 #[.slice A k.length c, .int .i64 M] w (CntP (cntEs k) M (M + 1) w) := fun k hk => by
      cases N with
      | zero => omega
      | succ N => exact exprs_any N k (by omega)
    have HA := Lib.hid hr
    have HOK := Lib.hid hok
    have n0 : (0 : Int) ≤ (l.length : Int) := by omega
    have n1 : (l.length : Int) ≤ 140737488355328 := by omega
    clear hr hok
    go_enter Try.func60, Try.ntmps60
    go_wp2
    go_loopg [5, 6] l.length (fun gk v5 v6 wr => ∃ (j : Nat) (x : Int), j + gk = l.length ∧ v6 = .int .i64 j ∧ v5 = .int .i64 x ∧ 0 ≤ x ∧ x ≤ M + 1 ∧ (x ≤ M → x = cntEs (l.take j)) ∧ wr = w)
    case atStart => exact ⟨0, 0, by simp, rfl, rfl, by omega, by omega, fun _ => by simp [cntEs], rfl⟩
    case round =>
      obtain ⟨j, x, hj, rfl, rfl, x0, x1, hx, rfl⟩ := hrel
      have HX := Lib.hid hx
      clear hx
      cases gk with
      | zero =>
        obtain rfl : j = l.length := by omega
        have hX := HX.out
        rw [List.take_length] at hX
        have HX2 := Lib.hid hX
        clear hX hj
        by_cases hg : x ≤ M
        all_goals
          go_wp2
          go_ret
          exact ⟨x, rfl, x0, x1, HX2.out, rfl⟩
      | succ f =>
        have hjl : j < l.length := by omega
        obtain ⟨u, hu⟩ : ∃ u, l[j]? = some u := ⟨_, List.getElem?_eq_getElem hjl⟩
        have hct := cntEs_take l j u hu
        have hck := cntEs_kid l j u hu
        have hku := (okEs_iff l).1 HOK.out u (List.mem_of_getElem? hu)
        have j1 : (j : Int) < (l.length : Int) := by omega
        have j0 : (0 : Int) ≤ (j : Int) := by omega
        have j2 : (j : Int) ≤ 140737488355328 := by omega
        obtain ⟨q, o, vs, rfl, hFq, hgl, hrep, hat⟩ := HA.out.at_ RE_sized hu
        obtain ⟨op, n, s, kids⟩ := u
        rw [cnt_ex] at hct hck
        simp only [Ex.ok] at hku
        obtain ⟨A1, c1, rfl, hkids⟩ := hrep.openL
        have q3 := hat 3 _ rfl
        have HCT := Lib.hid hct
        by_cases hg : x ≤ M
        · have hgd : decide (x ≤ M) = true := decide_eq_true hg
          by_cases hg2 : x + 1 ≤ M
          · have hgd2 : decide (x + 1 ≤ M) = true := decide_eq_true hg2
            have HC := Lib.hid (ih kids (by omega) hku.2.2 hku.2.1 wr F A1 c1 (M - (x + 1)) hkids (by omega) (by omega))
            clear hat hrep hct hck hu hku hkids
            go_wp2_with (go_at_call 60; refine HC.out.mono ?_; rintro e w5 ⟨r, rfl, r0, r1, hr1, rfl⟩; have HR1 := Lib.hid hr1; clear hr1)
            go_roundg f
            case measure => omega
            case rel => exact ⟨j + 1, x + 1 + r, by omega, by go_num, rfl, by omega, by omega, fun h => by have h1 := HX.out hg; have h2 := HR1.out (by omega); have h3 := HCT.out; omega, rfl⟩
          · have hgd2 : decide (x + 1 ≤ M) = false := decide_eq_false hg2
            clear hat hrep hct hck hu hku hkids
            go_wp2
            go_roundg f
            case measure => omega
            case rel => exact ⟨j + 1, x + 1, by omega, by go_num, rfl, by omega, by omega, fun h => by omega, rfl⟩
        · have hgd : decide (x ≤ M) = false := decide_eq_false hg
          clear hat hrep hct hck hu hku hkids
          go_wp2
          go_ret
          exact ⟨x, rfl, x0, x1, fun h => by omega, rfl⟩
set_option maxRecDepth 100000 in
set_option maxHeartbeats 4000000 in
theorem stats_any : ∀ (N : Nat) (l : List St), cntSs l ≤ N → okSs 140737488355328 l → l.length ≤ 140737488355328 → ∀ (w : World) (F : Nat → Prop) (A : Option Addr) (c : Nat) (M : Int), SlG 5 RS w F A l → 0 ≤ M → M ≤ 2000000 →
    Calls Try.prog 39 #[.slice A l.length c, .int .i64 M] w (CntP (cntSs l) M (M + 2) w)
  | N, l, ht, hok, hlen, w, F, A, c, M, hr, hM, hM2 => by
    have ih : ∀ (k : List St), cntSs k < N → okSs 140737488355328 k → k.length ≤ 140737488355328 → ∀ (w : World) (F : Nat → Prop) (A : Option Addr) (c : Nat) (M : Int), SlG 5 RS w F A k → 0 ≤ M → M ≤ 2000000 → Calls Try.prog 39 #[.slice A k.length c, .int .i64 M] w (CntP (cntSs k) M (M + 2) w) := fun k hk => by
      cases N with
      | zero => omega
      | succ N => exact stats_any N k (by omega)
    have HA := Lib.hid hr
    have HOK := Lib.hid hok
    have n0 : (0 : Int) ≤ (l.length : Int) := by omega
    have n1 : (l.length : Int) ≤ 140737488355328 := by omega
    clear hr hok
    go_enter Try.func39, Try.ntmps39
    go_wp2
    go_loopg [5, 6] l.length (fun gk v5 v6 wr => ∃ (j : Nat) (x : Int), j + gk = l.length ∧ v6 = .int .i64 j ∧ v5 = .int .i64 x ∧ 0 ≤ x ∧ x ≤ M + 2 ∧ (x ≤ M → x = cntSs (l.take j)) ∧ wr = w)
    case atStart => exact ⟨0, 0, by simp, rfl, rfl, by omega, by omega, fun _ => by simp [cntSs], rfl⟩
    case round =>
      obtain ⟨j, x, hj, rfl, rfl, x0, x1, hx, rfl⟩ := hrel
      have HX := Lib.hid hx
      clear hx
      cases gk with
      | zero =>
        obtain rfl : j = l.length := by omega
        have hX := HX.out
        rw [List.take_length] at hX
        have HX2 := Lib.hid hX
        clear hX hj
        by_cases hg : x ≤ M
        all_goals
          go_wp2
          go_ret
          exact ⟨x, rfl, x0, x1, HX2.out, rfl⟩
      | succ f =>
        have hjl : j < l.length := by omega
        obtain ⟨u, hu⟩ : ∃ u, l[j]? = some u := ⟨_, List.getElem?_eq_getElem hjl⟩
        have hct := cntSs_take l j u hu
        have hck := cntSs_kid l j u hu
        have hku := (okSs_iff l).1 HOK.out u (List.mem_of_getElem? hu)
        have j1 : (j : Int) < (l.length : Int) := by omega
        have j0 : (0 : Int) ≤ (j : Int) := by omega
        have j2 : (j : Int) ≤ 140737488355328 := by omega
        obtain ⟨q, o, vs, rfl, hFq, hgl, hrep, hat⟩ := HA.out.at_ RS_sized hu
        obtain ⟨op, n, es, bo, el⟩ := u
        rw [cnt_st] at hct hck
        simp only [St.ok] at hku
        obtain ⟨⟨k1, k2⟩, ⟨k3, k4⟩, ⟨k5, k6⟩⟩ := hku
        obtain ⟨A1, c1, B1, d1, C1, e1, rfl, hes, hbo, hel⟩ := hrep.openL
        have q2 := hat 2 _ rfl
        have q3 := hat 3 _ rfl
        have q4 := hat 4 _ rfl
        have HCT := Lib.hid hct
        by_cases hg : x ≤ M
        · have hgd : decide (x ≤ M) = true := decide_eq_true hg
          have HC1 := Lib.hid (exprs_any (cntEs es) es (Nat.le_refl _) k2 k1 wr F A1 c1 (M - x) hes (by omega) (by omega))
          have HC2 := Lib.hid (fun m (h0 : 0 ≤ m) (h1 : m ≤ 2000000) => ih bo (by omega) k4 k3 wr F B1 d1 m hbo h0 h1)
          have HC3 := Lib.hid (fun m (h0 : 0 ≤ m) (h1 : m ≤ 2000000) => ih el (by omega) k6 k5 wr F C1 e1 m hel h0 h1)
          clear hat hrep hct hck hu hes hbo hel k1 k2 k3 k4 k5 k6
          go_wp2_with (fail)
          go_at_call 60
          refine HC1.out.mono ?_
          rintro e w5 ⟨r, rfl, r0, r1, hr1, rfl⟩
          have HR1 := Lib.hid hr1
          clear hr1
          by_cases hg2 : x + 1 + r ≤ M
          · have hgd2 : decide (x + 1 + r ≤ M) = true := decide_eq_true hg2
            go_wp2_with (fail)
            go_at_call 39
            refine (HC2.out _ (by omega) (by omega)).mono ?_
            rintro e w6 ⟨r2, rfl, r20, r21, hr2, rfl⟩
            have HR2 := Lib.hid hr2
            clear hr2
            by_cases hg3 : x + 1 + r + r2 ≤ M
            · have hgd3 : decide (x + 1 + r + r2 ≤ M) = true := decide_eq_true hg3
              go_wp2_with (fail)
              go_at_call 39
              refine (HC3.out _ (by omega) (by omega)).mono ?_
              rintro e w7 ⟨r3, rfl, r30, r31, hr3, rfl⟩
              have HR3 := Lib.hid hr3
              clear hr3
              go_wp2
              go_roundg f
              case measure => omega
              case rel => exact ⟨j + 1, x + 1 + r + r2 + r3, by omega, by go_num, rfl, by omega, by omega, fun h => by have h1 := HX.out hg; have h2 := HR1.out (by omega); have h3 := HCT.out; have h4 := HR2.out (by omega); have h5 := HR3.out (by omega); omega, rfl⟩
            · have hgd3 : decide (x + 1 + r + r2 ≤ M) = false := decide_eq_false hg3
              go_wp2
              go_roundg f
              case measure => omega
              case rel => exact ⟨j + 1, x + 1 + r + r2, by omega, by go_num, rfl, by omega, by omega, fun h => by omega, rfl⟩
          · have hgd2 : decide (x + 1 + r ≤ M) = false := decide_eq_false hg2
            go_wp2
            go_roundg f
            case measure => omega
            case rel => exact ⟨j + 1, x + 1 + r, by omega, by go_num, rfl, by omega, by omega, fun h => by omega, rfl⟩
        · have hgd : decide (x ≤ M) = false := decide_eq_false hg
          clear hat hrep hct hck hu hes hbo hel
          go_wp2
          go_ret
          exact ⟨x, rfl, x0, x1, fun h => by omega, rfl⟩
end Go.Proofs.Ytcfgjfahjaimiaa
