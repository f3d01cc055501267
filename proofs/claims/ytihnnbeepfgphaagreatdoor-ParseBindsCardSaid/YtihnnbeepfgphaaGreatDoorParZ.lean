/-
  How great a tree is: a walk.
-/
import Derived.Test.YtihnnbeepfgphaaGreatDoorParX
import Derived.Test.YtihnnbeepfgphaaGreatDoorParI
import Derived.Lib.MinMax
import Derived.IntWalk
namespace Go.Proofs.YtihnnbeepfgphaaGreatDoor
open Go.RowKit
set_option linter.unusedVariables false
set_option linter.unusedSimpArgs false

theorem Reps.at {w : World} {F : Nat → Prop} : ∀ {ts : List Tr} {xs : List Value}, Reps w F ts xs → ∀ (i : Nat) (t : Tr), ts[i]? = some t → ∃ vs, Rep w F t vs ∧ ∀ (j : Nat) (v : Value), vs[j]? = some v → xs[i * 7 + j]? = some v
  | [], xs, h, i, t, ht => by simp at ht
  | a :: r, xs, h, i, t, ht => by
    simp only [Reps] at h
    obtain ⟨va, q, rfl, h2, h3⟩ := h
    have hl := h2.length
    cases i with
    | zero =>
      simp at ht
      subst ht
      refine ⟨va, h2, fun j v hv => ?_⟩
      have hj := (List.getElem?_eq_some_iff.1 hv).1
      rw [Nat.zero_mul, Nat.zero_add, List.getElem?_append_left hj]
      exact hv
    | succ i =>
      obtain ⟨vs, h4, h5⟩ := Reps.at h3 i t (by simpa using ht)
      refine ⟨vs, h4, fun j v hv => ?_⟩
      rw [List.getElem?_append_right (by omega), hl, show (i + 1) * 7 + j - 7 = i * 7 + j by omega]
      exact h5 j v hv
theorem nodesL_take (ks : List Tr) (i : Nat) (t : Tr) (h : ks[i]? = some t) : nodesL (ks.take (i + 1)) = nodesL (ks.take i) + t.nodes := by
  rw [List.take_add_one, h, Option.toList_some, nodesL_append, nodesL_cons, nodesL_nil]; omega
theorem deepL_append (a b : List Tr) : deepL (a ++ b) = max (deepL a) (deepL b) := by
  induction a with
  | nil => simp [deepL]
  | cons x a ih => simp only [List.cons_append, deepL, ih]; omega
theorem deepL_take (ks : List Tr) (i : Nat) (t : Tr) (h : ks[i]? = some t) : deepL (ks.take (i + 1)) = max (deepL (ks.take i)) t.deep := by
  rw [List.take_add_one, h, Option.toList_some, deepL_append]
  simp only [deepL]; omega
theorem len_nodes (ks : List Tr) : ks.length ≤ nodesL ks := by
  induction ks with
  | nil => simp
  | cons x r ih => have := nodes_pos x; simp only [List.length_cons, nodesL_cons]; omega
theorem nodes_kid (ks : List Tr) (i : Nat) (t : Tr) (h : ks[i]? = some t) : nodesL (ks.take i) + t.nodes ≤ nodesL ks := by
  have h1 := nodesL_take ks i t h
  have h2 : nodesL ks = nodesL (ks.take (i + 1)) + nodesL (ks.drop (i + 1)) := by rw [← nodesL_append, List.take_append_drop]
  omega
set_option maxRecDepth 100000 in
set_option maxHeartbeats 2000000 in
theorem tsize_any : ∀ (N : Nat) (t : Tr), t.nodes ≤ N → N ≤ 20000 → ∀ (w : World) (F : Nat → Prop) (vs : List Value), Rep w F t vs →
    Calls Tryz.prog 29 #[.agg vs.toArray] w fun e w' => e = .returned (.tuple #[.int .i64 t.nodes, .int .i64 t.deep]) ∧ Below w.heap.size w w'
  | 0, t, ht, _, _, _, _, _ => by have := nodes_pos t; omega
  | N + 1, .mk k op m p tx a ks, ht, hN, w, F, vs, hr => by
    have ih := tsize_any N
    simp only [Rep] at hr
    obtain ⟨A, c, xs, rfl, hrow, hreps⟩ := hr
    rw [nodes_mk] at ht
    have hnt : (Tr.mk k op m p tx a ks).nodes = nodesL ks + 1 := nodes_mk ..
    have hdt : (Tr.mk k op m p tx a ks).deep = deepL ks + 1 := by simp only [Tr.deep]
    rw [hnt, hdt]
    have hdl := deepL_le ks
    clear hnt hdt
    show Calls Tryz.prog 29 #[.agg #[.int .i64 k, .int .i64 op, .int .i64 m, .string (bs p), .string (bs tx), .int .i64 a, .slice A ks.length c]] w _
    go_enter Tryz.func29, Tryz.ntmps29
    go_wp2
    go_loopg [2, 3, 11] ks.length (fun gk v2 v3 v11 wr => ∃ j : Nat, j + gk = ks.length ∧ v11 = .int .i64 j ∧ v2 = .int .i64 (nodesL (ks.take j)) ∧ v3 = .int .i64 (deepL (ks.take j)) ∧ Below w.heap.size w wr)
    case atStart => exact ⟨0, by simp, rfl, by simp [nodesL], by simp [deepL], (Below.refl _ _).alloc (Nat.le_refl _) _⟩
    case round =>
      obtain ⟨j, hj, rfl, rfl, rfl, hb⟩ := hrel
      cases gk with
      | zero =>
        obtain rfl : j = ks.length := by omega
        rw [List.take_length]
        have n0 : (0 : Int) ≤ (nodesL ks : Int) := by omega
        have n1 : (nodesL ks : Int) ≤ 20000 := by omega
        have d0 : (0 : Int) ≤ (deepL ks : Int) := by omega
        have d1 : (deepL ks : Int) ≤ 20000 := by omega
        clear hj
        go_wp2
        go_ret2
        exact ⟨rfl, hb⟩
      | succ f =>
        have hjl : j < ks.length := by omega
        obtain ⟨u, hu⟩ : ∃ u, ks[j] = u := ⟨_, rfl⟩
        have hkid : ks[j]? = some u := by rw [← hu]; exact List.getElem?_eq_getElem hjl
        obtain ⟨vs, hrep, hat⟩ := hreps.at j u hkid
        obtain ⟨g, rfl, hF, hgl, hcell, hfz⟩ := hrow.2 (by omega)
        have hnk := nodes_kid ks j u hkid
        have HN1 := Lib.hid (nodesL_take ks j u hkid)
        have HD1 := Lib.hid (deepL_take ks j u hkid)
        have hdl1 := deep_le u
        have hdl2 := deepL_le (ks.take j)
        have HI := Lib.hid (show ∀ w', Below w.heap.size w w' → _ from fun w' hb' => ih u (by omega) (by omega) w' F vs (Rep.keep (fun g _ hg => hb'.block g hg) hb'.size (fun g _ h => h) _ _ hrep))
        obtain ⟨k', op', m', p', t', a', n', c', A', rfl⟩ := hrep.shape
        have q0 := (hb.cell (p := ⟨g, j * 7, none⟩) hgl).trans (hcell (j * 7) _ (hat 0 _ rfl))
        have q1 := (hb.cell (p := ⟨g, j * 7 + 1, none⟩) hgl).trans (hcell (j * 7 + 1) _ (hat 1 _ rfl))
        have q2 := (hb.cell (p := ⟨g, j * 7 + 2, none⟩) hgl).trans (hcell (j * 7 + 2) _ (hat 2 _ rfl))
        have q3 := (hb.cell (p := ⟨g, j * 7 + 3, none⟩) hgl).trans (hcell (j * 7 + 3) _ (hat 3 _ rfl))
        have q4 := (hb.cell (p := ⟨g, j * 7 + 4, none⟩) hgl).trans (hcell (j * 7 + 4) _ (hat 4 _ rfl))
        have q5 := (hb.cell (p := ⟨g, j * 7 + 5, none⟩) hgl).trans (hcell (j * 7 + 5) _ (hat 5 _ rfl))
        have q6 := (hb.cell (p := ⟨g, j * 7 + 6, none⟩) hgl).trans (hcell (j * 7 + 6) _ (hat 6 _ rfl))
        have j0 : (0 : Int) ≤ (j : Int) := by omega
        have j1 : (j : Int) < (ks.length : Int) := by omega
        have j2 : (j : Int) ≤ 20000 := by
          have := len_nodes ks
          omega
        have n0 : (0 : Int) ≤ (nodesL (ks.take j) : Int) := by omega
        have n1 : (nodesL (ks.take j) : Int) ≤ 20000 := by omega
        have n2 : (0 : Int) ≤ (u.nodes : Int) := by omega
        have n3 : (u.nodes : Int) ≤ 20000 := by omega
        have d2 : (0 : Int) ≤ (u.deep : Int) := by omega
        have d0 : (0 : Int) ≤ (deepL (ks.take j) : Int) := by omega
        clear hu hkid hat hcell hfz hrep ih hrow hreps
        go_wp2_with (go_at_call 29; refine (HI.out _ (Below.alloc hb hb.size _)).mono ?_; rintro e w5 ⟨rfl, hb5⟩)
        have hB5 : Below w.heap.size w w5 := (Below.alloc hb hb.size _).trans (hb5.mono (by have := hb.size; simp; omega))
        go_roundg f
        case measure => omega
        case rel => exact ⟨j + 1, by omega, by go_num, by rw [HN1.out]; exact congrArg (Value.int .i64) (by omega), by rw [HD1.out]; exact congrArg (Value.int .i64) (by omega), hB5⟩
set_option maxRecDepth 100000 in
set_option maxHeartbeats 2000000 in
theorem check_any (t : Tr) (ht : t.nodes ≤ 20000) (w : World) (F : Nat → Prop) (vs : List Value) (hr : Rep w F t vs) :
    Calls Tryz.prog 21 #[.agg vs.toArray] w fun e w' => Below w.heap.size w w' ∧ e = if 3000 < t.nodes then (.panicked [{ v := .iface 48 (.agg #[.int .i64 0, .int .i64 2]), recovered := false }]) else if 100 < t.deep then (.panicked [{ v := .iface 48 (.agg #[.int .i64 0, .int .i64 3]), recovered := false }]) else .returned (.tuple #[]) := by
  have hd := deep_le t
  have HI := Lib.hid (fun w' (hb : Below w.heap.size w w') => tsize_any 20000 t ht (Nat.le_refl _) w' F vs (Rep.keep (fun g _ hg => hb.block g hg) hb.size (fun g _ h => h) _ _ hr))
  obtain ⟨k, op, m, p, tx, a, n, c, A, rfl⟩ := hr.shape
  have n0 : (0 : Int) ≤ (t.nodes : Int) := by omega
  have n1 : (t.nodes : Int) ≤ 20000 := by omega
  have d0 : (0 : Int) ≤ (t.deep : Int) := by omega
  have d1 : (t.deep : Int) ≤ 20000 := by omega
  clear hr
  show Calls Tryz.prog 21 #[.agg #[.int .i64 k, .int .i64 op, .int .i64 m, .string (bs p), .string (bs tx), .int .i64 a, .slice A n c]] w _
  by_cases h1 : 3000 < t.nodes
  · rw [if_pos h1]
    have hc : (3000 : Int) < (t.nodes : Int) := by omega
    go_enter Tryz.func21, Tryz.ntmps21
    go_wp2_with (go_at_call 29; refine (HI.out _ (by first | exact Below.refl _ _ | exact (Below.refl _ _).alloc (Nat.le_refl _) _)).mono ?_; rintro e w1 ⟨rfl, hb1⟩)
    have hB1 : Below w.heap.size w w1 := ((Below.refl _ w).alloc (Nat.le_refl _) _).trans (hb1.mono (by simp))
    exact ⟨rfl, hB1, rfl⟩
  rw [if_neg h1]
  have hc : ¬ (3000 : Int) < (t.nodes : Int) := by omega
  by_cases h2 : 100 < t.deep
  · rw [if_pos h2]
    have hc2 : (100 : Int) < (t.deep : Int) := by omega
    go_enter Tryz.func21, Tryz.ntmps21
    go_wp2_with (go_at_call 29; refine (HI.out _ (by first | exact Below.refl _ _ | exact (Below.refl _ _).alloc (Nat.le_refl _) _)).mono ?_; rintro e w1 ⟨rfl, hb1⟩)
    have hB1 : Below w.heap.size w w1 := ((Below.refl _ w).alloc (Nat.le_refl _) _).trans (hb1.mono (by simp))
    exact ⟨rfl, hB1, rfl⟩
  · rw [if_neg h2]
    have hc2 : ¬ (100 : Int) < (t.deep : Int) := by omega
    go_enter Tryz.func21, Tryz.ntmps21
    go_wp2_with (go_at_call 29; refine (HI.out _ (by first | exact Below.refl _ _ | exact (Below.refl _ _).alloc (Nat.le_refl _) _)).mono ?_; rintro e w1 ⟨rfl, hb1⟩)
    have hB1 : Below w.heap.size w w1 := ((Below.refl _ w).alloc (Nat.le_refl _) _).trans (hb1.mono (by simp))
    go_end0
    exact ⟨hB1, rfl⟩
end Go.Proofs.YtihnnbeepfgphaaGreatDoor
