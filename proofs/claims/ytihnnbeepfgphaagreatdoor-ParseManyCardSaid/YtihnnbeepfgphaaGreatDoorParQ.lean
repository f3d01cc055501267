/-
  A tree in memory, opened; how great it is, told by the document; signs: walks.
-/
import Derived.Test.YtihnnbeepfgphaaGreatDoorParZ
namespace Go.Proofs.YtihnnbeepfgphaaGreatDoor
open Go.RowKit
set_option linter.unusedVariables false
set_option linter.unusedSimpArgs false

/-- A tree's kids, in memory. -/
def KidsAt (w : World) (F : Nat → Prop) (A : Option Addr) (ks : List Tr) : Prop :=
  ∀ (i : Nat) (u : Tr), ks[i]? = some u → ∃ g us, A = some ⟨g, 0, none⟩ ∧ F g ∧ g < w.heap.size ∧ Rep w F u us ∧ ∀ (j : Nat) (v : Value), us[j]? = some v → w.cell? ⟨g, i * 7 + j, none⟩ = some v
theorem Rep.openL {w : World} {F : Nat → Prop} {k op n : Int} {p tx : List UInt8} {a : Nat} {ks : List Tr} {vs : List Value} (h : Rep w F (.mk k op n p tx a ks) vs) :
    ∃ A c, vs = ndC k op n p tx a (.slice A ks.length c) ∧ KidsAt w F A ks := by
  simp only [Rep] at h
  obtain ⟨A, c, xs, rfl, hrow, hreps⟩ := h
  refine ⟨A, c, rfl, fun i u hu => ?_⟩
  have hil := (List.getElem?_eq_some_iff.1 hu).1
  obtain ⟨g, rfl, hF, hgl, hcell, hfz⟩ := hrow.2 (by omega)
  obtain ⟨us, hrep, hat⟩ := hreps.at i u hu
  exact ⟨g, us, rfl, hF, hgl, hrep, fun j v hv => hcell _ _ (hat j v hv)⟩
theorem Rep.bel {w w' : World} {F : Nat → Prop} {t : Tr} {vs : List Value} (h : Rep w F t vs) (hb : Below w.heap.size w w') : Rep w' F t vs :=
  Rep.keep (fun g _ hg => hb.block g hg) hb.size (fun g _ h => h) _ _ h
set_option maxRecDepth 100000 in
set_option maxHeartbeats 2000000 in
theorem meas_any : ∀ (N : Nat) (t : Tr), t.nodes ≤ N → N ≤ 20000 → ∀ (M : Int) (w : World) (F : Nat → Prop) (vs : List Value), Rep w F t vs → (t.nodes : Int) ≤ M → M ≤ 20000 →
    Calls Tryz.prog 15 #[.agg vs.toArray, .int .i64 M] w fun e w' => e = .returned (.tuple #[.int .i64 t.nodes, .int .i64 t.deep]) ∧ Below w.heap.size w w'
  | 0, t, ht, _, _, _, _, _, _, _, _ => by have := nodes_pos t; omega
  | N + 1, .mk k op m p tx a ks, ht, hN, M, w, F, vs, hr, hM, hM2 => by
    have ih := meas_any N
    obtain ⟨A, c, rfl, hkids⟩ := hr.openL
    rw [nodes_mk] at ht hM
    have hnt : (Tr.mk k op m p tx a ks).nodes = nodesL ks + 1 := nodes_mk ..
    have hdt : (Tr.mk k op m p tx a ks).deep = deepL ks + 1 := by simp only [Tr.deep]
    rw [hnt, hdt]
    have hdl := deepL_le ks
    have hln := len_nodes ks
    have HK := Lib.hid hkids
    clear hnt hdt hr hkids
    show Calls Tryz.prog 15 #[.agg #[.int .i64 k, .int .i64 op, .int .i64 m, .string (bs p), .string (bs tx), .int .i64 a, .slice A ks.length c], .int .i64 M] w _
    go_enter Tryz.func15, Tryz.ntmps15
    go_wp2
    go_loopg [6, 7, 8] ks.length (fun gk v6 v7 v8 wr => ∃ j : Nat, j + gk = ks.length ∧ v8 = .int .i64 j ∧ v6 = .int .i64 ((nodesL (ks.take j) : Int) + 1) ∧ v7 = .int .i64 (deepL (ks.take j)) ∧ Below w.heap.size w wr ∧ Blk wr w.heap.size 28 #[.int .i64 k, .int .i64 op, .int .i64 m, .string (bs p), .string (bs tx), .int .i64 a, .slice A ks.length c])
    case atStart => exact ⟨0, by simp, rfl, by simp [nodesL], by simp [deepL], (Below.refl _ _).alloc (Nat.le_refl _) _, Blk.new _ _ _⟩
    case round =>
      obtain ⟨j, hj, rfl, rfl, rfl, hb, hbx⟩ := hrel
      have bx := hbx.cell 6
      have bz := hbx.lt
      cases gk with
      | zero =>
        obtain rfl : j = ks.length := by omega
        rw [List.take_length]
        have n0 : (0 : Int) ≤ (nodesL ks : Int) := by omega
        have n1 : (nodesL ks : Int) ≤ 20000 := by omega
        have d0 : (0 : Int) ≤ (deepL ks : Int) := by omega
        have d1 : (deepL ks : Int) ≤ 20000 := by omega
        clear hj
        go_wp2
        go_ret2
        exact ⟨rfl, hb⟩
      | succ f =>
        have hjl : j < ks.length := by omega
        obtain ⟨u, hu⟩ : ∃ u, ks[j] = u := ⟨_, rfl⟩
        have hkid : ks[j]? = some u := by rw [← hu]; exact List.getElem?_eq_getElem hjl
        obtain ⟨g, vs, rfl, hF, hgl, hrep, hat⟩ := HK.out j u hkid
        have hnk := nodes_kid ks j u hkid
        have HN1 := Lib.hid (nodesL_take ks j u hkid)
        have HD1 := Lib.hid (deepL_take ks j u hkid)
        have hdl1 := deep_le u
        have hdl2 := deepL_le (ks.take j)
        have HI := Lib.hid (show ∀ w', Below w.heap.size w w' → _ from fun w' hb' => ih u (by omega) (by omega) (M - ((nodesL (ks.take j) : Int) + 1)) w' F vs (hrep.bel hb') (by omega) (by omega))
        obtain ⟨k', op', m', p', t', a', n', c', A', rfl⟩ := hrep.shape
        have q0 := (hb.cell (p := ⟨g, j * 7, none⟩) hgl).trans (hat 0 _ rfl)
        have q1 := (hb.cell (p := ⟨g, j * 7 + 1, none⟩) hgl).trans (hat 1 _ rfl)
        have q2 := (hb.cell (p := ⟨g, j * 7 + 2, none⟩) hgl).trans (hat 2 _ rfl)
        have q3 := (hb.cell (p := ⟨g, j * 7 + 3, none⟩) hgl).trans (hat 3 _ rfl)
        have q4 := (hb.cell (p := ⟨g, j * 7 + 4, none⟩) hgl).trans (hat 4 _ rfl)
        have q5 := (hb.cell (p := ⟨g, j * 7 + 5, none⟩) hgl).trans (hat 5 _ rfl)
        have q6 := (hb.cell (p := ⟨g, j * 7 + 6, none⟩) hgl).trans (hat 6 _ rfl)
        have j0 : (0 : Int) ≤ (j : Int) := by omega
        have j1 : (j : Int) < (ks.length : Int) := by omega
        have j2 : (j : Int) ≤ 20000 := by omega
        have n0 : (0 : Int) ≤ (nodesL (ks.take j) : Int) := by omega
        have n1 : (nodesL (ks.take j) : Int) ≤ 20000 := by omega
        have n2 : (0 : Int) ≤ (u.nodes : Int) := by omega
        have n3 : (u.nodes : Int) ≤ 20000 := by omega
        have d2 : (0 : Int) ≤ (u.deep : Int) := by omega
        have d0 : (0 : Int) ≤ (deepL (ks.take j) : Int) := by omega
        have hle : (nodesL (ks.take j) : Int) + 1 ≤ M := by omega
        clear hu hkid hat hrep ih
        go_wp2_with (go_at_call 15; refine (HI.out _ hb).mono ?_; rintro e w5 ⟨rfl, hb5⟩)
        have hB5 : Below w.heap.size w w5 := hb.trans (hb5.mono hb.size)
        have hbx5 := hbx.below hb5 hbx.lt
        go_roundg f
        case measure => omega
        case rel => exact ⟨j + 1, by omega, by go_num, by rw [HN1.out]; exact congrArg (Value.int .i64) (by omega), by rw [HD1.out]; exact congrArg (Value.int .i64) (by omega), hB5, hbx5⟩
end Go.Proofs.YtihnnbeepfgphaaGreatDoor
