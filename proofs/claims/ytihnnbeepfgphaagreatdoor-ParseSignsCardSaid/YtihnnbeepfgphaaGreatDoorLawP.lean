/-
  The document's example; a text that is a tree, a text that is none: walks.
-/
import Derived.Test.YtihnnbeepfgphaaGreatDoorParP
import Derived.Test.YtihnnbeepfgphaaGreatDoorParQ
import Derived.Test.YtihnnbeepfgphaaGreatDoorParK
namespace Go.Proofs.YtihnnbeepfgphaaGreatDoor
open Go.RowKit
set_option linter.unusedVariables false
set_option linter.unusedSimpArgs false

theorem lnum_any (n : Int) (w : World) : Calls Tryz.prog 14 #[.int .i64 n] w fun e w' => e = .returned (.int .i64 n) ∧ w = w' := by
  go_enter Tryz.func14, Tryz.ntmps14
  go_wp2
  go_ret
  exact ⟨rfl, rfl⟩
theorem parse_fault (s : ByteArray) (w : World) (ht : ErrT w) (a : Nat) (k : Int) (h : parseD s.data.toList = .fault a k) :
    Calls Tryz.prog 13 #[.string s] w fun e w' => e = .returned (.tuple #[.agg #[.int .i64 0, .int .i64 0, .int .i64 0, .string ⟨#[]⟩, .string ⟨#[]⟩, .int .i64 0, .slice none 0 0], .int .i64 a, .int .i64 k]) ∧ Below w.heap.size w w' := by
  have := parse_any s w ht
  rw [h] at this
  refine this.mono ?_
  rintro e w' ⟨hb, ⟨t, vs, h1, _⟩ | ⟨a', k', h1, rfl⟩⟩
  · cases h1
  · injection h1 with h1 h2
    subst h1 h2
    exact ⟨rfl, hb⟩
theorem parse_tree (s : ByteArray) (w : World) (ht : ErrT w) (k op n : Int) (p tx : List UInt8) (a : Nat) (ks : List Tr) (h : parseD s.data.toList = .tree (.mk k op n p tx a ks)) :
    Calls Tryz.prog 13 #[.string s] w fun e w' => ∃ A c, e = .returned (.tuple #[.agg #[.int .i64 k, .int .i64 op, .int .i64 n, .string (bs p), .string (bs tx), .int .i64 a, .slice A ks.length c], .int .i64 0, .int .i64 0]) ∧ Below w.heap.size w w' ∧
      Rep w' (Fp w.heap.size) (.mk k op n p tx a ks) (ndC k op n p tx a (.slice A ks.length c)) := by
  have := parse_any s w ht
  rw [h] at this
  refine this.mono ?_
  rintro e w' ⟨hb, ⟨t, vs, h1, hr, rfl⟩ | ⟨a', k', h1, rfl⟩⟩
  · injection h1 with h1
    subst h1
    obtain ⟨A, c, rfl, _⟩ := hr.openL
    exact ⟨A, c, rfl, hb, hr⟩
  · cases h1
theorem parse_ex (w : World) (ht : ErrT w) : Calls Tryz.prog 13 #[.string ⟨#[112, 97, 99, 107, 97, 103, 101, 32, 97, 59, 32, 102, 117, 110, 99, 32, 102, 40, 120, 32, 105, 110, 116, 41, 32, 105, 110, 116, 32, 123, 32, 114, 101, 116, 117, 114, 110, 32, 120, 32, 43, 32, 49, 59, 32, 125]⟩] w fun e w' =>
    ∃ (t : Tr) (k op n : Int) (p tx : List UInt8) (a m c g : Nat),
      e = .returned (.tuple #[.agg #[.int .i64 k, .int .i64 op, .int .i64 n, .string (bs p), .string (bs tx), .int .i64 a, .slice (some ⟨g, 0, none⟩) (m + 1) c], .int .i64 0, .int .i64 0]) ∧ Below w.heap.size w w' ∧ t.nodes = 10 ∧
      Rep w' (Fp w.heap.size) t (ndC k op n p tx a (.slice (some ⟨g, 0, none⟩) (m + 1) c)) ∧ g < w'.heap.size ∧ w'.cell? ⟨g, 2, none⟩ = some (.int .i64 1) ∧ w'.cell? ⟨g, 4, none⟩ = some (.string ⟨#[102]⟩) := by
  obtain ⟨t, ht1, hn, k0, op0, p0, a0, ks0, r0, hk⟩ := ex_tree
  obtain ⟨k, op, n, p, tx, a, ks⟩ := t
  simp only [Tr.kids] at hk
  subst hk
  refine (parse_tree _ w ht k op n p tx a _ ht1).mono ?_
  rintro e w' ⟨A, c, rfl, hb, hr⟩
  obtain ⟨A', c', e1, hkids⟩ := hr.openL
  simp only [ndC, List.cons.injEq, Value.slice.injEq, and_true, true_and] at e1
  obtain ⟨rfl, rfl⟩ := e1
  obtain ⟨g, us, rfl, hF, hg, hru, hcell⟩ := hkids 0 _ rfl
  obtain ⟨A2, c2, rfl, _⟩ := hru.openL
  exact ⟨_, k, op, n, p, tx, a, r0.length, c, g, rfl, hb, hn, hr, hg, hcell 2 _ rfl, hcell 4 _ rfl⟩
set_option maxRecDepth 100000 in
set_option maxHeartbeats 2000000 in
theorem lawake_any (w : World) (ht : ErrT w) : Calls Tryz.prog 12 #[] w fun e w' => e = .returned (.bool true) ∧ Below w.heap.size w w' := by
  have HT := Lib.hid ht
  clear ht
  go_enter Tryz.func12, Tryz.ntmps12
  go_wp2_with (first
    | (go_at_call 13; refine (parse_ex _ HT.out).mono ?_; rintro e w1 ⟨t, k, op, n, p, tx, a, m, c, g, rfl, hb1, hn, hr, hg, q2, q4⟩; have HR := Lib.hid hr; have HN := Lib.hid hn; clear hr hn)
    | (go_at_call 15; refine (meas_any 20000 t (by have := HN.out; omega) (Nat.le_refl _) 100 _ _ _ (HR.out.bel ((Below.refl _ _).alloc (Nat.le_refl _) _)) (by have := HN.out; omega) (by omega)).mono ?_; rw [HN.out]; rintro e w2 ⟨rfl, hb2⟩; have hbx := (Blk.new w1 28 #[.int .i64 k, .int .i64 op, .int .i64 n, .string (bs p), .string (bs tx), .int .i64 a, .slice (some ⟨g, 0, none⟩) (m + 1) c]).bel hb2; have x6 := hbx.cell 6; have xl := hbx.lt; have y2 := (hb2.cell (p := ⟨g, 2, none⟩) (by simp; omega)).trans ((World.cell?_alloc_lt w1 _ ⟨g, 2, none⟩ hg).trans q2); have y4 := (hb2.cell (p := ⟨g, 4, none⟩) (by simp; omega)).trans ((World.cell?_alloc_lt w1 _ ⟨g, 4, none⟩ hg).trans q4); have m0 : (0 : Int) < (m : Int) + 1 := (by omega))
    | (go_at_call 14; refine (lnum_any _ _).mono ?_; rintro e w' ⟨rfl, rfl⟩))
  go_ret
  exact ⟨rfl, ((hb1.alloc hb1.size _).trans (hb2.mono (by have := hb1.size; simp; omega)))⟩
end Go.Proofs.YtihnnbeepfgphaaGreatDoor
