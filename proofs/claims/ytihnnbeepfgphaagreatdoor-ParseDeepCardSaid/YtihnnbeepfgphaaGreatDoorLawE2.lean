/-
  The expression of a text that has one: walks.
-/
import Derived.Test.YtihnnbeepfgphaaGreatDoorLawS
namespace Go.Proofs.YtihnnbeepfgphaaGreatDoor
open Go.RowKit
set_option linter.unusedVariables false
set_option linter.unusedSimpArgs false

theorem pre_list (s : ByteArray) : ((⟨#[112, 97, 99, 107, 97, 103, 101, 32, 97, 59, 32, 118, 97, 114, 32, 120, 32, 105, 110, 116, 32, 61, 32]⟩ : ByteArray) ++ s ++ (⟨#[59]⟩ : ByteArray)).data.toList = preP ++ s.data.toList ++ [59] := by
  simp [preP]
theorem exprOf_some {p : PR} {x : Tr} (h : exprOf p = some x) : ∃ (k op n : Int) (pk tx : List UInt8) (a : Nat) (k2 op2 n2 : Int) (pk2 tx2 : List UInt8) (a2 : Nat) (u : Tr), p = .tree (.mk k op n pk tx a [.mk k2 op2 n2 pk2 tx2 a2 [u, x]]) := by
  cases p with
  | fault a e => cases h
  | tree t =>
    obtain ⟨k, op, n, pk, tx, a, ks⟩ := t
    unfold exprOf at h
    simp only [Tr.kids] at h
    cases ks with
    | nil => cases h
    | cons v r =>
      cases r with
      | cons _ _ => cases h
      | nil =>
        obtain ⟨k2, op2, n2, pk2, tx2, a2, ks2⟩ := v
        simp only at h
        cases ks2 with
        | nil => cases h
        | cons u r2 =>
          cases r2 with
          | nil => cases h
          | cons y r3 =>
            cases r3 with
            | cons _ _ => cases h
            | nil =>
              injection h with h
              subst h
              exact ⟨_, _, _, _, _, _, _, _, _, _, _, _, _, rfl⟩
set_option maxRecDepth 100000 in
set_option maxHeartbeats 2000000 in
theorem res_expr (tmps : Array Value) (w : World) (b2 : Nat) (x0 x1 x2 x3 x4 x5 x6 v3 : Value) (t2 : tmps.getD 2 undef = .pointer (some ⟨b2, 0, none⟩)) (t3 : tmps.getD 3 undef = v3) (h2 : Blk w b2 28 #[x0, x1, x2, x3, x4, x5, x6]) :
    (results Tryz.f16 tmps).run Tryz.prog w = .ok (.tuple #[.agg #[x0, x1, x2, x3, x4, x5, x6], v3]) w := by
  have q0 := h2.cell 0
  have q1 := h2.cell 1
  have q2 := h2.cell 2
  have q3 := h2.cell 3
  have q4 := h2.cell 4
  have q5 := h2.cell 5
  have q6 := h2.cell 6
  rw [Array.getD_eq_getD_getElem?] at t2 t3
  simp [results, Tryz.results16, t2, t3, go_sem, q0, q1, q2, q3, q4, q5, q6]
set_option maxRecDepth 100000 in
set_option maxHeartbeats 2000000 in
theorem expr_no (s : ByteArray) (hs : s.size ≤ 1000) (w : World) (ht : ErrT w) (a : Nat) (k : Int) (h : parseD (preP ++ s.data.toList ++ [59]) = .fault a k) (hk : k ≠ 0) :
    Calls Tryz.prog 16 #[.string s] w fun e w' => e = .returned (.tuple #[.agg #[.int .i64 0, .int .i64 0, .int .i64 0, .string ⟨#[]⟩, .string ⟨#[]⟩, .int .i64 0, .slice none 0 0], .bool false]) ∧ Below w.heap.size w w' := by
  have HT := Lib.hid ht
  rw [← pre_list] at h
  have HH := Lib.hid h
  have hne : (k != 0) = true := by simpa using hk
  clear ht h
  go_enter Tryz.func16, Tryz.ntmps16
  go_wp2_with (first
    | (go_at_call 13; refine (parse_fault _ _ (HT.out.alloc _) a k HH.out).mono ?_; rintro e w1 ⟨rfl, hb1⟩; have hb_z1 : Blk w1 (w.heap.size) 28 #[.int .i64 0, .int .i64 0, .int .i64 0, .string ⟨#[]⟩, .string ⟨#[]⟩, .int .i64 0, .slice none 0 0] := Blk.bel bkA hb1; obtain ⟨zl, z0, z1, z2, z3, z4, z5, z6, zf⟩ := hb_z1.all7)
    | (go_at_call 14; refine (lnum_any _ _).mono ?_; rintro e w' ⟨rfl, rfl⟩))
  have nz : w.heap.size ≠ w1.heap.size := by omega
  have h0 : Below w.heap.size w w1 := ((Below.refl _ w).alloc (Nat.le_refl _) _).trans (hb1.mono (by simp))
  refine bodyPost_ret (res_expr _ _ w.heap.size _ _ _ _ _ _ _ _ rfl rfl ((hb_z1.seven (.int .i64 0) (.int .i64 0) (.int .i64 0) (.string ⟨#[]⟩) (.string ⟨#[]⟩) (.int .i64 0) (.slice none 0 0)).alloc _)) rfl ⟨rfl, ?_⟩
  exact ((((((((h0.setCell (by simp) _).setCell (by simp) _).setCell (by simp) _).setCell (by simp) _).setCell (by simp) _).setCell (by simp) _).setCell (by simp) _)).alloc (by simp; exact h0.size) _
set_option maxRecDepth 100000 in
set_option maxHeartbeats 2000000 in
theorem expr_yes (s : ByteArray) (hs : s.size ≤ 1000) (w : World) (ht : ErrT w) (k op n : Int) (p tx : List UInt8) (a : Nat) (ks : List Tr) (h : exprOf (parseD (preP ++ s.data.toList ++ [59])) = some (.mk k op n p tx a ks)) :
    Calls Tryz.prog 16 #[.string s] w fun e w' => ∃ A c, e = .returned (.tuple #[.agg #[.int .i64 k, .int .i64 op, .int .i64 n, .string (bs p), .string (bs tx), .int .i64 a, .slice A ks.length c], .bool true]) ∧ Below w.heap.size w w' ∧
      Rep w' (Fp (w.heap.size + 1)) (.mk k op n p tx a ks) (ndC k op n p tx a (.slice A ks.length c)) := by
  have HT := Lib.hid ht
  obtain ⟨k1, op1, n1, p1, t1, a1, k2, op2, n2, p2, t2, a2, u, h⟩ := exprOf_some h
  rw [← pre_list] at h
  have HH := Lib.hid h
  clear ht h
  go_enter Tryz.func16, Tryz.ntmps16
  go_wp2_with (first
    | (go_at_call 13; refine (parse_tree _ _ (HT.out.alloc _) _ _ _ _ _ _ _ HH.out).mono ?_; rintro e w1 ⟨A1, c1, rfl, hb1, hr1⟩; have hb_z1 : Blk w1 (w.heap.size) 28 #[.int .i64 0, .int .i64 0, .int .i64 0, .string ⟨#[]⟩, .string ⟨#[]⟩, .int .i64 0, .slice none 0 0] := Blk.bel bkA hb1; obtain ⟨zl, z0, z1, z2, z3, z4, z5, z6, zf⟩ := hb_z1.all7; obtain ⟨A1', c1', e1, hk1⟩ := hr1.openL; simp only [ndC, List.cons.injEq, Value.slice.injEq, and_true, true_and] at e1; obtain ⟨rfl, rfl⟩ := e1; obtain ⟨g1, us1, rfl, hF1, hg1, hru1, hc1⟩ := hk1 0 _ rfl; obtain ⟨A2, c2, rfl, hk2⟩ := hru1.openL; obtain ⟨g2, us2, rfl, hF2, hg2, hru2, hc2⟩ := hk2 1 _ rfl; have HR2 := Lib.hid hru2; obtain ⟨A3, c3, rfl, hk3⟩ := hru2.openL; have q6 := hc1 6 _ rfl; have x0 := hc2 0 _ rfl; have x1 := hc2 1 _ rfl; have x2 := hc2 2 _ rfl; have x3 := hc2 3 _ rfl; have x4 := hc2 4 _ rfl; have x5 := hc2 5 _ rfl; have x6 := hc2 6 _ rfl; have f1 : w.heap.size + 1 ≤ g1 := (by have h : Fp _ g1 := hF1; unfold Fp at h; simpa using h); have f2 : w.heap.size + 1 ≤ g2 := (by have h : Fp _ g2 := hF2; unfold Fp at h; simpa using h); clear hr1 hk1 hru1 hc1 hk2 hru2 hc2 hk3 hF1 hF2)
    | (go_at_call 14; refine (lnum_any _ _).mono ?_; rintro e w' ⟨rfl, rfl⟩))
  have h0 : Below w.heap.size w w1 := ((Below.refl _ w).alloc (Nat.le_refl _) _).trans (hb1.mono (by simp))
  refine bodyPost_ret (res_expr _ _ w.heap.size _ _ _ _ _ _ _ _ rfl rfl ((hb_z1.seven (.int .i64 k) (.int .i64 op) (.int .i64 n) (.string (bs p)) (.string (bs tx)) (.int .i64 a) (.slice A3 ks.length c3)).alloc _)) rfl ⟨A3, c3, rfl, ?_, ?_⟩
  · exact ((((((((h0.setCell (by simp) _).setCell (by simp) _).setCell (by simp) _).setCell (by simp) _).setCell (by simp) _).setCell (by simp) _).setCell (by simp) _)).alloc (by simp; exact h0.size) _
  · exact HR2.out.gr (S := (· = w.heap.size)) ((put7_gr (S := (· = w.heap.size)) (g := w.heap.size) (i := 0) (Gr.refl w1) (.inr rfl)).alloc _) (fun q h1 h2 h3 => by have h1 : (w.alloc _).heap.size ≤ q := h1; rw [World.size_alloc] at h1; have : q = w.heap.size := h3; omega) (fun q _ h => by have h : (w.alloc _).heap.size ≤ q := h; rw [World.size_alloc] at h; exact h)
end Go.Proofs.YtihnnbeepfgphaaGreatDoor
