/-
  The texts of instructions, in the program and in the document's reading: walks.
-/
import Derived.Test.YtfdmoafncbjonaaDoorIsaD
import Derived.Test.YtfdmoafncbjonaaDoorIsaN
import Derived.Test.YtfdmoafncbjonaaDoorIsaC
import Derived.WalkKit
import Derived.Lib.Hide
namespace Go.Proofs.YtfdmoafncbjonaaDoor
open Go.RowKit Go.Lib
set_option linter.unusedVariables false

theorem below_next {w w1 w2 : World} (h : Below w.heap.size w w1) (k : Below w1.heap.size w1 w2) : Below w.heap.size w w2 := h.trans (k.mono h.size)
theorem below_box (w : World) (c : Array Value) (t : TypeId) : Below w.heap.size w (w.alloc (.cells c t)) := (Below.refl _ _).alloc (Nat.le_refl _) _
/-- A text as the program's. -/
def txt (op a b c n : Int) : ByteArray := ⟨(T op a b c n).toArray⟩
theorem nmS_size {op : Int} (h : K op = true) : (nmS op).size ≤ 5 := (nm_ok h).2.2.2
theorem numS_size (n : Int) (h0 : -9223372036854775808 ≤ n) (h1 : n ≤ 9223372036854775807) : (numS n).size ≤ 21 := itoa_length_le n h0 h1

theorem text_0_0 (op a b c n : Int) (h : F op a b c n = true) (hU : U op = 0) (hI : I op = false) (w : World) (ht : Tab w) :
    Calls Tryd.prog 18 #[.agg #[.int .i64 op, .int .i64 a, .int .i64 b, .int .i64 c, .int .i64 n]] w fun e w' => e = .returned (.string (txt op a b c n)) ∧ Below w.heap.size w w' := by
  have hk := Lib.hid (F_parts h).1
  have hs := nmS_size hk.out
  obtain ⟨o0, o1, a0, a1, b0, b1, c0, c1, n0, n1⟩ := F_bd h
  have sa := numS_size a (by omega) (by omega)
  have sb := numS_size b (by omega) (by omega)
  have sc := numS_size c (by omega) (by omega)
  have sn := numS_size n (by omega) (by omega)
  have e1 : hA op = false := by unfold hA; rw [hU]; decide
  have e2 : hB op = false := by unfold hB; rw [hU]; decide
  have e3 : hC op = false := by unfold hC; rw [hU]; decide
  have hT : txt op a b c n = ⟨(T op a b c n).toArray⟩ := rfl
  unfold T at hT
  rw [e1, e2, e3, hI] at hT
  have HT := Lib.hid hT
  have ht := Lib.hid ht
  clear e1 e2 e3 hT
  go_enter Tryd.func18, Tryd.ntmps18
  go_wp2_with (first
    | (go_at_call 21; refine (fits_any _ _ _ _ _ _).mono ?_; rintro e w1 ⟨rfl, hb1⟩; obtain ⟨hc1, hf1⟩ := bcell hb1; have hz1 : w.heap.size + 1 ≤ w1.heap.size := by (have := hb1.size; simpa using this))
    | (go_at_call 10; refine (uses_any _ _).mono ?_; rintro e w' ⟨rfl, rfl⟩)
    | (go_at_call 23; refine (name_any _ hk.out _).mono ?_; rintro e w2 ⟨rfl, hb2⟩; have hx2 : ∀ o, w2.cell? ⟨w.heap.size, o, none⟩ = w1.cell? ⟨w.heap.size, o, none⟩ := fun o => hb2.cell (p := ⟨w.heap.size, o, none⟩) (by show w.heap.size < _; omega))
    | (go_at_call 24; ((with_reducible refine (itoa_reg a a0 a1 _).mono ?_); rintro e w' ⟨rfl, rfl⟩))
    | (go_at_call 24; ((with_reducible refine (itoa_reg b b0 b1 _).mono ?_); rintro e w' ⟨rfl, rfl⟩))
    | (go_at_call 24; ((with_reducible refine (itoa_reg c c0 c1 _).mono ?_); rintro e w' ⟨rfl, rfl⟩))
    | (go_at_call 25; refine (format_any n (by omega) (by omega) _ (tab_below (tab_below (tab_alloc ht.out _) hb1) hb2)).mono ?_; rintro e w3 ⟨rfl, hb3⟩))
  go_ret
  refine ⟨?_, ?_⟩
  · show Ending.returned (.string _) = _
    rw [HT.out]
    refine congrArg (fun b => Ending.returned (.string b)) (ByteArray.ext ?_)
    simp [rt, nt, nmS]
  · exact below_next (below_next (below_box _ _ _) hb1) hb2
theorem text_0_1 (op a b c n : Int) (h : F op a b c n = true) (hU : U op = 0) (hI : I op = true) (w : World) (ht : Tab w) :
    Calls Tryd.prog 18 #[.agg #[.int .i64 op, .int .i64 a, .int .i64 b, .int .i64 c, .int .i64 n]] w fun e w' => e = .returned (.string (txt op a b c n)) ∧ Below w.heap.size w w' := by
  have hk := Lib.hid (F_parts h).1
  have hs := nmS_size hk.out
  obtain ⟨o0, o1, a0, a1, b0, b1, c0, c1, n0, n1⟩ := F_bd h
  have sa := numS_size a (by omega) (by omega)
  have sb := numS_size b (by omega) (by omega)
  have sc := numS_size c (by omega) (by omega)
  have sn := numS_size n (by omega) (by omega)
  have e1 : hA op = false := by unfold hA; rw [hU]; decide
  have e2 : hB op = false := by unfold hB; rw [hU]; decide
  have e3 : hC op = false := by unfold hC; rw [hU]; decide
  have hT : txt op a b c n = ⟨(T op a b c n).toArray⟩ := rfl
  unfold T at hT
  rw [e1, e2, e3, hI] at hT
  have HT := Lib.hid hT
  have ht := Lib.hid ht
  clear e1 e2 e3 hT
  go_enter Tryd.func18, Tryd.ntmps18
  go_wp2_with (first
    | (go_at_call 21; refine (fits_any _ _ _ _ _ _).mono ?_; rintro e w1 ⟨rfl, hb1⟩; obtain ⟨hc1, hf1⟩ := bcell hb1; have hz1 : w.heap.size + 1 ≤ w1.heap.size := by (have := hb1.size; simpa using this))
    | (go_at_call 10; refine (uses_any _ _).mono ?_; rintro e w' ⟨rfl, rfl⟩)
    | (go_at_call 23; refine (name_any _ hk.out _).mono ?_; rintro e w2 ⟨rfl, hb2⟩; have hx2 : ∀ o, w2.cell? ⟨w.heap.size, o, none⟩ = w1.cell? ⟨w.heap.size, o, none⟩ := fun o => hb2.cell (p := ⟨w.heap.size, o, none⟩) (by show w.heap.size < _; omega))
    | (go_at_call 24; ((with_reducible refine (itoa_reg a a0 a1 _).mono ?_); rintro e w' ⟨rfl, rfl⟩))
    | (go_at_call 24; ((with_reducible refine (itoa_reg b b0 b1 _).mono ?_); rintro e w' ⟨rfl, rfl⟩))
    | (go_at_call 24; ((with_reducible refine (itoa_reg c c0 c1 _).mono ?_); rintro e w' ⟨rfl, rfl⟩))
    | (go_at_call 25; refine (format_any n (by omega) (by omega) _ (tab_below (tab_below (tab_alloc ht.out _) hb1) hb2)).mono ?_; rintro e w3 ⟨rfl, hb3⟩))
  go_ret
  refine ⟨?_, ?_⟩
  · show Ending.returned (.string _) = _
    rw [HT.out]
    refine congrArg (fun b => Ending.returned (.string b)) (ByteArray.ext ?_)
    simp [rt, nt, nmS, numS]
  · exact below_next (below_next (below_next (below_box _ _ _) hb1) hb2) hb3
theorem text_1_0 (op a b c n : Int) (h : F op a b c n = true) (hU : U op = 1) (hI : I op = false) (w : World) (ht : Tab w) :
    Calls Tryd.prog 18 #[.agg #[.int .i64 op, .int .i64 a, .int .i64 b, .int .i64 c, .int .i64 n]] w fun e w' => e = .returned (.string (txt op a b c n)) ∧ Below w.heap.size w w' := by
  have hk := Lib.hid (F_parts h).1
  have hs := nmS_size hk.out
  obtain ⟨o0, o1, a0, a1, b0, b1, c0, c1, n0, n1⟩ := F_bd h
  have sa := numS_size a (by omega) (by omega)
  have sb := numS_size b (by omega) (by omega)
  have sc := numS_size c (by omega) (by omega)
  have sn := numS_size n (by omega) (by omega)
  have e1 : hA op = true := by unfold hA; rw [hU]; decide
  have e2 : hB op = false := by unfold hB; rw [hU]; decide
  have e3 : hC op = false := by unfold hC; rw [hU]; decide
  have hT : txt op a b c n = ⟨(T op a b c n).toArray⟩ := rfl
  unfold T at hT
  rw [e1, e2, e3, hI] at hT
  have HT := Lib.hid hT
  have ht := Lib.hid ht
  clear e1 e2 e3 hT
  go_enter Tryd.func18, Tryd.ntmps18
  go_wp2_with (first
    | (go_at_call 21; refine (fits_any _ _ _ _ _ _).mono ?_; rintro e w1 ⟨rfl, hb1⟩; obtain ⟨hc1, hf1⟩ := bcell hb1; have hz1 : w.heap.size + 1 ≤ w1.heap.size := by (have := hb1.size; simpa using this))
    | (go_at_call 10; refine (uses_any _ _).mono ?_; rintro e w' ⟨rfl, rfl⟩)
    | (go_at_call 23; refine (name_any _ hk.out _).mono ?_; rintro e w2 ⟨rfl, hb2⟩; have hx2 : ∀ o, w2.cell? ⟨w.heap.size, o, none⟩ = w1.cell? ⟨w.heap.size, o, none⟩ := fun o => hb2.cell (p := ⟨w.heap.size, o, none⟩) (by show w.heap.size < _; omega))
    | (go_at_call 24; ((with_reducible refine (itoa_reg a a0 a1 _).mono ?_); rintro e w' ⟨rfl, rfl⟩))
    | (go_at_call 24; ((with_reducible refine (itoa_reg b b0 b1 _).mono ?_); rintro e w' ⟨rfl, rfl⟩))
    | (go_at_call 24; ((with_reducible refine (itoa_reg c c0 c1 _).mono ?_); rintro e w' ⟨rfl, rfl⟩))
    | (go_at_call 25; refine (format_any n (by omega) (by omega) _ (tab_below (tab_below (tab_alloc ht.out _) hb1) hb2)).mono ?_; rintro e w3 ⟨rfl, hb3⟩))
  go_ret
  refine ⟨?_, ?_⟩
  · show Ending.returned (.string _) = _
    rw [HT.out]
    refine congrArg (fun b => Ending.returned (.string b)) (ByteArray.ext ?_)
    simp [rt, nt, nmS, numS]
  · exact below_next (below_next (below_box _ _ _) hb1) hb2
theorem text_1_1 (op a b c n : Int) (h : F op a b c n = true) (hU : U op = 1) (hI : I op = true) (w : World) (ht : Tab w) :
    Calls Tryd.prog 18 #[.agg #[.int .i64 op, .int .i64 a, .int .i64 b, .int .i64 c, .int .i64 n]] w fun e w' => e = .returned (.string (txt op a b c n)) ∧ Below w.heap.size w w' := by
  have hk := Lib.hid (F_parts h).1
  have hs := nmS_size hk.out
  obtain ⟨o0, o1, a0, a1, b0, b1, c0, c1, n0, n1⟩ := F_bd h
  have sa := numS_size a (by omega) (by omega)
  have sb := numS_size b (by omega) (by omega)
  have sc := numS_size c (by omega) (by omega)
  have sn := numS_size n (by omega) (by omega)
  have e1 : hA op = true := by unfold hA; rw [hU]; decide
  have e2 : hB op = false := by unfold hB; rw [hU]; decide
  have e3 : hC op = false := by unfold hC; rw [hU]; decide
  have hT : txt op a b c n = ⟨(T op a b c n).toArray⟩ := rfl
  unfold T at hT
  rw [e1, e2, e3, hI] at hT
  have HT := Lib.hid hT
  have ht := Lib.hid ht
  clear e1 e2 e3 hT
  go_enter Tryd.func18, Tryd.ntmps18
  go_wp2_with (first
    | (go_at_call 21; refine (fits_any _ _ _ _ _ _).mono ?_; rintro e w1 ⟨rfl, hb1⟩; obtain ⟨hc1, hf1⟩ := bcell hb1; have hz1 : w.heap.size + 1 ≤ w1.heap.size := by (have := hb1.size; simpa using this))
    | (go_at_call 10; refine (uses_any _ _).mono ?_; rintro e w' ⟨rfl, rfl⟩)
    | (go_at_call 23; refine (name_any _ hk.out _).mono ?_; rintro e w2 ⟨rfl, hb2⟩; have hx2 : ∀ o, w2.cell? ⟨w.heap.size, o, none⟩ = w1.cell? ⟨w.heap.size, o, none⟩ := fun o => hb2.cell (p := ⟨w.heap.size, o, none⟩) (by show w.heap.size < _; omega))
    | (go_at_call 24; ((with_reducible refine (itoa_reg a a0 a1 _).mono ?_); rintro e w' ⟨rfl, rfl⟩))
    | (go_at_call 24; ((with_reducible refine (itoa_reg b b0 b1 _).mono ?_); rintro e w' ⟨rfl, rfl⟩))
    | (go_at_call 24; ((with_reducible refine (itoa_reg c c0 c1 _).mono ?_); rintro e w' ⟨rfl, rfl⟩))
    | (go_at_call 25; refine (format_any n (by omega) (by omega) _ (tab_below (tab_below (tab_alloc ht.out _) hb1) hb2)).mono ?_; rintro e w3 ⟨rfl, hb3⟩))
  go_ret
  refine ⟨?_, ?_⟩
  · show Ending.returned (.string _) = _
    rw [HT.out]
    refine congrArg (fun b => Ending.returned (.string b)) (ByteArray.ext ?_)
    simp [rt, nt, nmS, numS]
  · exact below_next (below_next (below_next (below_box _ _ _) hb1) hb2) hb3
theorem text_3_0 (op a b c n : Int) (h : F op a b c n = true) (hU : U op = 3) (hI : I op = false) (w : World) (ht : Tab w) :
    Calls Tryd.prog 18 #[.agg #[.int .i64 op, .int .i64 a, .int .i64 b, .int .i64 c, .int .i64 n]] w fun e w' => e = .returned (.string (txt op a b c n)) ∧ Below w.heap.size w w' := by
  have hk := Lib.hid (F_parts h).1
  have hs := nmS_size hk.out
  obtain ⟨o0, o1, a0, a1, b0, b1, c0, c1, n0, n1⟩ := F_bd h
  have sa := numS_size a (by omega) (by omega)
  have sb := numS_size b (by omega) (by omega)
  have sc := numS_size c (by omega) (by omega)
  have sn := numS_size n (by omega) (by omega)
  have e1 : hA op = true := by unfold hA; rw [hU]; decide
  have e2 : hB op = true := by unfold hB; rw [hU]; decide
  have e3 : hC op = false := by unfold hC; rw [hU]; decide
  have hT : txt op a b c n = ⟨(T op a b c n).toArray⟩ := rfl
  unfold T at hT
  rw [e1, e2, e3, hI] at hT
  have HT := Lib.hid hT
  have ht := Lib.hid ht
  clear e1 e2 e3 hT
  go_enter Tryd.func18, Tryd.ntmps18
  go_wp2_with (first
    | (go_at_call 21; refine (fits_any _ _ _ _ _ _).mono ?_; rintro e w1 ⟨rfl, hb1⟩; obtain ⟨hc1, hf1⟩ := bcell hb1; have hz1 : w.heap.size + 1 ≤ w1.heap.size := by (have := hb1.size; simpa using this))
    | (go_at_call 10; refine (uses_any _ _).mono ?_; rintro e w' ⟨rfl, rfl⟩)
    | (go_at_call 23; refine (name_any _ hk.out _).mono ?_; rintro e w2 ⟨rfl, hb2⟩; have hx2 : ∀ o, w2.cell? ⟨w.heap.size, o, none⟩ = w1.cell? ⟨w.heap.size, o, none⟩ := fun o => hb2.cell (p := ⟨w.heap.size, o, none⟩) (by show w.heap.size < _; omega))
    | (go_at_call 24; ((with_reducible refine (itoa_reg a a0 a1 _).mono ?_); rintro e w' ⟨rfl, rfl⟩))
    | (go_at_call 24; ((with_reducible refine (itoa_reg b b0 b1 _).mono ?_); rintro e w' ⟨rfl, rfl⟩))
    | (go_at_call 24; ((with_reducible refine (itoa_reg c c0 c1 _).mono ?_); rintro e w' ⟨rfl, rfl⟩))
    | (go_at_call 25; refine (format_any n (by omega) (by omega) _ (tab_below (tab_below (tab_alloc ht.out _) hb1) hb2)).mono ?_; rintro e w3 ⟨rfl, hb3⟩))
  go_ret
  refine ⟨?_, ?_⟩
  · show Ending.returned (.string _) = _
    rw [HT.out]
    refine congrArg (fun b => Ending.returned (.string b)) (ByteArray.ext ?_)
    simp [rt, nt, nmS, numS]
  · exact below_next (below_next (below_box _ _ _) hb1) hb2
theorem text_3_1 (op a b c n : Int) (h : F op a b c n = true) (hU : U op = 3) (hI : I op = true) (w : World) (ht : Tab w) :
    Calls Tryd.prog 18 #[.agg #[.int .i64 op, .int .i64 a, .int .i64 b, .int .i64 c, .int .i64 n]] w fun e w' => e = .returned (.string (txt op a b c n)) ∧ Below w.heap.size w w' := by
  have hk := Lib.hid (F_parts h).1
  have hs := nmS_size hk.out
  obtain ⟨o0, o1, a0, a1, b0, b1, c0, c1, n0, n1⟩ := F_bd h
  have sa := numS_size a (by omega) (by omega)
  have sb := numS_size b (by omega) (by omega)
  have sc := numS_size c (by omega) (by omega)
  have sn := numS_size n (by omega) (by omega)
  have e1 : hA op = true := by unfold hA; rw [hU]; decide
  have e2 : hB op = true := by unfold hB; rw [hU]; decide
  have e3 : hC op = false := by unfold hC; rw [hU]; decide
  have hT : txt op a b c n = ⟨(T op a b c n).toArray⟩ := rfl
  unfold T at hT
  rw [e1, e2, e3, hI] at hT
  have HT := Lib.hid hT
  have ht := Lib.hid ht
  clear e1 e2 e3 hT
  go_enter Tryd.func18, Tryd.ntmps18
  go_wp2_with (first
    | (go_at_call 21; refine (fits_any _ _ _ _ _ _).mono ?_; rintro e w1 ⟨rfl, hb1⟩; obtain ⟨hc1, hf1⟩ := bcell hb1; have hz1 : w.heap.size + 1 ≤ w1.heap.size := by (have := hb1.size; simpa using this))
    | (go_at_call 10; refine (uses_any _ _).mono ?_; rintro e w' ⟨rfl, rfl⟩)
    | (go_at_call 23; refine (name_any _ hk.out _).mono ?_; rintro e w2 ⟨rfl, hb2⟩; have hx2 : ∀ o, w2.cell? ⟨w.heap.size, o, none⟩ = w1.cell? ⟨w.heap.size, o, none⟩ := fun o => hb2.cell (p := ⟨w.heap.size, o, none⟩) (by show w.heap.size < _; omega))
    | (go_at_call 24; ((with_reducible refine (itoa_reg a a0 a1 _).mono ?_); rintro e w' ⟨rfl, rfl⟩))
    | (go_at_call 24; ((with_reducible refine (itoa_reg b b0 b1 _).mono ?_); rintro e w' ⟨rfl, rfl⟩))
    | (go_at_call 24; ((with_reducible refine (itoa_reg c c0 c1 _).mono ?_); rintro e w' ⟨rfl, rfl⟩))
    | (go_at_call 25; refine (format_any n (by omega) (by omega) _ (tab_below (tab_below (tab_alloc ht.out _) hb1) hb2)).mono ?_; rintro e w3 ⟨rfl, hb3⟩))
  go_ret
  refine ⟨?_, ?_⟩
  · show Ending.returned (.string _) = _
    rw [HT.out]
    refine congrArg (fun b => Ending.returned (.string b)) (ByteArray.ext ?_)
    simp [rt, nt, nmS, numS]
  · exact below_next (below_next (below_next (below_box _ _ _) hb1) hb2) hb3
theorem text_7_0 (op a b c n : Int) (h : F op a b c n = true) (hU : U op = 7) (hI : I op = false) (w : World) (ht : Tab w) :
    Calls Tryd.prog 18 #[.agg #[.int .i64 op, .int .i64 a, .int .i64 b, .int .i64 c, .int .i64 n]] w fun e w' => e = .returned (.string (txt op a b c n)) ∧ Below w.heap.size w w' := by
  have hk := Lib.hid (F_parts h).1
  have hs := nmS_size hk.out
  obtain ⟨o0, o1, a0, a1, b0, b1, c0, c1, n0, n1⟩ := F_bd h
  have sa := numS_size a (by omega) (by omega)
  have sb := numS_size b (by omega) (by omega)
  have sc := numS_size c (by omega) (by omega)
  have sn := numS_size n (by omega) (by omega)
  have e1 : hA op = true := by unfold hA; rw [hU]; decide
  have e2 : hB op = true := by unfold hB; rw [hU]; decide
  have e3 : hC op = true := by unfold hC; rw [hU]; decide
  have hT : txt op a b c n = ⟨(T op a b c n).toArray⟩ := rfl
  unfold T at hT
  rw [e1, e2, e3, hI] at hT
  have HT := Lib.hid hT
  have ht := Lib.hid ht
  clear e1 e2 e3 hT
  go_enter Tryd.func18, Tryd.ntmps18
  go_wp2_with (first
    | (go_at_call 21; refine (fits_any _ _ _ _ _ _).mono ?_; rintro e w1 ⟨rfl, hb1⟩; obtain ⟨hc1, hf1⟩ := bcell hb1; have hz1 : w.heap.size + 1 ≤ w1.heap.size := by (have := hb1.size; simpa using this))
    | (go_at_call 10; refine (uses_any _ _).mono ?_; rintro e w' ⟨rfl, rfl⟩)
    | (go_at_call 23; refine (name_any _ hk.out _).mono ?_; rintro e w2 ⟨rfl, hb2⟩; have hx2 : ∀ o, w2.cell? ⟨w.heap.size, o, none⟩ = w1.cell? ⟨w.heap.size, o, none⟩ := fun o => hb2.cell (p := ⟨w.heap.size, o, none⟩) (by show w.heap.size < _; omega))
    | (go_at_call 24; ((with_reducible refine (itoa_reg a a0 a1 _).mono ?_); rintro e w' ⟨rfl, rfl⟩))
    | (go_at_call 24; ((with_reducible refine (itoa_reg b b0 b1 _).mono ?_); rintro e w' ⟨rfl, rfl⟩))
    | (go_at_call 24; ((with_reducible refine (itoa_reg c c0 c1 _).mono ?_); rintro e w' ⟨rfl, rfl⟩))
    | (go_at_call 25; refine (format_any n (by omega) (by omega) _ (tab_below (tab_below (tab_alloc ht.out _) hb1) hb2)).mono ?_; rintro e w3 ⟨rfl, hb3⟩))
  go_ret
  refine ⟨?_, ?_⟩
  · show Ending.returned (.string _) = _
    rw [HT.out]
    refine congrArg (fun b => Ending.returned (.string b)) (ByteArray.ext ?_)
    simp [rt, nt, nmS, numS]
  · exact below_next (below_next (below_box _ _ _) hb1) hb2
theorem text_7_1 (op a b c n : Int) (h : F op a b c n = true) (hU : U op = 7) (hI : I op = true) (w : World) (ht : Tab w) :
    Calls Tryd.prog 18 #[.agg #[.int .i64 op, .int .i64 a, .int .i64 b, .int .i64 c, .int .i64 n]] w fun e w' => e = .returned (.string (txt op a b c n)) ∧ Below w.heap.size w w' := by
  have hk := Lib.hid (F_parts h).1
  have hs := nmS_size hk.out
  obtain ⟨o0, o1, a0, a1, b0, b1, c0, c1, n0, n1⟩ := F_bd h
  have sa := numS_size a (by omega) (by omega)
  have sb := numS_size b (by omega) (by omega)
  have sc := numS_size c (by omega) (by omega)
  have sn := numS_size n (by omega) (by omega)
  have e1 : hA op = true := by unfold hA; rw [hU]; decide
  have e2 : hB op = true := by unfold hB; rw [hU]; decide
  have e3 : hC op = true := by unfold hC; rw [hU]; decide
  have hT : txt op a b c n = ⟨(T op a b c n).toArray⟩ := rfl
  unfold T at hT
  rw [e1, e2, e3, hI] at hT
  have HT := Lib.hid hT
  have ht := Lib.hid ht
  clear e1 e2 e3 hT
  go_enter Tryd.func18, Tryd.ntmps18
  go_wp2_with (first
    | (go_at_call 21; refine (fits_any _ _ _ _ _ _).mono ?_; rintro e w1 ⟨rfl, hb1⟩; obtain ⟨hc1, hf1⟩ := bcell hb1; have hz1 : w.heap.size + 1 ≤ w1.heap.size := by (have := hb1.size; simpa using this))
    | (go_at_call 10; refine (uses_any _ _).mono ?_; rintro e w' ⟨rfl, rfl⟩)
    | (go_at_call 23; refine (name_any _ hk.out _).mono ?_; rintro e w2 ⟨rfl, hb2⟩; have hx2 : ∀ o, w2.cell? ⟨w.heap.size, o, none⟩ = w1.cell? ⟨w.heap.size, o, none⟩ := fun o => hb2.cell (p := ⟨w.heap.size, o, none⟩) (by show w.heap.size < _; omega))
    | (go_at_call 24; ((with_reducible refine (itoa_reg a a0 a1 _).mono ?_); rintro e w' ⟨rfl, rfl⟩))
    | (go_at_call 24; ((with_reducible refine (itoa_reg b b0 b1 _).mono ?_); rintro e w' ⟨rfl, rfl⟩))
    | (go_at_call 24; ((with_reducible refine (itoa_reg c c0 c1 _).mono ?_); rintro e w' ⟨rfl, rfl⟩))
    | (go_at_call 25; refine (format_any n (by omega) (by omega) _ (tab_below (tab_below (tab_alloc ht.out _) hb1) hb2)).mono ?_; rintro e w3 ⟨rfl, hb3⟩))
  go_ret
  refine ⟨?_, ?_⟩
  · show Ending.returned (.string _) = _
    rw [HT.out]
    refine congrArg (fun b => Ending.returned (.string b)) (ByteArray.ext ?_)
    simp [rt, nt, nmS, numS]
  · exact below_next (below_next (below_next (below_box _ _ _) hb1) hb2) hb3
theorem text_yes (op a b c n : Int) (h : F op a b c n = true) (w : World) (ht : Tab w) :
    Calls Tryd.prog 18 #[.agg #[.int .i64 op, .int .i64 a, .int .i64 b, .int .i64 c, .int .i64 n]] w fun e w' => e = .returned (.string (txt op a b c n)) ∧ Below w.heap.size w w' := by
  rcases U_cases op with hu | hu | hu | hu <;> cases hi : I op
  · exact text_0_0 op a b c n h hu hi w ht
  · exact text_0_1 op a b c n h hu hi w ht
  · exact text_1_0 op a b c n h hu hi w ht
  · exact text_1_1 op a b c n h hu hi w ht
  · exact text_3_0 op a b c n h hu hi w ht
  · exact text_3_1 op a b c n h hu hi w ht
  · exact text_7_0 op a b c n h hu hi w ht
  · exact text_7_1 op a b c n h hu hi w ht
theorem text_no (op a b c n : Int) (h : F op a b c n = false) (w : World) :
    Calls Tryd.prog 18 #[.agg #[.int .i64 op, .int .i64 a, .int .i64 b, .int .i64 c, .int .i64 n]] w fun e w' => e = .returned (.string ⟨#[]⟩) ∧ Below w.heap.size w w' := by
  go_enter Tryd.func18, Tryd.ntmps18
  go_wp2_with (go_at_call 21; refine (fits_any _ _ _ _ _ _).mono ?_; rintro e w1 ⟨rfl, hb1⟩; obtain ⟨hc1, hf1⟩ := bcell hb1)
  go_ret
  exact ⟨rfl, below_next (below_box _ _ _) hb1⟩

theorem rtext_0_0 (op a b c n : Int) (h : F op a b c n = true) (hU : U op = 0) (hI : I op = false) (w : World) :
    Calls Tryd.prog 19 #[.agg #[.int .i64 op, .int .i64 a, .int .i64 b, .int .i64 c, .int .i64 n]] w fun e w' => e = .returned (.string (txt op a b c n)) ∧ Below w.heap.size w w' := by
  have hk := Lib.hid (F_parts h).1
  have hs := nmS_size hk.out
  obtain ⟨o0, o1, a0, a1, b0, b1, c0, c1, n0, n1⟩ := F_bd h
  have sa := numS_size a (by omega) (by omega)
  have sb := numS_size b (by omega) (by omega)
  have sc := numS_size c (by omega) (by omega)
  have sn := numS_size n (by omega) (by omega)
  have e1 : hA op = false := by unfold hA; rw [hU]; decide
  have e2 : hB op = false := by unfold hB; rw [hU]; decide
  have e3 : hC op = false := by unfold hC; rw [hU]; decide
  have hT : txt op a b c n = ⟨(T op a b c n).toArray⟩ := rfl
  unfold T at hT
  rw [e1, e2, e3, hI] at hT
  have HT := Lib.hid hT
  have h := Lib.hid h
  clear e1 e2 e3 hT
  go_enter Tryd.func19, Tryd.ntmps19
  go_wp2_with (first
    | (go_at_call 14; refine (rencode_yes _ _ _ _ _ h.out _).mono ?_; rintro e w1 ⟨rfl, hb1⟩; obtain ⟨hc1, hf1⟩ := bcell hb1; have hz1 : w.heap.size + 1 ≤ w1.heap.size := by (have := hb1.size; simpa using this))
    | (go_at_call 11; refine (ruses_any _ _).mono ?_; rintro e w' ⟨rfl, rfl⟩)
    | (go_at_call 20; refine (rname_any _ hk.out _).mono ?_; rintro e w' ⟨rfl, rfl⟩)
    | (go_at_call 26; ((with_reducible refine (number_any a (by omega) (by omega) _).mono ?_); rintro e w2 ⟨rfl, hb2⟩; have hz2 := hb2.size; have hx2 := fun o => hb2.cell (p := ⟨w.heap.size, o, none⟩) (by show w.heap.size < _; omega)))
    | (go_at_call 26; ((with_reducible refine (number_any b (by omega) (by omega) _).mono ?_); rintro e w3 ⟨rfl, hb3⟩; have hz3 := hb3.size; have hx3 := fun o => hb3.cell (p := ⟨w.heap.size, o, none⟩) (by show w.heap.size < _; omega)))
    | (go_at_call 26; ((with_reducible refine (number_any c (by omega) (by omega) _).mono ?_); rintro e w4 ⟨rfl, hb4⟩; have hz4 := hb4.size; have hx4 := fun o => hb4.cell (p := ⟨w.heap.size, o, none⟩) (by show w.heap.size < _; omega)))
    | (go_at_call 26; ((with_reducible refine (number_any n (by omega) (by omega) _).mono ?_); rintro e w5 ⟨rfl, hb5⟩; have hz5 := hb5.size; have hx5 := fun o => hb5.cell (p := ⟨w.heap.size, o, none⟩) (by show w.heap.size < _; omega))))
  go_ret
  refine ⟨?_, ?_⟩
  · show Ending.returned (.string _) = _
    rw [HT.out]
    refine congrArg (fun b => Ending.returned (.string b)) (ByteArray.ext ?_)
    simp [rt, nt, nmS]
  · exact below_next (below_box _ _ _) hb1
theorem rtext_0_1 (op a b c n : Int) (h : F op a b c n = true) (hU : U op = 0) (hI : I op = true) (w : World) :
    Calls Tryd.prog 19 #[.agg #[.int .i64 op, .int .i64 a, .int .i64 b, .int .i64 c, .int .i64 n]] w fun e w' => e = .returned (.string (txt op a b c n)) ∧ Below w.heap.size w w' := by
  have hk := Lib.hid (F_parts h).1
  have hs := nmS_size hk.out
  obtain ⟨o0, o1, a0, a1, b0, b1, c0, c1, n0, n1⟩ := F_bd h
  have sa := numS_size a (by omega) (by omega)
  have sb := numS_size b (by omega) (by omega)
  have sc := numS_size c (by omega) (by omega)
  have sn := numS_size n (by omega) (by omega)
  have e1 : hA op = false := by unfold hA; rw [hU]; decide
  have e2 : hB op = false := by unfold hB; rw [hU]; decide
  have e3 : hC op = false := by unfold hC; rw [hU]; decide
  have hT : txt op a b c n = ⟨(T op a b c n).toArray⟩ := rfl
  unfold T at hT
  rw [e1, e2, e3, hI] at hT
  have HT := Lib.hid hT
  have h := Lib.hid h
  clear e1 e2 e3 hT
  go_enter Tryd.func19, Tryd.ntmps19
  go_wp2_with (first
    | (go_at_call 14; refine (rencode_yes _ _ _ _ _ h.out _).mono ?_; rintro e w1 ⟨rfl, hb1⟩; obtain ⟨hc1, hf1⟩ := bcell hb1; have hz1 : w.heap.size + 1 ≤ w1.heap.size := by (have := hb1.size; simpa using this))
    | (go_at_call 11; refine (ruses_any _ _).mono ?_; rintro e w' ⟨rfl, rfl⟩)
    | (go_at_call 20; refine (rname_any _ hk.out _).mono ?_; rintro e w' ⟨rfl, rfl⟩)
    | (go_at_call 26; ((with_reducible refine (number_any a (by omega) (by omega) _).mono ?_); rintro e w2 ⟨rfl, hb2⟩; have hz2 := hb2.size; have hx2 := fun o => hb2.cell (p := ⟨w.heap.size, o, none⟩) (by show w.heap.size < _; omega)))
    | (go_at_call 26; ((with_reducible refine (number_any b (by omega) (by omega) _).mono ?_); rintro e w3 ⟨rfl, hb3⟩; have hz3 := hb3.size; have hx3 := fun o => hb3.cell (p := ⟨w.heap.size, o, none⟩) (by show w.heap.size < _; omega)))
    | (go_at_call 26; ((with_reducible refine (number_any c (by omega) (by omega) _).mono ?_); rintro e w4 ⟨rfl, hb4⟩; have hz4 := hb4.size; have hx4 := fun o => hb4.cell (p := ⟨w.heap.size, o, none⟩) (by show w.heap.size < _; omega)))
    | (go_at_call 26; ((with_reducible refine (number_any n (by omega) (by omega) _).mono ?_); rintro e w5 ⟨rfl, hb5⟩; have hz5 := hb5.size; have hx5 := fun o => hb5.cell (p := ⟨w.heap.size, o, none⟩) (by show w.heap.size < _; omega))))
  go_ret
  refine ⟨?_, ?_⟩
  · show Ending.returned (.string _) = _
    rw [HT.out]
    refine congrArg (fun b => Ending.returned (.string b)) (ByteArray.ext ?_)
    simp [rt, nt, nmS, numS]
  · exact below_next (below_next (below_box _ _ _) hb1) hb5
theorem rtext_1_0 (op a b c n : Int) (h : F op a b c n = true) (hU : U op = 1) (hI : I op = false) (w : World) :
    Calls Tryd.prog 19 #[.agg #[.int .i64 op, .int .i64 a, .int .i64 b, .int .i64 c, .int .i64 n]] w fun e w' => e = .returned (.string (txt op a b c n)) ∧ Below w.heap.size w w' := by
  have hk := Lib.hid (F_parts h).1
  have hs := nmS_size hk.out
  obtain ⟨o0, o1, a0, a1, b0, b1, c0, c1, n0, n1⟩ := F_bd h
  have sa := numS_size a (by omega) (by omega)
  have sb := numS_size b (by omega) (by omega)
  have sc := numS_size c (by omega) (by omega)
  have sn := numS_size n (by omega) (by omega)
  have e1 : hA op = true := by unfold hA; rw [hU]; decide
  have e2 : hB op = false := by unfold hB; rw [hU]; decide
  have e3 : hC op = false := by unfold hC; rw [hU]; decide
  have hT : txt op a b c n = ⟨(T op a b c n).toArray⟩ := rfl
  unfold T at hT
  rw [e1, e2, e3, hI] at hT
  have HT := Lib.hid hT
  have h := Lib.hid h
  clear e1 e2 e3 hT
  go_enter Tryd.func19, Tryd.ntmps19
  go_wp2_with (first
    | (go_at_call 14; refine (rencode_yes _ _ _ _ _ h.out _).mono ?_; rintro e w1 ⟨rfl, hb1⟩; obtain ⟨hc1, hf1⟩ := bcell hb1; have hz1 : w.heap.size + 1 ≤ w1.heap.size := by (have := hb1.size; simpa using this))
    | (go_at_call 11; refine (ruses_any _ _).mono ?_; rintro e w' ⟨rfl, rfl⟩)
    | (go_at_call 20; refine (rname_any _ hk.out _).mono ?_; rintro e w' ⟨rfl, rfl⟩)
    | (go_at_call 26; ((with_reducible refine (number_any a (by omega) (by omega) _).mono ?_); rintro e w2 ⟨rfl, hb2⟩; have hz2 := hb2.size; have hx2 := fun o => hb2.cell (p := ⟨w.heap.size, o, none⟩) (by show w.heap.size < _; omega)))
    | (go_at_call 26; ((with_reducible refine (number_any b (by omega) (by omega) _).mono ?_); rintro e w3 ⟨rfl, hb3⟩; have hz3 := hb3.size; have hx3 := fun o => hb3.cell (p := ⟨w.heap.size, o, none⟩) (by show w.heap.size < _; omega)))
    | (go_at_call 26; ((with_reducible refine (number_any c (by omega) (by omega) _).mono ?_); rintro e w4 ⟨rfl, hb4⟩; have hz4 := hb4.size; have hx4 := fun o => hb4.cell (p := ⟨w.heap.size, o, none⟩) (by show w.heap.size < _; omega)))
    | (go_at_call 26; ((with_reducible refine (number_any n (by omega) (by omega) _).mono ?_); rintro e w5 ⟨rfl, hb5⟩; have hz5 := hb5.size; have hx5 := fun o => hb5.cell (p := ⟨w.heap.size, o, none⟩) (by show w.heap.size < _; omega))))
  go_ret
  refine ⟨?_, ?_⟩
  · show Ending.returned (.string _) = _
    rw [HT.out]
    refine congrArg (fun b => Ending.returned (.string b)) (ByteArray.ext ?_)
    simp [rt, nt, nmS, numS]
  · exact below_next (below_next (below_box _ _ _) hb1) hb2
theorem rtext_1_1 (op a b c n : Int) (h : F op a b c n = true) (hU : U op = 1) (hI : I op = true) (w : World) :
    Calls Tryd.prog 19 #[.agg #[.int .i64 op, .int .i64 a, .int .i64 b, .int .i64 c, .int .i64 n]] w fun e w' => e = .returned (.string (txt op a b c n)) ∧ Below w.heap.size w w' := by
  have hk := Lib.hid (F_parts h).1
  have hs := nmS_size hk.out
  obtain ⟨o0, o1, a0, a1, b0, b1, c0, c1, n0, n1⟩ := F_bd h
  have sa := numS_size a (by omega) (by omega)
  have sb := numS_size b (by omega) (by omega)
  have sc := numS_size c (by omega) (by omega)
  have sn := numS_size n (by omega) (by omega)
  have e1 : hA op = true := by unfold hA; rw [hU]; decide
  have e2 : hB op = false := by unfold hB; rw [hU]; decide
  have e3 : hC op = false := by unfold hC; rw [hU]; decide
  have hT : txt op a b c n = ⟨(T op a b c n).toArray⟩ := rfl
  unfold T at hT
  rw [e1, e2, e3, hI] at hT
  have HT := Lib.hid hT
  have h := Lib.hid h
  clear e1 e2 e3 hT
  go_enter Tryd.func19, Tryd.ntmps19
  go_wp2_with (first
    | (go_at_call 14; refine (rencode_yes _ _ _ _ _ h.out _).mono ?_; rintro e w1 ⟨rfl, hb1⟩; obtain ⟨hc1, hf1⟩ := bcell hb1; have hz1 : w.heap.size + 1 ≤ w1.heap.size := by (have := hb1.size; simpa using this))
    | (go_at_call 11; refine (ruses_any _ _).mono ?_; rintro e w' ⟨rfl, rfl⟩)
    | (go_at_call 20; refine (rname_any _ hk.out _).mono ?_; rintro e w' ⟨rfl, rfl⟩)
    | (go_at_call 26; ((with_reducible refine (number_any a (by omega) (by omega) _).mono ?_); rintro e w2 ⟨rfl, hb2⟩; have hz2 := hb2.size; have hx2 := fun o => hb2.cell (p := ⟨w.heap.size, o, none⟩) (by show w.heap.size < _; omega)))
    | (go_at_call 26; ((with_reducible refine (number_any b (by omega) (by omega) _).mono ?_); rintro e w3 ⟨rfl, hb3⟩; have hz3 := hb3.size; have hx3 := fun o => hb3.cell (p := ⟨w.heap.size, o, none⟩) (by show w.heap.size < _; omega)))
    | (go_at_call 26; ((with_reducible refine (number_any c (by omega) (by omega) _).mono ?_); rintro e w4 ⟨rfl, hb4⟩; have hz4 := hb4.size; have hx4 := fun o => hb4.cell (p := ⟨w.heap.size, o, none⟩) (by show w.heap.size < _; omega)))
    | (go_at_call 26; ((with_reducible refine (number_any n (by omega) (by omega) _).mono ?_); rintro e w5 ⟨rfl, hb5⟩; have hz5 := hb5.size; have hx5 := fun o => hb5.cell (p := ⟨w.heap.size, o, none⟩) (by show w.heap.size < _; omega))))
  go_ret
  refine ⟨?_, ?_⟩
  · show Ending.returned (.string _) = _
    rw [HT.out]
    refine congrArg (fun b => Ending.returned (.string b)) (ByteArray.ext ?_)
    simp [rt, nt, nmS, numS]
  · exact below_next (below_next (below_next (below_box _ _ _) hb1) hb2) hb5
theorem rtext_3_0 (op a b c n : Int) (h : F op a b c n = true) (hU : U op = 3) (hI : I op = false) (w : World) :
    Calls Tryd.prog 19 #[.agg #[.int .i64 op, .int .i64 a, .int .i64 b, .int .i64 c, .int .i64 n]] w fun e w' => e = .returned (.string (txt op a b c n)) ∧ Below w.heap.size w w' := by
  have hk := Lib.hid (F_parts h).1
  have hs := nmS_size hk.out
  obtain ⟨o0, o1, a0, a1, b0, b1, c0, c1, n0, n1⟩ := F_bd h
  have sa := numS_size a (by omega) (by omega)
  have sb := numS_size b (by omega) (by omega)
  have sc := numS_size c (by omega) (by omega)
  have sn := numS_size n (by omega) (by omega)
  have e1 : hA op = true := by unfold hA; rw [hU]; decide
  have e2 : hB op = true := by unfold hB; rw [hU]; decide
  have e3 : hC op = false := by unfold hC; rw [hU]; decide
  have hT : txt op a b c n = ⟨(T op a b c n).toArray⟩ := rfl
  unfold T at hT
  rw [e1, e2, e3, hI] at hT
  have HT := Lib.hid hT
  have h := Lib.hid h
  clear e1 e2 e3 hT
  go_enter Tryd.func19, Tryd.ntmps19
  go_wp2_with (first
    | (go_at_call 14; refine (rencode_yes _ _ _ _ _ h.out _).mono ?_; rintro e w1 ⟨rfl, hb1⟩; obtain ⟨hc1, hf1⟩ := bcell hb1; have hz1 : w.heap.size + 1 ≤ w1.heap.size := by (have := hb1.size; simpa using this))
    | (go_at_call 11; refine (ruses_any _ _).mono ?_; rintro e w' ⟨rfl, rfl⟩)
    | (go_at_call 20; refine (rname_any _ hk.out _).mono ?_; rintro e w' ⟨rfl, rfl⟩)
    | (go_at_call 26; ((with_reducible refine (number_any a (by omega) (by omega) _).mono ?_); rintro e w2 ⟨rfl, hb2⟩; have hz2 := hb2.size; have hx2 := fun o => hb2.cell (p := ⟨w.heap.size, o, none⟩) (by show w.heap.size < _; omega)))
    | (go_at_call 26; ((with_reducible refine (number_any b (by omega) (by omega) _).mono ?_); rintro e w3 ⟨rfl, hb3⟩; have hz3 := hb3.size; have hx3 := fun o => hb3.cell (p := ⟨w.heap.size, o, none⟩) (by show w.heap.size < _; omega)))
    | (go_at_call 26; ((with_reducible refine (number_any c (by omega) (by omega) _).mono ?_); rintro e w4 ⟨rfl, hb4⟩; have hz4 := hb4.size; have hx4 := fun o => hb4.cell (p := ⟨w.heap.size, o, none⟩) (by show w.heap.size < _; omega)))
    | (go_at_call 26; ((with_reducible refine (number_any n (by omega) (by omega) _).mono ?_); rintro e w5 ⟨rfl, hb5⟩; have hz5 := hb5.size; have hx5 := fun o => hb5.cell (p := ⟨w.heap.size, o, none⟩) (by show w.heap.size < _; omega))))
  go_ret
  refine ⟨?_, ?_⟩
  · show Ending.returned (.string _) = _
    rw [HT.out]
    refine congrArg (fun b => Ending.returned (.string b)) (ByteArray.ext ?_)
    simp [rt, nt, nmS, numS]
  · exact below_next (below_next (below_next (below_box _ _ _) hb1) hb2) hb3
theorem rtext_3_1 (op a b c n : Int) (h : F op a b c n = true) (hU : U op = 3) (hI : I op = true) (w : World) :
    Calls Tryd.prog 19 #[.agg #[.int .i64 op, .int .i64 a, .int .i64 b, .int .i64 c, .int .i64 n]] w fun e w' => e = .returned (.string (txt op a b c n)) ∧ Below w.heap.size w w' := by
  have hk := Lib.hid (F_parts h).1
  have hs := nmS_size hk.out
  obtain ⟨o0, o1, a0, a1, b0, b1, c0, c1, n0, n1⟩ := F_bd h
  have sa := numS_size a (by omega) (by omega)
  have sb := numS_size b (by omega) (by omega)
  have sc := numS_size c (by omega) (by omega)
  have sn := numS_size n (by omega) (by omega)
  have e1 : hA op = true := by unfold hA; rw [hU]; decide
  have e2 : hB op = true := by unfold hB; rw [hU]; decide
  have e3 : hC op = false := by unfold hC; rw [hU]; decide
  have hT : txt op a b c n = ⟨(T op a b c n).toArray⟩ := rfl
  unfold T at hT
  rw [e1, e2, e3, hI] at hT
  have HT := Lib.hid hT
  have h := Lib.hid h
  clear e1 e2 e3 hT
  go_enter Tryd.func19, Tryd.ntmps19
  go_wp2_with (first
    | (go_at_call 14; refine (rencode_yes _ _ _ _ _ h.out _).mono ?_; rintro e w1 ⟨rfl, hb1⟩; obtain ⟨hc1, hf1⟩ := bcell hb1; have hz1 : w.heap.size + 1 ≤ w1.heap.size := by (have := hb1.size; simpa using this))
    | (go_at_call 11; refine (ruses_any _ _).mono ?_; rintro e w' ⟨rfl, rfl⟩)
    | (go_at_call 20; refine (rname_any _ hk.out _).mono ?_; rintro e w' ⟨rfl, rfl⟩)
    | (go_at_call 26; ((with_reducible refine (number_any a (by omega) (by omega) _).mono ?_); rintro e w2 ⟨rfl, hb2⟩; have hz2 := hb2.size; have hx2 := fun o => hb2.cell (p := ⟨w.heap.size, o, none⟩) (by show w.heap.size < _; omega)))
    | (go_at_call 26; ((with_reducible refine (number_any b (by omega) (by omega) _).mono ?_); rintro e w3 ⟨rfl, hb3⟩; have hz3 := hb3.size; have hx3 := fun o => hb3.cell (p := ⟨w.heap.size, o, none⟩) (by show w.heap.size < _; omega)))
    | (go_at_call 26; ((with_reducible refine (number_any c (by omega) (by omega) _).mono ?_); rintro e w4 ⟨rfl, hb4⟩; have hz4 := hb4.size; have hx4 := fun o => hb4.cell (p := ⟨w.heap.size, o, none⟩) (by show w.heap.size < _; omega)))
    | (go_at_call 26; ((with_reducible refine (number_any n (by omega) (by omega) _).mono ?_); rintro e w5 ⟨rfl, hb5⟩; have hz5 := hb5.size; have hx5 := fun o => hb5.cell (p := ⟨w.heap.size, o, none⟩) (by show w.heap.size < _; omega))))
  go_ret
  refine ⟨?_, ?_⟩
  · show Ending.returned (.string _) = _
    rw [HT.out]
    refine congrArg (fun b => Ending.returned (.string b)) (ByteArray.ext ?_)
    simp [rt, nt, nmS, numS]
  · exact below_next (below_next (below_next (below_next (below_box _ _ _) hb1) hb2) hb3) hb5
theorem rtext_7_0 (op a b c n : Int) (h : F op a b c n = true) (hU : U op = 7) (hI : I op = false) (w : World) :
    Calls Tryd.prog 19 #[.agg #[.int .i64 op, .int .i64 a, .int .i64 b, .int .i64 c, .int .i64 n]] w fun e w' => e = .returned (.string (txt op a b c n)) ∧ Below w.heap.size w w' := by
  have hk := Lib.hid (F_parts h).1
  have hs := nmS_size hk.out
  obtain ⟨o0, o1, a0, a1, b0, b1, c0, c1, n0, n1⟩ := F_bd h
  have sa := numS_size a (by omega) (by omega)
  have sb := numS_size b (by omega) (by omega)
  have sc := numS_size c (by omega) (by omega)
  have sn := numS_size n (by omega) (by omega)
  have e1 : hA op = true := by unfold hA; rw [hU]; decide
  have e2 : hB op = true := by unfold hB; rw [hU]; decide
  have e3 : hC op = true := by unfold hC; rw [hU]; decide
  have hT : txt op a b c n = ⟨(T op a b c n).toArray⟩ := rfl
  unfold T at hT
  rw [e1, e2, e3, hI] at hT
  have HT := Lib.hid hT
  have h := Lib.hid h
  clear e1 e2 e3 hT
  go_enter Tryd.func19, Tryd.ntmps19
  go_wp2_with (first
    | (go_at_call 14; refine (rencode_yes _ _ _ _ _ h.out _).mono ?_; rintro e w1 ⟨rfl, hb1⟩; obtain ⟨hc1, hf1⟩ := bcell hb1; have hz1 : w.heap.size + 1 ≤ w1.heap.size := by (have := hb1.size; simpa using this))
    | (go_at_call 11; refine (ruses_any _ _).mono ?_; rintro e w' ⟨rfl, rfl⟩)
    | (go_at_call 20; refine (rname_any _ hk.out _).mono ?_; rintro e w' ⟨rfl, rfl⟩)
    | (go_at_call 26; ((with_reducible refine (number_any a (by omega) (by omega) _).mono ?_); rintro e w2 ⟨rfl, hb2⟩; have hz2 := hb2.size; have hx2 := fun o => hb2.cell (p := ⟨w.heap.size, o, none⟩) (by show w.heap.size < _; omega)))
    | (go_at_call 26; ((with_reducible refine (number_any b (by omega) (by omega) _).mono ?_); rintro e w3 ⟨rfl, hb3⟩; have hz3 := hb3.size; have hx3 := fun o => hb3.cell (p := ⟨w.heap.size, o, none⟩) (by show w.heap.size < _; omega)))
    | (go_at_call 26; ((with_reducible refine (number_any c (by omega) (by omega) _).mono ?_); rintro e w4 ⟨rfl, hb4⟩; have hz4 := hb4.size; have hx4 := fun o => hb4.cell (p := ⟨w.heap.size, o, none⟩) (by show w.heap.size < _; omega)))
    | (go_at_call 26; ((with_reducible refine (number_any n (by omega) (by omega) _).mono ?_); rintro e w5 ⟨rfl, hb5⟩; have hz5 := hb5.size; have hx5 := fun o => hb5.cell (p := ⟨w.heap.size, o, none⟩) (by show w.heap.size < _; omega))))
  go_ret
  refine ⟨?_, ?_⟩
  · show Ending.returned (.string _) = _
    rw [HT.out]
    refine congrArg (fun b => Ending.returned (.string b)) (ByteArray.ext ?_)
    simp [rt, nt, nmS, numS]
  · exact below_next (below_next (below_next (below_next (below_box _ _ _) hb1) hb2) hb3) hb4
theorem rtext_7_1 (op a b c n : Int) (h : F op a b c n = true) (hU : U op = 7) (hI : I op = true) (w : World) :
    Calls Tryd.prog 19 #[.agg #[.int .i64 op, .int .i64 a, .int .i64 b, .int .i64 c, .int .i64 n]] w fun e w' => e = .returned (.string (txt op a b c n)) ∧ Below w.heap.size w w' := by
  have hk := Lib.hid (F_parts h).1
  have hs := nmS_size hk.out
  obtain ⟨o0, o1, a0, a1, b0, b1, c0, c1, n0, n1⟩ := F_bd h
  have sa := numS_size a (by omega) (by omega)
  have sb := numS_size b (by omega) (by omega)
  have sc := numS_size c (by omega) (by omega)
  have sn := numS_size n (by omega) (by omega)
  have e1 : hA op = true := by unfold hA; rw [hU]; decide
  have e2 : hB op = true := by unfold hB; rw [hU]; decide
  have e3 : hC op = true := by unfold hC; rw [hU]; decide
  have hT : txt op a b c n = ⟨(T op a b c n).toArray⟩ := rfl
  unfold T at hT
  rw [e1, e2, e3, hI] at hT
  have HT := Lib.hid hT
  have h := Lib.hid h
  clear e1 e2 e3 hT
  go_enter Tryd.func19, Tryd.ntmps19
  go_wp2_with (first
    | (go_at_call 14; refine (rencode_yes _ _ _ _ _ h.out _).mono ?_; rintro e w1 ⟨rfl, hb1⟩; obtain ⟨hc1, hf1⟩ := bcell hb1; have hz1 : w.heap.size + 1 ≤ w1.heap.size := by (have := hb1.size; simpa using this))
    | (go_at_call 11; refine (ruses_any _ _).mono ?_; rintro e w' ⟨rfl, rfl⟩)
    | (go_at_call 20; refine (rname_any _ hk.out _).mono ?_; rintro e w' ⟨rfl, rfl⟩)
    | (go_at_call 26; ((with_reducible refine (number_any a (by omega) (by omega) _).mono ?_); rintro e w2 ⟨rfl, hb2⟩; have hz2 := hb2.size; have hx2 := fun o => hb2.cell (p := ⟨w.heap.size, o, none⟩) (by show w.heap.size < _; omega)))
    | (go_at_call 26; ((with_reducible refine (number_any b (by omega) (by omega) _).mono ?_); rintro e w3 ⟨rfl, hb3⟩; have hz3 := hb3.size; have hx3 := fun o => hb3.cell (p := ⟨w.heap.size, o, none⟩) (by show w.heap.size < _; omega)))
    | (go_at_call 26; ((with_reducible refine (number_any c (by omega) (by omega) _).mono ?_); rintro e w4 ⟨rfl, hb4⟩; have hz4 := hb4.size; have hx4 := fun o => hb4.cell (p := ⟨w.heap.size, o, none⟩) (by show w.heap.size < _; omega)))
    | (go_at_call 26; ((with_reducible refine (number_any n (by omega) (by omega) _).mono ?_); rintro e w5 ⟨rfl, hb5⟩; have hz5 := hb5.size; have hx5 := fun o => hb5.cell (p := ⟨w.heap.size, o, none⟩) (by show w.heap.size < _; omega))))
  go_ret
  refine ⟨?_, ?_⟩
  · show Ending.returned (.string _) = _
    rw [HT.out]
    refine congrArg (fun b => Ending.returned (.string b)) (ByteArray.ext ?_)
    simp [rt, nt, nmS, numS]
  · exact below_next (below_next (below_next (below_next (below_next (below_box _ _ _) hb1) hb2) hb3) hb4) hb5
theorem rtext_yes (op a b c n : Int) (h : F op a b c n = true) (w : World) :
    Calls Tryd.prog 19 #[.agg #[.int .i64 op, .int .i64 a, .int .i64 b, .int .i64 c, .int .i64 n]] w fun e w' => e = .returned (.string (txt op a b c n)) ∧ Below w.heap.size w w' := by
  rcases U_cases op with hu | hu | hu | hu <;> cases hi : I op
  · exact rtext_0_0 op a b c n h hu hi w
  · exact rtext_0_1 op a b c n h hu hi w
  · exact rtext_1_0 op a b c n h hu hi w
  · exact rtext_1_1 op a b c n h hu hi w
  · exact rtext_3_0 op a b c n h hu hi w
  · exact rtext_3_1 op a b c n h hu hi w
  · exact rtext_7_0 op a b c n h hu hi w
  · exact rtext_7_1 op a b c n h hu hi w
theorem rtext_no (op a b c n : Int) (h : F op a b c n = false) (w : World) :
    Calls Tryd.prog 19 #[.agg #[.int .i64 op, .int .i64 a, .int .i64 b, .int .i64 c, .int .i64 n]] w fun e w' => e = .returned (.string ⟨#[]⟩) ∧ Below w.heap.size w w' := by
  have h := Lib.hid h
  go_enter Tryd.func19, Tryd.ntmps19
  go_wp2_with (go_at_call 14; refine (rencode_no _ _ _ _ _ h.out _).mono ?_; rintro e w1 ⟨rfl, hb1⟩; obtain ⟨hc1, hf1⟩ := bcell hb1)
  go_ret
  exact ⟨rfl, below_next (below_box _ _ _) hb1⟩

theorem num_any (e : Int) (w : World) : Calls Tryd.prog 15 #[.int .i64 e] w fun x w' => x = .returned (.int .i64 e) ∧ w = w' := by
  go_enter Tryd.func15, Tryd.ntmps15
  go_wp2
  go_ret
  exact ⟨rfl, rfl⟩
theorem awake_any (w : World) (ht : Tab w) : Calls Tryd.prog 12 #[] w fun e w' => e = .returned (.bool true) ∧ Below w.heap.size w w' := by
  have hF := Lib.hid (show F 3 3 0 0 (-1) = true by decide +kernel)
  have hW : W 3 3 0 0 (-1) = 229683585290862591 := by decide +kernel
  have hX : txt 3 3 0 0 (-1) = ⟨#[99, 111, 110, 115, 116, 32, 114, 51, 32, 45, 49]⟩ := by
    unfold txt T rt nt itoa
    rw [decDigits.eq_def, decDigits.eq_def]
    decide +kernel
  have ht := Lib.hid ht
  go_enter Tryd.func12, Tryd.ntmps12
  go_wp2_with (first
    | (go_at_call 13; refine (encode_yes _ _ _ _ _ hF.out _).mono ?_; rintro e w1 ⟨rfl, hb1⟩)
    | (go_at_call 18; refine (text_yes _ _ _ _ _ hF.out _ (tab_below ht.out hb1)).mono ?_; rintro e w2 ⟨rfl, hb2⟩)
    | (go_at_call 15; refine (num_any _ _).mono ?_; rintro e w' ⟨rfl, rfl⟩))
  go_ret
  exact ⟨rfl, below_next hb1 hb2⟩

end Go.Proofs.YtfdmoafncbjonaaDoor
