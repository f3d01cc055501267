/-
  What a word says, in the program and in the document's reading: walks.
-/
import Derived.Test.YtikgghioneiegaaIsaC
import Derived.WalkKit
import Derived.Lib.Hide
import Derived.Outline
import Derived.Laws.NewBlocks
namespace Go.Proofs.Ytikgghioneiegaa
open Go.RowKit
set_option linter.unusedVariables false

theorem below_next' {w w1 w2 : World} (h : Below w.heap.size w w1) (k : Below w1.heap.size w1 w2) : Below w.heap.size w w2 := h.trans (k.mono h.size)
/-- What Decode answers for a word that says something, and for one that does not. -/
def says (v : Int) : Value := .tuple #[.agg #[.int .i64 (dO v), .int .i64 (dA v), .int .i64 (dB v), .int .i64 (dC v), .int .i64 (dN v)], .int .i64 0]
def mute : Value := .tuple #[.agg #[.int .i64 0, .int .i64 0, .int .i64 0, .int .i64 0, .int .i64 0], .int .i64 4]
theorem wrap_i32' (n : Int) : IntKind.i32.wrap (n % 4294967296) = (n % 4294967296 + 2147483648) % 4294967296 - 2147483648 := IntKind.wrap_i32 _
theorem below_box2 (w : World) (c c' : Array Value) (t t' : TypeId) : Below w.heap.size w ((w.alloc (.cells c t)).alloc (.cells c' t')) := ((Below.refl _ _).alloc (Nat.le_refl _) _).alloc (by simp) _
theorem below_five {B b : Nat} {w w1 : World} (h : Below B w w1) (hb : B ≤ b) (v0 v1 v2 v3 v4 : Value) : Below B w (((((w1.setCell ⟨b, 0, none⟩ v0).setCell ⟨b, 1, none⟩ v1).setCell ⟨b, 2, none⟩ v2).setCell ⟨b, 3, none⟩ v3).setCell ⟨b, 4, none⟩ v4) :=
  ((((h.setCell (p := ⟨b, 0, none⟩) hb _).setCell (p := ⟨b, 1, none⟩) hb _).setCell (p := ⟨b, 2, none⟩) hb _).setCell (p := ⟨b, 3, none⟩) hb _).setCell (p := ⟨b, 4, none⟩) hb _
theorem two_boxes {w w1 : World} {c c' : Array Value} {t t' : TypeId} (hb : Below ((w.alloc (.cells c t)).alloc (.cells c' t')).heap.size ((w.alloc (.cells c t)).alloc (.cells c' t')) w1) :
    (∀ i v, c[i]? = some v → w1.cell? ⟨w.heap.size, i, none⟩ = some v) ∧ (∀ i v, c'[i]? = some v → w1.cell? ⟨w.heap.size + 1, i, none⟩ = some v) ∧ (∀ i, w1.frozen? ⟨w.heap.size, i, none⟩ = false) ∧ w.heap.size + 2 ≤ w1.heap.size := by
  refine ⟨fun i v h => ?_, fun i v h => ?_, fun i => ?_, by have := hb.size; simpa using this⟩
  · rw [hb.cell (p := ⟨w.heap.size, i, none⟩) (by simp; omega)]
    rw [World.cell?_of_block (w := w.alloc (.cells c t)) (Below.heap_alloc _ _ _ (by simp)), World.cell?_alloc_at _ _ _ _ rfl]
    exact h
  · rw [hb.cell (p := ⟨w.heap.size + 1, i, none⟩) (by simp), World.cell?_alloc_at _ _ _ _ (by simp)]
    exact h
  · rw [hb.frozen (p := ⟨w.heap.size, i, none⟩) (by simp; omega)]
    rw [World.frozen?_of_block (w := w.alloc (.cells c t)) (Below.heap_alloc _ _ _ (by simp)), World.frozen?_alloc_at _ _ _ _ rfl]

theorem decode_neg (v : Int) (h0 : -9223372036854775808 ≤ v) (h1 : v < 0) (w : World) :
    Calls Try.prog 40 #[.int .i64 v] w fun e w' => e = .returned mute ∧ Below w.heap.size w w' := by
  have hw : IntKind.u64.wrap v = v + 18446744073709551616 := by rw [IntKind.wrap_u64]; omega
  obtain ⟨u, hu⟩ : ∃ u, u = v + 18446744073709551616 := ⟨_, rfl⟩
  rw [← hu] at hw
  have u0 : 9223372036854775808 ≤ u := by omega
  have u1 : u ≤ 18446744073709551615 := by omega
  clear hu
  have HF := Lib.hid (show F (u / 72057594037927936) (u / 4503599627370496 % 16) (u / 281474976710656 % 16) (u / 17592186044416 % 16) ((u + 2147483648) % 4294967296 - 2147483648) = false from F_big (by omega))
  have ha := u64_and15
  have hb := u64_and32
  have hn := wrap_i32'
  go_enter Try.func40, Try.ntmps40
  go_wp2_with fail
  refine (encode_no _ _ _ _ _ HF.out _).mono ?_
  rintro e w1 ⟨rfl, hb1⟩
  obtain ⟨hx1, hx2, hf1, hz1⟩ := two_boxes hb1
  have HB : Below w.heap.size w w1 := below_next' (below_box2 _ _ _ _ _) hb1
  clear hb1
  have c0 := hx1 0 _ rfl
  have c1 := hx1 1 _ rfl
  have c2 := hx1 2 _ rfl
  have c3 := hx1 3 _ rfl
  have c4 := hx1 4 _ rfl
  have d0 := hx2 0 _ rfl
  have d1 := hx2 1 _ rfl
  have d2 := hx2 2 _ rfl
  have d3 := hx2 3 _ rfl
  have d4 := hx2 4 _ rfl
  clear hx1 hx2
  go_wp2
  exact bodyPost_ret (v := mute) (by simp [results, Try.results40, mute, go_sem, c0, c1, c2, c3, c4]) rfl ⟨rfl, below_five HB (Nat.le_refl _) _ _ _ _ _⟩

theorem decode_no (v : Int) (h0 : 0 ≤ v) (h1 : v ≤ 9223372036854775807) (hF : F (v / 72057594037927936) (v / 4503599627370496 % 16) (v / 281474976710656 % 16) (v / 17592186044416 % 16) ((v + 2147483648) % 4294967296 - 2147483648) = false) (w : World) :
    Calls Try.prog 40 #[.int .i64 v] w fun e w' => e = .returned mute ∧ Below w.heap.size w w' := by
  have HF := Lib.hid hF
  clear hF
  have ha := u64_and15
  have hb := u64_and32
  have hn := wrap_i32'
  go_enter Try.func40, Try.ntmps40
  go_wp2_with fail
  refine (encode_no _ _ _ _ _ HF.out _).mono ?_
  rintro e w1 ⟨rfl, hb1⟩
  obtain ⟨hx1, hx2, hf1, hz1⟩ := two_boxes hb1
  have HB : Below w.heap.size w w1 := below_next' (below_box2 _ _ _ _ _) hb1
  clear hb1
  have c0 := hx1 0 _ rfl
  have c1 := hx1 1 _ rfl
  have c2 := hx1 2 _ rfl
  have c3 := hx1 3 _ rfl
  have c4 := hx1 4 _ rfl
  have d0 := hx2 0 _ rfl
  have d1 := hx2 1 _ rfl
  have d2 := hx2 2 _ rfl
  have d3 := hx2 3 _ rfl
  have d4 := hx2 4 _ rfl
  clear hx1 hx2
  go_wp2
  exact bodyPost_ret (v := mute) (by simp [results, Try.results40, mute, go_sem, c0, c1, c2, c3, c4]) rfl ⟨rfl, below_five HB (Nat.le_refl _) _ _ _ _ _⟩

theorem decode_other (v : Int) (h0 : 0 ≤ v) (h1 : v ≤ 9223372036854775807) (hF : F (v / 72057594037927936) (v / 4503599627370496 % 16) (v / 281474976710656 % 16) (v / 17592186044416 % 16) ((v + 2147483648) % 4294967296 - 2147483648) = true) (hW : (W (v / 72057594037927936) (v / 4503599627370496 % 16) (v / 281474976710656 % 16) (v / 17592186044416 % 16) ((v + 2147483648) % 4294967296 - 2147483648) != v) = true) (w : World) :
    Calls Try.prog 40 #[.int .i64 v] w fun e w' => e = .returned mute ∧ Below w.heap.size w w' := by
  have HF := Lib.hid hF
  clear hF
  have ha := u64_and15
  have hb := u64_and32
  have hn := wrap_i32'
  go_enter Try.func40, Try.ntmps40
  go_wp2_with fail
  refine (encode_yes _ _ _ _ _ HF.out _).mono ?_
  rintro e w1 ⟨rfl, hb1⟩
  obtain ⟨hx1, hx2, hf1, hz1⟩ := two_boxes hb1
  have HB : Below w.heap.size w w1 := below_next' (below_box2 _ _ _ _ _) hb1
  clear hb1
  have c0 := hx1 0 _ rfl
  have c1 := hx1 1 _ rfl
  have c2 := hx1 2 _ rfl
  have c3 := hx1 3 _ rfl
  have c4 := hx1 4 _ rfl
  have d0 := hx2 0 _ rfl
  have d1 := hx2 1 _ rfl
  have d2 := hx2 2 _ rfl
  have d3 := hx2 3 _ rfl
  have d4 := hx2 4 _ rfl
  clear hx1 hx2
  go_wp2
  exact bodyPost_ret (v := mute) (by simp [results, Try.results40, mute, go_sem, c0, c1, c2, c3, c4]) rfl ⟨rfl, below_five HB (Nat.le_refl _) _ _ _ _ _⟩

theorem decode_yes (v : Int) (h0 : 0 ≤ v) (h1 : v ≤ 9223372036854775807) (hF : F (v / 72057594037927936) (v / 4503599627370496 % 16) (v / 281474976710656 % 16) (v / 17592186044416 % 16) ((v + 2147483648) % 4294967296 - 2147483648) = true) (hW : (W (v / 72057594037927936) (v / 4503599627370496 % 16) (v / 281474976710656 % 16) (v / 17592186044416 % 16) ((v + 2147483648) % 4294967296 - 2147483648) != v) = false) (w : World) :
    Calls Try.prog 40 #[.int .i64 v] w fun e w' => e = .returned (says v) ∧ Below w.heap.size w w' := by
  have HF := Lib.hid hF
  clear hF
  have ha := u64_and15
  have hb := u64_and32
  have hn := wrap_i32'
  go_enter Try.func40, Try.ntmps40
  go_wp2_with fail
  refine (encode_yes _ _ _ _ _ HF.out _).mono ?_
  rintro e w1 ⟨rfl, hb1⟩
  obtain ⟨hx1, hx2, hf1, hz1⟩ := two_boxes hb1
  have HB : Below w.heap.size w w1 := below_next' (below_box2 _ _ _ _ _) hb1
  clear hb1
  have c0 := hx1 0 _ rfl
  have c1 := hx1 1 _ rfl
  have c2 := hx1 2 _ rfl
  have c3 := hx1 3 _ rfl
  have c4 := hx1 4 _ rfl
  have d0 := hx2 0 _ rfl
  have d1 := hx2 1 _ rfl
  have d2 := hx2 2 _ rfl
  have d3 := hx2 3 _ rfl
  have d4 := hx2 4 _ rfl
  clear hx1 hx2
  go_wp2
  exact bodyPost_ret (v := (says v)) (by simp [results, Try.results40, says, dO, dA, dB, dC, dN, go_sem, c0, c1, c2, c3, c4]) rfl ⟨rfl, below_five HB (Nat.le_refl _) _ _ _ _ _⟩

def saysN (v n : Int) : Value := .tuple #[.agg #[.int .i64 (v / 72057594037927936), .int .i64 (v / 4503599627370496 % 16), .int .i64 (v / 281474976710656 % 16), .int .i64 (v / 17592186044416 % 16), .int .i64 n], .int .i64 0]
theorem dN_lo {v : Int} (h : v % 4294967296 ≤ 2147483647) : v % 4294967296 = dN v := by unfold dN; omega
theorem dN_hi {v : Int} (h : 2147483647 < v % 4294967296) : v % 4294967296 - 4294967296 = dN v := by unfold dN; omega

theorem rdecode_neg (v : Int) (h0 : -9223372036854775808 ≤ v) (h1 : v < 0) (w : World) :
    Calls Try.prog 35 #[.int .i64 v] w fun e w' => e = .returned mute ∧ Below w.heap.size w w' := by
  have hd : decide (v < 0) = true := by simpa using h1
  go_enter Try.func35, Try.ntmps35
  go_wp2
  exact bodyPost_ret (v := mute) (by simp [results, Try.results35, mute, go_sem]) rfl ⟨rfl, (Below.refl _ _).alloc (Nat.le_refl _) _⟩

theorem rdecode_no_lo (v : Int) (h0 : 0 ≤ v) (h1 : v ≤ 9223372036854775807) (hd : decide (2147483647 < v % 4294967296) = false) (hF : F (v / 72057594037927936) (v / 4503599627370496 % 16) (v / 281474976710656 % 16) (v / 17592186044416 % 16) (v % 4294967296) = false) (w : World) :
    Calls Try.prog 35 #[.int .i64 v] w fun e w' => e = .returned mute ∧ Below w.heap.size w w' := by
  have q1 : v / 17592186044416 / 4096 = v / 72057594037927936 := by omega
  have q2 : v / 17592186044416 / 256 % 16 = v / 4503599627370496 % 16 := by omega
  have q3 : v / 17592186044416 / 16 % 16 = v / 281474976710656 % 16 := by omega
  have HF := Lib.hid hF
  clear hF
  go_enter Try.func35, Try.ntmps35
  go_wp2_with fail
  refine (rencode_no _ _ _ _ _ HF.out _).mono ?_
  rintro e w1 ⟨rfl, hb1⟩
  obtain ⟨hx1, hx2, hf1, hz1⟩ := two_boxes hb1
  have HB : Below w.heap.size w w1 := below_next' (below_box2 _ _ _ _ _) hb1
  clear hb1
  have c0 := hx1 0 _ rfl
  have c1 := hx1 1 _ rfl
  have c2 := hx1 2 _ rfl
  have c3 := hx1 3 _ rfl
  have c4 := hx1 4 _ rfl
  have d0 := hx2 0 _ rfl
  have d1 := hx2 1 _ rfl
  have d2 := hx2 2 _ rfl
  have d3 := hx2 3 _ rfl
  have d4 := hx2 4 _ rfl
  clear hx1 hx2
  go_wp2
  exact bodyPost_ret (v := mute) (by simp [results, Try.results35, mute, go_sem, c0, c1, c2, c3, c4]) rfl ⟨rfl, below_five HB (Nat.le_refl _) _ _ _ _ _⟩

theorem rdecode_other_lo (v : Int) (h0 : 0 ≤ v) (h1 : v ≤ 9223372036854775807) (hd : decide (2147483647 < v % 4294967296) = false) (hF : F (v / 72057594037927936) (v / 4503599627370496 % 16) (v / 281474976710656 % 16) (v / 17592186044416 % 16) (v % 4294967296) = true) (hW : (W (v / 72057594037927936) (v / 4503599627370496 % 16) (v / 281474976710656 % 16) (v / 17592186044416 % 16) (v % 4294967296) != v) = true) (w : World) :
    Calls Try.prog 35 #[.int .i64 v] w fun e w' => e = .returned mute ∧ Below w.heap.size w w' := by
  have q1 : v / 17592186044416 / 4096 = v / 72057594037927936 := by omega
  have q2 : v / 17592186044416 / 256 % 16 = v / 4503599627370496 % 16 := by omega
  have q3 : v / 17592186044416 / 16 % 16 = v / 281474976710656 % 16 := by omega
  have HF := Lib.hid hF
  clear hF
  go_enter Try.func35, Try.ntmps35
  go_wp2_with fail
  refine (rencode_yes _ _ _ _ _ HF.out _).mono ?_
  rintro e w1 ⟨rfl, hb1⟩
  obtain ⟨hx1, hx2, hf1, hz1⟩ := two_boxes hb1
  have HB : Below w.heap.size w w1 := below_next' (below_box2 _ _ _ _ _) hb1
  clear hb1
  have c0 := hx1 0 _ rfl
  have c1 := hx1 1 _ rfl
  have c2 := hx1 2 _ rfl
  have c3 := hx1 3 _ rfl
  have c4 := hx1 4 _ rfl
  have d0 := hx2 0 _ rfl
  have d1 := hx2 1 _ rfl
  have d2 := hx2 2 _ rfl
  have d3 := hx2 3 _ rfl
  have d4 := hx2 4 _ rfl
  clear hx1 hx2
  go_wp2
  exact bodyPost_ret (v := mute) (by simp [results, Try.results35, mute, go_sem, c0, c1, c2, c3, c4]) rfl ⟨rfl, below_five HB (Nat.le_refl _) _ _ _ _ _⟩

theorem rdecode_yes_lo (v : Int) (h0 : 0 ≤ v) (h1 : v ≤ 9223372036854775807) (hd : decide (2147483647 < v % 4294967296) = false) (hF : F (v / 72057594037927936) (v / 4503599627370496 % 16) (v / 281474976710656 % 16) (v / 17592186044416 % 16) (v % 4294967296) = true) (hW : (W (v / 72057594037927936) (v / 4503599627370496 % 16) (v / 281474976710656 % 16) (v / 17592186044416 % 16) (v % 4294967296) != v) = false) (w : World) :
    Calls Try.prog 35 #[.int .i64 v] w fun e w' => e = .returned (saysN v (v % 4294967296)) ∧ Below w.heap.size w w' := by
  have q1 : v / 17592186044416 / 4096 = v / 72057594037927936 := by omega
  have q2 : v / 17592186044416 / 256 % 16 = v / 4503599627370496 % 16 := by omega
  have q3 : v / 17592186044416 / 16 % 16 = v / 281474976710656 % 16 := by omega
  have HF := Lib.hid hF
  clear hF
  go_enter Try.func35, Try.ntmps35
  go_wp2_with fail
  refine (rencode_yes _ _ _ _ _ HF.out _).mono ?_
  rintro e w1 ⟨rfl, hb1⟩
  obtain ⟨hx1, hx2, hf1, hz1⟩ := two_boxes hb1
  have HB : Below w.heap.size w w1 := below_next' (below_box2 _ _ _ _ _) hb1
  clear hb1
  have c0 := hx1 0 _ rfl
  have c1 := hx1 1 _ rfl
  have c2 := hx1 2 _ rfl
  have c3 := hx1 3 _ rfl
  have c4 := hx1 4 _ rfl
  have d0 := hx2 0 _ rfl
  have d1 := hx2 1 _ rfl
  have d2 := hx2 2 _ rfl
  have d3 := hx2 3 _ rfl
  have d4 := hx2 4 _ rfl
  clear hx1 hx2
  go_wp2
  exact bodyPost_ret (v := (saysN v (v % 4294967296))) (by simp [results, Try.results35, saysN, go_sem, c0, c1, c2, c3, c4]) rfl ⟨rfl, below_five HB (Nat.le_refl _) _ _ _ _ _⟩

theorem rdecode_no_hi (v : Int) (h0 : 0 ≤ v) (h1 : v ≤ 9223372036854775807) (hd : decide (2147483647 < v % 4294967296) = true) (hF : F (v / 72057594037927936) (v / 4503599627370496 % 16) (v / 281474976710656 % 16) (v / 17592186044416 % 16) (v % 4294967296 - 4294967296) = false) (w : World) :
    Calls Try.prog 35 #[.int .i64 v] w fun e w' => e = .returned mute ∧ Below w.heap.size w w' := by
  have q1 : v / 17592186044416 / 4096 = v / 72057594037927936 := by omega
  have q2 : v / 17592186044416 / 256 % 16 = v / 4503599627370496 % 16 := by omega
  have q3 : v / 17592186044416 / 16 % 16 = v / 281474976710656 % 16 := by omega
  have HF := Lib.hid hF
  clear hF
  go_enter Try.func35, Try.ntmps35
  go_wp2_with fail
  refine (rencode_no _ _ _ _ _ HF.out _).mono ?_
  rintro e w1 ⟨rfl, hb1⟩
  obtain ⟨hx1, hx2, hf1, hz1⟩ := two_boxes hb1
  have HB : Below w.heap.size w w1 := below_next' (below_box2 _ _ _ _ _) hb1
  clear hb1
  have c0 := hx1 0 _ rfl
  have c1 := hx1 1 _ rfl
  have c2 := hx1 2 _ rfl
  have c3 := hx1 3 _ rfl
  have c4 := hx1 4 _ rfl
  have d0 := hx2 0 _ rfl
  have d1 := hx2 1 _ rfl
  have d2 := hx2 2 _ rfl
  have d3 := hx2 3 _ rfl
  have d4 := hx2 4 _ rfl
  clear hx1 hx2
  go_wp2
  exact bodyPost_ret (v := mute) (by simp [results, Try.results35, mute, go_sem, c0, c1, c2, c3, c4]) rfl ⟨rfl, below_five HB (Nat.le_refl _) _ _ _ _ _⟩

theorem rdecode_other_hi (v : Int) (h0 : 0 ≤ v) (h1 : v ≤ 9223372036854775807) (hd : decide (2147483647 < v % 4294967296) = true) (hF : F (v / 72057594037927936) (v / 4503599627370496 % 16) (v / 281474976710656 % 16) (v / 17592186044416 % 16) (v % 4294967296 - 4294967296) = true) (hW : (W (v / 72057594037927936) (v / 4503599627370496 % 16) (v / 281474976710656 % 16) (v / 17592186044416 % 16) (v % 4294967296 - 4294967296) != v) = true) (w : World) :
    Calls Try.prog 35 #[.int .i64 v] w fun e w' => e = .returned mute ∧ Below w.heap.size w w' := by
  have q1 : v / 17592186044416 / 4096 = v / 72057594037927936 := by omega
  have q2 : v / 17592186044416 / 256 % 16 = v / 4503599627370496 % 16 := by omega
  have q3 : v / 17592186044416 / 16 % 16 = v / 281474976710656 % 16 := by omega
  have HF := Lib.hid hF
  clear hF
  go_enter Try.func35, Try.ntmps35
  go_wp2_with fail
  refine (rencode_yes _ _ _ _ _ HF.out _).mono ?_
  rintro e w1 ⟨rfl, hb1⟩
  obtain ⟨hx1, hx2, hf1, hz1⟩ := two_boxes hb1
  have HB : Below w.heap.size w w1 := below_next' (below_box2 _ _ _ _ _) hb1
  clear hb1
  have c0 := hx1 0 _ rfl
  have c1 := hx1 1 _ rfl
  have c2 := hx1 2 _ rfl
  have c3 := hx1 3 _ rfl
  have c4 := hx1 4 _ rfl
  have d0 := hx2 0 _ rfl
  have d1 := hx2 1 _ rfl
  have d2 := hx2 2 _ rfl
  have d3 := hx2 3 _ rfl
  have d4 := hx2 4 _ rfl
  clear hx1 hx2
  go_wp2
  exact bodyPost_ret (v := mute) (by simp [results, Try.results35, mute, go_sem, c0, c1, c2, c3, c4]) rfl ⟨rfl, below_five HB (Nat.le_refl _) _ _ _ _ _⟩

theorem rdecode_yes_hi (v : Int) (h0 : 0 ≤ v) (h1 : v ≤ 9223372036854775807) (hd : decide (2147483647 < v % 4294967296) = true) (hF : F (v / 72057594037927936) (v / 4503599627370496 % 16) (v / 281474976710656 % 16) (v / 17592186044416 % 16) (v % 4294967296 - 4294967296) = true) (hW : (W (v / 72057594037927936) (v / 4503599627370496 % 16) (v / 281474976710656 % 16) (v / 17592186044416 % 16) (v % 4294967296 - 4294967296) != v) = false) (w : World) :
    Calls Try.prog 35 #[.int .i64 v] w fun e w' => e = .returned (saysN v (v % 4294967296 - 4294967296)) ∧ Below w.heap.size w w' := by
  have q1 : v / 17592186044416 / 4096 = v / 72057594037927936 := by omega
  have q2 : v / 17592186044416 / 256 % 16 = v / 4503599627370496 % 16 := by omega
  have q3 : v / 17592186044416 / 16 % 16 = v / 281474976710656 % 16 := by omega
  have HF := Lib.hid hF
  clear hF
  go_enter Try.func35, Try.ntmps35
  go_wp2_with fail
  refine (rencode_yes _ _ _ _ _ HF.out _).mono ?_
  rintro e w1 ⟨rfl, hb1⟩
  obtain ⟨hx1, hx2, hf1, hz1⟩ := two_boxes hb1
  have HB : Below w.heap.size w w1 := below_next' (below_box2 _ _ _ _ _) hb1
  clear hb1
  have c0 := hx1 0 _ rfl
  have c1 := hx1 1 _ rfl
  have c2 := hx1 2 _ rfl
  have c3 := hx1 3 _ rfl
  have c4 := hx1 4 _ rfl
  have d0 := hx2 0 _ rfl
  have d1 := hx2 1 _ rfl
  have d2 := hx2 2 _ rfl
  have d3 := hx2 3 _ rfl
  have d4 := hx2 4 _ rfl
  clear hx1 hx2
  go_wp2
  exact bodyPost_ret (v := (saysN v (v % 4294967296 - 4294967296))) (by simp [results, Try.results35, saysN, go_sem, c0, c1, c2, c3, c4]) rfl ⟨rfl, below_five HB (Nat.le_refl _) _ _ _ _ _⟩

/-- What the program's Decode answers for any word. -/
theorem decode_any (v : Int) (h0 : -9223372036854775808 ≤ v) (h1 : v ≤ 9223372036854775807) (w : World) :
    Calls Try.prog 40 #[.int .i64 v] w fun e w' => e = .returned (if G v then says v else mute) ∧ Below w.heap.size w w' := by
  by_cases hv : v < 0
  · rw [G_neg hv]
    exact decode_neg v h0 hv w
  · cases hF : F (dO v) (dA v) (dB v) (dC v) (dN v)
    · rw [show G v = false by simp [G, hF]]
      exact decode_no v (by omega) h1 hF w
    · by_cases hW : W (dO v) (dA v) (dB v) (dC v) (dN v) = v
      · rw [show G v = true by simp [G, hF, hW]]
        exact decode_yes v (by omega) h1 hF (show (W (dO v) (dA v) (dB v) (dC v) (dN v) != v) = false by simp [hW]) w
      · rw [show G v = false by simp [G, hW]]
        exact decode_other v (by omega) h1 hF (show (W (dO v) (dA v) (dB v) (dC v) (dN v) != v) = true by simp [hW]) w
/-- What the document's Decode answers for any word. -/
theorem rdecode_any (v : Int) (h0 : -9223372036854775808 ≤ v) (h1 : v ≤ 9223372036854775807) (w : World) :
    Calls Try.prog 35 #[.int .i64 v] w fun e w' => e = .returned (if G v then says v else mute) ∧ Below w.heap.size w w' := by
  by_cases hv : v < 0
  · rw [G_neg hv]
    exact rdecode_neg v h0 hv w
  · by_cases hl : v % 4294967296 ≤ 2147483647
    · have hd : decide (2147483647 < v % 4294967296) = false := by simp; omega
      have en := dN_lo hl
      cases hF : F (dO v) (dA v) (dB v) (dC v) (dN v)
      · rw [show G v = false by simp [G, hF]]
        rw [← en] at hF
        exact rdecode_no_lo v (by omega) h1 hd hF w
      · by_cases hW : W (dO v) (dA v) (dB v) (dC v) (dN v) = v
        · rw [show G v = true by simp [G, hF, hW]]
          rw [← en] at hF hW
          rw [show says v = saysN v (v % 4294967296) by rw [en]; rfl]
          exact rdecode_yes_lo v (by omega) h1 hd hF (show (W (dO v) (dA v) (dB v) (dC v) (v % 4294967296) != v) = false by simp [hW]) w
        · rw [show G v = false by simp [G, hW]]
          rw [← en] at hF hW
          exact rdecode_other_lo v (by omega) h1 hd hF (show (W (dO v) (dA v) (dB v) (dC v) (v % 4294967296) != v) = true by simp [hW]) w
    · have hd : decide (2147483647 < v % 4294967296) = true := by simp; omega
      have en := dN_hi (v := v) (by omega)
      cases hF : F (dO v) (dA v) (dB v) (dC v) (dN v)
      · rw [show G v = false by simp [G, hF]]
        rw [← en] at hF
        exact rdecode_no_hi v (by omega) h1 hd hF w
      · by_cases hW : W (dO v) (dA v) (dB v) (dC v) (dN v) = v
        · rw [show G v = true by simp [G, hF, hW]]
          rw [← en] at hF hW
          rw [show says v = saysN v (v % 4294967296 - 4294967296) by rw [en]; rfl]
          exact rdecode_yes_hi v (by omega) h1 hd hF (show (W (dO v) (dA v) (dB v) (dC v) (v % 4294967296 - 4294967296) != v) = false by simp [hW]) w
        · rw [show G v = false by simp [G, hW]]
          rw [← en] at hF hW
          exact rdecode_other_hi v (by omega) h1 hd hF (show (W (dO v) (dA v) (dB v) (dC v) (v % 4294967296 - 4294967296) != v) = true by simp [hW]) w

end Go.Proofs.Ytikgghioneiegaa
