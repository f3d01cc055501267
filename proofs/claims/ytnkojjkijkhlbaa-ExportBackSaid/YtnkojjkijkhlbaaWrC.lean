/-
  A unit without anything, encoded; the document's example; ExportSums: walks.
-/
import Derived.Test.YtnkojjkijkhlbaaWrB
namespace Go.Proofs.Ytnkojjkijkhlbaa
open Go.RowKit
set_option linter.unusedVariables false
set_option linter.unusedSimpArgs false

set_option maxRecDepth 100000 in
set_option maxHeartbeats 4000000 in
theorem unit_none (s : ByteArray) (hs0 : 0 < s.size) (w : World) (lo wb : Nat) (A : Option Addr) (c : Nat) (bs : List Int) (h : Wr w lo wb A c bs false) (hroom : bs.length + 32 + s.size ≤ 262144) :
    Calls Try.prog 22 #[.pointer (some ⟨wb, 0, none⟩), .agg #[.string s, .slice none 0 0, .slice none 0 0, .slice none 0 0]] w (WP lo wb (Value.slice A bs.length c).ownBlock (bs ++ le8 s.size ++ sB s ++ le8 0 ++ le8 0 ++ le8 0) w) := by
  have hb : Below w.heap.size w (w.alloc (.cells #[.string s, .slice none 0 0, .slice none 0 0, .slice none 0 0] 26)) := (Below.refl _ _).alloc (Nat.le_refl _) _
  have h0 := h.bel hb
  have H0 := Lib.hid h0
  have HT := Lib.hid (text_some s hs0 _ lo wb A c bs h0 (by omega))
  have l8 : ∀ v : Int, (le8 v).length = 8 := fun v => bytesTo_len v 8
  have l1 : (bs ++ le8 (s.size : Int) ++ sB s).length = bs.length + 8 + s.size := by rw [List.length_append, List.length_append, l8, sB_len]
  obtain ⟨b1, hb1⟩ : ∃ b, bs ++ le8 (s.size : Int) ++ sB s = b := ⟨_, rfl⟩
  rw [hb1] at HT l1 ⊢
  have l2 : (b1 ++ le8 0).length = b1.length + 8 := by rw [List.length_append, l8]
  have l3 : (b1 ++ le8 0 ++ le8 0).length = b1.length + 16 := by rw [List.length_append, List.length_append, l8]
  have HI := Lib.hid (fun w' A' c' (h' : Wr w' lo wb A' c' b1 false) fv => put_imp w' lo wb A' c' b1 h' (by omega) fv)
  have HD := Lib.hid (fun w' A' c' (h' : Wr w' lo wb A' c' (b1 ++ le8 0) false) fv => put_decl w' lo wb A' c' _ h' (by omega) fv)
  have HF := Lib.hid (fun w' A' c' (h' : Wr w' lo wb A' c' (b1 ++ le8 0 ++ le8 0) false) fv => put_func w' lo wb A' c' _ h' (by omega) fv)
  have HB0 := Lib.hid (Blk.new w 26 #[.string s, .slice none 0 0, .slice none 0 0, .slice none 0 0])
  have HX0 := Lib.hid (show ¬ (fun x => x = wb ∨ (Value.slice A bs.length c).ownBlock = some x) w.heap.size from fun e => by
    rcases e with e | e
    · have := h.blk.lt; omega
    · have := h.old e; omega)
  have HBB := Lib.hid (WrN.of_below wb (Value.slice A bs.length c).ownBlock hb)
  clear h0 hb hb1 l1 l2 l3 l8 h
  go_enter Try.func22, Try.ntmps22
  go_wp2_with (first
    | (go_at_call 44; ((with_reducible refine (HT.out).mono ?_); rintro e w1 ⟨⟨x1, rfl⟩, A1, c1, hw1, hn1⟩); have HW1 := Lib.hid hw1; have HN1 := Lib.hid (hn1); have hx1 := HN1.out.gr.blk HB0.out HX0.out; have y10 := hx1.cell 0; have y11 := hx1.cell 1; have y12 := hx1.cell 2; have y13 := hx1.cell 3; have yl1 := hx1.lt; clear hw1 hn1 hx1)
    | (go_at_call 45; ((with_reducible refine (HI.out _ _ _ HW1.out _).mono ?_); rintro e w2 ⟨⟨x2, rfl⟩, A2, c2, hw2, hn2⟩); have HW2 := Lib.hid hw2; have HN2 := Lib.hid (HN1.out.trans hn2); have hx2 := HN2.out.gr.blk HB0.out HX0.out; have y20 := hx2.cell 0; have y21 := hx2.cell 1; have y22 := hx2.cell 2; have y23 := hx2.cell 3; have yl2 := hx2.lt; clear hw2 hn2 hx2)
    | (go_at_call 47; ((with_reducible refine (HD.out _ _ _ HW2.out _).mono ?_); rintro e w3 ⟨⟨x3, rfl⟩, A3, c3, hw3, hn3⟩); have HW3 := Lib.hid hw3; have HN3 := Lib.hid (HN2.out.trans hn3); have hx3 := HN3.out.gr.blk HB0.out HX0.out; have y30 := hx3.cell 0; have y31 := hx3.cell 1; have y32 := hx3.cell 2; have y33 := hx3.cell 3; have yl3 := hx3.lt; clear hw3 hn3 hx3)
    | (go_at_call 49; ((with_reducible refine (HF.out _ _ _ HW3.out _).mono ?_); rintro e w4 ⟨⟨x4, rfl⟩, A4, c4, hw4, hn4⟩); have HW4 := Lib.hid hw4; have HN4 := Lib.hid (HN3.out.trans hn4); have hx4 := HN4.out.gr.blk HB0.out HX0.out; have y40 := hx4.cell 0; have y41 := hx4.cell 1; have y42 := hx4.cell 2; have y43 := hx4.cell 3; have yl4 := hx4.lt; clear hw4 hn4 hx4))
  refine bodyPost_end (results_none rfl _ _ _) rfl ?_
  exact ⟨⟨_, rfl⟩, A4, c4, HW4.out, HBB.out.trans HN4.out⟩
def markB : List Int := [77, 85, 49, 10]
def noneB (s : ByteArray) : List Int := markB ++ le8 s.size ++ sB s ++ le8 0 ++ le8 0 ++ le8 0
theorem noneB_len (s : ByteArray) : (noneB s).length = 36 + s.size := by
  have l8 : ∀ v : Int, (le8 v).length = 8 := fun v => bytesTo_len v 8
  have lm : markB.length = 4 := rfl
  unfold noneB
  simp only [List.length_append, l8, sB_len, lm]
  omega
theorem wr_mark (w1 : World) (lo : Nat) (hlo : lo ≤ w1.heap.size) : Wr ((w1.alloc (.cells #[.slice (some ⟨w1.heap.size + 1, 0, none⟩) 4 4, .bool false] 52)).alloc (.cells #[.int .u8 77, .int .u8 85, .int .u8 49, .int .u8 10] 5 (4, 5))) lo w1.heap.size (some ⟨w1.heap.size + 1, 0, none⟩) 4 markB false := by
  refine ⟨(Blk.new w1 _ _).alloc _, .inr ⟨w1.heap.size + 1, _, (4, 5), rfl, by omega, ?_, rfl, rfl, by decide⟩, by simp; omega, ?_, by decide⟩
  · have := heap_alloc_new (w1.alloc (.cells #[.slice (some ⟨w1.heap.size + 1, 0, none⟩) 4 4, .bool false] 52)) (.cells #[.int .u8 77, .int .u8 85, .int .u8 49, .int .u8 10] 5 (4, 5))
    rw [show (w1.alloc (.cells #[.slice (some ⟨w1.heap.size + 1, 0, none⟩) 4 4, .bool false] 52)).heap.size = w1.heap.size + 1 by simp] at this
    exact this
  · intro x hx
    simp only [markB, List.mem_cons, List.not_mem_nil, or_false] at hx
    rcases hx with rfl | rfl | rfl | rfl <;> omega
theorem Wr.slB {w : World} {lo wb : Nat} {A : Option Addr} {c : Nat} {bs : List Int} {lg : Bool} (h : Wr w lo wb A c bs lg) : SlB w w.heap.size A bs := ⟨h.by_, by
  rcases h.own with ho | ⟨g, cs, fr, e, _, hh, h1, h2, _⟩
  · exact Reads.of_own ho
  · have hA : A = some ⟨g, 0, none⟩ := by injection e
    subst hA
    have hlt : g < w.heap.size := by
      rcases Nat.lt_or_ge g w.heap.size with h3 | h3
      · exact h3
      · rw [Array.getElem?_eq_none h3] at hh; cases hh
    refine ⟨by rw [h2, Nat.mul_one], fun _ => ⟨_, rfl, hlt, fun j u hu => ?_⟩⟩
    rw [add0]
    exact (cell_of_row w g j cs 5 fr hh).trans (by rw [← Array.getElem?_toList, h1]; exact hu)⟩
set_option maxRecDepth 100000 in
set_option maxHeartbeats 4000000 in
theorem encode_none (s : ByteArray) (hs0 : 0 < s.size) (hs : s.size ≤ 1000) (w : World) :
    Calls Try.prog 11 #[.agg #[.string s, .slice none 0 0, .slice none 0 0, .slice none 0 0]] w fun e w' => (∃ A c, e = .returned (.tuple #[.slice A (44 + s.size) c, .int .i64 0]) ∧ SlB w' w'.heap.size A (noneB s ++ le8 (sumP (noneB s)))) ∧ Below w.heap.size w w' := by
  have hb : Below w.heap.size w (w.alloc (.cells #[.string s, .slice none 0 0, .slice none 0 0, .slice none 0 0] 26)) := (Below.refl _ _).alloc (Nat.le_refl _) _
  have HB := Lib.hid hb
  have HBX := Lib.hid (Blk.new w 26 #[.string s, .slice none 0 0, .slice none 0 0, .slice none 0 0])
  have HD := Lib.hid (deep_none s (w.alloc (.cells #[.string s, .slice none 0 0, .slice none 0 0, .slice none 0 0] 26)))
  have hnl := noneB_len s
  have HNL := Lib.hid hnl
  have HU := Lib.hid (fun w' wb A c (h : Wr w' w.heap.size wb A c markB false) => (show Calls Try.prog 22 #[.pointer (some ⟨wb, 0, none⟩), .agg #[.string s, .slice none 0 0, .slice none 0 0, .slice none 0 0]] w' (WP w.heap.size wb (Value.slice A 4 c).ownBlock (noneB s) w') from unit_none s hs0 w' w.heap.size wb A c markB h (by show 4 + 32 + s.size ≤ 262144; omega)))
  have HS := Lib.hid (fun w' B A c (h : SlB w' B A (noneB s)) => sum_any w' B A c (noneB s) h (by omega))
  have HW := Lib.hid (fun w' wb A c (h : Wr w' w.heap.size wb A c (noneB s) false) => word_some (sumP (noneB s)) w' w.heap.size wb A c (noneB s) h (by omega))
  have hl2 : (noneB s ++ le8 (sumP (noneB s))).length = 44 + s.size := by rw [List.length_append, hnl]; unfold le8; rw [bytesTo_len]; omega
  have HL2 := Lib.hid hl2
  have kc := fun (w : World) (C : Array Value) (n c : Nat) => Lib.run_convert_bytes_const (P := Try.prog) w 29 5 C n c Try.underlying29 Try.underlying5
  have kc2 := fun (w : World) (C D : Array Value) (t : TypeId) (n c : Nat) => (show (convert 29 29 (.slice (some ⟨w.heap.size + 1, 0, none⟩) n c)).run Try.prog ((w.alloc (.cells D t)).alloc (.cells C 5)) = .ok (.slice (some ⟨w.heap.size + 1, 0, none⟩) n c) ((w.alloc (.cells D t)).alloc (.cells C 5 (C.size, C.size + 1))) from by have := kc (w.alloc (.cells D t)) C n c; rw [show (w.alloc (.cells D t)).heap.size = w.heap.size + 1 by simp] at this; exact this)
  clear hb hnl hl2
  go_enter Try.func11, Try.ntmps11
  go_wp2_with (first
    | (go_at_call 21; ((with_reducible refine HD.out.mono ?_); rintro e w1 ⟨rfl, hb1⟩); have hx1 := HBX.out.bel2 hb1; have y0 := hx1.cell 0; have y1 := hx1.cell 1; have y2 := hx1.cell 2; have y3 := hx1.cell 3; have yl := hx1.lt; have hB1 := HB.out.trans (hb1.mono HB.out.size); have HB1 := Lib.hid hB1; have hW2 : Wr ((w1.alloc (.cells #[.slice (some ⟨w1.heap.size + 1, 0, none⟩) 4 4, .bool false] 52)).alloc (.cells #[.int .u8 77, .int .u8 85, .int .u8 49, .int .u8 10] 5 (4, 5))) w.heap.size w1.heap.size (some ⟨w1.heap.size + 1, 0, none⟩) 4 markB false := wr_mark w1 w.heap.size hB1.size; have HW2 := Lib.hid hW2; have HB2 := Lib.hid (show Below w.heap.size w ((w1.alloc (.cells #[.slice (some ⟨w1.heap.size + 1, 0, none⟩) 4 4, .bool false] 52)).alloc (.cells #[.int .u8 77, .int .u8 85, .int .u8 49, .int .u8 10] 5 (4, 5))) from (hB1.alloc hB1.size _).alloc (by have := hB1.size; simp; omega) _); clear hx1 hb1 hB1 hW2)
    | (go_at_call 22; ((with_reducible refine (HU.out _ _ _ _ HW2.out).mono ?_); rintro e w3 ⟨⟨x3, rfl⟩, A3, c3, hw3, hn3⟩); have z0 := hw3.blk.cell 0; have z1 := hw3.blk.cell 1; have zl := hw3.blk.lt; have HW3 := Lib.hid hw3; have HN3 := Lib.hid hn3; have HS3 := Lib.hid hw3.slB; clear hw3 hn3)
    | (go_at_call 16; ((with_reducible refine (HS.out _ _ _ _ HS3.out).mono ?_); rintro e w9 ⟨rfl, rfl⟩))
    | (go_at_call 23; ((with_reducible refine (HW.out _ _ _ _ HW3.out).mono ?_); rintro e w4 ⟨⟨x4, rfl⟩, A4, c4, hw4, hn4⟩); have v0 := hw4.blk.cell 0; have v1 := hw4.blk.cell 1; have vl := hw4.blk.lt; have HW4 := Lib.hid hw4; have HN4 := Lib.hid (HN3.out.trans hn4); clear hw4 hn4 z0 z1))
  go_ret2
  have h9 := HL2.out
  rw [List.length_append] at h9
  refine ⟨⟨A4, c4, by rw [h9]; rfl, HW4.out.slB⟩, HB2.out.trans (HN4.out.gr.belowN HB2.out.size (fun q hq e => ?_))⟩
  have h1 := HB1.out.size
  rcases e with e | e
  · have e2 : q = w1.heap.size := e
    omega
  · have e2 : some (w1.heap.size + 1) = some q := e
    injection e2 with e2
    omega
set_option maxRecDepth 100000 in
set_option maxHeartbeats 4000000 in
theorem awake_any (w : World) : Calls Try.prog 10 #[] w (TruthP w true) := by
  have HE := Lib.hid (encode_none ⟨#[97]⟩ (by decide) (by decide) w)
  have hs : (⟨#[97]⟩ : ByteArray).size = 1 := rfl
  rw [hs] at HE
  have HS := Lib.hid (fun w' => sum_any w' 0 none 0 [] ⟨fun x hx => by (cases hx), Reads.none_⟩ (by simp))
  have hz : sumP [] = -3750763034362895579 := by decide +kernel
  rw [hz] at HS
  simp only [List.length_nil] at HS
  clear hs hz
  go_enter Try.func10, Try.ntmps10
  go_wp2_with (first
    | (go_at_call 11; ((with_reducible refine HE.out.mono ?_); rintro e w1 ⟨⟨A, c, rfl, hs1⟩, hb1⟩); have HB1 := Lib.hid hb1; clear hb1 hs1)
    | (go_at_call 13; ((with_reducible refine (num_any _ _).mono ?_); rintro e w2 ⟨rfl, rfl⟩))
    | (go_at_call 16; ((with_reducible refine (HS.out _).mono ?_); rintro e w2 ⟨rfl, rfl⟩)))
  go_ret
  exact ⟨rfl, HB1.out⟩
set_option maxRecDepth 100000 in
set_option maxHeartbeats 4000000 in
theorem esums_any (w : World) (B : Nat) (A : Option Addr) (c : Nat) (l : List Int) (hs : SlB w B A l) :
    Calls Try.prog 4 #[.slice A l.length c] w (TruthP w true) := by
  have HS := Lib.hid hs
  have n0 : (0 : Int) ≤ (l.length : Int) := by omega
  clear hs
  by_cases h : 10000 < l.length
  · have h1 : (10000 : Int) < (l.length : Int) := by omega
    have h2 : decide (10000 < l.length) = true := decide_eq_true h
    clear h
    go_enter Try.func4, Try.ntmps4
    go_wp2_with (go_at_call 10; ((with_reducible refine (awake_any _).mono ?_); rintro e w2 ⟨rfl, hb2⟩))
    go_ret
    exact ⟨rfl, hb2⟩
  · have h1 : ¬ (10000 : Int) < (l.length : Int) := by omega
    have h2 : decide (10000 < l.length) = false := decide_eq_false h
    have HA := Lib.hid (sum_any w B A c l HS.out (by omega))
    have HR := Lib.hid (rsum_any w B A c l HS.out (by omega))
    clear h
    go_enter Try.func4, Try.ntmps4
    go_wp2_with (first
      | (go_at_call 16; ((with_reducible refine HA.out.mono ?_); rintro e w2 ⟨rfl, rfl⟩))
      | (go_at_call 17; ((with_reducible refine HR.out.mono ?_); rintro e w2 ⟨rfl, rfl⟩))
      | (go_at_call 10; ((with_reducible refine (awake_any _).mono ?_); rintro e w2 ⟨rfl, hb2⟩)))
    go_ret
    exact ⟨rfl, hb2⟩
end Go.Proofs.Ytnkojjkijkhlbaa
