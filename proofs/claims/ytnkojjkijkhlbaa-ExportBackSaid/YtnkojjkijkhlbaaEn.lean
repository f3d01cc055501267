/-
  A unit encoded: walks.
-/
import Derived.Test.YtnkojjkijkhlbaaDp
namespace Go.Proofs.Ytnkojjkijkhlbaa
open Go.RowKit
set_option linter.unusedVariables false
set_option linter.unusedSimpArgs false

/-- What a unit's bytes begin with, and its parts; and the whole. -/
def encM (u : Un) : List Int := markB ++ encU u
def encR (u : Un) : List Int × Int := if deepU u then ([], 3) else if (encM u).length + 8 ≤ 262144 then (encM u ++ le8 (sumP (encM u)), 0) else ([], 2)
def EncP (r : List Int × Int) (w : World) (e : Ending) (w' : World) : Prop :=
  (∃ A c, e = .returned (.tuple #[.slice A r.1.length c, .int .i64 r.2]) ∧ w'.ownsRow w.heap.size 5 1 (.slice A r.1.length c) r.1.length (r.1.map (Value.int .u8)) ∧ ∀ x ∈ r.1, 0 ≤ x ∧ x ≤ 255) ∧ Below w.heap.size w w'
theorem Bys.own_of {w : World} {lo : Nat} {A : Option Addr} {c : Nat} {bs : List Int} (h : Bys w lo (.slice A bs.length c) bs.length (bs.map (Value.int .u8))) (hl : 4 < bs.length) : w.ownsRow lo 5 1 (.slice A bs.length c) bs.length (bs.map (Value.int .u8)) := by
  rcases h with h | ⟨g, cs, fr, _, _, _, _, _, h4⟩
  · exact h
  · omega
theorem markB_len : markB.length = 4 := rfl
theorem roomP_of {bs : List Int} {lg : Bool} (h : ¬ (lg = false ∧ bs.length + 8 ≤ 262144)) : roomP 8 bs lg = true := by
  unfold roomP
  cases lg with
  | true => simp
  | false =>
    have : ¬ bs.length + 8 ≤ 262144 := fun q => h ⟨rfl, q⟩
    rw [Bool.or_false]
    exact decide_eq_true (by omega)
set_option maxRecDepth 100000 in
set_option maxHeartbeats 8000000 in
theorem encode_deep (s : ByteArray) (im : List Im) (dc : List Dl) (fn : List Fn8) (u : Un) (hu : u = ⟨s, im, dc, fn⟩) (hc : u.cnt ≤ 2000000) (hok : u.ok 140737488355328) (w : World) (F : Nat → Prop) (hF : ∀ k, F k → k < w.heap.size) (A7 A8 A9 : Option Addr) (c7 c8 c9 : Nat) (hr : RUn w F u [.string s, .slice A7 im.length c7, .slice A8 dc.length c8, .slice A9 fn.length c9]) (hd : deepU u = true) :
    Calls Try.prog 11 #[.agg #[.string s, .slice A7 im.length c7, .slice A8 dc.length c8, .slice A9 fn.length c9]] w (EncP ([], 3) w) := by
  have hb : Below w.heap.size w (w.alloc (.cells #[.string s, .slice A7 im.length c7, .slice A8 dc.length c8, .slice A9 fn.length c9] 26)) := (Below.refl _ _).alloc (Nat.le_refl _) _
  have HB := Lib.hid hb
  have HBX := Lib.hid (Blk.new w 26 #[.string s, .slice A7 im.length c7, .slice A8 dc.length c8, .slice A9 fn.length c9])
  have hrs := RUn_keeps.bel hr hb
  have HD := Lib.hid (tooDeep_any u hc hok (w.alloc (.cells #[.string s, .slice A7 im.length c7, .slice A8 dc.length c8, .slice A9 fn.length c9] 26)) F (fun z hz => by have := hF z hz; simp; omega) _ hrs)
  rw [hd] at HD
  clear hb hrs hr hF hc hok hu hd
  go_enter Try.func11, Try.ntmps11
  go_wp2_with (go_at_call 21; ((with_reducible refine HD.out.mono ?_); rintro e w1 ⟨rfl, hb1⟩); have HB1 := Lib.hid (HB.out.trans (hb1.mono HB.out.size)); clear hb1)
  go_ret2
  exact ⟨⟨none, 0, rfl, World.ownsRow_nil _ _ _ _, fun x hx => by cases hx⟩, HB1.out⟩
set_option maxRecDepth 100000 in
set_option maxHeartbeats 8000000 in
theorem encode_fits (s : ByteArray) (im : List Im) (dc : List Dl) (fn : List Fn8) (u : Un) (hu : u = ⟨s, im, dc, fn⟩) (hc : u.cnt ≤ 2000000) (hok : u.ok 140737488355328) (w : World) (F : Nat → Prop) (hF : ∀ k, F k → k < w.heap.size) (A7 A8 A9 : Option Addr) (c7 c8 c9 : Nat) (hr : RUn w F u [.string s, .slice A7 im.length c7, .slice A8 dc.length c8, .slice A9 fn.length c9]) (hd : deepU u = false) (hfit : (encM u).length + 8 ≤ 262144) :
    Calls Try.prog 11 #[.agg #[.string s, .slice A7 im.length c7, .slice A8 dc.length c8, .slice A9 fn.length c9]] w (EncP (encM u ++ le8 (sumP (encM u)), 0) w) := by
  have hb : Below w.heap.size w (w.alloc (.cells #[.string s, .slice A7 im.length c7, .slice A8 dc.length c8, .slice A9 fn.length c9] 26)) := (Below.refl _ _).alloc (Nat.le_refl _) _
  have HB := Lib.hid hb
  have HBX := Lib.hid (Blk.new w 26 #[.string s, .slice A7 im.length c7, .slice A8 dc.length c8, .slice A9 fn.length c9])
  have hrs := RUn_keeps.bel hr hb
  have HD := Lib.hid (tooDeep_any u hc hok (w.alloc (.cells #[.string s, .slice A7 im.length c7, .slice A8 dc.length c8, .slice A9 fn.length c9] 26)) F (fun z hz => by have := hF z hz; simp; omega) _ hrs)
  rw [hd] at HD
  obtain ⟨M, hM⟩ : ∃ M, encM u = M := ⟨_, rfl⟩
  rw [hM] at hfit ⊢
  have hM2 : markB ++ encU u = M := hM
  have h4 : 4 ≤ M.length := by rw [← hM2, List.length_append, markB_len]; omega
  have HU := Lib.hid (fun w' wb A c (h : Wr w' w.heap.size wb A c markB false) (hb' : Below w.heap.size w w') (hwb : w.heap.size ≤ wb) => (show Calls Try.prog 22 #[.pointer (some ⟨wb, 0, none⟩), .agg #[.string s, .slice A7 im.length c7, .slice A8 dc.length c8, .slice A9 fn.length c9]] w' (WP w.heap.size wb (Value.slice A 4 c).ownBlock M w') from (uni_any u hc hok w' w.heap.size wb A c markB false h hwb F hF _ (RUn_keeps.bel hr hb')).mono (by
    rintro e w9 ⟨he, A9, c9, bs9, lg9, h1, h2, h3, _⟩
    obtain ⟨rfl, rfl⟩ := h3 ⟨rfl, by rw [← List.length_append, hM2]; omega⟩
    rw [hM2] at h1 h2
    exact ⟨he, A9, c9, h1, h2⟩)))
  have HS := Lib.hid (fun w' B A c (h : SlB w' B A M) => sum_any w' B A c M h (by omega))
  have HW := Lib.hid (fun w' wb A c (h : Wr w' w.heap.size wb A c M false) => word_some (sumP M) w' w.heap.size wb A c M h (by omega))
  have HL2 := Lib.hid (show M.length + (le8 (sumP M)).length = (M ++ le8 (sumP M)).length by rw [List.length_append])
  have HL4 := Lib.hid (show 4 < (M ++ le8 (sumP M)).length by rw [List.length_append, le8_len]; omega)
  have kc := fun (w : World) (C : Array Value) (n c : Nat) => Lib.run_convert_bytes_const (P := Try.prog) w 29 5 C n c Try.underlying29 Try.underlying5
  have kc2 := fun (w : World) (C D : Array Value) (t : TypeId) (n c : Nat) => (show (convert 29 29 (.slice (some ⟨w.heap.size + 1, 0, none⟩) n c)).run Try.prog ((w.alloc (.cells D t)).alloc (.cells C 5)) = .ok (.slice (some ⟨w.heap.size + 1, 0, none⟩) n c) ((w.alloc (.cells D t)).alloc (.cells C 5 (C.size, C.size + 1))) from by have := kc (w.alloc (.cells D t)) C n c; rw [show (w.alloc (.cells D t)).heap.size = w.heap.size + 1 by simp] at this; exact this)
  clear hb hrs hr hF hc hok hu hd hfit hM hM2 h4
  go_enter Try.func11, Try.ntmps11
  go_wp2_with (first
    | (go_at_call 21; ((with_reducible refine HD.out.mono ?_); rintro e w1 ⟨rfl, hb1⟩); have hx1 := HBX.out.bel2 hb1; have y0 := hx1.cell 0; have y1 := hx1.cell 1; have y2 := hx1.cell 2; have y3 := hx1.cell 3; have yl := hx1.lt; have hB1 := HB.out.trans (hb1.mono HB.out.size); have HB1 := Lib.hid hB1; have hW2 : Wr ((w1.alloc (.cells #[.slice (some ⟨w1.heap.size + 1, 0, none⟩) 4 4, .bool false] 52)).alloc (.cells #[.int .u8 77, .int .u8 85, .int .u8 49, .int .u8 10] 5 (4, 5))) w.heap.size w1.heap.size (some ⟨w1.heap.size + 1, 0, none⟩) 4 markB false := wr_mark w1 w.heap.size hB1.size; have HW2 := Lib.hid hW2; have HB2 := Lib.hid (show Below w.heap.size w ((w1.alloc (.cells #[.slice (some ⟨w1.heap.size + 1, 0, none⟩) 4 4, .bool false] 52)).alloc (.cells #[.int .u8 77, .int .u8 85, .int .u8 49, .int .u8 10] 5 (4, 5))) from (hB1.alloc hB1.size _).alloc (by have := hB1.size; simp; omega) _); clear hx1 hb1 hB1 hW2)
    | (go_at_call 22; ((with_reducible refine (HU.out _ _ _ _ HW2.out HB2.out HB1.out.size).mono ?_); rintro e w3 ⟨⟨x3, rfl⟩, A3, c3, hw3, hn3⟩); have z0 := hw3.blk.cell 0; have z1 := hw3.blk.cell 1; have zl := hw3.blk.lt; have HW3 := Lib.hid hw3; have HN3 := Lib.hid hn3; have HS3 := Lib.hid hw3.slB; clear hw3 hn3)
    | (go_at_call 16; ((with_reducible refine (HS.out _ _ _ _ HS3.out).mono ?_); rintro e w9 ⟨rfl, rfl⟩))
    | (go_at_call 23; ((with_reducible refine (HW.out _ _ _ _ HW3.out).mono ?_); rintro e w4 ⟨⟨x4, rfl⟩, A4, c4, hw4, hn4⟩); have v0 := hw4.blk.cell 0; have v1 := hw4.blk.cell 1; have vl := hw4.blk.lt; have HW4 := Lib.hid hw4; have HN4 := Lib.hid (HN3.out.trans hn4); clear hw4 hn4 z0 z1))
  go_ret2
  have h1 := HB1.out.size
  refine ⟨⟨A4, c4, by dsimp only; rw [← HL2.out]; rfl, HW4.out.own.own_of HL4.out, HW4.out.by_⟩, HB2.out.trans (HN4.out.gr.belowN HB2.out.size (fun q hq e => ?_))⟩
  rcases e with e | e
  · have e2 : q = w1.heap.size := e
    omega
  · have e2 : some (w1.heap.size + 1) = some q := e
    injection e2 with e2
    omega
set_option maxRecDepth 100000 in
set_option maxHeartbeats 8000000 in
theorem encode_long (s : ByteArray) (im : List Im) (dc : List Dl) (fn : List Fn8) (u : Un) (hu : u = ⟨s, im, dc, fn⟩) (hc : u.cnt ≤ 2000000) (hok : u.ok 140737488355328) (w : World) (F : Nat → Prop) (hF : ∀ k, F k → k < w.heap.size) (A7 A8 A9 : Option Addr) (c7 c8 c9 : Nat) (hr : RUn w F u [.string s, .slice A7 im.length c7, .slice A8 dc.length c8, .slice A9 fn.length c9]) (hd : deepU u = false) (hfit : ¬ (encM u).length + 8 ≤ 262144) :
    Calls Try.prog 11 #[.agg #[.string s, .slice A7 im.length c7, .slice A8 dc.length c8, .slice A9 fn.length c9]] w (EncP ([], 2) w) := by
  have hb : Below w.heap.size w (w.alloc (.cells #[.string s, .slice A7 im.length c7, .slice A8 dc.length c8, .slice A9 fn.length c9] 26)) := (Below.refl _ _).alloc (Nat.le_refl _) _
  have HB := Lib.hid hb
  have HBX := Lib.hid (Blk.new w 26 #[.string s, .slice A7 im.length c7, .slice A8 dc.length c8, .slice A9 fn.length c9])
  have hrs := RUn_keeps.bel hr hb
  have HD := Lib.hid (tooDeep_any u hc hok (w.alloc (.cells #[.string s, .slice A7 im.length c7, .slice A8 dc.length c8, .slice A9 fn.length c9] 26)) F (fun z hz => by have := hF z hz; simp; omega) _ hrs)
  rw [hd] at HD
  have HU := Lib.hid (fun w' wb A c (h : Wr w' w.heap.size wb A c markB false) (hb' : Below w.heap.size w w') (hwb : w.heap.size ≤ wb) => (show Calls Try.prog 22 #[.pointer (some ⟨wb, 0, none⟩), .agg #[.string s, .slice A7 im.length c7, .slice A8 dc.length c8, .slice A9 fn.length c9]] w' (fun e w9 => (∃ x, e = .returned x) ∧ ∃ A9 c9 bs9 lg9, Wr w9 w.heap.size wb A9 c9 bs9 lg9 ∧ WrN w' w9 wb (Value.slice A 4 c).ownBlock (Value.slice A9 bs9.length c9).ownBlock ∧ roomP 8 bs9 lg9 = true) from (uni_any u hc hok w' w.heap.size wb A c markB false h hwb F hF _ (RUn_keeps.bel hr hb')).mono (by
    rintro e w9 ⟨he, A9, c9, bs9, lg9, h1, h2, h3, h4⟩
    refine ⟨he, A9, c9, bs9, lg9, h1, h2, roomP_of (fun ⟨q1, q2⟩ => ?_)⟩
    by_cases hq : markB.length + (encU u).length ≤ 262144
    · obtain ⟨rfl, _⟩ := h3 ⟨rfl, hq⟩
      exact hfit q2
    · have := h4 (fun ⟨_, q⟩ => hq q)
      rw [this] at q1; cases q1)))
  have HS := Lib.hid (fun w' B A c (bs : List Int) (h : SlB w' B A bs) (hl : bs.length ≤ 262144) => sum_any w' B A c bs h (by omega))
  have HW := Lib.hid (fun v w' wb A c bs lg (h : Wr w' w.heap.size wb A c bs lg) hrm => word_long v w' w.heap.size wb A c bs lg h hrm)
  have kc := fun (w : World) (C : Array Value) (n c : Nat) => Lib.run_convert_bytes_const (P := Try.prog) w 29 5 C n c Try.underlying29 Try.underlying5
  have kc2 := fun (w : World) (C D : Array Value) (t : TypeId) (n c : Nat) => (show (convert 29 29 (.slice (some ⟨w.heap.size + 1, 0, none⟩) n c)).run Try.prog ((w.alloc (.cells D t)).alloc (.cells C 5)) = .ok (.slice (some ⟨w.heap.size + 1, 0, none⟩) n c) ((w.alloc (.cells D t)).alloc (.cells C 5 (C.size, C.size + 1))) from by have := kc (w.alloc (.cells D t)) C n c; rw [show (w.alloc (.cells D t)).heap.size = w.heap.size + 1 by simp] at this; exact this)
  clear hb hrs hr hF hc hok hu hd hfit
  go_enter Try.func11, Try.ntmps11
  go_wp2_with (first
    | (go_at_call 21; ((with_reducible refine HD.out.mono ?_); rintro e w1 ⟨rfl, hb1⟩); have hx1 := HBX.out.bel2 hb1; have y0 := hx1.cell 0; have y1 := hx1.cell 1; have y2 := hx1.cell 2; have y3 := hx1.cell 3; have yl := hx1.lt; have hB1 := HB.out.trans (hb1.mono HB.out.size); have HB1 := Lib.hid hB1; have hW2 : Wr ((w1.alloc (.cells #[.slice (some ⟨w1.heap.size + 1, 0, none⟩) 4 4, .bool false] 52)).alloc (.cells #[.int .u8 77, .int .u8 85, .int .u8 49, .int .u8 10] 5 (4, 5))) w.heap.size w1.heap.size (some ⟨w1.heap.size + 1, 0, none⟩) 4 markB false := wr_mark w1 w.heap.size hB1.size; have HW2 := Lib.hid hW2; have HB2 := Lib.hid (show Below w.heap.size w ((w1.alloc (.cells #[.slice (some ⟨w1.heap.size + 1, 0, none⟩) 4 4, .bool false] 52)).alloc (.cells #[.int .u8 77, .int .u8 85, .int .u8 49, .int .u8 10] 5 (4, 5))) from (hB1.alloc hB1.size _).alloc (by have := hB1.size; simp; omega) _); clear hx1 hb1 hB1 hW2)
    | (go_at_call 22; ((with_reducible refine (HU.out _ _ _ _ HW2.out HB2.out HB1.out.size).mono ?_); rintro e w3 ⟨⟨x3, rfl⟩, A3, c3, bs3, lg3, hw3, hn3, hm3⟩); have z0 := hw3.blk.cell 0; have z1 := hw3.blk.cell 1; have zl := hw3.blk.lt; have HW3 := Lib.hid hw3; have HM3 := Lib.hid hm3; have HN3 := Lib.hid hn3; have HS3 := Lib.hid hw3.slB; have HF3 := Lib.hid hw3.few; clear hw3 hn3 hm3)
    | (go_at_call 16; ((with_reducible refine (HS.out _ _ _ _ _ HS3.out HF3.out).mono ?_); rintro e w9 ⟨rfl, rfl⟩))
    | (go_at_call 23; ((with_reducible refine (HW.out _ _ _ _ _ _ _ HW3.out HM3.out).mono ?_); rintro e w4 ⟨⟨x4, rfl⟩, hw4, hn4⟩); have v0 := hw4.blk.cell 0; have v1 := hw4.blk.cell 1; have vl := hw4.blk.lt; have HW4 := Lib.hid hw4; have HN4 := Lib.hid (HN3.out.trans hn4); clear hw4 hn4 z0 z1))
  go_ret2
  have h1 := HB1.out.size
  refine ⟨⟨none, 0, rfl, World.ownsRow_nil _ _ _ _, fun x hx => by cases hx⟩, HB2.out.trans (HN4.out.gr.belowN HB2.out.size (fun q hq e => ?_))⟩
  rcases e with e | e
  · have e2 : q = w1.heap.size := e
    omega
  · have e2 : some (w1.heap.size + 1) = some q := e
    injection e2 with e2
    omega
theorem encode_any (u : Un) (hc : u.cnt ≤ 2000000) (hok : u.ok 140737488355328) (w : World) (F : Nat → Prop) (hF : ∀ k, F k → k < w.heap.size) (vs : List Value) (hr : RUn w F u vs) :
    Calls Try.prog 11 #[.agg vs.toArray] w (EncP (encR u) w) := by
  obtain ⟨s, im, dc, fn⟩ := u
  have hr' := hr
  obtain ⟨A7, c7, A8, c8, A9, c9, rfl, k1, k2, k3⟩ := hr
  unfold encR
  cases hd : deepU ⟨s, im, dc, fn⟩ with
  | true => exact encode_deep s im dc fn _ rfl hc hok w F hF A7 A8 A9 c7 c8 c9 hr' hd
  | false =>
    by_cases hf : (encM ⟨s, im, dc, fn⟩).length + 8 ≤ 262144
    · simp only [hf, if_true]
      exact encode_fits s im dc fn _ rfl hc hok w F hF A7 A8 A9 c7 c8 c9 hr' hd hf
    · simp only [hf, if_false]
      exact encode_long s im dc fn _ rfl hc hok w F hF A7 A8 A9 c7 c8 c9 hr' hd hf
end Go.Proofs.Ytnkojjkijkhlbaa
