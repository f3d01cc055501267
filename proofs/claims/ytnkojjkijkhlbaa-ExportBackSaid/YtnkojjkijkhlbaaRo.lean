/-
  ExportTurned: walks.
-/
import Derived.Test.YtnkojjkijkhlbaaRl
import Derived.Test.YtnkojjkijkhlbaaRm
namespace Go.Proofs.Ytnkojjkijkhlbaa
open Go.RowKit
set_option linter.unusedVariables false
set_option linter.unusedSimpArgs false

theorem app_sl {w : World} {lo n : Nat} {v : Value} {bs : List Int} (hown : w.ownsRow lo 5 1 v n (bs.map (Value.int .u8))) (ty : TypeId) {B : Nat} {A : Option Addr} {m : List Int} (hm : SlB w B A m) (c : Nat) (hn : n + m.length ≤ 100000000000000) (hbase : lo ≤ w.heap.size) :
    ∃ v' w', (Builtin.append_ #[29, 29] ty #[v, .slice A m.length c]).run Try.prog w = .ok v' w' ∧ w'.ownsRow lo 5 1 v' (n + m.length) ((bs ++ m).map (Value.int .u8)) ∧ w.grownBy w' v.ownBlock ∧ ∀ q, v'.ownBlock = some q → v.ownBlock = some q ∨ w.heap.size ≤ q := by
  obtain ⟨i0, hi0, hz0, hz1, hz2⟩ := info_parts info_u8
  obtain ⟨v', w', h1, h2, h3, h4⟩ := run_append_any (P := Try.prog) w lo 29 ty 5 i0 (.int .u8 0) 1 1 Try.underlying29 hi0 hz0 hz1 hz2 rfl (by omega) _ _ _ hown B A m.length c _ hm.2 (fun u hu => by obtain ⟨x, _, rfl⟩ := List.mem_map.1 hu; rfl) (by unfold maxLen; omega) (by omega) hbase
  refine ⟨v', w', h1, by rw [List.map_append]; exact h2, h3, fun q hq => ?_⟩
  rcases h4 with h4 | h4
  · exact .inl (h4.symm.trans hq)
  · rw [h4] at hq
    injection hq with hq
    exact .inr (by omega)
theorem own_empty (w : World) : (w.alloc (.cells #[] 5)).ownsRow w.heap.size 5 1 (.slice (some ⟨w.heap.size, 0, none⟩) 0 0) ([] : List Int).length (([] : List Int).map (Value.int .u8)) :=
  ⟨rfl, .inr ⟨w.heap.size, 0, #[], rfl, Nat.le_refl _, Blk.new w 5 #[], Nat.le_refl _, by unfold maxLen; omega, rfl, rfl⟩⟩
theorem own_blk {w : World} {lo n : Nat} {v : Value} {l : List Int} (h : w.ownsRow lo 5 1 v n (l.map (Value.int .u8))) (h0 : 0 < n) :
    ∃ g cap cur, v = .slice (some ⟨g, 0, none⟩) n cap ∧ lo ≤ g ∧ Blk w g 5 cur ∧ n ≤ cap ∧ ∀ (j : Nat) (a : Int), l[j]? = some a → cur[j]? = some (.int .u8 a) := by
  rcases h.2 with ⟨_, h1⟩ | ⟨g, cap, cur, e, h1, h2, h3, h4, h5, h6⟩
  · omega
  · refine ⟨g, cap, cur, e, h1, h2, h3, fun j a hj => ?_⟩
    have h7 : (cur.toList.take (n * 1))[j]? = some (.int .u8 a) := by rw [h6, List.getElem?_map, hj]; rfl
    rw [List.getElem?_take] at h7
    split at h7
    · rwa [Array.getElem?_toList] at h7
    · cases h7
theorem set_sl {w : World} {g k : Nat} {cur : Array Value} {l : List Int} {b : Int} (hk : Blk w g 5 cur) (hc : ∀ (j : Nat) (a : Int), l[j]? = some a → cur[j]? = some (.int .u8 a)) (hl : Byt l) (hb : 0 ≤ b ∧ b ≤ 255) :
    SlB (w.setCell ⟨g, k, none⟩ (.int .u8 b)) (w.setCell ⟨g, k, none⟩ (.int .u8 b)).heap.size (some ⟨g, 0, none⟩) (l.set k b) := by
  refine ⟨fun x hx => ?_, by simp, fun _ => ⟨⟨g, 0, none⟩, rfl, by have := hk.lt; simpa using this, fun j u hu => ?_⟩⟩
  · rcases List.mem_or_eq_of_mem_set hx with hx | rfl
    · exact hl x hx
    · exact hb
  · rw [add0]
    refine ((hk.set_ k (.int .u8 b)).cell j).trans ?_
    rw [List.getElem?_map, List.getElem?_set] at hu
    rw [Array.getElem?_setIfInBounds]
    by_cases hj : k = j
    · subst hj
      rw [if_pos rfl] at hu ⊢
      by_cases h1 : k < l.length
      · rw [if_pos h1] at hu
        have h2 := hc k _ (List.getElem?_eq_getElem h1)
        obtain ⟨h3, _⟩ := Array.getElem?_eq_some_iff.1 h2
        rw [if_pos h3]
        exact hu
      · rw [if_neg h1] at hu
        cases hu
    · rw [if_neg hj] at hu ⊢
      cases h1 : l[j]? with
      | none => rw [h1] at hu; cases hu
      | some a =>
        rw [h1] at hu
        rw [hc j a h1]
        exact hu
theorem sl_one (w : World) : SlB (w.alloc (.cells #[.int .u8 0] 5)) (w.alloc (.cells #[.int .u8 0] 5)).heap.size (some ⟨w.heap.size, 0, none⟩) [0] :=
  ⟨fun x hx => by rw [List.mem_singleton.1 hx]; omega, rfl, fun _ => ⟨⟨w.heap.size, 0, none⟩, rfl, by simp, fun j u hu => by
    rw [add0]
    refine ((Blk.new w 5 #[.int .u8 0]).cell j).trans ?_
    cases j with
    | zero => exact hu
    | succ j => simp at hu⟩⟩
theorem byt_more {l m : List Int} (hl : Byt l) (hm : Byt m) : Byt ((l ++ [0]) ++ m) := fun x hx => by
  rcases List.mem_append.1 hx with hx | hx
  · rcases List.mem_append.1 hx with hx | hx
    · exact hl x hx
    · rw [List.mem_singleton.1 hx]; omega
  · exact hm x hx
theorem dec_more1 {u : Un} {l m : List Int} (hu : u.ok 140737488355328 ∧ u.rng ∧ u.cnt ≤ 262145) (hl : Byt ((l ++ [0]) ++ m)) (h : encR u = (l, 0)) : decP ((l ++ [0]) ++ m) = none := by
  have e : (l ++ [0]) ++ m = l ++ ([0] ++ m) := List.append_assoc _ _ _
  rw [e] at hl ⊢
  exact dec_more hu hl h (by simp)
theorem dec_none (w : World) (A : Option Addr) (c : Nat) (l : List Int) (hs : SlB w w.heap.size A l) (n : Nat) (hn : l.length = n) (hc : n ≤ c) (hA : A = none → c = 0) (hl : n ≤ 9000000000000000000) (hd : decP l = none) :
    Calls Try.prog 18 #[.slice A n c] w (fun e w' => Below w.heap.size w w' ∧ e = .returned (.tuple #[.agg #[.string ⟨#[]⟩, .slice none 0 0, .slice none 0 0, .slice none 0 0], .int .i64 4])) := by
  subst hn
  have h := dec_any w w.heap.size A c l hs (Nat.le_refl _) hc hA hl
  rw [hd] at h
  exact h
theorem app4_tail {w8 : World} {lo n : Nat} {v8 : Value} {l : List Int} (ho : w8.ownsRow lo 5 1 v8 n (l.map (Value.int .u8))) (hb : Byt l) (hn : l.length = n) (h0 : 0 < n) :
    ∃ g8 cap8, v8 = .slice (some ⟨g8, 0, none⟩) n cap8 ∧ n ≤ cap8 ∧ SlB w8 w8.heap.size (some ⟨g8, 0, none⟩) l := by
  subst hn
  obtain ⟨g8, cap8, cur8, rfl, _, _, hc, _⟩ := own_blk ho h0
  exact ⟨g8, cap8, rfl, hc, hb, Reads.of_own ho⟩
theorem dec_cutw {w2 : World} {A : Option Addr} {c : Nat} {l : List Int} {k : Nat} (hs : SlB w2 w2.heap.size A l) (hk : k < l.length) (hl : l.length ≤ 262144) (kc : k ≤ c) (hA : A = none → c = 0) (hd : decP (l.take k) = none) (w4 : World) (hb : Below w2.heap.size w2 w4) (o : Obj) :
    Calls Try.prog 18 #[.slice A k c] (w4.alloc o) (fun e w' => Below (w4.alloc o).heap.size (w4.alloc o) w' ∧ e = .returned (.tuple #[.agg #[.string ⟨#[]⟩, .slice none 0 0, .slice none 0 0, .slice none 0 0], .int .i64 4])) :=
  dec_none (w4.alloc o) A c (l.take k) (SlB.take_ (SlB.bel hs (hb.alloc hb.size o)) k (Nat.le_of_lt hk)) k (by rw [List.length_take]; omega) kc hA (by omega) hd
theorem bel_alloc2 {w2 w4 w5 : World} {o : Obj} (h : Below w2.heap.size w2 w4) (h5 : Below (w4.alloc o).heap.size (w4.alloc o) w5) : Below w2.heap.size w2 w5 :=
  (h.alloc h.size o).trans (h5.mono (h.alloc h.size o).size)
theorem below_grown {B : Nat} {w w1 w2 : World} {row : Option Nat} (hb : Below B w w1) (hg : w1.grownBy w2 row) (hr : ∀ q, row = some q → B ≤ q) (hB : B ≤ w1.heap.size) : Below B w w2 :=
  hb.trans ⟨hg.os, hg.tape, hg.output, hg.size, fun k hk => hg.block k (by omega) (by intro e; have := hr k e.symm; omega)⟩
theorem own_empty2 (w : World) (o : Obj) : ((w.alloc o).alloc (.cells #[] 5)).ownsRow (w.heap.size + 1) 5 1 (.slice (some ⟨w.heap.size + 1, 0, none⟩) 0 0) ([] : List Int).length (([] : List Int).map (Value.int .u8)) := by
  have := own_empty (w.alloc o)
  simpa using this
theorem below_app {w2 w5 w6 : World} {o : Obj} {r : Option Nat} (h : Below w2.heap.size w2 w5) (hg : ((w5.alloc o).alloc (.cells #[] 5)).grownBy w6 r) (hr : ∀ q, r = some q → w2.heap.size ≤ q) : Below w2.heap.size w2 w6 ∧ w5.heap.size + 1 ≤ w6.heap.size := by
  have h1 := (h.alloc h.size o).alloc (by have := h.size; simp; omega) (.cells #[] 5)
  have h2 := hg.size
  refine ⟨below_grown h1 hg hr h1.size, ?_⟩
  simp at h2
  omega
theorem below_one {w2 w6 w7 : World} {o : Obj} {r : Option Nat} (h : Below w2.heap.size w2 w6) (hg : (w6.alloc o).grownBy w7 r) (hr : ∀ q, r = some q → w2.heap.size ≤ q) : Below w2.heap.size w2 w7 ∧ w6.heap.size + 1 ≤ w7.heap.size := by
  have h1 := h.alloc h.size o
  have h2 := hg.size
  refine ⟨below_grown h1 hg hr h1.size, ?_⟩
  simp at h2
  omega
theorem slb_two {w2 w5 : World} {A : Option Addr} {l : List Int} {o o' : Obj} (hs : SlB w2 w2.heap.size A l) (h : Below w2.heap.size w2 w5) : SlB ((w5.alloc o).alloc o') ((w5.alloc o).alloc o').heap.size A l :=
  SlB.bel hs ((h.alloc h.size o).alloc (by have := h.size; simp; omega) o')
theorem own_alloc {w6 : World} {lo n g m c : Nat} {xs : List Value} {o : Obj} (h : w6.ownsRow lo 5 1 (.slice (some ⟨g, 0, none⟩) m c) n xs) : (w6.alloc o).ownsRow lo 5 1 (.slice (some ⟨g, 0, none⟩) m c) n xs :=
  h.kept (row := none) (show w6.grownBy (w6.alloc o) none from ⟨rfl, rfl, rfl, by simp, fun k hk _ => Below.heap_alloc w6 _ k hk⟩) (by simp [Value.ownBlock])
theorem xor_u8 (a b : Nat) (ha : a < 256) (hb : b < 256) : bits .xor .u8 (a : Int) (b : Int) = ((a ^^^ b : Nat) : Int) := by
  have hx : a ^^^ b < 2 ^ 8 := Nat.xor_lt_two_pow (by omega) (by omega)
  have h1 : (BitVec.ofInt 8 (a : Int)).toNat = a := by
    rw [BitVec.ofInt_natCast, BitVec.toNat_ofNat]; exact Nat.mod_eq_of_lt (by omega)
  have h2 : (BitVec.ofInt 8 (b : Int)).toNat = b := by
    rw [BitVec.ofInt_natCast, BitVec.toNat_ofNat]; exact Nat.mod_eq_of_lt (by omega)
  show IntKind.u8.wrap ((BitVec.ofInt 8 (a : Int) ^^^ BitVec.ofInt 8 (b : Int)).toNat : Int) = _
  rw [BitVec.toNat_xor, h1, h2, u8_wrap]
  omega
theorem turn_u8 (a t : Int) (ha : 0 ≤ a ∧ a ≤ 255) (ht : 0 ≤ t ∧ t ≤ 255) : ∃ b : Int, bits BinOp.xor IntKind.u8 a ((1 + t.tmod 255) % 256) = b ∧ (0 ≤ b ∧ b ≤ 255) ∧ b ≠ a := by
  rw [Int.tmod_eq_emod_of_nonneg ht.1]
  obtain ⟨x, hx, hx0, hx1⟩ : ∃ x : Nat, (1 + t % 255) % 256 = (x : Int) ∧ 0 < x ∧ x < 256 := ⟨((1 + t % 255) % 256).toNat, by omega, by omega, by omega⟩
  obtain ⟨y, rfl⟩ : ∃ y : Nat, a = (y : Int) := ⟨a.toNat, by omega⟩
  rw [hx]
  have h := xor_u8 y x (by omega) hx1
  have hlt : y ^^^ x < 2 ^ 8 := Nat.xor_lt_two_pow (by omega) (by omega)
  refine ⟨_, h, ⟨by omega, by omega⟩, fun e => ?_⟩
  have e2 : y ^^^ x = y := by omega
  rw [Nat.xor_comm] at e2
  have e3 : x ^^^ y = 0 ^^^ y := by rw [e2, Nat.zero_xor]
  have := xor_cancel e3
  omega
theorem rem_k (at_ : Int) (n : Nat) (h0 : 0 < n) (h1 : n ≤ 262144) : IntKind.u64.wrap (n : Int) = (n : Int) ∧ ∃ k : Nat, k < n ∧ wrap64 ((IntKind.u64.wrap at_).tmod (n : Int)) = (k : Int) := by
  have e : IntKind.u64.wrap (n : Int) = (n : Int) := by rw [IntKind.wrap_u64]; omega
  refine ⟨e, ((IntKind.u64.wrap at_).tmod (n : Int)).toNat, ?_⟩
  have hx : 0 ≤ IntKind.u64.wrap at_ := by rw [IntKind.wrap_u64]; omega
  rw [Int.tmod_eq_emod_of_nonneg hx]
  have h2 := Int.emod_nonneg (IntKind.u64.wrap at_) (show (n : Int) ≠ 0 by omega)
  have h3 := Int.emod_lt_of_pos (IntKind.u64.wrap at_) (show (0 : Int) < n by omega)
  unfold wrap64
  constructor <;> omega
set_option maxRecDepth 100000 in
set_option maxHeartbeats 8000000 in
theorem eturned_any (u : Un) (hou : u.ok 140737488355328) (hru : u.rng) (at_ : Int) (hat : I64 at_) (wt : Int) (hwt : 0 ≤ wt ∧ wt ≤ 255) (M : Option Addr) (mc : Nat) (m : List Int) (w : World) (F : Nat → Prop) (hF : ∀ k, F k → k < w.heap.size) (vs : List Value) (ha : RUn w F u vs) (hm : SlB w w.heap.size M m) :
    Calls Try.prog 7 #[.agg vs.toArray, .int .i64 at_, .int .u8 wt, .slice M m.length mc] w (TruthP w true) := by
  have ha' := ha
  obtain ⟨A7, c7, A8, c8, A9, c9, rfl, _, _, _⟩ := ha
  have hb1 := ((Below.refl _ w).alloc (Nat.le_refl _) (.cells #[.string u.pkg, .slice A7 u.imps.length c7, .slice A8 u.decls.length c8, .slice A9 u.funs.length c9] 26))
  have HX0 := Lib.hid (Blk.new w 26 #[.string u.pkg, .slice A7 u.imps.length c7, .slice A8 u.decls.length c8, .slice A9 u.funs.length c9])
  have HB0 := Lib.hid hb1
  have HG := Lib.hid (fun w1 (h1 : Below w.heap.size w w1) => great8_any u hou w1 F (fun k hk => Nat.lt_of_lt_of_le (hF k hk) h1.size) _ (RUn_keeps.bel ha' h1))
  have HE := Lib.hid (fun (hc : u.cnt ≤ 3000) w1 (h1 : Below w.heap.size w w1) => encode_any u (by omega) hou w1 F (fun k hk => Nat.lt_of_lt_of_le (hF k hk) h1.size) _ (RUn_keeps.bel ha' h1))
  have n0 : (0 : Int) ≤ (m.length : Int) := by omega
  obtain ⟨⟨l, r⟩, hR⟩ : ∃ R, encR u = R := ⟨_, rfl⟩
  rw [hR] at HE
  have HSM := Lib.hid hm
  have HOU := Lib.hid hou
  have HRU := Lib.hid hru
  have HAT := Lib.hid hat
  have HWT := Lib.hid hwt
  by_cases hm1 : 1000 < m.length
  · have h1 : (1000 : Int) < (m.length : Int) := by omega
    have h2 : decide (1000 < m.length) = true := decide_eq_true hm1
    clear hb1 hR hou hru hat hwt hF ha' hm hm1
    go_enter Try.func7, Try.ntmps7
    go_wp2_with (first | (go_at_call 9; ((with_reducible refine (HG.out _ HB0.out).mono ?_); rintro e w1 ⟨bb, rfl, hbc, hb1⟩); have HBC := Lib.hid hbc; have HB1 := Lib.hid (HB0.out.trans (hb1.mono HB0.out.size)); have hx1 := HX0.out.bel2 hb1; have HX1 := Lib.hid hx1; have ax0 := hx1.cell 0; have ax1 := hx1.cell 1; have ax2 := hx1.cell 2; have ax3 := hx1.cell 3; have axl := hx1.lt; clear hb1 hx1 hbc) | (go_at_call 10; ((with_reducible refine (awake_any _).mono ?_); rintro e w9 ⟨rfl, hb9⟩); have HBZ := Lib.hid (HB1.out.trans (hb9.mono HB1.out.size)); clear hb9))
    all_goals (go_ret; exact ⟨rfl, HBZ.out⟩)
  have h1 : ¬ (1000 : Int) < (m.length : Int) := by omega
  have h2 : decide (1000 < m.length) = false := decide_eq_false hm1
  have HM1 := Lib.hid (show m.length ≤ 1000 by omega)
  by_cases hr : r = 0
  case neg =>
    have e1 : (r == 0) = false := by simpa using hr
    have e2 : (r != 0) = true := by simpa using hr
    clear hb1 hR hou hru hat hwt hF ha' hm hm1 hr
    go_enter Try.func7, Try.ntmps7
    go_wp2_with (first | (go_at_call 11; ((with_reducible refine (HE.out (HBC.out (by first | assumption | exact Bool.eq_false_iff.2 (by assumption))) _ HB1.out).mono ?_); rintro e w2 ⟨⟨P, pc, rfl, ho, hy⟩, hb2⟩); have HO := Lib.hid ho; have HS2 := Lib.hid (EncP.slB (r := (l, r)) ho hy); have HB2 := Lib.hid (HB1.out.trans (hb2.mono HB1.out.size)); clear hb2 ho hy ax0 ax1 ax2 ax3 axl) | (go_at_call 9; ((with_reducible refine (HG.out _ HB0.out).mono ?_); rintro e w1 ⟨bb, rfl, hbc, hb1⟩); have HBC := Lib.hid hbc; have HB1 := Lib.hid (HB0.out.trans (hb1.mono HB0.out.size)); have hx1 := HX0.out.bel2 hb1; have HX1 := Lib.hid hx1; have ax0 := hx1.cell 0; have ax1 := hx1.cell 1; have ax2 := hx1.cell 2; have ax3 := hx1.cell 3; have axl := hx1.lt; clear hb1 hx1 hbc) | (go_at_call 13; ((with_reducible refine (num_any _ _).mono ?_); rintro e w8 ⟨rfl, rfl⟩)) | (go_at_call 10; ((with_reducible refine (awake_any _).mono ?_); rintro e w9 ⟨rfl, hb9⟩); have HBZ := Lib.hid (HB2.out.trans (hb9.mono HB2.out.size)); clear hb9) | (go_at_call 10; ((with_reducible refine (awake_any _).mono ?_); rintro e w9 ⟨rfl, hb9⟩); have HBZ := Lib.hid (HB1.out.trans (hb9.mono HB1.out.size)); clear hb9))
    all_goals (go_ret; exact ⟨rfl, HBZ.out⟩)
  subst hr
  obtain ⟨hle, hdp, hfit⟩ := encR_ok hR
  have hlen : l.length = (encM u).length + 8 := by rw [hle, List.length_append, le8_len]
  have HR := Lib.hid hR
  have HLN := Lib.hid (show 8 ≤ l.length ∧ l.length ≤ 262144 by omega)
  have l1 : ¬ ((l.length : Int) = 0) := by omega
  have l2 : ((l.length : Int) == 0) = false := by simpa using l1
  have l3 : ¬ (l.length = 0) := by omega
  obtain ⟨ew, k, hk, hke⟩ := rem_k at_ l.length (by omega) (by omega)
  have HK := Lib.hid hk
  obtain ⟨av, hav⟩ : ∃ a, l[k]? = some a := ⟨_, List.getElem?_eq_getElem hk⟩
  have HAV := Lib.hid hav
  have k0 : (0 : Int) ≤ (k : Int) := by omega
  have k1 : (k : Int) < (l.length : Int) := by omega
  clear hb1 hR hou hru hat hwt hF ha' hm hm1 hle hdp hfit hlen hk hav
  go_enter Try.func7, Try.ntmps7
  go_wp2_with (first | (go_at_call 11; ((with_reducible refine (HE.out (HBC.out (by first | assumption | exact Bool.eq_false_iff.2 (by assumption))) _ HB1.out).mono ?_); rintro e w2 ⟨⟨P, pc, rfl, ho, hy⟩, hb2⟩); have hs2 := EncP.slB (r := (l, 0)) ho hy; obtain ⟨g2, cap2, cur2, e2, hlo2, hk2, hcp2, hcu2⟩ := own_blk ho (show 0 < l.length by have := HLN.out; omega); have hp2 := (Value.slice.inj e2).1; have hq2 := (Value.slice.inj e2).2.2.symm; subst hp2; subst hq2; have HS2 := Lib.hid (show SlB w2 w2.heap.size (some ⟨g2, 0, none⟩) l from hs2); have HB2 := Lib.hid (HB1.out.trans (hb2.mono HB1.out.size)); have kc : k ≤ cap2 := (by have := HK.out; exact Nat.le_trans (Nat.le_of_lt this) hcp2); have hcp2' : l.length ≤ cap2 := hcp2; have HCN := Lib.hid (HBC.out (by first | assumption | exact Bool.eq_false_iff.2 (by assumption))); have HBY := Lib.hid (show Byt l from hy); obtain ⟨bv, hbv, hbr, hbn⟩ := turn_u8 av wt (HBY.out av (List.mem_of_getElem? HAV.out)) HWT.out; have HBV := Lib.hid (show (0 ≤ bv ∧ bv ≤ 255) ∧ bv ≠ av from ⟨hbr, hbn⟩); have HT1 := Lib.hid (dec_turn HBY.out HR.out HAV.out hbr hbn); have HT2 := Lib.hid (fun hc : u.cnt ≤ 3000 => dec_cut ⟨HOU.out, HRU.out, by omega⟩ HBY.out HR.out HK.out); have HDC := Lib.hid (dec_cutw HS2.out HK.out (by have := HLN.out; omega) kc (fun h => by cases h) (HT2.out HCN.out)); have HBM := Lib.hid (byt_more HBY.out HSM.out.1); have HT3 := Lib.hid (fun hc : u.cnt ≤ 3000 => dec_more1 ⟨HOU.out, HRU.out, by omega⟩ HBM.out HR.out); clear hbr hbn hb2 ho hy hs2 hk2 hcu2 hlo2 hcp2 e2 ax0 ax1 ax2 ax3 axl) | (go_at_call 9; ((with_reducible refine (HG.out _ HB0.out).mono ?_); rintro e w1 ⟨bb, rfl, hbc, hb1⟩); have HBC := Lib.hid hbc; have HB1 := Lib.hid (HB0.out.trans (hb1.mono HB0.out.size)); have hx1 := HX0.out.bel2 hb1; have HX1 := Lib.hid hx1; have ax0 := hx1.cell 0; have ax1 := hx1.cell 1; have ax2 := hx1.cell 2; have ax3 := hx1.cell 3; have axl := hx1.lt; clear hb1 hx1 hbc) | (go_at_call 13; ((with_reducible refine (num_any _ _).mono ?_); rintro e w8 ⟨rfl, rfl⟩)) | (go_at_call 18; have _g := HS8; ((with_reducible refine (dec_none w8 (some ⟨g8, 0, none⟩) cap8 ((l ++ [0]) ++ m) HS8.out (l.length + 1 + m.length) (by simp; omega) hcp8 (fun h => by cases h) (by have := HLN.out; have := HM1.out; omega) (HT3.out HCN.out)).mono ?_); rintro e w9 ⟨hb9, rfl⟩); have HC9 := Lib.hid (HC8.out.trans (hb9.mono HC8.out.size)); clear hb9) | (go_at_call 18; ((with_reducible refine (HDC.out _ HC4.out _).mono ?_); rintro e w5 ⟨hb5, rfl⟩); have HC5 := Lib.hid (bel_alloc2 HC4.out hb5); clear hb5) | (go_at_call 18; have _g := HC3; ((with_reducible refine (dec_none (w3.setCell ⟨g3, k, none⟩ (.int .u8 bv)) (some ⟨g3, 0, none⟩) cap3 (l.set k bv) (set_sl HK3.out HCU3.out HBY.out HBV.out.1) l.length List.length_set hcp3 (fun h => by cases h) (by have := HLN.out; omega) HT1.out).mono ?_); rintro e w4 ⟨hb4, rfl⟩); have HC4 := Lib.hid ((HC3.out.setCell (p := ⟨g3, k, none⟩) HLO3.out (.int .u8 bv)).trans (hb4.mono (by have := HC3.out.size; simpa using this))); clear hb4 q3 f3 y3) | (at_builtin; have _g := HO7; refine wpList_app rfl _ _ _ _ rfl _ _ rfl rfl _ (app_sl HO7.out 29 (SlB.bel HSM.out (HB2.out.trans (HC7.out.mono HB2.out.size))) mc (by have := HLN.out; have := HM1.out; omega) HS7.out) ?_; rintro v8 w8 ⟨ho8, hg8, hn8⟩; obtain ⟨g8, cap8, rfl, hcp8, hs8⟩ := app4_tail ho8 HBM.out (by simp; omega) (by omega); have HS8 := Lib.hid hs8; have HC8 := Lib.hid (below_grown HC7.out hg8 (by intro q hq; have hq := (show g7 = q from Option.some.inj hq); have := HLO7.out; omega) HC7.out.size); clear ho8 hn8 hs8 hg8) | (at_builtin; have _g := HO6; refine wpList_app rfl _ _ _ _ rfl _ _ rfl rfl _ (app_sl (own_alloc HO6.out) 29 (sl_one w6) 1 (by have := HLN.out; simp; omega) (by have := HS6.out; simp; omega)) ?_; rintro v7 w7 ⟨ho7, hg7, hn7⟩; have ho7 : w7.ownsRow (w5.heap.size + 1) 5 1 v7 (l.length + 1) ((l ++ [0]).map (Value.int .u8)) := ho7; obtain ⟨g7, cap7, cur7, rfl, hlo7, hk7, hcp7, hcu7⟩ := own_blk ho7 (by omega); have HO7 := Lib.hid ho7; have HLO7 := Lib.hid (show w2.heap.size ≤ g7 by have := HC5.out.size; omega); have hc7 := below_one HC6.out hg7 (by intro q hq; have hq := (show g6 = q from Option.some.inj hq); have := HLO6.out; omega); have HC7 := Lib.hid hc7.1; have HS7 := Lib.hid (show w5.heap.size + 1 ≤ w7.heap.size from Nat.le_trans HS6.out (Nat.le_trans (Nat.le_succ _) hc7.2)); clear ho7 hn7 hk7 hcu7 hlo7 hg7 hc7) | (at_builtin; have _g := HC5; refine wpList_app rfl _ _ _ _ rfl _ _ rfl rfl _ (app_sl (own_empty2 w5 _) 29 (slb_two HS2.out HC5.out) cap2 (by have := HLN.out; simp; omega) (by simp)) ?_; rintro v6 w6 ⟨ho6, hg6, hn6⟩; have ho6 : w6.ownsRow (w5.heap.size + 1) 5 1 v6 l.length (l.map (Value.int .u8)) := (by simpa using ho6); obtain ⟨g6, cap6, cur6, rfl, hlo6, hk6, hcp6, hcu6⟩ := own_blk ho6 (by have := HLN.out; omega); have HO6 := Lib.hid ho6; have HLO6 := Lib.hid (show w2.heap.size ≤ g6 by have := HC5.out.size; omega); have hc6 := below_app HC5.out hg6 (by intro q hq; have hq := (show w5.heap.size + 1 = q from Option.some.inj hq); have := HC5.out.size; omega); have HC6 := Lib.hid hc6.1; have HS6 := Lib.hid hc6.2; clear ho6 hn6 hk6 hcu6 hlo6 hg6 hc6) | (at_builtin; have _g := HS2; refine wpList_app rfl _ _ _ _ rfl _ _ rfl rfl _ (app_sl (own_empty w2) 29 (show SlB (w2.alloc (.cells #[] 5)) _ (some ⟨g2, 0, none⟩) l from SlB.bel HS2.out ((Below.refl _ w2).alloc (Nat.le_refl _) _)) cap2 (by have := HLN.out; simp; omega) (by simp)) ?_; rintro v3 w3 ⟨ho3, hg3, hn3⟩; have ho3 : w3.ownsRow w2.heap.size 5 1 v3 l.length (l.map (Value.int .u8)) := (by simpa using ho3); obtain ⟨g3, cap3, cur3, rfl, hlo3, hk3, hcp3, hcu3⟩ := own_blk ho3 (by have := HLN.out; omega); have q3 : w3.cell? ⟨g3, k, none⟩ = some (.int .u8 av) := (hk3.cell k).trans (hcu3 k av HAV.out); have f3 := hk3.frozen k; have y3 := hk3.lt; have HK3 := Lib.hid hk3; have HCU3 := Lib.hid hcu3; have HLO3 := Lib.hid hlo3; have HC3 := Lib.hid (below_grown (show Below w2.heap.size w2 (w2.alloc (.cells #[] 5)) from (Below.refl _ w2).alloc (Nat.le_refl _) _) hg3 (by intro q hq; have hq := (show w2.heap.size = q from Option.some.inj hq); omega) (by simp)); clear ho3 hn3 hk3 hcu3 hlo3 hg3) | (go_at_call 10; ((with_reducible refine (awake_any _).mono ?_); rintro e w10 ⟨rfl, hb10⟩); have HBZ := Lib.hid ((HB2.out.trans ((HC9.out.alloc HC9.out.size _).mono HB2.out.size)).trans (hb10.mono (by have := HC9.out.size; have := HB2.out.size; simp; omega))); clear hb10) | (go_at_call 10; ((with_reducible refine (awake_any _).mono ?_); rintro e w9 ⟨rfl, hb9⟩); have HBZ := Lib.hid (HB1.out.trans (hb9.mono HB1.out.size)); clear hb9))
  all_goals (go_ret; exact ⟨rfl, HBZ.out⟩)
end Go.Proofs.Ytnkojjkijkhlbaa
