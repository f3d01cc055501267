/-
  A run in two parts is as the run at once; what was told is no part of the machine.
-/
import Derived.Test.YtpokhdnfclmifaaRows
import Derived.Test.YtpokhdnfclmifaaLawG
import Derived.Test.YtpokhdnfclmifaaLawD
import Derived.Test.YtpokhdnfclmifaaLawF
import Derived.Deep.RegionHeld3
import Derived.Lib.MinMax
import Derived.WalkKit
namespace Go.Proofs.Ytpokhdnfclmifaa.machParts
open Go.ChangeShapes Go.WideShapes Go.ChangeAt Go.RowKit
set_option linter.unusedVariables false

/-! ### The walk. -/
set_option maxHeartbeats 1000000 in
theorem walk_heavy (w : World) (CA0 DA0 : Option Addr) (cd0 dd0 : List Int) (c00 c10 : Nat) (E0 : Int) (hc0 : Reads w w.heap.size 1 CA0 cd0.length (cd0.map (Value.int .i64))) (hd0 : Reads w w.heap.size 1 DA0 dd0.length (dd0.map (Value.int .i64))) (hw0 : ∀ n ∈ cd0, -9223372036854775808 ≤ n ∧ n ≤ 9223372036854775807) (hE0 : I64 E0) (a1 : Int) (ha1 : I64 a1) (IA : Option Addr) (bs : List Int) (c2 : Nat) (hi : Reads w w.heap.size 1 IA bs.length (bs.map (Value.int .u8))) (hby : ∀ n ∈ bs, 0 ≤ n ∧ n ≤ 255) (a3 : Int) (ha3 : I64 a3) (a4 : Int) (ha4 : I64 a4) (hh : hvy cd0.length dd0.length bs.length a1 a3 = true) :
    Calls Try.prog 6 #[.agg #[.slice CA0 cd0.length c00, .slice DA0 dd0.length c10, .int .i64 E0], .int .i64 a1, .slice IA bs.length c2, .int .i64 a3, .int .i64 a4] w fun e w' => e = .returned (.bool true) ∧ Below w.heap.size w w' := by
  have HH := Lib.hid hh
  clear hh
  go_enter Try.func6, Try.ntmps6
  go_wp2_with fail
  refine (heavy_any _ CA0 DA0 IA cd0.length dd0.length bs.length c00 c10 c2 E0 _ a3).mono ?_
  rw [HH.out]
  rintro e w1 ⟨rfl, hb1⟩
  have hB1 := below_next' ((Below.refl _ w).alloc (Nat.le_refl _) _) hb1
  clear hb1
  go_wp2_with fail
  refine (awake_any _).mono ?_
  rintro e w2 ⟨rfl, hb2⟩
  go_wp2
  go_ret
  exact ⟨rfl, below_next' hB1 hb2⟩
set_option maxHeartbeats 1000000 in
theorem walk_long (w : World) (CA0 DA0 : Option Addr) (cd0 dd0 : List Int) (c00 c10 : Nat) (E0 : Int) (hc0 : Reads w w.heap.size 1 CA0 cd0.length (cd0.map (Value.int .i64))) (hd0 : Reads w w.heap.size 1 DA0 dd0.length (dd0.map (Value.int .i64))) (hw0 : ∀ n ∈ cd0, -9223372036854775808 ≤ n ∧ n ≤ 9223372036854775807) (hE0 : I64 E0) (a1 : Int) (ha1 : I64 a1) (IA : Option Addr) (bs : List Int) (c2 : Nat) (hi : Reads w w.heap.size 1 IA bs.length (bs.map (Value.int .u8))) (hby : ∀ n ∈ bs, 0 ≤ n ∧ n ≤ 255) (a3 : Int) (ha3 : I64 a3) (a4 : Int) (ha4 : I64 a4) (hh : hvy cd0.length dd0.length bs.length a1 a3 = false) (g2 : 3000 < a4) :
    Calls Try.prog 6 #[.agg #[.slice CA0 cd0.length c00, .slice DA0 dd0.length c10, .int .i64 E0], .int .i64 a1, .slice IA bs.length c2, .int .i64 a3, .int .i64 a4] w fun e w' => e = .returned (.bool true) ∧ Below w.heap.size w w' := by
  have HH := Lib.hid hh
  have d2 : decide (3000 < a4) = true := by simpa using g2
  clear hh
  go_enter Try.func6, Try.ntmps6
  go_wp2_with fail
  refine (heavy_any _ CA0 DA0 IA cd0.length dd0.length bs.length c00 c10 c2 E0 _ a3).mono ?_
  rw [HH.out]
  rintro e w1 ⟨rfl, hb1⟩
  have hB1 := below_next' ((Below.refl _ w).alloc (Nat.le_refl _) _) hb1
  clear hb1
  go_wp2_with fail
  refine (awake_any _).mono ?_
  rintro e w2 ⟨rfl, hb2⟩
  go_wp2
  go_ret
  exact ⟨rfl, below_next' hB1 hb2⟩
set_option maxHeartbeats 1000000 in
theorem walk_form (w : World) (CA0 DA0 : Option Addr) (cd0 dd0 : List Int) (c00 c10 : Nat) (E0 : Int) (hc0 : Reads w w.heap.size 1 CA0 cd0.length (cd0.map (Value.int .i64))) (hd0 : Reads w w.heap.size 1 DA0 dd0.length (dd0.map (Value.int .i64))) (hw0 : ∀ n ∈ cd0, -9223372036854775808 ≤ n ∧ n ≤ 9223372036854775807) (hE0 : I64 E0) (a1 : Int) (ha1 : I64 a1) (IA : Option Addr) (bs : List Int) (c2 : Nat) (hi : Reads w w.heap.size 1 IA bs.length (bs.map (Value.int .u8))) (hby : ∀ n ∈ bs, 0 ≤ n ∧ n ≤ 255) (a3 : Int) (ha3 : I64 a3) (a4 : Int) (ha4 : I64 a4) (hh : hvy cd0.length dd0.length bs.length a1 a3 = false) (g2 : a4 ≤ 3000) (hf : ¬ okF cd0 dd0 E0) :
    Calls Try.prog 6 #[.agg #[.slice CA0 cd0.length c00, .slice DA0 dd0.length c10, .int .i64 E0], .int .i64 a1, .slice IA bs.length c2, .int .i64 a3, .int .i64 a4] w fun e w' => e = .returned (.bool true) ∧ Below w.heap.size w w' := by
  have HH := Lib.hid hh
  have d2 : decide (3000 < a4) = false := by simpa using g2
  have HI : Hid (In3 w w.heap.size CA0 DA0 IA cd0 dd0 bs) := Lib.hid ⟨hc0, hd0, hi, Nat.le_refl _, hw0, hby⟩
  have HF := Lib.hid hf
  clear hf
  clear hh hc0 hd0 hi hw0 hby
  go_enter Try.func6, Try.ntmps6
  go_wp2_with fail
  refine (heavy_any _ CA0 DA0 IA cd0.length dd0.length bs.length c00 c10 c2 E0 _ a3).mono ?_
  rw [HH.out]
  rintro e w1 ⟨rfl, hb1⟩
  have hx0 : Blk (w.alloc (.cells #[.slice CA0 cd0.length c00, .slice DA0 dd0.length c10, .int .i64 E0] 24)) w.heap.size 24 #[.slice CA0 cd0.length c00, .slice DA0 dd0.length c10, .int .i64 E0] := Blk.new w _ _
  have hx1 := hx0.below hb1 hx0.lt
  have hB1 := below_next' ((Below.refl _ w).alloc (Nat.le_refl _) _) hb1
  have x0 := hx1.get (i := 0) rfl
  have x1 := hx1.get (i := 1) rfl
  have x2 := hx1.get (i := 2) rfl
  have HX1 := Lib.hid hx1
  have HB1 := Lib.hid hB1
  clear hx0 hx1 hb1 hB1
  go_wp2_with fail
  clear x0 x1 x2
  refine (new_no_form (HI.out.below HB1.out) c00 c10 c2 E0 a1 HF.out).mono ?_
  rintro e w2 ⟨rfl, hb2⟩
  have HB2 := Lib.hid (below_next' HB1.out hb2)
  clear hb2
  go_wp2_with fail
  refine (num_any _ _).mono ?_
  rintro e w3 ⟨rfl, rfl⟩
  go_wp2_with fail
  refine (awake_any _).mono ?_
  rintro e w4 ⟨rfl, hb4⟩
  go_wp2
  go_ret
  exact ⟨rfl, below_next' HB2.out hb4⟩
set_option maxHeartbeats 1000000 in
theorem walk_arg (w : World) (CA0 DA0 : Option Addr) (cd0 dd0 : List Int) (c00 c10 : Nat) (E0 : Int) (hc0 : Reads w w.heap.size 1 CA0 cd0.length (cd0.map (Value.int .i64))) (hd0 : Reads w w.heap.size 1 DA0 dd0.length (dd0.map (Value.int .i64))) (hw0 : ∀ n ∈ cd0, -9223372036854775808 ≤ n ∧ n ≤ 9223372036854775807) (hE0 : I64 E0) (a1 : Int) (ha1 : I64 a1) (IA : Option Addr) (bs : List Int) (c2 : Nat) (hi : Reads w w.heap.size 1 IA bs.length (bs.map (Value.int .u8))) (hby : ∀ n ∈ bs, 0 ≤ n ∧ n ≤ 255) (a3 : Int) (ha3 : I64 a3) (a4 : Int) (ha4 : I64 a4) (hh : hvy cd0.length dd0.length bs.length a1 a3 = false) (g2 : a4 ≤ 3000) (hf : okF cd0 dd0 E0) (ha : ¬ okA dd0 bs a1) :
    Calls Try.prog 6 #[.agg #[.slice CA0 cd0.length c00, .slice DA0 dd0.length c10, .int .i64 E0], .int .i64 a1, .slice IA bs.length c2, .int .i64 a3, .int .i64 a4] w fun e w' => e = .returned (.bool true) ∧ Below w.heap.size w w' := by
  have HH := Lib.hid hh
  have d2 : decide (3000 < a4) = false := by simpa using g2
  have HI : Hid (In3 w w.heap.size CA0 DA0 IA cd0 dd0 bs) := Lib.hid ⟨hc0, hd0, hi, Nat.le_refl _, hw0, hby⟩
  have HF := Lib.hid hf
  have HA := Lib.hid ha
  clear hf ha
  clear hh hc0 hd0 hi hw0 hby
  go_enter Try.func6, Try.ntmps6
  go_wp2_with fail
  refine (heavy_any _ CA0 DA0 IA cd0.length dd0.length bs.length c00 c10 c2 E0 _ a3).mono ?_
  rw [HH.out]
  rintro e w1 ⟨rfl, hb1⟩
  have hx0 : Blk (w.alloc (.cells #[.slice CA0 cd0.length c00, .slice DA0 dd0.length c10, .int .i64 E0] 24)) w.heap.size 24 #[.slice CA0 cd0.length c00, .slice DA0 dd0.length c10, .int .i64 E0] := Blk.new w _ _
  have hx1 := hx0.below hb1 hx0.lt
  have hB1 := below_next' ((Below.refl _ w).alloc (Nat.le_refl _) _) hb1
  have x0 := hx1.get (i := 0) rfl
  have x1 := hx1.get (i := 1) rfl
  have x2 := hx1.get (i := 2) rfl
  have HX1 := Lib.hid hx1
  have HB1 := Lib.hid hB1
  clear hx0 hx1 hb1 hB1
  go_wp2_with fail
  clear x0 x1 x2
  refine (new_no_arg (HI.out.below HB1.out) c00 c10 c2 E0 a1 HF.out HA.out).mono ?_
  rintro e w2 ⟨rfl, hb2⟩
  have HB2 := Lib.hid (below_next' HB1.out hb2)
  clear hb2
  go_wp2_with fail
  refine (num_any _ _).mono ?_
  rintro e w3 ⟨rfl, rfl⟩
  go_wp2_with fail
  refine (awake_any _).mono ?_
  rintro e w4 ⟨rfl, hb4⟩
  go_wp2
  go_ret
  exact ⟨rfl, below_next' HB2.out hb4⟩
theorem two_parts (cd : List Int) (s : St) (h0 : s.steps = 0) (k l : Nat) (hk : k ≤ 3000) (hl : l ≤ 3000) :
    (iter cd k s).steps ≤ k ∧ (iter cd l (iter cd k s)).steps ≤ (k : Int) + l ∧ ((iter cd k s).kind = 0 → (iter cd k s).steps = k) ∧ ((iter cd k s).kind ≠ 0 → iter cd l (iter cd k s) = iter cd k s) ∧ iter cd l (iter cd k s) = iter cd (k + l) s := by
  have h1 := iter_steps cd s h0 k (by omega)
  have h2 := iter_steps cd s h0 (k + l) (by omega)
  rw [← iter_add]
  refine ⟨h1.2.1, by omega, h1.2.2, fun hz => iter_idle hz (k + l) (by omega), rfl⟩
/-- What was told lies in a block that may be written. -/
def Open (w : World) (b : Nat) (A : Option Addr) (n : Nat) : Prop := 0 < n → ∃ g cur, A = some ⟨g, 0, none⟩ ∧ b ≤ g ∧ Blk w g 5 cur ∧ ∀ j, j < n → ∃ x : Int, cur[j]? = some (.int .u8 x)
theorem Open.of {w : World} {b n c : Nat} {A : Option Addr} {xs : List Int} (h : w.ownsRow b 5 1 (.slice A n c) n (xs.map (Value.int .u8))) : Open w b A n := by
  intro hn
  have hl : xs.length = n := by have := h.1; simpa using this
  rcases h.2 with ⟨e1, e2⟩ | ⟨g, cap, cur, e1, hb, hg, hn', hm, hs, ht⟩
  · omega
  · injection e1 with e3 e4 e5
    refine ⟨g, cur, e3, hb, hg, fun j hj => ?_⟩
    have hx : j < xs.length := by omega
    have q : (xs.map (Value.int .u8))[j]? = some (.int .u8 xs[j]) := by simp [hx]
    rw [← ht, List.getElem?_take] at q
    split at q
    · exact ⟨xs[j], by simpa using q⟩
    · cases q
theorem Open.alloc {w : World} {b n : Nat} {A : Option Addr} (h : Open w b A n) (o : Obj) : Open (w.alloc o) b A n := by
  intro hn
  obtain ⟨g, cur, h1, h2, h3, h4⟩ := h hn
  exact ⟨g, cur, h1, h2, h3.alloc _, h4⟩
set_option maxRecDepth 100000 in
set_option maxHeartbeats 4000000 in
theorem walk_run (w : World) (CA0 DA0 : Option Addr) (cd0 dd0 : List Int) (c00 c10 : Nat) (E0 : Int) (hc0 : Reads w w.heap.size 1 CA0 cd0.length (cd0.map (Value.int .i64))) (hd0 : Reads w w.heap.size 1 DA0 dd0.length (dd0.map (Value.int .i64))) (hw0 : ∀ n ∈ cd0, -9223372036854775808 ≤ n ∧ n ≤ 9223372036854775807) (hE0 : I64 E0) (a1 : Int) (ha1 : I64 a1) (IA : Option Addr) (bs : List Int) (c2 : Nat) (hi : Reads w w.heap.size 1 IA bs.length (bs.map (Value.int .u8))) (hby : ∀ n ∈ bs, 0 ≤ n ∧ n ≤ 255) (a3 : Int) (ha3 : I64 a3) (a4 : Int) (ha4 : I64 a4) (hh : hvy cd0.length dd0.length bs.length a1 a3 = false) (g2 : a4 ≤ 3000) (hf : okF cd0 dd0 E0) (m : Nat) (hm : a1 = (m : Int)) (ha : okA dd0 bs (m : Int)) :
    Calls Try.prog 6 #[.agg #[.slice CA0 cd0.length c00, .slice DA0 dd0.length c10, .int .i64 E0], .int .i64 a1, .slice IA bs.length c2, .int .i64 a3, .int .i64 a4] w fun e w' => e = .returned (.bool true) ∧ Below w.heap.size w w' := by
  subst hm
  have g3 : a3 ≤ 3000 := by
    unfold hvy at hh
    have := of_decide_eq_false hh
    omega
  have HH := Lib.hid hh
  have d2 : decide (3000 < a4) = false := by simpa using g2
  have HI : Hid (In3 w w.heap.size CA0 DA0 IA cd0 dd0 bs) := Lib.hid ⟨hc0, hd0, hi, Nat.le_refl _, hw0, hby⟩
  have HF := Lib.hid hf
  have HA := Lib.hid ha
  obtain ⟨k, hk⟩ : ∃ k : Nat, a3.toNat = k := ⟨_, rfl⟩
  obtain ⟨l, hl⟩ : ∃ l : Nat, a4.toNat = l := ⟨_, rfl⟩
  have mk : max a3 0 = (k : Int) := by omega
  have ml : max a4 0 = (l : Int) := by omega
  have k0 : (0 : Int) ≤ (k : Int) := by omega
  have l0 : (0 : Int) ≤ (l : Int) := by omega
  have k3 : (k : Int) ≤ 3000 := by omega
  have l3 : (l : Int) ≤ 3000 := by omega
  have TP := Lib.hid (two_parts cd0 (st0 dd0 bs E0 m) rfl k l (by omega) (by omega))
  have HK := Lib.hid hk
  have HL := Lib.hid hl
  have HA4 := Lib.hid ha4
  have HA3 := Lib.hid ha3
  clear hh hc0 hd0 hi hw0 hby hf ha hk hl ha4 ha3 ha1 hE0
  go_enter Try.func6, Try.ntmps6
  go_wp2_with fail
  refine (heavy_any _ CA0 DA0 IA cd0.length dd0.length bs.length c00 c10 c2 E0 _ a3).mono ?_
  rw [HH.out]
  rintro e w1 ⟨rfl, hb1⟩
  have hx0 : Blk (w.alloc (.cells #[.slice CA0 cd0.length c00, .slice DA0 dd0.length c10, .int .i64 E0] 24)) w.heap.size 24 #[.slice CA0 cd0.length c00, .slice DA0 dd0.length c10, .int .i64 E0] := Blk.new w _ _
  have hx1 := hx0.below hb1 hx0.lt
  have hB1 := below_next' ((Below.refl _ w).alloc (Nat.le_refl _) _) hb1
  have x0 := hx1.get (i := 0) rfl
  have x1 := hx1.get (i := 1) rfl
  have x2 := hx1.get (i := 2) rfl
  have HX1 := Lib.hid hx1
  have HB1 := Lib.hid hB1
  clear hx0 hx1 hb1 hB1
  go_wp2_with fail
  clear x0 x1 x2
  refine (new_rep (HI.out.below HB1.out) c00 c10 c2 E0 m HF.out HA.out).mono ?_
  rintro e w2 ⟨L, iv, rfl, hR, hb2⟩
  have hx2 := HX1.out.below hb2 HX1.out.lt
  have HX2 := Lib.hid hx2
  have HB2 := Lib.hid (below_next' HB1.out hb2)
  have HR := Lib.hid hR
  have HX1L := Lib.hid HX1.out.lt
  clear hx2 hb2 hR
  go_wp2_with fail
  refine (num_any _ _).mono ?_
  rintro e w3 ⟨rfl, rfl⟩
  go_wp2_with fail
  refine (runm_k w2 _ L cd0 _ iv _ HR.out a3 HA3.out.2 k HK.out).mono ?_
  generalize iter cd0 k (st0 dd0 bs E0 m) = z1 at *
  rintro e w4 ⟨A, c, wa, iv2, ov2, rfl, hown, hRa, hba, hbb⟩
  have HBa := Lib.hid (HB2.out.trans (hba.mono (Nat.le_trans (Nat.le_of_lt HX1L.out) (Nat.le_refl _))))
  have HXA := Lib.hid (HX2.out.below hba HX1L.out)
  have HOP := Lib.hid (Open.of hown)
  have HBB := Lib.hid hbb
  have hn := hRa.outl
  have HRa := Lib.hid hRa
  clear hba hbb hown hRa
  generalize hnn : z1.out.length = n at *
  have HN := Lib.hid hnn
  clear hnn
  go_wp2
  go_loopw [18] (fun i wr => ∃ j : Nat, i = .int .i64 j ∧ j ≤ n ∧ Below wa.heap.size wa wr ∧ Blk wr w4.heap.size 29 #[.int .i64 z1.kind, .int .i64 z1.code, .slice A n c, .int .i64 z1.steps] ∧ Open wr wa.heap.size A n) (fun i _ => n - (intOf i).toNat)
  case atStart => exact ⟨0, rfl, Nat.zero_le _, HBB.out.alloc HBB.out.size _, Blk.new _ _ _, HOP.out.alloc _⟩
  case round =>
    obtain ⟨j, rfl, hj, hBr, hOr, hopn⟩ := hrel
    obtain ⟨wo, rfl⟩ : ∃ wo : World, wo = wr := ⟨_, rfl⟩
    have q2 := hOr.get (i := 2) rfl
    have j0 : (0 : Int) ≤ (j : Int) := by omega
    have HBR := Lib.hid hBr
    have HOR := Lib.hid hOr
    have HO2 := Lib.hid hopn
    clear hBr hOr hopn
    by_cases hlt : j < n
    · have j1 : (j : Int) < (n : Int) := by omega
      obtain ⟨g, cur, rfl, hg, hblk, hcur⟩ := HO2.out (by omega)
      obtain ⟨x, hx⟩ := hcur j hlt
      go_wp2_with fail
      refine st_tail 10 (by kernel_rfl) (by kernel_rfl) ?_
      intro W hW
      have jo : Blk W w4.heap.size 29 #[.int .i64 z1.kind, .int .i64 z1.code, .slice (some ⟨g, 0, none⟩) n c, .int .i64 z1.steps] := by rw [← hW]; exact HOR.out.drew
      have jg : Blk W g 5 cur := by rw [← hW]; exact hblk.drew
      have jB : Below wa.heap.size wa W := by rw [← hW]; exact HBR.out.drew
      have p1 := jo.get (i := 2) rfl
      have p2 := jg.get hx
      have p3 : W.frozen? ⟨g, j, none⟩ = false := jg.frozen _
      have JO := Lib.hid jo
      have JG := Lib.hid jg
      have JB := Lib.hid jB
      have HC := Lib.hid hcur
      clear hW HOR hblk HBR q2 jo jg jB hx HO2 hcur
      simp only [List.take_succ_cons, List.take_zero, List.drop_succ_cons, List.drop_zero]
      repeat still_step
      refine wpStill_nil ?_
      go_wp2
      go_roundw
      case rel =>
        refine ⟨j + 1, by go_num, by omega, JB.out.setCell hg _, JO.out.far (p := ⟨g, j, none⟩) (JO.out.ne_ JG.out (by decide)) _, fun hn => ⟨g, _, rfl, hg, JG.out.set_ j _, fun i hi => ?_⟩⟩
        by_cases e : i = j
        · subst e
          obtain ⟨y, hy⟩ := HC.out i hi
          exact ⟨_, by rw [Array.getElem?_setIfInBounds_self_of_lt (by have := Array.getElem?_eq_some_iff.1 hy; exact this.1)]⟩
        · rw [Array.getElem?_setIfInBounds_ne (Ne.symm e)]
          exact HC.out i hi
      case measure => simp [intOf]; omega
    · have j1 : decide ((j : Int) < (n : Int)) = false := by simp; omega
      have HRo := Lib.hid (HRa.out.keep HBR.out)
      have hltA := HXA.out.lt
      have HX4 := Lib.hid (HXA.out.below HBR.out hltA)
      have HB4 := Lib.hid (HBa.out.trans (HBR.out.mono (Nat.le_of_lt hltA)))
      obtain ⟨t1, t2, t3, t4, t5⟩ := TP.out
      have hrp : runP cd0 dd0 bs E0 (m : Int) ((k : Int) + (l : Int)) = ocOf (iter cd0 l z1) := by
        unfold runP
        rw [if_pos ⟨HF.out, HA.out⟩, t5, Int.toNat_natCast, show (min ((k : Int) + (l : Int)) 4194304).toNat = k + l by omega]
      have HRP := Lib.hid hrp
      have HT4 := Lib.hid t4
      have HT3 := Lib.hid t3
      clear t3 t4 t5 hrp TP hltA
      have e1 : decide ((k : Int) < z1.steps) = false := by simp; omega
      have e2 : decide ((k : Int) + (l : Int) < (iter cd0 l z1).steps) = false := by simp; omega
      have e3 : wrap64 ((k : Int) + (l : Int)) = (k : Int) + (l : Int) := wrap_in (by omega) (by omega)
      have e4 : IntKind.i64.wrap ((k : Int) + (l : Int)) = (k : Int) + (l : Int) := (wrap_is _).trans e3
      clear t1 t2 HOR HO2
      go_wp2_with fail
      refine (runm_k wo _ L cd0 _ _ _ HRo.out a4 HA4.out.2 l HL.out).mono ?_
      generalize iter cd0 l z1 = z2 at *
      rintro e w5 ⟨A5, c5, wc, iv3, ov3, rfl, hown5, hRc, hbc, hbd⟩
      have hB5 : Below w.heap.size w w5 := HB4.out.trans ((hbc.mono (Nat.le_of_lt HX1L.out)).trans (hbd.mono (Nat.le_trans HB4.out.size hbc.size)))
      have HR5 := Lib.hid (hRc.keep hbd)
      have HX5 := Lib.hid ((HX4.out.below hbc HX1L.out).below hbd (HX4.out.below hbc HX1L.out).lt)
      have HO5 := Lib.hid hown5
      clear hown5 hRc hbc hbd
      by_cases hz : z1.kind = 0
      · have f1 := HT3.out hz
        have f2 : (z1.kind == 0) = true := by simpa using hz
        have f3 : (z1.kind != 0) = false := by simpa using hz
        have f4 : (z1.steps != (k : Int)) = false := by simpa using f1
        clear hz f1
        go_wp2_with fail
        generalize hW : World.alloc w5 _ = W
        have hBW : Below w.heap.size w W := by rw [← hW]; exact hB5.alloc hB5.size _
        have bW : Below w5.heap.size w5 W := by rw [← hW]; exact (Below.refl _ w5).alloc (Nat.le_refl _) _
        have jp : Blk W w5.heap.size 29 #[.int .i64 z2.kind, .int .i64 z2.code, .slice A5 z2.out.length c5, .int .i64 z2.steps] := by rw [← hW]; exact Blk.new _ _ _
        have ji := HX5.out.below bW HX5.out.lt
        have jR := HR5.out.keep bW
        have jown := own_below HO5.out bW
        have HSK := Lib.hid (show ∀ w', Below W.heap.size W w' → w'.cell? ⟨w.heap.size, 0, none⟩ = some (.slice CA0 cd0.length c00) ∧ w'.cell? ⟨w.heap.size, 1, none⟩ = some (.slice DA0 dd0.length c10) ∧ w'.cell? ⟨w.heap.size, 2, none⟩ = some (.int .i64 E0) ∧ w'.cell? ⟨w5.heap.size, 0, none⟩ = some (.int .i64 z2.kind) ∧ w'.cell? ⟨w5.heap.size, 1, none⟩ = some (.int .i64 z2.code) ∧ w'.cell? ⟨w5.heap.size, 2, none⟩ = some (.slice A5 z2.out.length c5) ∧ w'.cell? ⟨w5.heap.size, 3, none⟩ = some (.int .i64 z2.steps) from fun w' hb =>
          have i1 := ji.below hb ji.lt
          have i2 := jp.below hb jp.lt
          ⟨i1.get (i := 0) rfl, i1.get (i := 1) rfl, i1.get (i := 2) rfl, i2.get (i := 0) rfl, i2.get (i := 1) rfl, i2.get (i := 2) rfl, i2.get (i := 3) rfl⟩)
        have HRUN := Lib.hid (show ∀ w', Below W.heap.size W w' → Calls Try.prog 14 #[.agg #[.slice CA0 cd0.length c00, .slice DA0 dd0.length c10, .int .i64 E0], .int .i64 (m : Int), .slice IA bs.length c2, .int .i64 ((k : Int) + (l : Int))] w' fun e w'' => ∃ A c, e = .returned (.agg #[.int .i64 z2.kind, .int .i64 z2.code, .slice A z2.out.length c, .int .i64 z2.steps]) ∧ w''.ownsRow W.heap.size 5 1 (.slice A z2.out.length c) z2.out.length (z2.out.map (Value.int .u8)) ∧ Below W.heap.size W w'' from fun w' hb => by
          have hr := mrun_any (HI.out.below (hBW.trans (hb.mono hBW.size))) c00 c10 c2 E0 (m : Int) ((k : Int) + (l : Int))
          rw [HRP.out] at hr
          refine Calls.mono hr ?_
          rintro e w'' ⟨v, rfl, ⟨A, c, rfl, ho⟩, hb2⟩
          exact ⟨A, c, rfl, own_mono ho hb.size, below_next' hb hb2⟩)
        have HOC := Lib.hid (show ∀ w', Below W.heap.size W w' → Calls Try.prog 22 #[.pointer (some ⟨L.g, 0, none⟩)] w' fun e w'' => ∃ A c, e = .returned (.agg #[.int .i64 z2.kind, .int .i64 z2.code, .slice A z2.out.length c, .int .i64 z2.steps]) ∧ w''.ownsRow W.heap.size 5 1 (.slice A z2.out.length c) z2.out.length (z2.out.map (Value.int .u8)) ∧ Below W.heap.size W w'' from fun w' hb => by
          refine (outcome_rep (jR.keep hb)).mono ?_
          rintro e w'' ⟨A, c, rfl, ho, hb2⟩
          exact ⟨A, c, rfl, own_mono ho hb.size, below_next' hb hb2⟩)
        have HS1 := Lib.hid (show ∀ w' A c, Below W.heap.size W w' → w'.ownsRow W.heap.size 5 1 (.slice A z2.out.length c) z2.out.length (z2.out.map (Value.int .u8)) → Calls Try.prog 15 #[.agg #[.int .i64 z2.kind, .int .i64 z2.code, .slice A5 z2.out.length c5, .int .i64 z2.steps], .agg #[.int .i64 z2.kind, .int .i64 z2.code, .slice A z2.out.length c, .int .i64 z2.steps]] w' fun e w'' => e = .returned (.bool true) ∧ Below W.heap.size W w'' from fun w' A c hb ho => by
          refine (same_yes w' _ _ (ocOf z2) A5 A c5 c (own_below jown hb) ho).mono ?_
          rintro e w'' ⟨rfl, hb2⟩
          exact ⟨rfl, below_next' hb hb2⟩)
        have HS2 := Lib.hid (show ∀ w' A c, Below W.heap.size W w' → w'.ownsRow W.heap.size 5 1 (.slice A z2.out.length c) z2.out.length (z2.out.map (Value.int .u8)) → Calls Try.prog 15 #[.agg #[.int .i64 z2.kind, .int .i64 z2.code, .slice A z2.out.length c, .int .i64 z2.steps], .agg #[.int .i64 z2.kind, .int .i64 z2.code, .slice A5 z2.out.length c5, .int .i64 z2.steps]] w' fun e w'' => e = .returned (.bool true) ∧ Below W.heap.size W w'' from fun w' A c hb ho => by
          refine (same_yes w' _ _ (ocOf z2) A A5 c c5 ho (own_below jown hb)).mono ?_
          rintro e w'' ⟨rfl, hb2⟩
          exact ⟨rfl, below_next' hb hb2⟩)
        have HBW := Lib.hid hBW
        clear hW hBW bW jp ji jR jown hB5
        go_region_held3 (fun w' => w'.cell? ⟨w.heap.size, 0, none⟩ = some (.slice CA0 cd0.length c00) ∧ w'.cell? ⟨w.heap.size, 1, none⟩ = some (.slice DA0 dd0.length c10) ∧ w'.cell? ⟨w.heap.size, 2, none⟩ = some (.int .i64 E0) ∧ w'.cell? ⟨w5.heap.size, 0, none⟩ = some (.int .i64 z2.kind) ∧ w'.cell? ⟨w5.heap.size, 1, none⟩ = some (.int .i64 z2.code) ∧ w'.cell? ⟨w5.heap.size, 2, none⟩ = some (.slice A5 z2.out.length c5) ∧ w'.cell? ⟨w5.heap.size, 3, none⟩ = some (.int .i64 z2.steps)) ((first | exact HSK.out _ (by first | exact Below.drew (Below.refl _ W) | assumption))) (first
          | (go_at_call 14; refine (HRUN.out _ (by first | exact Below.drew (Below.refl _ W) | assumption)).mono ?_; rintro e w7 ⟨A7, c7, rfl, hown7, hb7⟩)
          | (go_at_call 15; (with_reducible refine (HS2.out _ A9 c9 hb9 hown9).mono ?_); rintro e w10 ⟨rfl, hb10⟩)
          | (go_at_call 15; (with_reducible refine (HS1.out _ A7 c7 hb7 hown7).mono ?_); rintro e w8 ⟨rfl, hb8⟩)
          | (go_at_call 22; refine (HOC.out _ hb8).mono ?_; rintro e w9 ⟨A9, c9, rfl, hown9, hb9⟩)
          | (go_at_call 13; refine (awake_any _).mono ?_; rintro e w11 ⟨rfl, hb11'⟩; have hb11 := below_next' hb10 hb11'; clear hb11'))
        all_goals (go_wp2; go_ret; exact ⟨rfl, HBW.out.trans (hb11.mono HBW.out.size)⟩)
      · obtain rfl := HT4.out hz
        have f2 : (z2.kind == 0) = false := by simpa using hz
        have f3 : (z2.kind != 0) = true := by simpa using hz
        clear hz
        go_wp2_with fail
        generalize hW : World.alloc w5 _ = W
        have hBW : Below w.heap.size w W := by rw [← hW]; exact hB5.alloc hB5.size _
        have bW : Below w5.heap.size w5 W := by rw [← hW]; exact (Below.refl _ w5).alloc (Nat.le_refl _) _
        have jp : Blk W w5.heap.size 29 #[.int .i64 z2.kind, .int .i64 z2.code, .slice A5 z2.out.length c5, .int .i64 z2.steps] := by rw [← hW]; exact Blk.new _ _ _
        have ji := HX5.out.below bW HX5.out.lt
        have jR := HR5.out.keep bW
        have jown := own_below HO5.out bW
        have HSK := Lib.hid (show ∀ w', Below W.heap.size W w' → w'.cell? ⟨w.heap.size, 0, none⟩ = some (.slice CA0 cd0.length c00) ∧ w'.cell? ⟨w.heap.size, 1, none⟩ = some (.slice DA0 dd0.length c10) ∧ w'.cell? ⟨w.heap.size, 2, none⟩ = some (.int .i64 E0) ∧ w'.cell? ⟨w5.heap.size, 0, none⟩ = some (.int .i64 z2.kind) ∧ w'.cell? ⟨w5.heap.size, 1, none⟩ = some (.int .i64 z2.code) ∧ w'.cell? ⟨w5.heap.size, 2, none⟩ = some (.slice A5 z2.out.length c5) ∧ w'.cell? ⟨w5.heap.size, 3, none⟩ = some (.int .i64 z2.steps) from fun w' hb =>
          have i1 := ji.below hb ji.lt
          have i2 := jp.below hb jp.lt
          ⟨i1.get (i := 0) rfl, i1.get (i := 1) rfl, i1.get (i := 2) rfl, i2.get (i := 0) rfl, i2.get (i := 1) rfl, i2.get (i := 2) rfl, i2.get (i := 3) rfl⟩)
        have HRUN := Lib.hid (show ∀ w', Below W.heap.size W w' → Calls Try.prog 14 #[.agg #[.slice CA0 cd0.length c00, .slice DA0 dd0.length c10, .int .i64 E0], .int .i64 (m : Int), .slice IA bs.length c2, .int .i64 ((k : Int) + (l : Int))] w' fun e w'' => ∃ A c, e = .returned (.agg #[.int .i64 z2.kind, .int .i64 z2.code, .slice A z2.out.length c, .int .i64 z2.steps]) ∧ w''.ownsRow W.heap.size 5 1 (.slice A z2.out.length c) z2.out.length (z2.out.map (Value.int .u8)) ∧ Below W.heap.size W w'' from fun w' hb => by
          have hr := mrun_any (HI.out.below (hBW.trans (hb.mono hBW.size))) c00 c10 c2 E0 (m : Int) ((k : Int) + (l : Int))
          rw [HRP.out] at hr
          refine Calls.mono hr ?_
          rintro e w'' ⟨v, rfl, ⟨A, c, rfl, ho⟩, hb2⟩
          exact ⟨A, c, rfl, own_mono ho hb.size, below_next' hb hb2⟩)
        have HOC := Lib.hid (show ∀ w', Below W.heap.size W w' → Calls Try.prog 22 #[.pointer (some ⟨L.g, 0, none⟩)] w' fun e w'' => ∃ A c, e = .returned (.agg #[.int .i64 z2.kind, .int .i64 z2.code, .slice A z2.out.length c, .int .i64 z2.steps]) ∧ w''.ownsRow W.heap.size 5 1 (.slice A z2.out.length c) z2.out.length (z2.out.map (Value.int .u8)) ∧ Below W.heap.size W w'' from fun w' hb => by
          refine (outcome_rep (jR.keep hb)).mono ?_
          rintro e w'' ⟨A, c, rfl, ho, hb2⟩
          exact ⟨A, c, rfl, own_mono ho hb.size, below_next' hb hb2⟩)
        have HS1 := Lib.hid (show ∀ w' A c, Below W.heap.size W w' → w'.ownsRow W.heap.size 5 1 (.slice A z2.out.length c) z2.out.length (z2.out.map (Value.int .u8)) → Calls Try.prog 15 #[.agg #[.int .i64 z2.kind, .int .i64 z2.code, .slice A5 z2.out.length c5, .int .i64 z2.steps], .agg #[.int .i64 z2.kind, .int .i64 z2.code, .slice A z2.out.length c, .int .i64 z2.steps]] w' fun e w'' => e = .returned (.bool true) ∧ Below W.heap.size W w'' from fun w' A c hb ho => by
          refine (same_yes w' _ _ (ocOf z2) A5 A c5 c (own_below jown hb) ho).mono ?_
          rintro e w'' ⟨rfl, hb2⟩
          exact ⟨rfl, below_next' hb hb2⟩)
        have HS2 := Lib.hid (show ∀ w' A c, Below W.heap.size W w' → w'.ownsRow W.heap.size 5 1 (.slice A z2.out.length c) z2.out.length (z2.out.map (Value.int .u8)) → Calls Try.prog 15 #[.agg #[.int .i64 z2.kind, .int .i64 z2.code, .slice A z2.out.length c, .int .i64 z2.steps], .agg #[.int .i64 z2.kind, .int .i64 z2.code, .slice A5 z2.out.length c5, .int .i64 z2.steps]] w' fun e w'' => e = .returned (.bool true) ∧ Below W.heap.size W w'' from fun w' A c hb ho => by
          refine (same_yes w' _ _ (ocOf z2) A A5 c c5 ho (own_below jown hb)).mono ?_
          rintro e w'' ⟨rfl, hb2⟩
          exact ⟨rfl, below_next' hb hb2⟩)
        have HBW := Lib.hid hBW
        clear hW hBW bW jp ji jR jown hB5
        go_region_held3 (fun w' => w'.cell? ⟨w.heap.size, 0, none⟩ = some (.slice CA0 cd0.length c00) ∧ w'.cell? ⟨w.heap.size, 1, none⟩ = some (.slice DA0 dd0.length c10) ∧ w'.cell? ⟨w.heap.size, 2, none⟩ = some (.int .i64 E0) ∧ w'.cell? ⟨w5.heap.size, 0, none⟩ = some (.int .i64 z2.kind) ∧ w'.cell? ⟨w5.heap.size, 1, none⟩ = some (.int .i64 z2.code) ∧ w'.cell? ⟨w5.heap.size, 2, none⟩ = some (.slice A5 z2.out.length c5) ∧ w'.cell? ⟨w5.heap.size, 3, none⟩ = some (.int .i64 z2.steps)) ((first | exact HSK.out _ (by first | exact Below.drew (Below.refl _ W) | assumption))) (first
          | (go_at_call 14; refine (HRUN.out _ (by first | exact Below.drew (Below.refl _ W) | assumption)).mono ?_; rintro e w7 ⟨A7, c7, rfl, hown7, hb7⟩)
          | (go_at_call 15; (with_reducible refine (HS2.out _ A9 c9 hb9 hown9).mono ?_); rintro e w10 ⟨rfl, hb10⟩)
          | (go_at_call 15; (with_reducible refine (HS1.out _ A7 c7 hb7 hown7).mono ?_); rintro e w8 ⟨rfl, hb8⟩)
          | (go_at_call 22; refine (HOC.out _ hb8).mono ?_; rintro e w9 ⟨A9, c9, rfl, hown9, hb9⟩)
          | (go_at_call 13; refine (awake_any _).mono ?_; rintro e w11 ⟨rfl, hb11'⟩; have hb11 := below_next' hb10 hb11'; clear hb11'))
        all_goals (go_wp2; go_ret; exact ⟨rfl, HBW.out.trans (hb11.mono HBW.out.size)⟩)
theorem walk (w : World) (CA0 DA0 : Option Addr) (cd0 dd0 : List Int) (c00 c10 : Nat) (E0 : Int) (hc0 : Reads w w.heap.size 1 CA0 cd0.length (cd0.map (Value.int .i64))) (hd0 : Reads w w.heap.size 1 DA0 dd0.length (dd0.map (Value.int .i64))) (hw0 : ∀ n ∈ cd0, -9223372036854775808 ≤ n ∧ n ≤ 9223372036854775807) (hE0 : I64 E0) (a1 : Int) (ha1 : I64 a1) (IA : Option Addr) (bs : List Int) (c2 : Nat) (hi : Reads w w.heap.size 1 IA bs.length (bs.map (Value.int .u8))) (hby : ∀ n ∈ bs, 0 ≤ n ∧ n ≤ 255) (a3 : Int) (ha3 : I64 a3) (a4 : Int) (ha4 : I64 a4) :
    Calls Try.prog 6 #[.agg #[.slice CA0 cd0.length c00, .slice DA0 dd0.length c10, .int .i64 E0], .int .i64 a1, .slice IA bs.length c2, .int .i64 a3, .int .i64 a4] w fun e w' => e = .returned (.bool true) ∧ Below w.heap.size w w' := by
  cases hh : hvy cd0.length dd0.length bs.length a1 a3 with
  | true => exact walk_heavy w CA0 DA0 cd0 dd0 c00 c10 E0 hc0 hd0 hw0 hE0 a1 ha1 IA bs c2 hi hby a3 ha3 a4 ha4 hh
  | false =>
    by_cases g2 : 3000 < a4
    · exact walk_long w CA0 DA0 cd0 dd0 c00 c10 E0 hc0 hd0 hw0 hE0 a1 ha1 IA bs c2 hi hby a3 ha3 a4 ha4 hh g2
    · by_cases hf : okF cd0 dd0 E0
      · by_cases ha : okA dd0 bs a1
        · obtain ⟨m, hm⟩ : ∃ m : Nat, a1 = m := ⟨a1.toNat, by have := ha.1; omega⟩
          exact walk_run w CA0 DA0 cd0 dd0 c00 c10 E0 hc0 hd0 hw0 hE0 a1 ha1 IA bs c2 hi hby a3 ha3 a4 ha4 hh (by omega) hf m hm (by rw [← hm]; exact ha)
        · exact walk_arg w CA0 DA0 cd0 dd0 c00 c10 E0 hc0 hd0 hw0 hE0 a1 ha1 IA bs c2 hi hby a3 ha3 a4 ha4 hh (by omega) hf ha
      · exact walk_form w CA0 DA0 cd0 dd0 c00 c10 E0 hc0 hd0 hw0 hE0 a1 ha1 IA bs c2 hi hby a3 ha3 a4 ha4 hh (by omega) hf

/-! ### The row's step. -/
set_option maxRecDepth 100000 in
theorem lifted (os : Os) (started : os.Started) (H : Type) (enc : TypeId × Value → H) :
    ReturnsInHanded {} Try.checked os 6 .any (Rows.machPartsSpec.pre6 enc Try.prog Try.f6 Rows.machPartsRow.domain false) (Rows.machPartsSpec.post enc Try.prog Try.f6 false true false false) := by
  refine returnsInHanded_of_change (C := Try.checked) own started (by kernel_rfl) Try.func6
    (ChangeSpec.witness6 (enc := enc) (C := Try.checked) false ⟨#[], #[.agg #[.slice none 0 0, .slice none 0 0, .int .i64 0], .int .i64 0, .slice none 0 0, .int .i64 0, .int .i64 0], []⟩ 8 (by kernel_rfl) (by kernel_rfl) (by kernel_rfl) (by kernel_rfl)) ?_
  intro W base args ds gs before hval0 hW hcnd _
  have hval : ∀ (j : Nat) t v, Try.f6.params[j]? = some t → args[j]? = some v → Value.okWide Try.prog W .any base t v := hval0
  have hW' := hW
  obtain ⟨p, q, hA0, hV, rfl, hfz, hnd⟩ := hW
  have hA : DataW.TrodAll enc Try.prog W 0 (fun _ => true) true Try.f6.params.toList args.toList ds p := hA0
  rw [Try.params6] at hA hval
  obtain ⟨v0, vs0, d0, ds0, p0, q0, hargs, rfl, rfl, h0, r0⟩ := trodAll_cons hA
  obtain ⟨v1, vs1, d1, ds1, p1, q1, rfl, rfl, rfl, h1, r1⟩ := trodAll_cons r0
  obtain ⟨v2, vs2, d2, ds2, p2, q2, rfl, rfl, rfl, h2, r2⟩ := trodAll_cons r1
  obtain ⟨v3, vs3, d3, ds3, p3, q3, rfl, rfl, rfl, h3, r3⟩ := trodAll_cons r2
  obtain ⟨v4, vs4, d4, ds4, p4, q4, rfl, rfl, rfl, h4, r4⟩ := trodAll_cons r3
  obtain ⟨rfl, rfl, rfl⟩ := trodAll_nil r4
  obtain rfl : args = #[v0, v1, v2, v3, v4] := by cases args; simp_all
  obtain ⟨rfl, rfl⟩ := trodVars_none hV
  obtain ⟨CA0, DA0, cd0, dd0, c00, c10, E0, rfl, hc0, hd0, hw0, _, hE0⟩ := open_image (hval 0 24 v0 rfl rfl) h0
  obtain ⟨a1, rfl, rfl, rfl, w1⟩ := open_int Try.underlying3 (hval 1 3 v1 rfl rfl) h1
  have ha1 := i64_of w1
  obtain ⟨IA, bs, c2, rfl, hi, hby⟩ := open_input (hval 2 25 v2 rfl rfl) h2
  obtain ⟨a3, rfl, rfl, rfl, w3⟩ := open_int Try.underlying3 (hval 3 3 v3 rfl rfl) h3
  have ha3 := i64_of w3
  obtain ⟨a4, rfl, rfl, rfl, w4⟩ := open_int Try.underlying3 (hval 4 3 v4 rfl rfl) h4
  have ha4 := i64_of w4
  refine (walk W CA0 DA0 cd0 dd0 c00 c10 E0 hc0 hd0 hw0 hE0 a1 ha1 IA bs c2 hi hby a3 ha3 a4 ha4).mono fun e W' ⟨he, hb⟩ => ?_
  subst he
  exact ⟨_, rfl, post_law laidOut (by rw [Try.params6]; intro t ht; simp at ht; (first | (rcases ht with rfl | rfl | rfl | rfl | rfl) | (rcases ht with rfl | rfl | rfl | rfl) | (rcases ht with rfl | rfl | rfl) | (rcases ht with rfl | rfl) | subst ht) <;> exact ⟨by kernel_rfl, of_decide_eq_true (by kernel_rfl)⟩) rfl rfl Try.underlying4 rfl hW' hb⟩

theorem over : Rows.machPartsRow.holds Try.pinned (OpenSpec.ofChange Rows.machPartsSpec) :=
  OpenClaim.holds_of_wide 6 Try.f6 rfl rfl rfl rfl rfl rfl rfl ⟨rfl, rfl, rfl, rfl, rfl⟩ rfl rfl rfl rfl rfl (by kernel_rfl) Try.func6 (by kernel_rfl)
    (of_decide_eq_true (by kernel_rfl)) (by unfold Func.isWrapper; first | (rw [if_pos (by decide +kernel)]; kernel_rfl) | (rw [if_neg (by decide +kernel)]; exact ⟨rfl, rfl⟩))
    (fun os started H enc _ => lifted os started H enc)

/-- The statement. -/
theorem proved : Rows.MachPartsSaid :=
  over
#print axioms proved
end Go.Proofs.Ytpokhdnfclmifaa.machParts
