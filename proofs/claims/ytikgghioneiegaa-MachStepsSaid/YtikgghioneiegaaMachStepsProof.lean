/-
  For every image, memory, input, number of steps and place of memory (up to what is played) the program's machine and the document's agree, step by step, in place, registers, words and end.
-/
import Derived.Test.YtikgghioneiegaaRows
import Derived.Test.YtikgghioneiegaaLawG
import Derived.Test.YtikgghioneiegaaLawI
import Derived.Lib.MinMax
import Derived.Deep.RegionHeld3
import Derived.Deep.RegionWith
import Derived.Deep.RegionLaw
import Derived.WalkKit
namespace Go.Proofs.Ytikgghioneiegaa.machSteps
open Go.ChangeShapes Go.WideShapes Go.ChangeAt Go.RowKit
set_option linter.unusedVariables false

/-! ### The walk. -/
theorem walk_heavy (w : World) (CA0 DA0 : Option Addr) (cd0 dd0 : List Int) (c00 c10 : Nat) (E0 : Int) (hc0 : Reads w w.heap.size 1 CA0 cd0.length (cd0.map (Value.int .i64))) (hd0 : Reads w w.heap.size 1 DA0 dd0.length (dd0.map (Value.int .i64))) (hw0 : ∀ n ∈ cd0, -9223372036854775808 ≤ n ∧ n ≤ 9223372036854775807) (hE0 : I64 E0) (a1 : Int) (ha1 : I64 a1) (IA : Option Addr) (bs : List Int) (c2 : Nat) (hi : Reads w w.heap.size 1 IA bs.length (bs.map (Value.int .u8))) (hby : ∀ n ∈ bs, 0 ≤ n ∧ n ≤ 255) (a3 : Int) (ha3 : I64 a3) (a4 : Int) (ha4 : I64 a4) (hh : hvy cd0.length dd0.length bs.length a1 a3 = true) :
    Calls Try.prog 5 #[.agg #[.slice CA0 cd0.length c00, .slice DA0 dd0.length c10, .int .i64 E0], .int .i64 a1, .slice IA bs.length c2, .int .i64 a3, .int .i64 a4] w fun e w' => e = .returned (.bool true) ∧ Below w.heap.size w w' := by
  · have HH := Lib.hid hh
    clear hh hc0 hd0 hi hw0 hby ha1 ha3 ha4 hE0
    go_enter Try.func5, Try.ntmps5
    go_wp2_with fail
    refine (heavy_any _ CA0 DA0 IA cd0.length dd0.length bs.length c00 c10 c2 E0 a1 a3).mono ?_
    rw [HH.out]
    rintro e w1 ⟨rfl, hb1⟩
    have hB1 := below_next' ((Below.refl _ w).alloc (Nat.le_refl _) _) hb1
    clear hb1
    go_wp2_with fail
    refine (awake_any _).mono ?_
    rintro e w2 ⟨rfl, hb2⟩
    go_wp2
    go_ret
    exact ⟨rfl, below_next' hB1 hb2⟩
set_option maxRecDepth 100000 in
set_option maxHeartbeats 1000000 in
theorem walk_form (w : World) (CA0 DA0 : Option Addr) (cd0 dd0 : List Int) (c00 c10 : Nat) (E0 : Int) (hc0 : Reads w w.heap.size 1 CA0 cd0.length (cd0.map (Value.int .i64))) (hd0 : Reads w w.heap.size 1 DA0 dd0.length (dd0.map (Value.int .i64))) (hw0 : ∀ n ∈ cd0, -9223372036854775808 ≤ n ∧ n ≤ 9223372036854775807) (hE0 : I64 E0) (a1 : Int) (ha1 : I64 a1) (IA : Option Addr) (bs : List Int) (c2 : Nat) (hi : Reads w w.heap.size 1 IA bs.length (bs.map (Value.int .u8))) (hby : ∀ n ∈ bs, 0 ≤ n ∧ n ≤ 255) (a3 : Int) (ha3 : I64 a3) (a4 : Int) (ha4 : I64 a4) (hh : hvy cd0.length dd0.length bs.length a1 a3 = false) (hn : ¬ okF cd0 dd0 E0) :
    Calls Try.prog 5 #[.agg #[.slice CA0 cd0.length c00, .slice DA0 dd0.length c10, .int .i64 E0], .int .i64 a1, .slice IA bs.length c2, .int .i64 a3, .int .i64 a4] w fun e w' => e = .returned (.bool true) ∧ Below w.heap.size w w' := by
  · have HH := Lib.hid hh
    have HI : Hid (In3 w w.heap.size CA0 DA0 IA cd0 dd0 bs) := Lib.hid ⟨hc0, hd0, hi, Nat.le_refl _, hw0, hby⟩
    have HN := Lib.hid hn
    skip
    clear hh hi hby hc0 hd0 hw0 ha1 ha3 ha4 hE0 hn 
    go_enter Try.func5, Try.ntmps5
    go_wp2_with fail
    refine (heavy_any _ CA0 DA0 IA cd0.length dd0.length bs.length c00 c10 c2 E0 a1 a3).mono ?_
    rw [HH.out]
    rintro e w1 ⟨rfl, hb1⟩
    have kx0 := (Blk.new w 24 #[.slice CA0 cd0.length c00, .slice DA0 dd0.length c10, .int .i64 E0]).below hb1 (Blk.new w _ _).lt
    have kB0 := below_next' ((Below.refl _ w).alloc (Nat.le_refl _) (.cells #[.slice CA0 cd0.length c00, .slice DA0 dd0.length c10, .int .i64 E0] 24)) hb1
    have x0 := kx0.get (i := 0) rfl
    have x1 := kx0.get (i := 1) rfl
    have x2 := kx0.get (i := 2) rfl
    have KX0 := Lib.hid kx0
    clear hb1 kx0
    go_wp2_with fail
    clear x0 x1 x2
    refine (new_no_form (HI.out.below kB0) c00 c10 c2 E0 a1 HN.out).mono ?_
    rintro e w2 ⟨rfl, hb1⟩
    have kx1 := KX0.out.below hb1 KX0.out.lt
    have kB1 := below_next' kB0 hb1
    have x0 := kx1.get (i := 0) rfl
    have x1 := kx1.get (i := 1) rfl
    have x2 := kx1.get (i := 2) rfl
    have KX1 := Lib.hid kx1
    clear hb1 kx1
    go_wp2_with fail
    clear x0 x1 x2
    refine (rnew_form _ CA0 DA0 IA c00 c10 c2 E0 a1 cd0 dd0 bs HN.out).mono ?_
    rintro e w3 ⟨rfl, hb2⟩
    have kB2 := below_next' kB1 hb2
    rename_i K1 hK1 K2 hK2
    refine hK2 _ _ ?_
    refine wpList_plain rfl fun _ hK => op_val (x_move _ _ _ _ _ _ _ _ rfl) (hK _ _ ?_)
    refine wpList_plain rfl fun _ hK => op_val (x_extract _ _ _ _ _ _ _ _ _ _ rfl rfl) (hK _ _ ?_)
    refine wpList_plain rfl fun _ hK => op_val (x_extract _ _ _ _ _ _ _ _ _ _ rfl rfl) (hK _ _ ?_)
    refine wpList_plain rfl fun _ hK => op_val (x_alloc _ _ _ _ _ _) (hK _ _ ?_)
    refine wpList_store_row rfl _ _ _ rfl w3.heap.size (rC (.slice none 0 0) (.slice none 0 0) (.slice none 0 0) 0 0) rfl rfl _ _ (Blk.new w3 _ _) (by kernel_rfl) rfl (rC_one _ _ _ _ _ _ _ _ _ _ _) ?_
    refine wpList_plain rfl fun _ hK => op_val (x_assign _ _ _ _ _ _ _ _ rfl) (hK _ _ ?_)
    obtain ⟨l1, l2, l3, l4⟩ := laid_row kB2 kB2.size 38 (rC (.slice none 0 0) (.slice none 0 0) (.slice none 0 0) 0 0) (rC (.slice none 0 0) (.slice none 0 0) (.slice none 0 0) 0 0) rfl
    generalize hZ : World.setRow _ _ _ = Z at *
    clear hZ l1 l3 l4 kB1 hb2 kB2
    go_wp2_with fail
    refine (num_any _ _).mono ?_
    rintro e w4 ⟨rfl, rfl⟩
    go_wp2_with fail
    refine (num_any _ _).mono ?_
    rintro e w4 ⟨rfl, rfl⟩
    go_wp2_with fail
    refine (awake_any _).mono ?_
    rintro e w11 ⟨rfl, hb11⟩
    have hB := l2.trans (hb11.mono l2.size)
    go_wp2
    go_ret
    exact ⟨rfl, hB⟩
set_option maxRecDepth 100000 in
set_option maxHeartbeats 1000000 in
theorem walk_arg (w : World) (CA0 DA0 : Option Addr) (cd0 dd0 : List Int) (c00 c10 : Nat) (E0 : Int) (hc0 : Reads w w.heap.size 1 CA0 cd0.length (cd0.map (Value.int .i64))) (hd0 : Reads w w.heap.size 1 DA0 dd0.length (dd0.map (Value.int .i64))) (hw0 : ∀ n ∈ cd0, -9223372036854775808 ≤ n ∧ n ≤ 9223372036854775807) (hE0 : I64 E0) (a1 : Int) (ha1 : I64 a1) (IA : Option Addr) (bs : List Int) (c2 : Nat) (hi : Reads w w.heap.size 1 IA bs.length (bs.map (Value.int .u8))) (hby : ∀ n ∈ bs, 0 ≤ n ∧ n ≤ 255) (a3 : Int) (ha3 : I64 a3) (a4 : Int) (ha4 : I64 a4) (hh : hvy cd0.length dd0.length bs.length a1 a3 = false) (hf : okF cd0 dd0 E0) (hn : ¬ okA dd0 bs a1) :
    Calls Try.prog 5 #[.agg #[.slice CA0 cd0.length c00, .slice DA0 dd0.length c10, .int .i64 E0], .int .i64 a1, .slice IA bs.length c2, .int .i64 a3, .int .i64 a4] w fun e w' => e = .returned (.bool true) ∧ Below w.heap.size w w' := by
  · have HH := Lib.hid hh
    have HI : Hid (In3 w w.heap.size CA0 DA0 IA cd0 dd0 bs) := Lib.hid ⟨hc0, hd0, hi, Nat.le_refl _, hw0, hby⟩
    have HN := Lib.hid hn
    have HF := Lib.hid hf
    clear hh hi hby hc0 hd0 hw0 ha1 ha3 ha4 hE0 hn hf
    go_enter Try.func5, Try.ntmps5
    go_wp2_with fail
    refine (heavy_any _ CA0 DA0 IA cd0.length dd0.length bs.length c00 c10 c2 E0 a1 a3).mono ?_
    rw [HH.out]
    rintro e w1 ⟨rfl, hb1⟩
    have kx0 := (Blk.new w 24 #[.slice CA0 cd0.length c00, .slice DA0 dd0.length c10, .int .i64 E0]).below hb1 (Blk.new w _ _).lt
    have kB0 := below_next' ((Below.refl _ w).alloc (Nat.le_refl _) (.cells #[.slice CA0 cd0.length c00, .slice DA0 dd0.length c10, .int .i64 E0] 24)) hb1
    have x0 := kx0.get (i := 0) rfl
    have x1 := kx0.get (i := 1) rfl
    have x2 := kx0.get (i := 2) rfl
    have KX0 := Lib.hid kx0
    clear hb1 kx0
    go_wp2_with fail
    clear x0 x1 x2
    refine (new_no_arg (HI.out.below kB0) c00 c10 c2 E0 a1 HF.out HN.out).mono ?_
    rintro e w2 ⟨rfl, hb1⟩
    have kx1 := KX0.out.below hb1 KX0.out.lt
    have kB1 := below_next' kB0 hb1
    have x0 := kx1.get (i := 0) rfl
    have x1 := kx1.get (i := 1) rfl
    have x2 := kx1.get (i := 2) rfl
    have KX1 := Lib.hid kx1
    clear hb1 kx1
    go_wp2_with fail
    clear x0 x1 x2
    refine (rnew_arg _ CA0 DA0 IA c00 c10 c2 E0 a1 cd0 dd0 bs HF.out HN.out).mono ?_
    rintro e w3 ⟨rfl, hb2⟩
    have kB2 := below_next' kB1 hb2
    rename_i K1 hK1 K2 hK2
    refine hK2 _ _ ?_
    refine wpList_plain rfl fun _ hK => op_val (x_move _ _ _ _ _ _ _ _ rfl) (hK _ _ ?_)
    refine wpList_plain rfl fun _ hK => op_val (x_extract _ _ _ _ _ _ _ _ _ _ rfl rfl) (hK _ _ ?_)
    refine wpList_plain rfl fun _ hK => op_val (x_extract _ _ _ _ _ _ _ _ _ _ rfl rfl) (hK _ _ ?_)
    refine wpList_plain rfl fun _ hK => op_val (x_alloc _ _ _ _ _ _) (hK _ _ ?_)
    refine wpList_store_row rfl _ _ _ rfl w3.heap.size (rC (.slice none 0 0) (.slice none 0 0) (.slice none 0 0) 0 0) rfl rfl _ _ (Blk.new w3 _ _) (by kernel_rfl) rfl (rC_one _ _ _ _ _ _ _ _ _ _ _) ?_
    refine wpList_plain rfl fun _ hK => op_val (x_assign _ _ _ _ _ _ _ _ rfl) (hK _ _ ?_)
    obtain ⟨l1, l2, l3, l4⟩ := laid_row kB2 kB2.size 38 (rC (.slice none 0 0) (.slice none 0 0) (.slice none 0 0) 0 0) (rC (.slice none 0 0) (.slice none 0 0) (.slice none 0 0) 0 0) rfl
    generalize hZ : World.setRow _ _ _ = Z at *
    clear hZ l1 l3 l4 kB1 hb2 kB2
    go_wp2_with fail
    refine (num_any _ _).mono ?_
    rintro e w4 ⟨rfl, rfl⟩
    go_wp2_with fail
    refine (num_any _ _).mono ?_
    rintro e w4 ⟨rfl, rfl⟩
    go_wp2_with fail
    refine (awake_any _).mono ?_
    rintro e w11 ⟨rfl, hb11⟩
    have hB := l2.trans (hb11.mono l2.size)
    go_wp2
    go_ret
    exact ⟨rfl, hB⟩
/-- What a place of memory has, or 0. -/
def wordAt (s : St) (a : Int) : Int := if 0 ≤ a ∧ a < (s.mem.length : Int) then s.mem.getD a.toNat 0 else 0
theorem Duo.word_any {w : World} {B : Nat} {L : Lay} {R : RLay} {cd bs : List Int} {sa sb : St} (t : Duo w B L R cd bs sa sb) (a : Int) : Calls Try.prog 25 #[.pointer (some ⟨L.g, 0, none⟩), .int .i64 a] w fun e w' => e = .returned (.int .i64 (wordAt sa a)) ∧ w = w' := by
  by_cases h0 : a < 0
  · have : wordAt sa a = 0 := by unfold wordAt; rw [if_neg (by omega)]
    rw [this]
    exact mem_neg w L.g a h0
  · obtain ⟨k, rfl⟩ : ∃ k : Nat, a = k := ⟨a.toNat, by omega⟩
    by_cases hk : k < sa.mem.length
    · have hx : sa.mem[k]? = some (sa.mem.getD k 0) := by simp [List.getD, hk]
      have : wordAt sa (k : Int) = sa.mem.getD k 0 := by unfold wordAt; rw [if_pos ⟨by omega, by omega⟩]; simp
      rw [this]
      exact t.worda k _ hx
    · have : wordAt sa (k : Int) = 0 := by unfold wordAt; rw [if_neg (by omega)]
      rw [this]
      obtain ⟨iv, ov, h⟩ := t.a
      exact mem_far w L.g _ h.mach _ _ _ k rfl (by omega)
set_option maxRecDepth 100000 in
set_option maxHeartbeats 8000000 in
theorem walk_ok (w : World) (CA0 DA0 : Option Addr) (cd0 dd0 : List Int) (c00 c10 : Nat) (E0 : Int) (hc0 : Reads w w.heap.size 1 CA0 cd0.length (cd0.map (Value.int .i64))) (hd0 : Reads w w.heap.size 1 DA0 dd0.length (dd0.map (Value.int .i64))) (hw0 : ∀ n ∈ cd0, -9223372036854775808 ≤ n ∧ n ≤ 9223372036854775807) (hE0 : I64 E0) (a1 : Int) (ha1 : I64 a1) (IA : Option Addr) (bs : List Int) (c2 : Nat) (hi : Reads w w.heap.size 1 IA bs.length (bs.map (Value.int .u8))) (hby : ∀ n ∈ bs, 0 ≤ n ∧ n ≤ 255) (a3 : Int) (ha3 : I64 a3) (a4 : Int) (ha4 : I64 a4) (hh : hvy cd0.length dd0.length bs.length a1 a3 = false) (hf : okF cd0 dd0 E0) (m : Nat) (hm : a1 = m) (hq : okA dd0 bs (m : Int)) :
    Calls Try.prog 5 #[.agg #[.slice CA0 cd0.length c00, .slice DA0 dd0.length c10, .int .i64 E0], .int .i64 a1, .slice IA bs.length c2, .int .i64 a3, .int .i64 a4] w fun e w' => e = .returned (.bool true) ∧ Below w.heap.size w w' := by
  · subst hm
    have HH := Lib.hid hh
    have HI : Hid (In3 w w.heap.size CA0 DA0 IA cd0 dd0 bs) := Lib.hid ⟨hc0, hd0, hi, Nat.le_refl _, hw0, hby⟩
    have HF := Lib.hid hf
    have HA := Lib.hid hq
    have A3 := ha3.2
    clear hh hi hby hc0 hd0 hw0 ha1 ha3 ha4 hE0 hf hq
    go_enter Try.func5, Try.ntmps5
    go_wp2_with fail
    refine (heavy_any _ CA0 DA0 IA cd0.length dd0.length bs.length c00 c10 c2 E0 (m : Int) a3).mono ?_
    rw [HH.out]
    rintro e w1 ⟨rfl, hb1⟩
    have kx0 := (Blk.new w 24 #[.slice CA0 cd0.length c00, .slice DA0 dd0.length c10, .int .i64 E0]).below hb1 (Blk.new w _ _).lt
    have kB0 := below_next' ((Below.refl _ w).alloc (Nat.le_refl _) (.cells #[.slice CA0 cd0.length c00, .slice DA0 dd0.length c10, .int .i64 E0] 24)) hb1
    have x0 := kx0.get (i := 0) rfl
    have x1 := kx0.get (i := 1) rfl
    have x2 := kx0.get (i := 2) rfl
    have KX0 := Lib.hid kx0
    clear hb1 kx0
    go_wp2_with fail
    clear x0 x1 x2
    refine (new_rep2 (HI.out.below kB0) c00 c10 c2 E0 m HF.out HA.out).mono ?_
    rintro e w2 ⟨L, iv, rfl, hR, hb1, hiv0⟩
    have kx1 := KX0.out.below hb1 KX0.out.lt
    have kB1 := below_next' kB0 hb1
    have x0 := kx1.get (i := 0) rfl
    have x1 := kx1.get (i := 1) rfl
    have x2 := kx1.get (i := 2) rfl
    have KX1 := Lib.hid kx1
    have HR1 := Lib.hid hR
    clear hb1 kx1 hR
    go_wp2_with fail
    clear x0 x1 x2
    refine (rnew_rep (HI.out.below kB1) c00 c10 c2 E0 m HF.out HA.out).mono ?_
    rintro e w3 ⟨cb, cc, mb, m2, iA, ic, rfl, hb2, hiv, lmb, hrep⟩
    have kB2 := below_next' kB1 hb2
    rename_i K1 hK1 K2 hK2
    refine hK2 _ _ ?_
    refine wpList_plain rfl fun _ hK => op_val (x_move _ _ _ _ _ _ _ _ rfl) (hK _ _ ?_)
    refine wpList_plain rfl fun _ hK => op_val (x_extract _ _ _ _ _ _ _ _ _ _ rfl rfl) (hK _ _ ?_)
    refine wpList_plain rfl fun _ hK => op_val (x_extract _ _ _ _ _ _ _ _ _ _ rfl rfl) (hK _ _ ?_)
    refine wpList_plain rfl fun _ hK => op_val (x_alloc _ _ _ _ _ _) (hK _ _ ?_)
    refine wpList_store_row rfl _ _ _ rfl w3.heap.size (rcells ⟨0, cb, cc, mb, m2⟩ cd0.length (st0 dd0 bs E0 m) 0 (.slice iA bs.length ic) (.slice none 0 0)) rfl rfl _ _ (Blk.new w3 _ _) (by kernel_rfl) rfl (rcells_one _ _ _ _ _ _ _ _ _ _) ?_
    refine wpList_plain rfl fun _ hK => op_val (x_assign _ _ _ _ _ _ _ _ rfl) (hK _ _ ?_)
    obtain ⟨l1, l2, l3, l4⟩ := laid_row kB2 kB2.size 38 (rC (.slice none 0 0) (.slice none 0 0) (.slice none 0 0) 0 0) (rcells ⟨0, cb, cc, mb, m2⟩ cd0.length (st0 dd0 bs E0 m) 0 (.slice iA bs.length ic) (.slice none 0 0)) rfl
    have hs2 : w2.heap.size ≤ w3.heap.size := hb2.size
    have hRR := hrep _ w3.heap.size w1.heap.size (fun t cs hx => absurd hx.lt (by omega)) (fun k hk hl => l3.block k hl) l1 (by have := HR1.out.gB; have := HR1.out.mach.lt; omega) (by have := HR1.out.gB; have := HR1.out.mach.lt; omega)
    have hRA := HR1.out.keep (hb2.trans (l3.mono hs2))
    generalize hZ : World.setRow _ _ _ = Z at *
    have hD : Duo Z w1.heap.size L ⟨w3.heap.size, cb, cc, mb, m2⟩ cd0 bs (st0 dd0 bs E0 m) (st0 dd0 bs E0 m) := by
      have hml := HR1.out.mem.lt
      refine ⟨⟨iv, _, 0, _, _, hRA, hRR, fun k hk => ⟨?_, by simp [Value.ownBlock]⟩, fun k hk => ⟨?_, by simp [Value.ownBlock]⟩, by simp [Value.ownBlock]⟩, ?_, ?_⟩
      · have := (hiv0 k hk).2; have := l3.size; omega
      · have := (hiv k hk).2; have := l3.size; omega
      · have := lmb.1; show L.mb ≠ mb; omega
      · have := lmb.2; show cb ≠ L.mb; omega
    have w1s : w.heap.size ≤ w1.heap.size := kB0.size
    obtain ⟨R, hRe⟩ : ∃ R : RLay, R = ⟨w3.heap.size, cb, cc, mb, m2⟩ := ⟨_, rfl⟩
    have hRg : w3.heap.size = R.g := by rw [hRe]
    rw [← hRe] at hD
    generalize st0 dd0 bs E0 m = s0 at *
    have HD := Lib.hid hD
    have HB := Lib.hid l2
    rw [hRg]
    clear hZ l1 l2 l3 l4 hb2 kB2 kB1 kB0 hrep hRR hRA hD hiv hiv0 lmb hRe hRg hs2
    go_wp2_with fail
    refine (num_any _ _).mono ?_
    rintro e w4 ⟨rfl, rfl⟩
    go_wp2
    go_loopw [15] (fun i wr => ∃ k : Nat, i = .int .i64 k ∧ k ≤ 300 ∧ Duo wr w1.heap.size L R cd0 bs (iter cd0 k s0) (iter cd0 k s0) ∧ Below w.heap.size w wr) (fun i _ => 300 - (intOf i).toNat)
    case atStart => exact ⟨0, rfl, by omega, HD.out, HB.out⟩
    case round =>
      obtain ⟨k, rfl, hk, hDk, hBk⟩ := hrel
      obtain ⟨wo, rfl⟩ : ∃ wo : World, wo = wr := ⟨_, rfl⟩
      have k0 : (0 : Int) ≤ (k : Int) := by omega
      by_cases hgo : (k : Int) < a3 ∧ k < 300
      · obtain ⟨g1, g2⟩ := hgo
        have g3 : (k : Int) < 300 := by omega
        have hst : iter cd0 (k + 1) s0 = step cd0 (iter cd0 k s0) := rfl
        have HST := Lib.hid hst
        generalize iter cd0 k s0 = s at *
        have HDK := Lib.hid hDk
        have HBK := Lib.hid hBk
        clear hst hDk hBk HD HB HR1 KX0 KX1 HI HF HA HH
        go_wp2
        go_region_with ((first
          | (go_at_call 23; refine ((HDK.out.keep (Below.drew (Below.refl _ _))).step_a).mono ?_; rintro e w5 ⟨rfl, hD5, hB5⟩)
          | (go_at_call 24; refine (hD5.step_b).mono ?_; rintro e w6 ⟨rfl, hD6, hB6⟩; have q6 := hD6.pcb)
          | (go_at_call 20; refine (hD6.pc_).mono ?_; rintro e w7 ⟨rfl, rfl⟩)))
        all_goals
          have HD6 := Lib.hid hD6
          have HB6 := Lib.hid (HBK.out.trans (((Below.drew (Below.refl _ _)).trans (hB5.trans hB6)).mono w1s))
          generalize step cd0 s = s' at *
          clear hD5 hB5 hD6 hB6 q6 HDK HBK
          go_wp2
          go_loopw [16] (fun i wr => ∃ r : Nat, i = .int .i64 r ∧ r ≤ 16 ∧ Duo wr w1.heap.size L R cd0 bs s' s' ∧ Below w.heap.size w wr) (fun i _ => 16 - (intOf i).toNat)
          case atStart => exact ⟨0, rfl, by omega, HD6.out, HB6.out⟩
          case round =>
            obtain ⟨r, rfl, hr, hDr, hBr⟩ := hrel
            obtain ⟨wp, rfl⟩ : ∃ wp : World, wp = wr := ⟨_, rfl⟩
            have r0 : (0 : Int) ≤ (r : Int) := by omega
            have HD7 := Lib.hid hDr
            have HB7 := Lib.hid hBr
            clear hDr hBr
            by_cases hr16 : r < 16
            · have r1 : (r : Int) < 16 := by omega
              go_wp2
              refine st_tail 7 (by kernel_rfl) (by kernel_rfl) ?_
              intro U hU
              have hDU : Duo U w1.heap.size L R cd0 bs s' s' := by rw [← hU]; exact HD7.out.keep (Below.drew (Below.refl _ _))
              have HBU : Below w.heap.size w U := by rw [← hU]; exact HB7.out.drew
              have u1 := hDU.regb r hr16
              have HDU := Lib.hid hDU
              clear hU hDU
              simp only [List.take_succ_cons, List.take_zero, List.drop_succ_cons, List.drop_zero]
              repeat still_step
              still_call ((HDU.out.reg_ r hr16).mono fun e w' ⟨h1, h2⟩ => ⟨h1, h2.symm⟩)
              repeat still_step
              refine wpStill_nil ?_
              go_wp2
              go_roundw
              case rel => exact ⟨r + 1, by go_num, by omega, HDU.out, HBU⟩
              case measure => simp [intOf]; omega
            · obtain rfl : r = 16 := by omega
              have u1 := HD7.out.memb
              by_cases h0 : a4 < 0
              · have d1 : decide (0 ≤ a4) = false := by simp; omega
                clear h0
                go_wp2_with fail
                refine (mem_neg _ L.g a4 (by simpa using d1)).mono ?_
                rintro e w8 ⟨rfl, rfl⟩
                go_wp2_with fail
                refine (HD7.out.out_a).mono ?_
                rintro e w8 ⟨A8, c8, rfl, ho8, hb8⟩
                go_wp2_with fail
                refine (HD7.out.run_b2 hb8).mono ?_
                rintro e w9 ⟨A9, c9, rfl, ho9, hD9, hB9, hkp⟩
                have ho8' := hkp _ _ _ ho8
                have HD9 := Lib.hid hD9
                have HB9 := Lib.hid (HB7.out.trans (hB9.mono w1s))
                clear hkp hD9 hB9 hb8 ho8
                go_wp2_with fail
                refine (same_yes w9 _ _ (ocOf s') A8 A9 c8 c9 ho8' ho9).mono ?_
                rintro e w10 ⟨rfl, hb10⟩
                have HD10 := Lib.hid (HD9.out.keep hb10)
                have HB10 := Lib.hid (HB9.out.trans (hb10.mono HB9.out.size))
                clear ho8' ho9 hb10
                go_wp2
                go_roundw
                case rel => exact ⟨k + 1, by go_num, by omega, by rw [HST.out]; exact HD10.out, HB10.out⟩
                case measure => simp [intOf]; omega
              · by_cases h1 : a4 < (s'.mem.length : Int)
                · obtain ⟨j, rfl⟩ : ∃ j : Nat, a4 = j := ⟨a4.toNat, by omega⟩
                  have hj : j < s'.mem.length := by omega
                  obtain ⟨x, hx⟩ : ∃ x, s'.mem[j]? = some x := ⟨_, List.getElem?_eq_getElem hj⟩
                  have u2 := HD7.out.wordb j x hx
                  have HX := Lib.hid hx
                  have j0 : (0 : Int) ≤ (j : Int) := by omega
                  clear h0 hx
                  go_wp2_with fail
                  refine (HD7.out.worda j x HX.out).mono ?_
                  rintro e w8 ⟨rfl, rfl⟩
                  go_wp2_with fail
                  refine (HD7.out.out_a).mono ?_
                  rintro e w8 ⟨A8, c8, rfl, ho8, hb8⟩
                  go_wp2_with fail
                  refine (HD7.out.run_b2 hb8).mono ?_
                  rintro e w9 ⟨A9, c9, rfl, ho9, hD9, hB9, hkp⟩
                  have ho8' := hkp _ _ _ ho8
                  have HD9 := Lib.hid hD9
                  have HB9 := Lib.hid (HB7.out.trans (hB9.mono w1s))
                  clear hkp hD9 hB9 hb8 ho8
                  go_wp2_with fail
                  refine (same_yes w9 _ _ (ocOf s') A8 A9 c8 c9 ho8' ho9).mono ?_
                  rintro e w10 ⟨rfl, hb10⟩
                  have HD10 := Lib.hid (HD9.out.keep hb10)
                  have HB10 := Lib.hid (HB9.out.trans (hb10.mono HB9.out.size))
                  clear ho8' ho9 hb10
                  go_wp2
                  go_roundw
                  case rel => exact ⟨k + 1, by go_num, by omega, by rw [HST.out]; exact HD10.out, HB10.out⟩
                  case measure => simp [intOf]; omega
                · obtain ⟨j, rfl⟩ : ∃ j : Nat, a4 = j := ⟨a4.toNat, by omega⟩
                  have hj : s'.mem.length ≤ j := by omega
                  have j0 : (0 : Int) ≤ (j : Int) := by omega
                  have j1 : decide ((j : Int) < (s'.mem.length : Int)) = false := by simp; omega
                  have j2 : decide (j < s'.mem.length) = false := by simp; omega
                  clear h0 h1
                  obtain ⟨iv7, ov7, hR7⟩ := HD7.out.a
                  have HR7 := Lib.hid hR7
                  clear hR7
                  go_wp2_with fail
                  refine (mem_far _ L.g _ HR7.out.mach _ _ _ j rfl hj).mono ?_
                  rintro e w8 ⟨rfl, rfl⟩
                  go_wp2_with fail
                  refine (HD7.out.out_a).mono ?_
                  rintro e w8 ⟨A8, c8, rfl, ho8, hb8⟩
                  go_wp2_with fail
                  refine (HD7.out.run_b2 hb8).mono ?_
                  rintro e w9 ⟨A9, c9, rfl, ho9, hD9, hB9, hkp⟩
                  have ho8' := hkp _ _ _ ho8
                  have HD9 := Lib.hid hD9
                  have HB9 := Lib.hid (HB7.out.trans (hB9.mono w1s))
                  clear hkp hD9 hB9 hb8 ho8
                  go_wp2_with fail
                  refine (same_yes w9 _ _ (ocOf s') A8 A9 c8 c9 ho8' ho9).mono ?_
                  rintro e w10 ⟨rfl, hb10⟩
                  have HD10 := Lib.hid (HD9.out.keep hb10)
                  have HB10 := Lib.hid (HB9.out.trans (hb10.mono HB9.out.size))
                  clear ho8' ho9 hb10
                  go_wp2
                  go_roundw
                  case rel => exact ⟨k + 1, by go_num, by omega, by rw [HST.out]; exact HD10.out, HB10.out⟩
                  case measure => simp [intOf]; omega
      · generalize iter cd0 k s0 = s at *
        have HDK := Lib.hid hDk
        have HBK := Lib.hid hBk
        clear hDk hBk HD HB HR1 KX0 KX1 HI HF HA HH
        have hte : decide ((k : Int) < a3) = false ∨ ((k : Int) < a3 ∧ decide ((k : Int) < 300) = false) := by
          by_cases hlt : (k : Int) < a3
          · exact .inr ⟨hlt, by simp; omega⟩
          · exact .inl (by simpa using hlt)
        clear hgo
        rcases hte with hte | ⟨hte, hk3⟩
        all_goals
          go_wp2
          go_loopw [18] (fun i wr => ∃ r : Nat, i = .int .i64 r ∧ r ≤ s.mem.length ∧ Duo wr w1.heap.size L R cd0 bs s s ∧ Below w.heap.size w wr) (fun i _ => s.mem.length - (intOf i).toNat)
          case atStart => exact ⟨0, rfl, by omega, HDK.out, HBK.out⟩
          case round =>
            obtain ⟨r, rfl, hr, hDr, hBr⟩ := hrel
            obtain ⟨wp, rfl⟩ : ∃ wp : World, wp = wr := ⟨_, rfl⟩
            have r0 : (0 : Int) ≤ (r : Int) := by omega
            have HD7 := Lib.hid hDr
            have HB7 := Lib.hid hBr
            have u1 := HD7.out.memb
            obtain ⟨iv7, ov7, hR7⟩ := HD7.out.a
            have HR7 := Lib.hid hR7
            have hml := hR7.meml
            clear hDr hBr hR7
            by_cases hrl : r < s.mem.length
            · have r1 : (r : Int) < (s.mem.length : Int) := by omega
              obtain ⟨x, hx⟩ : ∃ x, s.mem[r]? = some x := ⟨_, List.getElem?_eq_getElem hrl⟩
              have HX := Lib.hid hx
              clear hx
              go_wp2
              refine st_tail 8 (by kernel_rfl) (by kernel_rfl) ?_
              intro U hU
              have hDU : Duo U w1.heap.size L R cd0 bs s s := by rw [← hU]; exact HD7.out.keep (Below.drew (Below.refl _ _))
              have HBU : Below w.heap.size w U := by rw [← hU]; exact HB7.out.drew
              have u2 := hDU.memb
              have u3 := hDU.wordb r x HX.out
              have HDU := Lib.hid hDU
              clear hU hDU u1
              simp only [List.take_succ_cons, List.take_zero, List.drop_succ_cons, List.drop_zero]
              repeat still_step
              still_call ((HDU.out.worda r x HX.out).mono fun e w' ⟨h1, h2⟩ => ⟨h1, h2.symm⟩)
              repeat still_step
              refine wpStill_nil ?_
              go_wp2
              go_roundw
              case rel => exact ⟨r + 1, by go_num, by omega, HDU.out, HBU⟩
              case measure => simp [intOf]; omega
            · obtain rfl : r = s.mem.length := by omega
              go_wp2_with fail
              refine (reg_far _ L.g 16 (by omega)).mono ?_
              rintro e w8 ⟨rfl, rfl⟩
              go_wp2_with fail
              refine (reg_neg _ L.g (-1) (by omega)).mono ?_
              rintro e w8 ⟨rfl, rfl⟩
              go_wp2_with fail
              refine (mem_far _ L.g _ HR7.out.mach _ _ _ s.mem.length rfl (Nat.le_refl _)).mono ?_
              rintro e w8 ⟨rfl, rfl⟩
              go_wp2_with fail
              refine (awake_any _).mono ?_
              rintro e w9 ⟨rfl, hb9⟩
              have hB9 := below_next' HB7.out hb9
              go_wp2
              go_ret
              exact ⟨rfl, hB9⟩
theorem walk (w : World) (CA0 DA0 : Option Addr) (cd0 dd0 : List Int) (c00 c10 : Nat) (E0 : Int) (hc0 : Reads w w.heap.size 1 CA0 cd0.length (cd0.map (Value.int .i64))) (hd0 : Reads w w.heap.size 1 DA0 dd0.length (dd0.map (Value.int .i64))) (hw0 : ∀ n ∈ cd0, -9223372036854775808 ≤ n ∧ n ≤ 9223372036854775807) (hE0 : I64 E0) (a1 : Int) (ha1 : I64 a1) (IA : Option Addr) (bs : List Int) (c2 : Nat) (hi : Reads w w.heap.size 1 IA bs.length (bs.map (Value.int .u8))) (hby : ∀ n ∈ bs, 0 ≤ n ∧ n ≤ 255) (a3 : Int) (ha3 : I64 a3) (a4 : Int) (ha4 : I64 a4) :
    Calls Try.prog 5 #[.agg #[.slice CA0 cd0.length c00, .slice DA0 dd0.length c10, .int .i64 E0], .int .i64 a1, .slice IA bs.length c2, .int .i64 a3, .int .i64 a4] w fun e w' => e = .returned (.bool true) ∧ Below w.heap.size w w' := by
  cases hh : hvy cd0.length dd0.length bs.length a1 a3 with
  | true => exact walk_heavy w CA0 DA0 cd0 dd0 c00 c10 E0 hc0 hd0 hw0 hE0 a1 ha1 IA bs c2 hi hby a3 ha3 a4 ha4 hh
  | false =>
    by_cases hf : okF cd0 dd0 E0
    · by_cases hq : okA dd0 bs a1
      · obtain ⟨m, hm⟩ : ∃ m : Nat, a1 = m := ⟨a1.toNat, by have := hq.1; omega⟩
        exact walk_ok w CA0 DA0 cd0 dd0 c00 c10 E0 hc0 hd0 hw0 hE0 a1 ha1 IA bs c2 hi hby a3 ha3 a4 ha4 hh hf m hm (by rw [← hm]; exact hq)
      · exact walk_arg w CA0 DA0 cd0 dd0 c00 c10 E0 hc0 hd0 hw0 hE0 a1 ha1 IA bs c2 hi hby a3 ha3 a4 ha4 hh hf hq
    · exact walk_form w CA0 DA0 cd0 dd0 c00 c10 E0 hc0 hd0 hw0 hE0 a1 ha1 IA bs c2 hi hby a3 ha3 a4 ha4 hh hf

/-! ### The row's step. -/
set_option maxRecDepth 100000 in
theorem lifted (os : Os) (started : os.Started) (H : Type) (enc : TypeId × Value → H) :
    ReturnsInHanded {} Try.checked os 5 .any (Rows.machStepsSpec.pre6 enc Try.prog Try.f5 Rows.machStepsRow.domain false) (Rows.machStepsSpec.post enc Try.prog Try.f5 false true false false) := by
  refine returnsInHanded_of_change (C := Try.checked) own started (by kernel_rfl) Try.func5
    (ChangeSpec.witness6 (enc := enc) (C := Try.checked) false ⟨#[], #[.agg #[.slice none 0 0, .slice none 0 0, .int .i64 0], .int .i64 0, .slice none 0 0, .int .i64 0, .int .i64 0], []⟩ 8 (by kernel_rfl) (by kernel_rfl) (by kernel_rfl) (by kernel_rfl)) ?_
  intro W base args ds gs before hval0 hW hcnd _
  have hval : ∀ (j : Nat) t v, Try.f5.params[j]? = some t → args[j]? = some v → Value.okWide Try.prog W .any base t v := hval0
  have hW' := hW
  obtain ⟨p, q, hA0, hV, rfl, hfz, hnd⟩ := hW
  have hA : DataW.TrodAll enc Try.prog W 0 (fun _ => true) true Try.f5.params.toList args.toList ds p := hA0
  rw [Try.params5] at hA hval
  obtain ⟨v0, vs0, d0, ds0, p0, q0, hargs, rfl, rfl, h0, r0⟩ := trodAll_cons hA
  obtain ⟨v1, vs1, d1, ds1, p1, q1, rfl, rfl, rfl, h1, r1⟩ := trodAll_cons r0
  obtain ⟨v2, vs2, d2, ds2, p2, q2, rfl, rfl, rfl, h2, r2⟩ := trodAll_cons r1
  obtain ⟨v3, vs3, d3, ds3, p3, q3, rfl, rfl, rfl, h3, r3⟩ := trodAll_cons r2
  obtain ⟨v4, vs4, d4, ds4, p4, q4, rfl, rfl, rfl, h4, r4⟩ := trodAll_cons r3
  obtain ⟨rfl, rfl, rfl⟩ := trodAll_nil r4
  obtain rfl : args = #[v0, v1, v2, v3, v4] := by cases args; simp_all
  obtain ⟨rfl, rfl⟩ := trodVars_none hV
  obtain ⟨CA0, DA0, cd0, dd0, c00, c10, E0, rfl, hc0, hd0, hw0, _, hE0⟩ := open_image (hval 0 24 v0 rfl rfl) h0
  obtain ⟨a1, rfl, rfl, rfl, w1⟩ := open_int Try.underlying3 (hval 1 3 v1 rfl rfl) h1
  have ha1 := i64_of w1
  obtain ⟨IA, bs, c2, rfl, hi, hby⟩ := open_input (hval 2 25 v2 rfl rfl) h2
  obtain ⟨a3, rfl, rfl, rfl, w3⟩ := open_int Try.underlying3 (hval 3 3 v3 rfl rfl) h3
  have ha3 := i64_of w3
  obtain ⟨a4, rfl, rfl, rfl, w4⟩ := open_int Try.underlying3 (hval 4 3 v4 rfl rfl) h4
  have ha4 := i64_of w4
  refine (walk W CA0 DA0 cd0 dd0 c00 c10 E0 hc0 hd0 hw0 hE0 a1 ha1 IA bs c2 hi hby a3 ha3 a4 ha4).mono fun e W' ⟨he, hb⟩ => ?_
  subst he
  exact ⟨_, rfl, post_law laidOut (by rw [Try.params5]; intro t ht; simp at ht; (first | (rcases ht with rfl | rfl | rfl | rfl | rfl) | (rcases ht with rfl | rfl | rfl | rfl) | (rcases ht with rfl | rfl | rfl) | (rcases ht with rfl | rfl) | subst ht) <;> exact ⟨by kernel_rfl, of_decide_eq_true (by kernel_rfl)⟩) rfl rfl Try.underlying4 rfl hW' hb⟩

theorem over : Rows.machStepsRow.holds Try.pinned (OpenSpec.ofChange Rows.machStepsSpec) :=
  OpenClaim.holds_of_wide 5 Try.f5 rfl rfl rfl rfl rfl rfl rfl ⟨rfl, rfl, rfl, rfl, rfl⟩ rfl rfl rfl rfl rfl (by kernel_rfl) Try.func5 (by kernel_rfl)
    (of_decide_eq_true (by kernel_rfl)) (by unfold Func.isWrapper; first | (rw [if_pos (by decide +kernel)]; kernel_rfl) | (rw [if_neg (by decide +kernel)]; exact ⟨rfl, rfl⟩))
    (fun os started H enc _ => lifted os started H enc)

/-- The statement. -/
theorem proved : Rows.MachStepsSaid :=
  over
#print axioms proved
end Go.Proofs.Ytikgghioneiegaa.machSteps
