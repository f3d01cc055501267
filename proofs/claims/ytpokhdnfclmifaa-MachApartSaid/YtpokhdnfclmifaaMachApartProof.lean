/-
  Two machines that are run in turns know nothing of one another.
-/
import Derived.Test.YtpokhdnfclmifaaRows
import Derived.Test.YtpokhdnfclmifaaLawG
import Derived.Test.YtpokhdnfclmifaaLawH
import Derived.Deep.RegionHeld3
import Derived.Lib.MinMax
import Derived.WalkKit
namespace Go.Proofs.Ytpokhdnfclmifaa.machApart
open Go.ChangeShapes Go.WideShapes Go.ChangeAt Go.RowKit
set_option linter.unusedVariables false

/-! ### The walk. -/
set_option maxHeartbeats 2000000 in
theorem walk_heavy0 (w : World) (CA0 DA0 : Option Addr) (cd0 dd0 : List Int) (c00 c10 : Nat) (E0 : Int) (hc0 : Reads w w.heap.size 1 CA0 cd0.length (cd0.map (Value.int .i64))) (hd0 : Reads w w.heap.size 1 DA0 dd0.length (dd0.map (Value.int .i64))) (hw0 : ∀ n ∈ cd0, -9223372036854775808 ≤ n ∧ n ≤ 9223372036854775807) (hE0 : I64 E0) (CA1 DA1 : Option Addr) (cd1 dd1 : List Int) (c01 c11 : Nat) (E1 : Int) (hc1 : Reads w w.heap.size 1 CA1 cd1.length (cd1.map (Value.int .i64))) (hd1 : Reads w w.heap.size 1 DA1 dd1.length (dd1.map (Value.int .i64))) (hw1 : ∀ n ∈ cd1, -9223372036854775808 ≤ n ∧ n ≤ 9223372036854775807) (hE1 : I64 E1) (a2 : Int) (ha2 : I64 a2) (IA : Option Addr) (bs : List Int) (c2 : Nat) (hi : Reads w w.heap.size 1 IA bs.length (bs.map (Value.int .u8))) (hby : ∀ n ∈ bs, 0 ≤ n ∧ n ≤ 255) (a4 : Int) (ha4 : I64 a4) (hh0 : hvy cd0.length dd0.length bs.length a2 a4 = true) :
    Calls Try.prog 8 #[.agg #[.slice CA0 cd0.length c00, .slice DA0 dd0.length c10, .int .i64 E0], .agg #[.slice CA1 cd1.length c01, .slice DA1 dd1.length c11, .int .i64 E1], .int .i64 a2, .slice IA bs.length c2, .int .i64 a4] w fun e w' => e = .returned (.bool true) ∧ Below w.heap.size w w' := by
  have HH0 := Lib.hid hh0
  clear hh0
  go_enter Try.func8, Try.ntmps8
  go_wp2_with fail
  refine (heavy_any _ CA0 DA0 IA cd0.length dd0.length bs.length c00 c10 c2 E0 _ a4).mono ?_
  rw [HH0.out]
  rintro e w1 ⟨rfl, hb1⟩
  obtain ⟨kx, ky, kB⟩ := two_new w #[.slice CA0 cd0.length c00, .slice DA0 dd0.length c10, .int .i64 E0] #[.slice CA1 cd1.length c01, .slice DA1 dd1.length c11, .int .i64 E1] 24 24
  have kx1 := kx.below hb1 kx.lt
  have ky1 := ky.below hb1 ky.lt
  have kB1 := below_next' kB hb1
  clear kx ky kB hb1 kx1 ky1
  go_wp2_with fail
  refine (awake_any _).mono ?_
  rintro e w2 ⟨rfl, hb2⟩
  go_wp2
  go_ret
  exact ⟨rfl, below_next' kB1 hb2⟩
set_option maxHeartbeats 2000000 in
theorem walk_heavy1 (w : World) (CA0 DA0 : Option Addr) (cd0 dd0 : List Int) (c00 c10 : Nat) (E0 : Int) (hc0 : Reads w w.heap.size 1 CA0 cd0.length (cd0.map (Value.int .i64))) (hd0 : Reads w w.heap.size 1 DA0 dd0.length (dd0.map (Value.int .i64))) (hw0 : ∀ n ∈ cd0, -9223372036854775808 ≤ n ∧ n ≤ 9223372036854775807) (hE0 : I64 E0) (CA1 DA1 : Option Addr) (cd1 dd1 : List Int) (c01 c11 : Nat) (E1 : Int) (hc1 : Reads w w.heap.size 1 CA1 cd1.length (cd1.map (Value.int .i64))) (hd1 : Reads w w.heap.size 1 DA1 dd1.length (dd1.map (Value.int .i64))) (hw1 : ∀ n ∈ cd1, -9223372036854775808 ≤ n ∧ n ≤ 9223372036854775807) (hE1 : I64 E1) (a2 : Int) (ha2 : I64 a2) (IA : Option Addr) (bs : List Int) (c2 : Nat) (hi : Reads w w.heap.size 1 IA bs.length (bs.map (Value.int .u8))) (hby : ∀ n ∈ bs, 0 ≤ n ∧ n ≤ 255) (a4 : Int) (ha4 : I64 a4) (hh0 : hvy cd0.length dd0.length bs.length a2 a4 = false) (hh1 : hvy cd1.length dd1.length bs.length a2 a4 = true) :
    Calls Try.prog 8 #[.agg #[.slice CA0 cd0.length c00, .slice DA0 dd0.length c10, .int .i64 E0], .agg #[.slice CA1 cd1.length c01, .slice DA1 dd1.length c11, .int .i64 E1], .int .i64 a2, .slice IA bs.length c2, .int .i64 a4] w fun e w' => e = .returned (.bool true) ∧ Below w.heap.size w w' := by
  have HH0 := Lib.hid hh0
  have HH1 := Lib.hid hh1
  clear hh0 hh1
  go_enter Try.func8, Try.ntmps8
  go_wp2_with fail
  refine (heavy_any _ CA0 DA0 IA cd0.length dd0.length bs.length c00 c10 c2 E0 _ a4).mono ?_
  rw [HH0.out]
  rintro e w1 ⟨rfl, hb1⟩
  obtain ⟨kx, ky, kB⟩ := two_new w #[.slice CA0 cd0.length c00, .slice DA0 dd0.length c10, .int .i64 E0] #[.slice CA1 cd1.length c01, .slice DA1 dd1.length c11, .int .i64 E1] 24 24
  have kx1 := kx.below hb1 kx.lt
  have ky1 := ky.below hb1 ky.lt
  have kB1 := below_next' kB hb1
  have y0 := ky1.get (i := 0) rfl
  have y1 := ky1.get (i := 1) rfl
  have y2 := ky1.get (i := 2) rfl
  have KX1 := Lib.hid kx1
  have KY1 := Lib.hid ky1
  have KB1 := Lib.hid kB1
  clear kx ky kB hb1 kx1 ky1 kB1
  go_wp2_with fail
  clear y0 y1 y2
  refine (heavy_any _ CA1 DA1 IA cd1.length dd1.length bs.length c01 c11 c2 E1 _ a4).mono ?_
  rw [HH1.out]
  rintro e w2 ⟨rfl, hb2⟩
  have hx2 := KX1.out.below hb2 KX1.out.lt
  have KX2 := Lib.hid hx2
  have KY2 := Lib.hid (KY1.out.below hb2 KY1.out.lt)
  have KB2 := Lib.hid (below_next' KB1.out hb2)
  clear hx2 hb2
  go_wp2_with fail
  refine (awake_any _).mono ?_
  rintro e w3 ⟨rfl, hb3⟩
  go_wp2
  go_ret
  exact ⟨rfl, below_next' KB2.out hb3⟩
set_option maxHeartbeats 2000000 in
theorem walk_bad0 (w : World) (CA0 DA0 : Option Addr) (cd0 dd0 : List Int) (c00 c10 : Nat) (E0 : Int) (hc0 : Reads w w.heap.size 1 CA0 cd0.length (cd0.map (Value.int .i64))) (hd0 : Reads w w.heap.size 1 DA0 dd0.length (dd0.map (Value.int .i64))) (hw0 : ∀ n ∈ cd0, -9223372036854775808 ≤ n ∧ n ≤ 9223372036854775807) (hE0 : I64 E0) (CA1 DA1 : Option Addr) (cd1 dd1 : List Int) (c01 c11 : Nat) (E1 : Int) (hc1 : Reads w w.heap.size 1 CA1 cd1.length (cd1.map (Value.int .i64))) (hd1 : Reads w w.heap.size 1 DA1 dd1.length (dd1.map (Value.int .i64))) (hw1 : ∀ n ∈ cd1, -9223372036854775808 ≤ n ∧ n ≤ 9223372036854775807) (hE1 : I64 E1) (a2 : Int) (ha2 : I64 a2) (IA : Option Addr) (bs : List Int) (c2 : Nat) (hi : Reads w w.heap.size 1 IA bs.length (bs.map (Value.int .u8))) (hby : ∀ n ∈ bs, 0 ≤ n ∧ n ≤ 255) (a4 : Int) (ha4 : I64 a4) (hh0 : hvy cd0.length dd0.length bs.length a2 a4 = false) (hh1 : hvy cd1.length dd1.length bs.length a2 a4 = false) (hn : ¬ (okF cd0 dd0 E0 ∧ okA dd0 bs a2)) :
    Calls Try.prog 8 #[.agg #[.slice CA0 cd0.length c00, .slice DA0 dd0.length c10, .int .i64 E0], .agg #[.slice CA1 cd1.length c01, .slice DA1 dd1.length c11, .int .i64 E1], .int .i64 a2, .slice IA bs.length c2, .int .i64 a4] w fun e w' => e = .returned (.bool true) ∧ Below w.heap.size w w' := by
  have HH0 := Lib.hid hh0
  have HH1 := Lib.hid hh1
  have HI0 : Hid (In3 w w.heap.size CA0 DA0 IA cd0 dd0 bs) := Lib.hid ⟨hc0, hd0, hi, Nat.le_refl _, hw0, hby⟩
  have HI1 : Hid (In3 w w.heap.size CA1 DA1 IA cd1 dd1 bs) := Lib.hid ⟨hc1, hd1, hi, Nat.le_refl _, hw1, hby⟩
  have HN := Lib.hid hn
  clear hh0 hh1 hc0 hd0 hc1 hd1 hi hw0 hw1 hby
  clear hn
  go_enter Try.func8, Try.ntmps8
  go_wp2_with fail
  refine (heavy_any _ CA0 DA0 IA cd0.length dd0.length bs.length c00 c10 c2 E0 _ a4).mono ?_
  rw [HH0.out]
  rintro e w1 ⟨rfl, hb1⟩
  obtain ⟨kx, ky, kB⟩ := two_new w #[.slice CA0 cd0.length c00, .slice DA0 dd0.length c10, .int .i64 E0] #[.slice CA1 cd1.length c01, .slice DA1 dd1.length c11, .int .i64 E1] 24 24
  have kx1 := kx.below hb1 kx.lt
  have ky1 := ky.below hb1 ky.lt
  have kB1 := below_next' kB hb1
  have y0 := ky1.get (i := 0) rfl
  have y1 := ky1.get (i := 1) rfl
  have y2 := ky1.get (i := 2) rfl
  have KX1 := Lib.hid kx1
  have KY1 := Lib.hid ky1
  have KB1 := Lib.hid kB1
  clear kx ky kB hb1 kx1 ky1 kB1
  go_wp2_with fail
  clear y0 y1 y2
  refine (heavy_any _ CA1 DA1 IA cd1.length dd1.length bs.length c01 c11 c2 E1 _ a4).mono ?_
  rw [HH1.out]
  rintro e w2 ⟨rfl, hb2⟩
  have hx2 := KX1.out.below hb2 KX1.out.lt
  have KX2 := Lib.hid hx2
  have KY2 := Lib.hid (KY1.out.below hb2 KY1.out.lt)
  have KB2 := Lib.hid (below_next' KB1.out hb2)
  have y0 := hx2.get (i := 0) rfl
  have y1 := hx2.get (i := 1) rfl
  have y2 := hx2.get (i := 2) rfl
  clear hx2 hb2
  go_wp2_with fail
  clear y0 y1 y2
  refine (new_off (HI0.out.below KB2.out) c00 c10 c2 E0 a2 HN.out).mono ?_
  rintro e w3 ⟨x, rfl, hx0, hb3⟩
  have hy3 := KY2.out.below hb3 KY2.out.lt
  have KX3 := Lib.hid (KX2.out.below hb3 KX2.out.lt)
  have KY3 := Lib.hid hy3
  have KB3 := Lib.hid (below_next' KB2.out hb3)
  have y0 := hy3.get (i := 0) rfl
  have y1 := hy3.get (i := 1) rfl
  have y2 := hy3.get (i := 2) rfl
  clear hy3 hb3
  go_wp2_with fail
  clear y0 y1 y2
  refine (new_any (HI1.out.below KB3.out) c01 c11 c2 E1 a2).mono ?_
  rintro e w4 ⟨p, y, rfl, hb4⟩
  have KB4 := Lib.hid (below_next' KB3.out hb4)
  clear hb4
  go_wp2_with fail
  refine (num_any _ _).mono ?_
  rintro e w5 ⟨rfl, rfl⟩
  go_wp2_with fail
  refine (awake_any _).mono ?_
  rintro e w6 ⟨rfl, hb6⟩
  go_wp2
  go_ret
  exact ⟨rfl, below_next' KB4.out hb6⟩
set_option maxHeartbeats 2000000 in
theorem walk_bad1 (w : World) (CA0 DA0 : Option Addr) (cd0 dd0 : List Int) (c00 c10 : Nat) (E0 : Int) (hc0 : Reads w w.heap.size 1 CA0 cd0.length (cd0.map (Value.int .i64))) (hd0 : Reads w w.heap.size 1 DA0 dd0.length (dd0.map (Value.int .i64))) (hw0 : ∀ n ∈ cd0, -9223372036854775808 ≤ n ∧ n ≤ 9223372036854775807) (hE0 : I64 E0) (CA1 DA1 : Option Addr) (cd1 dd1 : List Int) (c01 c11 : Nat) (E1 : Int) (hc1 : Reads w w.heap.size 1 CA1 cd1.length (cd1.map (Value.int .i64))) (hd1 : Reads w w.heap.size 1 DA1 dd1.length (dd1.map (Value.int .i64))) (hw1 : ∀ n ∈ cd1, -9223372036854775808 ≤ n ∧ n ≤ 9223372036854775807) (hE1 : I64 E1) (a2 : Int) (ha2 : I64 a2) (IA : Option Addr) (bs : List Int) (c2 : Nat) (hi : Reads w w.heap.size 1 IA bs.length (bs.map (Value.int .u8))) (hby : ∀ n ∈ bs, 0 ≤ n ∧ n ≤ 255) (a4 : Int) (ha4 : I64 a4) (hh0 : hvy cd0.length dd0.length bs.length a2 a4 = false) (hh1 : hvy cd1.length dd1.length bs.length a2 a4 = false) (m : Nat) (hm : a2 = (m : Int)) (hn0 : okF cd0 dd0 E0 ∧ okA dd0 bs (m : Int)) (hn : ¬ (okF cd1 dd1 E1 ∧ okA dd1 bs (m : Int))) :
    Calls Try.prog 8 #[.agg #[.slice CA0 cd0.length c00, .slice DA0 dd0.length c10, .int .i64 E0], .agg #[.slice CA1 cd1.length c01, .slice DA1 dd1.length c11, .int .i64 E1], .int .i64 a2, .slice IA bs.length c2, .int .i64 a4] w fun e w' => e = .returned (.bool true) ∧ Below w.heap.size w w' := by
  subst hm
  have HH0 := Lib.hid hh0
  have HH1 := Lib.hid hh1
  have HI0 : Hid (In3 w w.heap.size CA0 DA0 IA cd0 dd0 bs) := Lib.hid ⟨hc0, hd0, hi, Nat.le_refl _, hw0, hby⟩
  have HI1 : Hid (In3 w w.heap.size CA1 DA1 IA cd1 dd1 bs) := Lib.hid ⟨hc1, hd1, hi, Nat.le_refl _, hw1, hby⟩
  have HN0 := Lib.hid hn0
  have HN := Lib.hid hn
  clear hh0 hh1 hc0 hd0 hc1 hd1 hi hw0 hw1 hby
  clear hn hn0
  go_enter Try.func8, Try.ntmps8
  go_wp2_with fail
  refine (heavy_any _ CA0 DA0 IA cd0.length dd0.length bs.length c00 c10 c2 E0 _ a4).mono ?_
  rw [HH0.out]
  rintro e w1 ⟨rfl, hb1⟩
  obtain ⟨kx, ky, kB⟩ := two_new w #[.slice CA0 cd0.length c00, .slice DA0 dd0.length c10, .int .i64 E0] #[.slice CA1 cd1.length c01, .slice DA1 dd1.length c11, .int .i64 E1] 24 24
  have kx1 := kx.below hb1 kx.lt
  have ky1 := ky.below hb1 ky.lt
  have kB1 := below_next' kB hb1
  have y0 := ky1.get (i := 0) rfl
  have y1 := ky1.get (i := 1) rfl
  have y2 := ky1.get (i := 2) rfl
  have KX1 := Lib.hid kx1
  have KY1 := Lib.hid ky1
  have KB1 := Lib.hid kB1
  clear kx ky kB hb1 kx1 ky1 kB1
  go_wp2_with fail
  clear y0 y1 y2
  refine (heavy_any _ CA1 DA1 IA cd1.length dd1.length bs.length c01 c11 c2 E1 _ a4).mono ?_
  rw [HH1.out]
  rintro e w2 ⟨rfl, hb2⟩
  have hx2 := KX1.out.below hb2 KX1.out.lt
  have KX2 := Lib.hid hx2
  have KY2 := Lib.hid (KY1.out.below hb2 KY1.out.lt)
  have KB2 := Lib.hid (below_next' KB1.out hb2)
  have y0 := hx2.get (i := 0) rfl
  have y1 := hx2.get (i := 1) rfl
  have y2 := hx2.get (i := 2) rfl
  clear hx2 hb2
  go_wp2_with fail
  clear y0 y1 y2
  refine (new_rep (HI0.out.below KB2.out) c00 c10 c2 E0 m HN0.out.1 HN0.out.2).mono ?_
  rintro e w3 ⟨L, iv, rfl, hR, hb3⟩
  have hy3 := KY2.out.below hb3 KY2.out.lt
  have KX3 := Lib.hid (KX2.out.below hb3 KX2.out.lt)
  have KY3 := Lib.hid hy3
  have KB3 := Lib.hid (below_next' KB2.out hb3)
  clear hR
  have y0 := hy3.get (i := 0) rfl
  have y1 := hy3.get (i := 1) rfl
  have y2 := hy3.get (i := 2) rfl
  clear hy3 hb3
  go_wp2_with fail
  clear y0 y1 y2
  refine (new_off (HI1.out.below KB3.out) c01 c11 c2 E1 (m : Int) HN.out).mono ?_
  rintro e w4 ⟨y, rfl, hy0, hb4⟩
  have KB4 := Lib.hid (below_next' KB3.out hb4)
  clear hb4
  go_wp2_with fail
  refine (num_any _ _).mono ?_
  rintro e w5 ⟨rfl, rfl⟩
  go_wp2_with fail
  refine (num_any _ _).mono ?_
  rintro e w5 ⟨rfl, rfl⟩
  go_wp2_with fail
  refine (awake_any _).mono ?_
  rintro e w6 ⟨rfl, hb6⟩
  go_wp2
  go_ret
  exact ⟨rfl, below_next' KB4.out hb6⟩
set_option maxHeartbeats 2000000 in
set_option maxRecDepth 100000 in
theorem walk_run (w : World) (CA0 DA0 : Option Addr) (cd0 dd0 : List Int) (c00 c10 : Nat) (E0 : Int) (hc0 : Reads w w.heap.size 1 CA0 cd0.length (cd0.map (Value.int .i64))) (hd0 : Reads w w.heap.size 1 DA0 dd0.length (dd0.map (Value.int .i64))) (hw0 : ∀ n ∈ cd0, -9223372036854775808 ≤ n ∧ n ≤ 9223372036854775807) (hE0 : I64 E0) (CA1 DA1 : Option Addr) (cd1 dd1 : List Int) (c01 c11 : Nat) (E1 : Int) (hc1 : Reads w w.heap.size 1 CA1 cd1.length (cd1.map (Value.int .i64))) (hd1 : Reads w w.heap.size 1 DA1 dd1.length (dd1.map (Value.int .i64))) (hw1 : ∀ n ∈ cd1, -9223372036854775808 ≤ n ∧ n ≤ 9223372036854775807) (hE1 : I64 E1) (a2 : Int) (ha2 : I64 a2) (IA : Option Addr) (bs : List Int) (c2 : Nat) (hi : Reads w w.heap.size 1 IA bs.length (bs.map (Value.int .u8))) (hby : ∀ n ∈ bs, 0 ≤ n ∧ n ≤ 255) (a4 : Int) (ha4 : I64 a4) (hh0 : hvy cd0.length dd0.length bs.length a2 a4 = false) (hh1 : hvy cd1.length dd1.length bs.length a2 a4 = false) (m : Nat) (hm : a2 = (m : Int)) (hn0 : okF cd0 dd0 E0 ∧ okA dd0 bs (m : Int)) (hn1 : okF cd1 dd1 E1 ∧ okA dd1 bs (m : Int)) :
    Calls Try.prog 8 #[.agg #[.slice CA0 cd0.length c00, .slice DA0 dd0.length c10, .int .i64 E0], .agg #[.slice CA1 cd1.length c01, .slice DA1 dd1.length c11, .int .i64 E1], .int .i64 a2, .slice IA bs.length c2, .int .i64 a4] w fun e w' => e = .returned (.bool true) ∧ Below w.heap.size w w' := by
  subst hm
  have g3 : a4 ≤ 3000 := by
    unfold hvy at hh0
    have := of_decide_eq_false hh0
    omega
  obtain ⟨k, hk⟩ : ∃ k : Nat, (max 0 (min a4 500)).toNat = k := ⟨_, rfl⟩
  have mk : max 0 (min a4 500) = (k : Int) := by omega
  have k5 : (k : Int) ≤ 500 := by omega
  have k0 : (0 : Int) ≤ (k : Int) := by omega
  have HRP0 := Lib.hid (show runP cd0 dd0 bs E0 (m : Int) (k : Int) = ocOf (iter cd0 k (st0 dd0 bs E0 m)) by
    unfold runP
    rw [if_pos hn0, Int.toNat_natCast, show (min (k : Int) 4194304).toNat = k by omega])
  have HRP1 := Lib.hid (show runP cd1 dd1 bs E1 (m : Int) (k : Int) = ocOf (iter cd1 k (st0 dd1 bs E1 m)) by
    unfold runP
    rw [if_pos hn1, Int.toNat_natCast, show (min (k : Int) 4194304).toNat = k by omega])
  have HH0 := Lib.hid hh0
  have HH1 := Lib.hid hh1
  have HI0 : Hid (In3 w w.heap.size CA0 DA0 IA cd0 dd0 bs) := Lib.hid ⟨hc0, hd0, hi, Nat.le_refl _, hw0, hby⟩
  have HI1 : Hid (In3 w w.heap.size CA1 DA1 IA cd1 dd1 bs) := Lib.hid ⟨hc1, hd1, hi, Nat.le_refl _, hw1, hby⟩
  have HN0 := Lib.hid hn0
  have HN1 := Lib.hid hn1
  have HKK := Lib.hid hk
  have HA4 := Lib.hid ha4
  clear hh0 hh1 hc0 hd0 hc1 hd1 hi hw0 hw1 hby
  clear hn0 hn1 hk ha4
  go_enter Try.func8, Try.ntmps8
  go_wp2_with fail
  refine (heavy_any _ CA0 DA0 IA cd0.length dd0.length bs.length c00 c10 c2 E0 _ a4).mono ?_
  rw [HH0.out]
  rintro e w1 ⟨rfl, hb1⟩
  obtain ⟨kx, ky, kB⟩ := two_new w #[.slice CA0 cd0.length c00, .slice DA0 dd0.length c10, .int .i64 E0] #[.slice CA1 cd1.length c01, .slice DA1 dd1.length c11, .int .i64 E1] 24 24
  have kx1 := kx.below hb1 kx.lt
  have ky1 := ky.below hb1 ky.lt
  have kB1 := below_next' kB hb1
  have y0 := ky1.get (i := 0) rfl
  have y1 := ky1.get (i := 1) rfl
  have y2 := ky1.get (i := 2) rfl
  have KX1 := Lib.hid kx1
  have KY1 := Lib.hid ky1
  have KB1 := Lib.hid kB1
  clear kx ky kB hb1 kx1 ky1 kB1
  go_wp2_with fail
  clear y0 y1 y2
  refine (heavy_any _ CA1 DA1 IA cd1.length dd1.length bs.length c01 c11 c2 E1 _ a4).mono ?_
  rw [HH1.out]
  rintro e w2 ⟨rfl, hb2⟩
  have hx2 := KX1.out.below hb2 KX1.out.lt
  have KX2 := Lib.hid hx2
  have KY2 := Lib.hid (KY1.out.below hb2 KY1.out.lt)
  have KB2 := Lib.hid (below_next' KB1.out hb2)
  have y0 := hx2.get (i := 0) rfl
  have y1 := hx2.get (i := 1) rfl
  have y2 := hx2.get (i := 2) rfl
  clear hx2 hb2
  go_wp2_with fail
  clear y0 y1 y2
  refine (new_rep2 (HI0.out.below KB2.out) c00 c10 c2 E0 m HN0.out.1 HN0.out.2).mono ?_
  rintro e w3 ⟨La, iva, rfl, hRa, hb3, hka⟩
  have hy3 := KY2.out.below hb3 KY2.out.lt
  have KX3 := Lib.hid (KX2.out.below hb3 KX2.out.lt)
  have KY3 := Lib.hid hy3
  have KB3 := Lib.hid (below_next' KB2.out hb3)
  have HRa := Lib.hid hRa
  have HKa := Lib.hid hka
  have HS3 := Lib.hid hb3.size
  clear hRa hka
  have y0 := hy3.get (i := 0) rfl
  have y1 := hy3.get (i := 1) rfl
  have y2 := hy3.get (i := 2) rfl
  clear hy3 hb3
  go_wp2_with fail
  clear y0 y1 y2
  refine (new_rep2 (HI1.out.below KB3.out) c01 c11 c2 E1 m HN1.out.1 HN1.out.2).mono ?_
  rintro e w4 ⟨Lb, ivb, rfl, hRb, hb4, hkb⟩
  have T := Two.new_ HRa.out (fun k hk => (HKa.out k hk).2) hRb (fun k hk => (hkb k hk).2) hb4 HS3.out
  have KX4 := Lib.hid (KX3.out.below hb4 KX3.out.lt)
  have KY4 := Lib.hid (KY3.out.below hb4 KY3.out.lt)
  have KB4 := Lib.hid (below_next' KB3.out hb4)
  have HT := Lib.hid T
  have HXL := Lib.hid KX2.out.lt
  have HYL := Lib.hid KY2.out.lt
  have HW2 := Lib.hid KB2.out.size
  have HS4 := Lib.hid (Nat.le_trans HS3.out hb4.size)
  clear hRb hb4 hkb T
  go_wp2_with fail
  refine (num_any _ _).mono ?_
  rintro e w5 ⟨rfl, rfl⟩
  go_wp2_with fail
  refine (num_any _ _).mono ?_
  rintro e w5 ⟨rfl, rfl⟩
  go_wp2_with fail
  go_loopw [15] (fun i wr => ∃ j : Nat, i = .int .i64 j ∧ j ≤ k ∧ Two wr w2.heap.size La Lb cd0 cd1 (iter cd0 j (st0 dd0 bs E0 m)) (iter cd1 j (st0 dd1 bs E1 m)) ∧ Below w2.heap.size w4 wr) (fun i _ => k - (intOf i).toNat)
  case atStart => exact ⟨0, rfl, Nat.zero_le _, HT.out, Below.refl _ _⟩
  case round =>
    obtain ⟨j, rfl, hj, hT, hB⟩ := hrel
    obtain ⟨wo, rfl⟩ : ∃ wo : World, wo = wr := ⟨_, rfl⟩
    have j0 : (0 : Int) ≤ (j : Int) := by omega
    have HTO := Lib.hid hT
    clear hT
    by_cases hlt : j < k
    · have j1 : (j : Int) < a4 := by omega
      have j2 : (j : Int) < 500 := by omega
      go_wp2_with fail
      refine (HTO.out.step_a).mono ?_
      rintro e w6 ⟨⟨b, rfl⟩, hT6, hB6⟩
      have HT6 := Lib.hid hT6
      clear hT6
      go_wp2_with fail
      refine (HT6.out.step_b).mono ?_
      rintro e w7 ⟨⟨b', rfl⟩, hT7, hB7⟩
      have HT7 := Lib.hid hT7
      clear hT7
      go_wp2
      go_roundw
      case rel => exact ⟨j + 1, by go_num, by omega, HT7.out, (hB.trans hB6).trans hB7⟩
      case measure => simp [intOf]; omega
    · obtain rfl : j = k := by omega
      have KXO := Lib.hid (KX4.out.below hB HXL.out)
      have KYO := Lib.hid (KY4.out.below hB HYL.out)
      have KBO := Lib.hid (KB4.out.trans (hB.mono HW2.out))
      generalize iter cd0 j (st0 dd0 bs E0 m) = z0 at *
      generalize iter cd1 j (st0 dd1 bs E1 m) = z1 at *
      clear hB
      by_cases hlt4 : (j : Int) < a4
      · have j2 : decide ((j : Int) < 500) = false := by simp; omega
        go_wp2_with fail
        have HSK := Lib.hid (show ∀ w', Below wo.heap.size wo w' → w'.cell? ⟨w.heap.size, 0, none⟩ = some (.slice CA0 cd0.length c00) ∧ w'.cell? ⟨w.heap.size, 1, none⟩ = some (.slice DA0 dd0.length c10) ∧ w'.cell? ⟨w.heap.size, 2, none⟩ = some (.int .i64 E0) ∧ w'.cell? ⟨w.heap.size + 1, 0, none⟩ = some (.slice CA1 cd1.length c01) ∧ w'.cell? ⟨w.heap.size + 1, 1, none⟩ = some (.slice DA1 dd1.length c11) ∧ w'.cell? ⟨w.heap.size + 1, 2, none⟩ = some (.int .i64 E1) from fun w' hb =>
          have i1 := KXO.out.below hb KXO.out.lt
          have i2 := KYO.out.below hb KYO.out.lt
          ⟨i1.get (i := 0) rfl, i1.get (i := 1) rfl, i1.get (i := 2) rfl, i2.get (i := 0) rfl, i2.get (i := 1) rfl, i2.get (i := 2) rfl⟩)
        have HR0 := Lib.hid (show ∀ w', Below wo.heap.size wo w' → Calls Try.prog 14 #[.agg #[.slice CA0 cd0.length c00, .slice DA0 dd0.length c10, .int .i64 E0], .int .i64 (m : Int), .slice IA bs.length c2, .int .i64 (j : Int)] w' fun e w'' => ∃ A c, e = .returned (.agg #[.int .i64 z0.kind, .int .i64 z0.code, .slice A z0.out.length c, .int .i64 z0.steps]) ∧ w''.ownsRow wo.heap.size 5 1 (.slice A z0.out.length c) z0.out.length (z0.out.map (Value.int .u8)) ∧ Below wo.heap.size wo w'' ∧ Below w'.heap.size w' w'' from fun w' hb => by
          have hr := mrun_any (HI0.out.below (KBO.out.trans (hb.mono KBO.out.size))) c00 c10 c2 E0 (m : Int) (j : Int)
          rw [HRP0.out] at hr
          refine Calls.mono hr ?_
          rintro e w'' ⟨v, rfl, ⟨A, c, rfl, ho⟩, hb2⟩
          exact ⟨A, c, rfl, own_mono ho hb.size, below_next' hb hb2, hb2⟩)
        have HR1 := Lib.hid (show ∀ w', Below wo.heap.size wo w' → Calls Try.prog 14 #[.agg #[.slice CA1 cd1.length c01, .slice DA1 dd1.length c11, .int .i64 E1], .int .i64 (m : Int), .slice IA bs.length c2, .int .i64 (j : Int)] w' fun e w'' => ∃ A c, e = .returned (.agg #[.int .i64 z1.kind, .int .i64 z1.code, .slice A z1.out.length c, .int .i64 z1.steps]) ∧ w''.ownsRow wo.heap.size 5 1 (.slice A z1.out.length c) z1.out.length (z1.out.map (Value.int .u8)) ∧ Below wo.heap.size wo w'' ∧ Below w'.heap.size w' w'' from fun w' hb => by
          have hr := mrun_any (HI1.out.below (KBO.out.trans (hb.mono KBO.out.size))) c01 c11 c2 E1 (m : Int) (j : Int)
          rw [HRP1.out] at hr
          refine Calls.mono hr ?_
          rintro e w'' ⟨v, rfl, ⟨A, c, rfl, ho⟩, hb2⟩
          exact ⟨A, c, rfl, own_mono ho hb.size, below_next' hb hb2, hb2⟩)
        have HOA := Lib.hid (show ∀ w', Below wo.heap.size wo w' → Calls Try.prog 22 #[.pointer (some ⟨La.g, 0, none⟩)] w' fun e w'' => ∃ A c, e = .returned (.agg #[.int .i64 z0.kind, .int .i64 z0.code, .slice A z0.out.length c, .int .i64 z0.steps]) ∧ w''.ownsRow wo.heap.size 5 1 (.slice A z0.out.length c) z0.out.length (z0.out.map (Value.int .u8)) ∧ Below wo.heap.size wo w'' from fun w' hb => by
          refine (HTO.out.keep hb).out_a.mono ?_
          rintro e w'' ⟨A, c, rfl, ho, hb2⟩
          exact ⟨A, c, rfl, own_mono ho hb.size, below_next' hb hb2⟩)
        have HOB := Lib.hid (show ∀ w', Below wo.heap.size wo w' → Calls Try.prog 22 #[.pointer (some ⟨Lb.g, 0, none⟩)] w' fun e w'' => ∃ A c, e = .returned (.agg #[.int .i64 z1.kind, .int .i64 z1.code, .slice A z1.out.length c, .int .i64 z1.steps]) ∧ w''.ownsRow wo.heap.size 5 1 (.slice A z1.out.length c) z1.out.length (z1.out.map (Value.int .u8)) ∧ Below wo.heap.size wo w'' from fun w' hb => by
          refine (HTO.out.keep hb).out_b.mono ?_
          rintro e w'' ⟨A, c, rfl, ho, hb2⟩
          exact ⟨A, c, rfl, own_mono ho hb.size, below_next' hb hb2⟩)
        have HS := Lib.hid (show ∀ (z : St) w' A c A' c', Below wo.heap.size wo w' → w'.ownsRow wo.heap.size 5 1 (.slice A z.out.length c) z.out.length (z.out.map (Value.int .u8)) → w'.ownsRow wo.heap.size 5 1 (.slice A' z.out.length c') z.out.length (z.out.map (Value.int .u8)) → Calls Try.prog 15 #[.agg #[.int .i64 z.kind, .int .i64 z.code, .slice A z.out.length c, .int .i64 z.steps], .agg #[.int .i64 z.kind, .int .i64 z.code, .slice A' z.out.length c', .int .i64 z.steps]] w' fun e w'' => e = .returned (.bool true) ∧ Below wo.heap.size wo w'' from fun z w' A c A' c' hb ho ho' => by
          refine (same_yes w' _ _ (ocOf z) A A' c c' ho ho').mono ?_
          rintro e w'' ⟨rfl, hb2⟩
          exact ⟨rfl, below_next' hb hb2⟩)
        go_region_held3 (fun w' => w'.cell? ⟨w.heap.size, 0, none⟩ = some (.slice CA0 cd0.length c00) ∧ w'.cell? ⟨w.heap.size, 1, none⟩ = some (.slice DA0 dd0.length c10) ∧ w'.cell? ⟨w.heap.size, 2, none⟩ = some (.int .i64 E0) ∧ w'.cell? ⟨w.heap.size + 1, 0, none⟩ = some (.slice CA1 cd1.length c01) ∧ w'.cell? ⟨w.heap.size + 1, 1, none⟩ = some (.slice DA1 dd1.length c11) ∧ w'.cell? ⟨w.heap.size + 1, 2, none⟩ = some (.int .i64 E1)) ((first | exact HSK.out _ (by first | exact Below.drew (Below.refl _ wo) | assumption))) (first
          | (go_at_call 13; refine (awake_any _).mono ?_; rintro e w17 ⟨rfl, hb17'⟩; have hb17 := below_next' hb16 hb17'; clear hb17')
          | (go_at_call 15; (with_reducible refine (HS.out z1 _ A14 c14 A15 c15 hb15 (own_below hown14 hd15) hown15).mono ?_); rintro e w16 ⟨rfl, hb16⟩)
          | (go_at_call 14; (with_reducible refine (HR1.out _ hb14).mono ?_); rintro e w15 ⟨A15, c15, rfl, hown15, hb15, hd15⟩)
          | (go_at_call 22; (with_reducible refine (HOB.out _ hb13).mono ?_); rintro e w14 ⟨A14, c14, rfl, hown14, hb14⟩)
          | (go_at_call 15; (with_reducible refine (HS.out z0 _ A11 c11' A12 c12' hb12 (own_below hown11 hd12) hown12).mono ?_); rintro e w13 ⟨rfl, hb13⟩)
          | (go_at_call 14; (with_reducible refine (HR0.out _ hb11).mono ?_); rintro e w12 ⟨A12, c12', rfl, hown12, hb12, hd12⟩)
          | (go_at_call 22; refine (HOA.out _ (by first | exact Below.drew (Below.refl _ wo) | assumption)).mono ?_; rintro e w11 ⟨A11, c11', rfl, hown11, hb11⟩))
        all_goals (go_wp2; go_ret; exact ⟨rfl, KBO.out.trans (hb17.mono KBO.out.size)⟩)
      · have j1 : decide ((j : Int) < a4) = false := by simpa using hlt4
        go_wp2_with fail
        have HSK := Lib.hid (show ∀ w', Below wo.heap.size wo w' → w'.cell? ⟨w.heap.size, 0, none⟩ = some (.slice CA0 cd0.length c00) ∧ w'.cell? ⟨w.heap.size, 1, none⟩ = some (.slice DA0 dd0.length c10) ∧ w'.cell? ⟨w.heap.size, 2, none⟩ = some (.int .i64 E0) ∧ w'.cell? ⟨w.heap.size + 1, 0, none⟩ = some (.slice CA1 cd1.length c01) ∧ w'.cell? ⟨w.heap.size + 1, 1, none⟩ = some (.slice DA1 dd1.length c11) ∧ w'.cell? ⟨w.heap.size + 1, 2, none⟩ = some (.int .i64 E1) from fun w' hb =>
          have i1 := KXO.out.below hb KXO.out.lt
          have i2 := KYO.out.below hb KYO.out.lt
          ⟨i1.get (i := 0) rfl, i1.get (i := 1) rfl, i1.get (i := 2) rfl, i2.get (i := 0) rfl, i2.get (i := 1) rfl, i2.get (i := 2) rfl⟩)
        have HR0 := Lib.hid (show ∀ w', Below wo.heap.size wo w' → Calls Try.prog 14 #[.agg #[.slice CA0 cd0.length c00, .slice DA0 dd0.length c10, .int .i64 E0], .int .i64 (m : Int), .slice IA bs.length c2, .int .i64 (j : Int)] w' fun e w'' => ∃ A c, e = .returned (.agg #[.int .i64 z0.kind, .int .i64 z0.code, .slice A z0.out.length c, .int .i64 z0.steps]) ∧ w''.ownsRow wo.heap.size 5 1 (.slice A z0.out.length c) z0.out.length (z0.out.map (Value.int .u8)) ∧ Below wo.heap.size wo w'' ∧ Below w'.heap.size w' w'' from fun w' hb => by
          have hr := mrun_any (HI0.out.below (KBO.out.trans (hb.mono KBO.out.size))) c00 c10 c2 E0 (m : Int) (j : Int)
          rw [HRP0.out] at hr
          refine Calls.mono hr ?_
          rintro e w'' ⟨v, rfl, ⟨A, c, rfl, ho⟩, hb2⟩
          exact ⟨A, c, rfl, own_mono ho hb.size, below_next' hb hb2, hb2⟩)
        have HR1 := Lib.hid (show ∀ w', Below wo.heap.size wo w' → Calls Try.prog 14 #[.agg #[.slice CA1 cd1.length c01, .slice DA1 dd1.length c11, .int .i64 E1], .int .i64 (m : Int), .slice IA bs.length c2, .int .i64 (j : Int)] w' fun e w'' => ∃ A c, e = .returned (.agg #[.int .i64 z1.kind, .int .i64 z1.code, .slice A z1.out.length c, .int .i64 z1.steps]) ∧ w''.ownsRow wo.heap.size 5 1 (.slice A z1.out.length c) z1.out.length (z1.out.map (Value.int .u8)) ∧ Below wo.heap.size wo w'' ∧ Below w'.heap.size w' w'' from fun w' hb => by
          have hr := mrun_any (HI1.out.below (KBO.out.trans (hb.mono KBO.out.size))) c01 c11 c2 E1 (m : Int) (j : Int)
          rw [HRP1.out] at hr
          refine Calls.mono hr ?_
          rintro e w'' ⟨v, rfl, ⟨A, c, rfl, ho⟩, hb2⟩
          exact ⟨A, c, rfl, own_mono ho hb.size, below_next' hb hb2, hb2⟩)
        have HOA := Lib.hid (show ∀ w', Below wo.heap.size wo w' → Calls Try.prog 22 #[.pointer (some ⟨La.g, 0, none⟩)] w' fun e w'' => ∃ A c, e = .returned (.agg #[.int .i64 z0.kind, .int .i64 z0.code, .slice A z0.out.length c, .int .i64 z0.steps]) ∧ w''.ownsRow wo.heap.size 5 1 (.slice A z0.out.length c) z0.out.length (z0.out.map (Value.int .u8)) ∧ Below wo.heap.size wo w'' from fun w' hb => by
          refine (HTO.out.keep hb).out_a.mono ?_
          rintro e w'' ⟨A, c, rfl, ho, hb2⟩
          exact ⟨A, c, rfl, own_mono ho hb.size, below_next' hb hb2⟩)
        have HOB := Lib.hid (show ∀ w', Below wo.heap.size wo w' → Calls Try.prog 22 #[.pointer (some ⟨Lb.g, 0, none⟩)] w' fun e w'' => ∃ A c, e = .returned (.agg #[.int .i64 z1.kind, .int .i64 z1.code, .slice A z1.out.length c, .int .i64 z1.steps]) ∧ w''.ownsRow wo.heap.size 5 1 (.slice A z1.out.length c) z1.out.length (z1.out.map (Value.int .u8)) ∧ Below wo.heap.size wo w'' from fun w' hb => by
          refine (HTO.out.keep hb).out_b.mono ?_
          rintro e w'' ⟨A, c, rfl, ho, hb2⟩
          exact ⟨A, c, rfl, own_mono ho hb.size, below_next' hb hb2⟩)
        have HS := Lib.hid (show ∀ (z : St) w' A c A' c', Below wo.heap.size wo w' → w'.ownsRow wo.heap.size 5 1 (.slice A z.out.length c) z.out.length (z.out.map (Value.int .u8)) → w'.ownsRow wo.heap.size 5 1 (.slice A' z.out.length c') z.out.length (z.out.map (Value.int .u8)) → Calls Try.prog 15 #[.agg #[.int .i64 z.kind, .int .i64 z.code, .slice A z.out.length c, .int .i64 z.steps], .agg #[.int .i64 z.kind, .int .i64 z.code, .slice A' z.out.length c', .int .i64 z.steps]] w' fun e w'' => e = .returned (.bool true) ∧ Below wo.heap.size wo w'' from fun z w' A c A' c' hb ho ho' => by
          refine (same_yes w' _ _ (ocOf z) A A' c c' ho ho').mono ?_
          rintro e w'' ⟨rfl, hb2⟩
          exact ⟨rfl, below_next' hb hb2⟩)
        go_region_held3 (fun w' => w'.cell? ⟨w.heap.size, 0, none⟩ = some (.slice CA0 cd0.length c00) ∧ w'.cell? ⟨w.heap.size, 1, none⟩ = some (.slice DA0 dd0.length c10) ∧ w'.cell? ⟨w.heap.size, 2, none⟩ = some (.int .i64 E0) ∧ w'.cell? ⟨w.heap.size + 1, 0, none⟩ = some (.slice CA1 cd1.length c01) ∧ w'.cell? ⟨w.heap.size + 1, 1, none⟩ = some (.slice DA1 dd1.length c11) ∧ w'.cell? ⟨w.heap.size + 1, 2, none⟩ = some (.int .i64 E1)) ((first | exact HSK.out _ (by first | exact Below.drew (Below.refl _ wo) | assumption))) (first
          | (go_at_call 13; refine (awake_any _).mono ?_; rintro e w17 ⟨rfl, hb17'⟩; have hb17 := below_next' hb16 hb17'; clear hb17')
          | (go_at_call 15; (with_reducible refine (HS.out z1 _ A14 c14 A15 c15 hb15 (own_below hown14 hd15) hown15).mono ?_); rintro e w16 ⟨rfl, hb16⟩)
          | (go_at_call 14; (with_reducible refine (HR1.out _ hb14).mono ?_); rintro e w15 ⟨A15, c15, rfl, hown15, hb15, hd15⟩)
          | (go_at_call 22; (with_reducible refine (HOB.out _ hb13).mono ?_); rintro e w14 ⟨A14, c14, rfl, hown14, hb14⟩)
          | (go_at_call 15; (with_reducible refine (HS.out z0 _ A11 c11' A12 c12' hb12 (own_below hown11 hd12) hown12).mono ?_); rintro e w13 ⟨rfl, hb13⟩)
          | (go_at_call 14; (with_reducible refine (HR0.out _ hb11).mono ?_); rintro e w12 ⟨A12, c12', rfl, hown12, hb12, hd12⟩)
          | (go_at_call 22; refine (HOA.out _ (by first | exact Below.drew (Below.refl _ wo) | assumption)).mono ?_; rintro e w11 ⟨A11, c11', rfl, hown11, hb11⟩))
        all_goals (go_wp2; go_ret; exact ⟨rfl, KBO.out.trans (hb17.mono KBO.out.size)⟩)
theorem walk (w : World) (CA0 DA0 : Option Addr) (cd0 dd0 : List Int) (c00 c10 : Nat) (E0 : Int) (hc0 : Reads w w.heap.size 1 CA0 cd0.length (cd0.map (Value.int .i64))) (hd0 : Reads w w.heap.size 1 DA0 dd0.length (dd0.map (Value.int .i64))) (hw0 : ∀ n ∈ cd0, -9223372036854775808 ≤ n ∧ n ≤ 9223372036854775807) (hE0 : I64 E0) (CA1 DA1 : Option Addr) (cd1 dd1 : List Int) (c01 c11 : Nat) (E1 : Int) (hc1 : Reads w w.heap.size 1 CA1 cd1.length (cd1.map (Value.int .i64))) (hd1 : Reads w w.heap.size 1 DA1 dd1.length (dd1.map (Value.int .i64))) (hw1 : ∀ n ∈ cd1, -9223372036854775808 ≤ n ∧ n ≤ 9223372036854775807) (hE1 : I64 E1) (a2 : Int) (ha2 : I64 a2) (IA : Option Addr) (bs : List Int) (c2 : Nat) (hi : Reads w w.heap.size 1 IA bs.length (bs.map (Value.int .u8))) (hby : ∀ n ∈ bs, 0 ≤ n ∧ n ≤ 255) (a4 : Int) (ha4 : I64 a4) :
    Calls Try.prog 8 #[.agg #[.slice CA0 cd0.length c00, .slice DA0 dd0.length c10, .int .i64 E0], .agg #[.slice CA1 cd1.length c01, .slice DA1 dd1.length c11, .int .i64 E1], .int .i64 a2, .slice IA bs.length c2, .int .i64 a4] w fun e w' => e = .returned (.bool true) ∧ Below w.heap.size w w' := by
  cases hh0 : hvy cd0.length dd0.length bs.length a2 a4 with
  | true => exact walk_heavy0 w CA0 DA0 cd0 dd0 c00 c10 E0 hc0 hd0 hw0 hE0 CA1 DA1 cd1 dd1 c01 c11 E1 hc1 hd1 hw1 hE1 a2 ha2 IA bs c2 hi hby a4 ha4 hh0
  | false =>
    cases hh1 : hvy cd1.length dd1.length bs.length a2 a4 with
    | true => exact walk_heavy1 w CA0 DA0 cd0 dd0 c00 c10 E0 hc0 hd0 hw0 hE0 CA1 DA1 cd1 dd1 c01 c11 E1 hc1 hd1 hw1 hE1 a2 ha2 IA bs c2 hi hby a4 ha4 hh0 hh1
    | false =>
      by_cases hn0 : okF cd0 dd0 E0 ∧ okA dd0 bs a2
      · obtain ⟨m, hm⟩ : ∃ m : Nat, a2 = m := ⟨a2.toNat, by have := hn0.2.1; omega⟩
        by_cases hn1 : okF cd1 dd1 E1 ∧ okA dd1 bs a2
        · exact walk_run w CA0 DA0 cd0 dd0 c00 c10 E0 hc0 hd0 hw0 hE0 CA1 DA1 cd1 dd1 c01 c11 E1 hc1 hd1 hw1 hE1 a2 ha2 IA bs c2 hi hby a4 ha4 hh0 hh1 m hm (by rw [← hm]; exact hn0) (by rw [← hm]; exact hn1)
        · exact walk_bad1 w CA0 DA0 cd0 dd0 c00 c10 E0 hc0 hd0 hw0 hE0 CA1 DA1 cd1 dd1 c01 c11 E1 hc1 hd1 hw1 hE1 a2 ha2 IA bs c2 hi hby a4 ha4 hh0 hh1 m hm (by rw [← hm]; exact hn0) (by rw [← hm]; exact hn1)
      · exact walk_bad0 w CA0 DA0 cd0 dd0 c00 c10 E0 hc0 hd0 hw0 hE0 CA1 DA1 cd1 dd1 c01 c11 E1 hc1 hd1 hw1 hE1 a2 ha2 IA bs c2 hi hby a4 ha4 hh0 hh1 hn0

/-! ### The row's step. -/
set_option maxRecDepth 100000 in
theorem lifted (os : Os) (started : os.Started) (H : Type) (enc : TypeId × Value → H) :
    ReturnsInHanded {} Try.checked os 8 .any (Rows.machApartSpec.pre6 enc Try.prog Try.f8 Rows.machApartRow.domain false) (Rows.machApartSpec.post enc Try.prog Try.f8 false true false false) := by
  refine returnsInHanded_of_change (C := Try.checked) own started (by kernel_rfl) Try.func8
    (ChangeSpec.witness6 (enc := enc) (C := Try.checked) false ⟨#[], #[.agg #[.slice none 0 0, .slice none 0 0, .int .i64 0], .agg #[.slice none 0 0, .slice none 0 0, .int .i64 0], .int .i64 0, .slice none 0 0, .int .i64 0], []⟩ 8 (by kernel_rfl) (by kernel_rfl) (by kernel_rfl) (by kernel_rfl)) ?_
  intro W base args ds gs before hval0 hW hcnd _
  have hval : ∀ (j : Nat) t v, Try.f8.params[j]? = some t → args[j]? = some v → Value.okWide Try.prog W .any base t v := hval0
  have hW' := hW
  obtain ⟨p, q, hA0, hV, rfl, hfz, hnd⟩ := hW
  have hA : DataW.TrodAll enc Try.prog W 0 (fun _ => true) true Try.f8.params.toList args.toList ds p := hA0
  rw [Try.params8] at hA hval
  obtain ⟨v0, vs0, d0, ds0, p0, q0, hargs, rfl, rfl, h0, r0⟩ := trodAll_cons hA
  obtain ⟨v1, vs1, d1, ds1, p1, q1, rfl, rfl, rfl, h1, r1⟩ := trodAll_cons r0
  obtain ⟨v2, vs2, d2, ds2, p2, q2, rfl, rfl, rfl, h2, r2⟩ := trodAll_cons r1
  obtain ⟨v3, vs3, d3, ds3, p3, q3, rfl, rfl, rfl, h3, r3⟩ := trodAll_cons r2
  obtain ⟨v4, vs4, d4, ds4, p4, q4, rfl, rfl, rfl, h4, r4⟩ := trodAll_cons r3
  obtain ⟨rfl, rfl, rfl⟩ := trodAll_nil r4
  obtain rfl : args = #[v0, v1, v2, v3, v4] := by cases args; simp_all
  obtain ⟨rfl, rfl⟩ := trodVars_none hV
  obtain ⟨CA0, DA0, cd0, dd0, c00, c10, E0, rfl, hc0, hd0, hw0, _, hE0⟩ := open_image (hval 0 24 v0 rfl rfl) h0
  obtain ⟨CA1, DA1, cd1, dd1, c01, c11, E1, rfl, hc1, hd1, hw1, _, hE1⟩ := open_image (hval 1 24 v1 rfl rfl) h1
  obtain ⟨a2, rfl, rfl, rfl, w2⟩ := open_int Try.underlying3 (hval 2 3 v2 rfl rfl) h2
  have ha2 := i64_of w2
  obtain ⟨IA, bs, c2, rfl, hi, hby⟩ := open_input (hval 3 25 v3 rfl rfl) h3
  obtain ⟨a4, rfl, rfl, rfl, w4⟩ := open_int Try.underlying3 (hval 4 3 v4 rfl rfl) h4
  have ha4 := i64_of w4
  refine (walk W CA0 DA0 cd0 dd0 c00 c10 E0 hc0 hd0 hw0 hE0 CA1 DA1 cd1 dd1 c01 c11 E1 hc1 hd1 hw1 hE1 a2 ha2 IA bs c2 hi hby a4 ha4).mono fun e W' ⟨he, hb⟩ => ?_
  subst he
  exact ⟨_, rfl, post_law laidOut (by rw [Try.params8]; intro t ht; simp at ht; (first | (rcases ht with rfl | rfl | rfl | rfl | rfl) | (rcases ht with rfl | rfl | rfl | rfl) | (rcases ht with rfl | rfl | rfl) | (rcases ht with rfl | rfl) | subst ht) <;> exact ⟨by kernel_rfl, of_decide_eq_true (by kernel_rfl)⟩) rfl rfl Try.underlying4 rfl hW' hb⟩

theorem over : Rows.machApartRow.holds Try.pinned (OpenSpec.ofChange Rows.machApartSpec) :=
  OpenClaim.holds_of_wide 8 Try.f8 rfl rfl rfl rfl rfl rfl rfl ⟨rfl, rfl, rfl, rfl, rfl⟩ rfl rfl rfl rfl rfl (by kernel_rfl) Try.func8 (by kernel_rfl)
    (of_decide_eq_true (by kernel_rfl)) (by unfold Func.isWrapper; first | (rw [if_pos (by decide +kernel)]; kernel_rfl) | (rw [if_neg (by decide +kernel)]; exact ⟨rfl, rfl⟩))
    (fun os started H enc _ => lifted os started H enc)

/-- The statement. -/
theorem proved : Rows.MachApartSaid :=
  over
#print axioms proved
end Go.Proofs.Ytpokhdnfclmifaa.machApart
