/-
  For every image, memory, input and steps (up to what is played) the run of the program ends as the document's machine does.
-/
import Derived.Test.YtikgghioneiegaaRows
import Derived.Test.YtikgghioneiegaaLawG
import Derived.Test.YtikgghioneiegaaRefL
import Derived.Test.YtikgghioneiegaaLawD
import Derived.Lib.MinMax
import Derived.Deep.RegionHeld3
import Derived.WalkKit
namespace Go.Proofs.Ytikgghioneiegaa.machRuns
open Go.ChangeShapes Go.WideShapes Go.ChangeAt Go.RowKit
set_option linter.unusedVariables false

/-! ### The walk. -/
set_option maxHeartbeats 2000000 in
theorem walk (w : World) (CA0 DA0 : Option Addr) (cd0 dd0 : List Int) (c00 c10 : Nat) (E0 : Int) (hc0 : Reads w w.heap.size 1 CA0 cd0.length (cd0.map (Value.int .i64))) (hd0 : Reads w w.heap.size 1 DA0 dd0.length (dd0.map (Value.int .i64))) (hw0 : ∀ n ∈ cd0, -9223372036854775808 ≤ n ∧ n ≤ 9223372036854775807) (hE0 : I64 E0) (a1 : Int) (ha1 : I64 a1) (IA : Option Addr) (bs : List Int) (c2 : Nat) (hi : Reads w w.heap.size 1 IA bs.length (bs.map (Value.int .u8))) (hby : ∀ n ∈ bs, 0 ≤ n ∧ n ≤ 255) (a3 : Int) (ha3 : I64 a3) :
    Calls Try.prog 3 #[.agg #[.slice CA0 cd0.length c00, .slice DA0 dd0.length c10, .int .i64 E0], .int .i64 a1, .slice IA bs.length c2, .int .i64 a3] w fun e w' => e = .returned (.bool true) ∧ Below w.heap.size w w' := by
  cases hh : hvy cd0.length dd0.length bs.length a1 a3 with
  | true =>
    have HH := Lib.hid hh
    clear hh
    go_enter Try.func3, Try.ntmps3
    go_wp2_with fail
    refine (heavy_any _ CA0 DA0 IA cd0.length dd0.length bs.length c00 c10 c2 E0 a1 a3).mono ?_
    rw [HH.out]
    rintro e w1 ⟨rfl, hb1⟩
    have hB1 := below_next' ((Below.refl _ w).alloc (Nat.le_refl _) _) hb1
    clear hb1
    go_wp2_with fail
    refine (awake_any _).mono ?_
    rintro e w2 ⟨rfl, hb2⟩
    go_wp2
    go_ret
    exact ⟨rfl, below_next' hB1 hb2⟩
  | false =>
    have HI : Hid (In3 w w.heap.size CA0 DA0 IA cd0 dd0 bs) := Lib.hid ⟨hc0, hd0, hi, Nat.le_refl _, hw0, hby⟩
    have HH := Lib.hid hh
    clear hc0 hd0 hi hw0 hby hh ha1 ha3 hE0
    go_enter Try.func3, Try.ntmps3
    go_wp2_with fail
    refine (heavy_any _ CA0 DA0 IA cd0.length dd0.length bs.length c00 c10 c2 E0 a1 a3).mono ?_
    rw [HH.out]
    rintro e w1 ⟨rfl, hb1⟩
    have hx0 : Blk (w.alloc (.cells #[.slice CA0 cd0.length c00, .slice DA0 dd0.length c10, .int .i64 E0] 24)) w.heap.size 24 #[.slice CA0 cd0.length c00, .slice DA0 dd0.length c10, .int .i64 E0] := Blk.new w _ _
    have hx1 := hx0.below hb1 hx0.lt
    have hB1 := below_next' ((Below.refl _ w).alloc (Nat.le_refl _) _) hb1
    have x0 := hx1.get (i := 0) rfl
    have x1 := hx1.get (i := 1) rfl
    have x2 := hx1.get (i := 2) rfl
    have HX1 := Lib.hid hx1
    have HB1 := Lib.hid hB1
    clear hx0 hx1 hb1 hB1
    go_wp2_with fail
    clear x0 x1 x2
    have hR := fun w' hb => rrun_any (w := w') (HI.out.below hb) c00 c10 c2 E0 a1 a3
    refine (mrun_any (HI.out.below HB1.out) c00 c10 c2 E0 a1 a3).mono ?_
    generalize runP cd0 dd0 bs E0 a1 a3 = oa at *
    have HRR := Lib.hid hR
    clear hR
    rintro e w2 ⟨v, rfl, ⟨A1, cA, rfl, hown1⟩, hb2⟩
    have hx2 := HX1.out.below hb2 HX1.out.lt
    have hB2 := below_next' HB1.out hb2
    have HX2 := Lib.hid hx2
    have HB2 := Lib.hid hB2
    have HO1 := Lib.hid hown1
    clear hx2 hb2 hB2 hown1
    go_wp2_with fail
    generalize hW : World.alloc w2 _ = W
    have hBW : Below w.heap.size w W := by rw [← hW]; exact HB2.out.alloc HB2.out.size _
    have bW : Below w2.heap.size w2 W := by rw [← hW]; exact (Below.refl _ w2).alloc (Nat.le_refl _) _
    have jp : Blk W w2.heap.size 29 #[.int .i64 oa.kind, .int .i64 oa.code, .slice A1 oa.out.length cA, .int .i64 oa.steps] := by rw [← hW]; exact Blk.new _ _ _
    have ji := HX2.out.below bW HX2.out.lt
    have jown := own_below HO1.out bW
    have HSK := Lib.hid (show ∀ w', Below W.heap.size W w' → w'.cell? ⟨w.heap.size, 0, none⟩ = some (.slice CA0 cd0.length c00) ∧ w'.cell? ⟨w.heap.size, 1, none⟩ = some (.slice DA0 dd0.length c10) ∧ w'.cell? ⟨w.heap.size, 2, none⟩ = some (.int .i64 E0) ∧ w'.cell? ⟨w2.heap.size, 0, none⟩ = some (.int .i64 oa.kind) ∧ w'.cell? ⟨w2.heap.size, 1, none⟩ = some (.int .i64 oa.code) ∧ w'.cell? ⟨w2.heap.size, 2, none⟩ = some (.slice A1 oa.out.length cA) ∧ w'.cell? ⟨w2.heap.size, 3, none⟩ = some (.int .i64 oa.steps) from fun w' hb =>
      have i1 := ji.below hb ji.lt
      have i2 := jp.below hb jp.lt
      ⟨i1.get (i := 0) rfl, i1.get (i := 1) rfl, i1.get (i := 2) rfl, i2.get (i := 0) rfl, i2.get (i := 1) rfl, i2.get (i := 2) rfl, i2.get (i := 3) rfl⟩)
    have HRUN := Lib.hid (show ∀ w', Below W.heap.size W w' → Calls Try.prog 16 #[.agg #[.slice CA0 cd0.length c00, .slice DA0 dd0.length c10, .int .i64 E0], .int .i64 a1, .slice IA bs.length c2, .int .i64 a3] w' fun e w'' => ∃ A c, e = .returned (.agg #[.int .i64 oa.kind, .int .i64 oa.code, .slice A oa.out.length c, .int .i64 oa.steps]) ∧ w''.ownsRow W.heap.size 5 1 (.slice A oa.out.length c) oa.out.length (oa.out.map (Value.int .u8)) ∧ Below W.heap.size W w'' from fun w' hb => by
      refine Calls.mono (HRR.out w' (hBW.trans (hb.mono hBW.size))) ?_
      rintro e w'' ⟨v, rfl, ⟨A, c, rfl, ho⟩, hb2⟩
      exact ⟨A, c, rfl, own_mono ho hb.size, below_next' hb hb2⟩)
    have HS1 := Lib.hid (show ∀ w' A c, Below W.heap.size W w' → w'.ownsRow W.heap.size 5 1 (.slice A oa.out.length c) oa.out.length (oa.out.map (Value.int .u8)) → Calls Try.prog 15 #[.agg #[.int .i64 oa.kind, .int .i64 oa.code, .slice A1 oa.out.length cA, .int .i64 oa.steps], .agg #[.int .i64 oa.kind, .int .i64 oa.code, .slice A oa.out.length c, .int .i64 oa.steps]] w' fun e w'' => e = .returned (.bool true) ∧ Below W.heap.size W w'' from fun w' A c hb ho => by
      refine (same_yes w' _ _ oa A1 A cA c (own_below jown hb) ho).mono ?_
      rintro e w'' ⟨rfl, hb2⟩
      exact ⟨rfl, below_next' hb hb2⟩)
    have HBW := Lib.hid hBW
    clear hW hBW bW jp ji jown
    go_region_held3 (fun w' => w'.cell? ⟨w.heap.size, 0, none⟩ = some (.slice CA0 cd0.length c00) ∧ w'.cell? ⟨w.heap.size, 1, none⟩ = some (.slice DA0 dd0.length c10) ∧ w'.cell? ⟨w.heap.size, 2, none⟩ = some (.int .i64 E0) ∧ w'.cell? ⟨w2.heap.size, 0, none⟩ = some (.int .i64 oa.kind) ∧ w'.cell? ⟨w2.heap.size, 1, none⟩ = some (.int .i64 oa.code) ∧ w'.cell? ⟨w2.heap.size, 2, none⟩ = some (.slice A1 oa.out.length cA) ∧ w'.cell? ⟨w2.heap.size, 3, none⟩ = some (.int .i64 oa.steps)) ((first | exact HSK.out _ (by first | exact Below.drew (Below.refl _ W) | assumption))) (first
      | (go_at_call 16; refine (HRUN.out _ (by first | exact Below.drew (Below.refl _ W) | assumption)).mono ?_; rintro e w7 ⟨A7, c7, rfl, hown7, hb7⟩)
      | (go_at_call 15; (with_reducible refine (HS1.out _ A7 c7 hb7 hown7).mono ?_); rintro e w8 ⟨rfl, hb8⟩)
      | (go_at_call 13; refine (awake_any _).mono ?_; rintro e w11 ⟨rfl, hb11'⟩; have hb11 := below_next' hb8 hb11'; clear hb11'))
    all_goals (go_wp2; go_ret; exact ⟨rfl, HBW.out.trans (hb11.mono HBW.out.size)⟩)

/-! ### The row's step. -/
set_option maxRecDepth 100000 in
theorem lifted (os : Os) (started : os.Started) (H : Type) (enc : TypeId × Value → H) :
    ReturnsInHanded {} Try.checked os 3 .any (Rows.machRunsSpec.pre6 enc Try.prog Try.f3 Rows.machRunsRow.domain false) (Rows.machRunsSpec.post enc Try.prog Try.f3 false true false false) := by
  refine returnsInHanded_of_change (C := Try.checked) own started (by kernel_rfl) Try.func3
    (ChangeSpec.witness6 (enc := enc) (C := Try.checked) false ⟨#[], #[.agg #[.slice none 0 0, .slice none 0 0, .int .i64 0], .int .i64 0, .slice none 0 0, .int .i64 0], []⟩ 8 (by kernel_rfl) (by kernel_rfl) (by kernel_rfl) (by kernel_rfl)) ?_
  intro W base args ds gs before hval0 hW hcnd _
  have hval : ∀ (j : Nat) t v, Try.f3.params[j]? = some t → args[j]? = some v → Value.okWide Try.prog W .any base t v := hval0
  have hW' := hW
  obtain ⟨p, q, hA0, hV, rfl, hfz, hnd⟩ := hW
  have hA : DataW.TrodAll enc Try.prog W 0 (fun _ => true) true Try.f3.params.toList args.toList ds p := hA0
  rw [Try.params3] at hA hval
  obtain ⟨v0, vs0, d0, ds0, p0, q0, hargs, rfl, rfl, h0, r0⟩ := trodAll_cons hA
  obtain ⟨v1, vs1, d1, ds1, p1, q1, rfl, rfl, rfl, h1, r1⟩ := trodAll_cons r0
  obtain ⟨v2, vs2, d2, ds2, p2, q2, rfl, rfl, rfl, h2, r2⟩ := trodAll_cons r1
  obtain ⟨v3, vs3, d3, ds3, p3, q3, rfl, rfl, rfl, h3, r3⟩ := trodAll_cons r2
  obtain ⟨rfl, rfl, rfl⟩ := trodAll_nil r3
  obtain rfl : args = #[v0, v1, v2, v3] := by cases args; simp_all
  obtain ⟨rfl, rfl⟩ := trodVars_none hV
  obtain ⟨CA0, DA0, cd0, dd0, c00, c10, E0, rfl, hc0, hd0, hw0, _, hE0⟩ := open_image (hval 0 24 v0 rfl rfl) h0
  obtain ⟨a1, rfl, rfl, rfl, w1⟩ := open_int Try.underlying3 (hval 1 3 v1 rfl rfl) h1
  have ha1 := i64_of w1
  obtain ⟨IA, bs, c2, rfl, hi, hby⟩ := open_input (hval 2 25 v2 rfl rfl) h2
  obtain ⟨a3, rfl, rfl, rfl, w3⟩ := open_int Try.underlying3 (hval 3 3 v3 rfl rfl) h3
  have ha3 := i64_of w3
  refine (walk W CA0 DA0 cd0 dd0 c00 c10 E0 hc0 hd0 hw0 hE0 a1 ha1 IA bs c2 hi hby a3 ha3).mono fun e W' ⟨he, hb⟩ => ?_
  subst he
  exact ⟨_, rfl, post_law laidOut (by rw [Try.params3]; intro t ht; simp at ht; (first | (rcases ht with rfl | rfl | rfl | rfl | rfl) | (rcases ht with rfl | rfl | rfl | rfl) | (rcases ht with rfl | rfl | rfl) | (rcases ht with rfl | rfl) | subst ht) <;> exact ⟨by kernel_rfl, of_decide_eq_true (by kernel_rfl)⟩) rfl rfl Try.underlying4 rfl hW' hb⟩

theorem over : Rows.machRunsRow.holds Try.pinned (OpenSpec.ofChange Rows.machRunsSpec) :=
  OpenClaim.holds_of_wide 3 Try.f3 rfl rfl rfl rfl rfl rfl rfl ⟨rfl, rfl, rfl, rfl, rfl⟩ rfl rfl rfl rfl rfl (by kernel_rfl) Try.func3 (by kernel_rfl)
    (of_decide_eq_true (by kernel_rfl)) (by unfold Func.isWrapper; first | (rw [if_pos (by decide +kernel)]; kernel_rfl) | (rw [if_neg (by decide +kernel)]; exact ⟨rfl, rfl⟩))
    (fun os started H enc _ => lifted os started H enc)

/-- The statement. -/
theorem proved : Rows.MachRunsSaid :=
  over
#print axioms proved
end Go.Proofs.Ytikgghioneiegaa.machRuns
