/-
  For every image, memory and input (up to 10000 bytes) the program makes a machine where the document's is made, with the same error else, and the machine begins as it should.
-/
import Derived.Test.YtikgghioneiegaaRows
import Derived.Test.YtikgghioneiegaaLawG
import Derived.Test.YtikgghioneiegaaRefL
import Derived.Test.YtikgghioneiegaaMachG
import Derived.Test.YtikgghioneiegaaLawD
import Derived.Lib.MinMax
import Derived.Deep.RegionHeld3
import Derived.WalkKit
namespace Go.Proofs.Ytikgghioneiegaa.machNews
open Go.ChangeShapes Go.WideShapes Go.ChangeAt Go.RowKit
set_option linter.unusedVariables false

/-! ### The walk. -/
theorem x_pick1 (a : Act) (w : World) (dst : Option Tmp) (x z : Operand) (ty : TypeId) (pos : String) (after : Array Edge) (hx : a.eval x = .bool true) : (execOp a.eval { dst := dst, op := .pick x (.const (.bool true)) z, type := ty, pos := pos, after := after, guard := none }).run Try.prog w = .ok (.value (.bool true)) w := by
  unfold execOp; simp only [hx]; go_simp
theorem wpList_wanted {P : Program} {ops : Array Oper} {Q : Exit → Act → World → Prop} {o : Oper} {rest : List Oper} {a : Act} {w : World} (hw : Region.wanted o (yielded ops a.tmps) = true)
    (h : ∀ K : Act → World → Prop, (∀ a w, wpList P ops Q rest a w → K a w) → o.wp P a w K Q) : wpList P ops Q (o :: rest) a w :=
  wpList_step fun K hK => by rw [if_pos hw]; exact h K hK
theorem still_val {P : Program} {ops : Array Oper} {w : World} {o : Oper} {a : Act} {Q : Act → Prop} {rest : List Oper} {v : Value} (hg : o.guard = none) (h : (execOp a.eval o).run P w = .ok (.value v) w) (k : wpStill P ops w Q rest (a.put o.dst v)) : wpStill P ops w Q (o :: rest) a := by
  refine wpStill_step fun K hK => ?_
  have hw : Region.wanted o (yielded ops a.tmps) = true := by simp [Region.wanted, hg]
  rw [if_pos hw]
  unfold Oper.still
  rw [h, Oper.stillUpon_value]
  exact hK _ k
structure WStill (P : Program) (ops : Array Oper) (w : World) (Q : Act → Prop) (l : List Oper) (a : Act) : Prop where
  out : wpStill P ops w Q l a
theorem WStill.nil {P : Program} {ops : Array Oper} {w : World} {Q : Act → Prop} {a : Act} (h : Q a) : WStill P ops w Q [] a := ⟨wpStill_nil h⟩
theorem WStill.val {P : Program} {ops : Array Oper} {w : World} {o : Oper} {a : Act} {Q : Act → Prop} {rest : List Oper} {v : Value} (hg : o.guard = none) (h : (execOp a.eval o).run P w = .ok (.value v) w) (k : WStill P ops w Q rest (a.put o.dst v)) : WStill P ops w Q (o :: rest) a := ⟨still_val hg h k.out⟩
theorem WStill.not {P : Program} {ops : Array Oper} {w : World} {o : Oper} {a : Act} {Q : Act → Prop} {rest : List Oper} (hw : Region.wanted o (yielded ops a.tmps) = false) (k : WStill P ops w Q rest (a.put o.dst undef)) : WStill P ops w Q (o :: rest) a :=
  ⟨wpStill_step fun K hK => by rw [if_neg (by rw [hw]; exact Bool.false_ne_true)]; exact hK _ k.out⟩
theorem x_eqnil (a : Act) (w : World) (dst : Option Tmp) (x : Operand) (ty : TypeId) (pos : String) (after : Array Edge) (hx : a.eval x = .pointer none) : (execOp a.eval { dst := dst, op := .binOp .eql 32 x (.const (.pointer none)) 32, type := ty, pos := pos, after := after, guard := none }).run Try.prog w = .ok (.value (.bool true)) w := by
  unfold execOp; simp only [hx]; go_simp
theorem x_field3 (ρ : Operand → Value) (w : World) (dst : Option Tmp) (x : Operand) (ty : TypeId) (pos : String) (after : Array Edge) (g : Option (Nat × Bool)) (v0 v1 v2 : Value) (n : Int) (hx : ρ x = .agg #[v0, v1, v2, .int .i64 n]) : (execOp ρ { dst := dst, op := .field 29 x 3, type := ty, pos := pos, after := after, guard := g }).run Try.prog w = .ok (.value (.int .i64 n)) w := by
  have hfd : ∀ w : World, (Instr.field 29 (.agg #[v0, v1, v2, .int .i64 n]) 3).run Try.prog w = .ok (.int .i64 n) w := fun _ => by kernel_rfl
  unfold execOp; simp only [hx, Sem.run_bind, hfd]; rfl
theorem walk_far (w : World) (CA0 DA0 : Option Addr) (cd0 dd0 : List Int) (c00 c10 : Nat) (E0 : Int) (hc0 : Reads w w.heap.size 1 CA0 cd0.length (cd0.map (Value.int .i64))) (hd0 : Reads w w.heap.size 1 DA0 dd0.length (dd0.map (Value.int .i64))) (hw0 : ∀ n ∈ cd0, -9223372036854775808 ≤ n ∧ n ≤ 9223372036854775807) (hE0 : I64 E0) (a1 : Int) (ha1 : I64 a1) (IA : Option Addr) (bs : List Int) (c2 : Nat) (hi : Reads w w.heap.size 1 IA bs.length (bs.map (Value.int .u8))) (hby : ∀ n ∈ bs, 0 ≤ n ∧ n ≤ 255) (hl : 10000 < bs.length) :
    Calls Try.prog 4 #[.agg #[.slice CA0 cd0.length c00, .slice DA0 dd0.length c10, .int .i64 E0], .int .i64 a1, .slice IA bs.length c2] w fun e w' => e = .returned (.bool true) ∧ Below w.heap.size w w' := by
  have d0 : decide ((10000 : Int) < (bs.length : Int)) = true := by simp; omega
  clear hl hi hby hc0 hd0 hw0 ha1 hE0
  go_enter Try.func4, Try.ntmps4
  go_wp2_with fail
  refine (awake_any _).mono ?_
  rintro e w2 ⟨rfl, hb2⟩
  have hB := below_next' ((Below.refl _ w).alloc (Nat.le_refl _) _) hb2
  go_wp2
  go_ret
  exact ⟨rfl, hB⟩
set_option maxRecDepth 100000 in
set_option maxHeartbeats 1000000 in
theorem walk_form (w : World) (CA0 DA0 : Option Addr) (cd0 dd0 : List Int) (c00 c10 : Nat) (E0 : Int) (hc0 : Reads w w.heap.size 1 CA0 cd0.length (cd0.map (Value.int .i64))) (hd0 : Reads w w.heap.size 1 DA0 dd0.length (dd0.map (Value.int .i64))) (hw0 : ∀ n ∈ cd0, -9223372036854775808 ≤ n ∧ n ≤ 9223372036854775807) (hE0 : I64 E0) (a1 : Int) (ha1 : I64 a1) (IA : Option Addr) (bs : List Int) (c2 : Nat) (hi : Reads w w.heap.size 1 IA bs.length (bs.map (Value.int .u8))) (hby : ∀ n ∈ bs, 0 ≤ n ∧ n ≤ 255) (hl : ¬ 10000 < bs.length) (hn : ¬ okF cd0 dd0 E0) :
    Calls Try.prog 4 #[.agg #[.slice CA0 cd0.length c00, .slice DA0 dd0.length c10, .int .i64 E0], .int .i64 a1, .slice IA bs.length c2] w fun e w' => e = .returned (.bool true) ∧ Below w.heap.size w w' := by
  have d0 : decide ((10000 : Int) < (bs.length : Int)) = false := by simp; omega
  have HI : Hid (In3 w w.heap.size CA0 DA0 IA cd0 dd0 bs) := Lib.hid ⟨hc0, hd0, hi, Nat.le_refl _, hw0, hby⟩
  have HN := Lib.hid hn
  skip
  clear hl hi hby hc0 hd0 hw0 ha1 hE0 hn 
  go_enter Try.func4, Try.ntmps4
  go_wp2_with fail
  have kx := Blk.new w 24 #[.slice CA0 cd0.length c00, .slice DA0 dd0.length c10, .int .i64 E0]
  have kB : Below w.heap.size w (w.alloc (.cells #[.slice CA0 cd0.length c00, .slice DA0 dd0.length c10, .int .i64 E0] 24)) := (Below.refl _ w).alloc (Nat.le_refl _) _
  refine (new_no_form (HI.out.below kB) c00 c10 c2 E0 a1 HN.out).mono ?_
  rintro e w1 ⟨rfl, hb1⟩
  have kx1 := kx.below hb1 kx.lt
  have kB1 := below_next' kB hb1
  have x0 := kx1.get (i := 0) rfl
  have x1 := kx1.get (i := 1) rfl
  have x2 := kx1.get (i := 2) rfl
  have KX1 := Lib.hid kx1
  clear kx kB hb1 kx1
  go_wp2_with fail
  clear x0 x1 x2
  refine (rnew_form _ CA0 DA0 IA c00 c10 c2 E0 a1 cd0 dd0 bs HN.out).mono ?_
  rintro e w2 ⟨rfl, hb2⟩
  have kB2 := below_next' kB1 hb2
  have kx2 := KX1.out.below hb2 KX1.out.lt
  · skip
    rename_i K1 hK1 K2 hK2
    refine hK2 _ _ ?_
    refine wpList_plain rfl fun _ hK => op_val (x_move _ _ _ _ _ _ _ _ rfl) (hK _ _ ?_)
    refine wpList_plain rfl fun _ hK => op_val (x_extract _ _ _ _ _ _ _ _ _ _ rfl rfl) (hK _ _ ?_)
    refine wpList_plain rfl fun _ hK => op_val (x_extract _ _ _ _ _ _ _ _ _ _ rfl rfl) (hK _ _ ?_)
    refine wpList_plain rfl fun _ hK => op_val (x_alloc _ _ _ _ _ _) (hK _ _ ?_)
    refine wpList_store_row rfl _ _ _ rfl w2.heap.size (rC (.slice none 0 0) (.slice none 0 0) (.slice none 0 0) 0 0) rfl rfl _ _ (Blk.new w2 _ _) (by kernel_rfl) rfl (rC_one _ _ _ _ _ _ _ _ _ _ _) ?_
    refine wpList_plain rfl fun _ hK => op_val (x_assign _ _ _ _ _ _ _ _ rfl) (hK _ _ ?_)
    obtain ⟨l1, l2, l3, l4⟩ := laid_row kB2 kB2.size 38 (rC (.slice none 0 0) (.slice none 0 0) (.slice none 0 0) 0 0) (rC (.slice none 0 0) (.slice none 0 0) (.slice none 0 0) 0 0) rfl
    have kx3 := kx2.below l3 kx2.lt
    generalize hZ : World.setRow _ _ _ = Z at *
    clear hZ l1 l3 l4 kB1 hb2 kB2 kx2
    go_wp2_with fail
    refine (num_any _ _).mono ?_
    rintro e w3 ⟨rfl, rfl⟩
    go_wp2
    refine st_tail 27 (by kernel_rfl) (by kernel_rfl) ?_
    intro U hU
    have lU : Below w.heap.size w U := by rw [← hU]; exact l2.drew
    clear hU l2
    simp only [List.take_succ_cons, List.take_zero, List.drop_succ_cons, List.drop_zero]
    refine WStill.out ?_
    refine WStill.val rfl (x_move _ _ _ _ _ _ _ _ rfl) ?_
    refine WStill.val rfl (x_eqnil _ _ _ _ _ _ _ rfl) ?_
    refine WStill.val (v := .bool true) rfl (x_move _ _ _ _ _ _ _ _ rfl) ?_
    simp only [Act.put, List.setIfInBounds_toArray, List.set_cons_succ, List.set_cons_zero]
    iterate 22 (refine WStill.not (by kernel_rfl) ?_)
    simp only [Act.put, List.setIfInBounds_toArray, List.set_cons_succ, List.set_cons_zero]
    refine WStill.val rfl (x_pick1 _ _ _ _ _ _ _ _ rfl) ?_
    simp only [Act.put, List.setIfInBounds_toArray, List.set_cons_succ, List.set_cons_zero]
    refine WStill.val (v := .bool true) rfl (x_move _ _ _ _ _ _ _ _ rfl) ?_
    refine WStill.nil ?_
    simp only [Act.put, List.setIfInBounds_toArray, List.set_cons_succ, List.set_cons_zero]
    go_wp2_with fail
    refine (awake_any _).mono ?_
    rintro e w11 ⟨rfl, hb11⟩
    go_wp2
    go_ret
    exact ⟨rfl, below_next' lU hb11⟩
set_option maxRecDepth 100000 in
set_option maxHeartbeats 1000000 in
theorem walk_arg (w : World) (CA0 DA0 : Option Addr) (cd0 dd0 : List Int) (c00 c10 : Nat) (E0 : Int) (hc0 : Reads w w.heap.size 1 CA0 cd0.length (cd0.map (Value.int .i64))) (hd0 : Reads w w.heap.size 1 DA0 dd0.length (dd0.map (Value.int .i64))) (hw0 : ∀ n ∈ cd0, -9223372036854775808 ≤ n ∧ n ≤ 9223372036854775807) (hE0 : I64 E0) (a1 : Int) (ha1 : I64 a1) (IA : Option Addr) (bs : List Int) (c2 : Nat) (hi : Reads w w.heap.size 1 IA bs.length (bs.map (Value.int .u8))) (hby : ∀ n ∈ bs, 0 ≤ n ∧ n ≤ 255) (hl : ¬ 10000 < bs.length) (hf : okF cd0 dd0 E0) (hn : ¬ okA dd0 bs a1) :
    Calls Try.prog 4 #[.agg #[.slice CA0 cd0.length c00, .slice DA0 dd0.length c10, .int .i64 E0], .int .i64 a1, .slice IA bs.length c2] w fun e w' => e = .returned (.bool true) ∧ Below w.heap.size w w' := by
  have d0 : decide ((10000 : Int) < (bs.length : Int)) = false := by simp; omega
  have HI : Hid (In3 w w.heap.size CA0 DA0 IA cd0 dd0 bs) := Lib.hid ⟨hc0, hd0, hi, Nat.le_refl _, hw0, hby⟩
  have HN := Lib.hid hn
  have HF := Lib.hid hf
  clear hl hi hby hc0 hd0 hw0 ha1 hE0 hn hf
  go_enter Try.func4, Try.ntmps4
  go_wp2_with fail
  have kx := Blk.new w 24 #[.slice CA0 cd0.length c00, .slice DA0 dd0.length c10, .int .i64 E0]
  have kB : Below w.heap.size w (w.alloc (.cells #[.slice CA0 cd0.length c00, .slice DA0 dd0.length c10, .int .i64 E0] 24)) := (Below.refl _ w).alloc (Nat.le_refl _) _
  refine (new_no_arg (HI.out.below kB) c00 c10 c2 E0 a1 HF.out HN.out).mono ?_
  rintro e w1 ⟨rfl, hb1⟩
  have kx1 := kx.below hb1 kx.lt
  have kB1 := below_next' kB hb1
  have x0 := kx1.get (i := 0) rfl
  have x1 := kx1.get (i := 1) rfl
  have x2 := kx1.get (i := 2) rfl
  have KX1 := Lib.hid kx1
  clear kx kB hb1 kx1
  go_wp2_with fail
  clear x0 x1 x2
  refine (rnew_arg _ CA0 DA0 IA c00 c10 c2 E0 a1 cd0 dd0 bs HF.out HN.out).mono ?_
  rintro e w2 ⟨rfl, hb2⟩
  have kB2 := below_next' kB1 hb2
  have kx2 := KX1.out.below hb2 KX1.out.lt
  · skip
    rename_i K1 hK1 K2 hK2
    refine hK2 _ _ ?_
    refine wpList_plain rfl fun _ hK => op_val (x_move _ _ _ _ _ _ _ _ rfl) (hK _ _ ?_)
    refine wpList_plain rfl fun _ hK => op_val (x_extract _ _ _ _ _ _ _ _ _ _ rfl rfl) (hK _ _ ?_)
    refine wpList_plain rfl fun _ hK => op_val (x_extract _ _ _ _ _ _ _ _ _ _ rfl rfl) (hK _ _ ?_)
    refine wpList_plain rfl fun _ hK => op_val (x_alloc _ _ _ _ _ _) (hK _ _ ?_)
    refine wpList_store_row rfl _ _ _ rfl w2.heap.size (rC (.slice none 0 0) (.slice none 0 0) (.slice none 0 0) 0 0) rfl rfl _ _ (Blk.new w2 _ _) (by kernel_rfl) rfl (rC_one _ _ _ _ _ _ _ _ _ _ _) ?_
    refine wpList_plain rfl fun _ hK => op_val (x_assign _ _ _ _ _ _ _ _ rfl) (hK _ _ ?_)
    obtain ⟨l1, l2, l3, l4⟩ := laid_row kB2 kB2.size 38 (rC (.slice none 0 0) (.slice none 0 0) (.slice none 0 0) 0 0) (rC (.slice none 0 0) (.slice none 0 0) (.slice none 0 0) 0 0) rfl
    have kx3 := kx2.below l3 kx2.lt
    generalize hZ : World.setRow _ _ _ = Z at *
    clear hZ l1 l3 l4 kB1 hb2 kB2 kx2
    go_wp2_with fail
    refine (num_any _ _).mono ?_
    rintro e w3 ⟨rfl, rfl⟩
    go_wp2
    refine st_tail 27 (by kernel_rfl) (by kernel_rfl) ?_
    intro U hU
    have lU : Below w.heap.size w U := by rw [← hU]; exact l2.drew
    clear hU l2
    simp only [List.take_succ_cons, List.take_zero, List.drop_succ_cons, List.drop_zero]
    refine WStill.out ?_
    refine WStill.val rfl (x_move _ _ _ _ _ _ _ _ rfl) ?_
    refine WStill.val rfl (x_eqnil _ _ _ _ _ _ _ rfl) ?_
    refine WStill.val (v := .bool true) rfl (x_move _ _ _ _ _ _ _ _ rfl) ?_
    simp only [Act.put, List.setIfInBounds_toArray, List.set_cons_succ, List.set_cons_zero]
    iterate 22 (refine WStill.not (by kernel_rfl) ?_)
    simp only [Act.put, List.setIfInBounds_toArray, List.set_cons_succ, List.set_cons_zero]
    refine WStill.val rfl (x_pick1 _ _ _ _ _ _ _ _ rfl) ?_
    simp only [Act.put, List.setIfInBounds_toArray, List.set_cons_succ, List.set_cons_zero]
    refine WStill.val (v := .bool true) rfl (x_move _ _ _ _ _ _ _ _ rfl) ?_
    refine WStill.nil ?_
    simp only [Act.put, List.setIfInBounds_toArray, List.set_cons_succ, List.set_cons_zero]
    go_wp2_with fail
    refine (awake_any _).mono ?_
    rintro e w11 ⟨rfl, hb11⟩
    go_wp2
    go_ret
    exact ⟨rfl, below_next' lU hb11⟩
set_option maxHeartbeats 2000000 in
theorem walk_ok (w : World) (CA0 DA0 : Option Addr) (cd0 dd0 : List Int) (c00 c10 : Nat) (E0 : Int) (hc0 : Reads w w.heap.size 1 CA0 cd0.length (cd0.map (Value.int .i64))) (hd0 : Reads w w.heap.size 1 DA0 dd0.length (dd0.map (Value.int .i64))) (hw0 : ∀ n ∈ cd0, -9223372036854775808 ≤ n ∧ n ≤ 9223372036854775807) (hE0 : I64 E0) (a1 : Int) (ha1 : I64 a1) (IA : Option Addr) (bs : List Int) (c2 : Nat) (hi : Reads w w.heap.size 1 IA bs.length (bs.map (Value.int .u8))) (hby : ∀ n ∈ bs, 0 ≤ n ∧ n ≤ 255) (hl : ¬ 10000 < bs.length) (hf : okF cd0 dd0 E0) (m : Nat) (hm : a1 = m) (hq : okA dd0 bs (m : Int)) :
    Calls Try.prog 4 #[.agg #[.slice CA0 cd0.length c00, .slice DA0 dd0.length c10, .int .i64 E0], .int .i64 a1, .slice IA bs.length c2] w fun e w' => e = .returned (.bool true) ∧ Below w.heap.size w w' := by
  subst hm
  have d0 : decide ((10000 : Int) < (bs.length : Int)) = false := by simp; omega
  have HI : Hid (In3 w w.heap.size CA0 DA0 IA cd0 dd0 bs) := Lib.hid ⟨hc0, hd0, hi, Nat.le_refl _, hw0, hby⟩
  have HF := Lib.hid hf
  have HA := Lib.hid hq
  clear hl hi hby hc0 hd0 hw0 ha1 hE0 hf hq
  go_enter Try.func4, Try.ntmps4
  go_wp2_with fail
  have kx := Blk.new w 24 #[.slice CA0 cd0.length c00, .slice DA0 dd0.length c10, .int .i64 E0]
  have kB : Below w.heap.size w (w.alloc (.cells #[.slice CA0 cd0.length c00, .slice DA0 dd0.length c10, .int .i64 E0] 24)) := (Below.refl _ w).alloc (Nat.le_refl _) _
  refine (new_rep2 (HI.out.below kB) c00 c10 c2 E0 m HF.out HA.out).mono ?_
  rintro e w1 ⟨L, iv, rfl, hR, hb1, _⟩
  have kx1 := kx.below hb1 kx.lt
  have kB1 := below_next' kB hb1
  have x0 := kx1.get (i := 0) rfl
  have x1 := kx1.get (i := 1) rfl
  have x2 := kx1.get (i := 2) rfl
  have KX1 := Lib.hid kx1
  have HR1 := Lib.hid hR
  clear kx kB hb1 kx1 hR
  go_wp2_with fail
  clear x0 x1 x2
  refine (rnew_rep (HI.out.below kB1) c00 c10 c2 E0 m HF.out HA.out).mono ?_
  rintro e w2 ⟨cb, cc, mb, m2, iA, ic, rfl, hb2, hiv, lmb, hrep⟩
  have kB2 := below_next' kB1 hb2
  have kx2 := KX1.out.below hb2 KX1.out.lt
  have HR2 := Lib.hid (HR1.out.keep hb2)
  · skip
    rename_i K1 hK1 K2 hK2
    refine hK2 _ _ ?_
    refine wpList_plain rfl fun _ hK => op_val (x_move _ _ _ _ _ _ _ _ rfl) (hK _ _ ?_)
    refine wpList_plain rfl fun _ hK => op_val (x_extract _ _ _ _ _ _ _ _ _ _ rfl rfl) (hK _ _ ?_)
    refine wpList_plain rfl fun _ hK => op_val (x_extract _ _ _ _ _ _ _ _ _ _ rfl rfl) (hK _ _ ?_)
    refine wpList_plain rfl fun _ hK => op_val (x_alloc _ _ _ _ _ _) (hK _ _ ?_)
    refine wpList_store_row rfl _ _ _ rfl w2.heap.size (rcells ⟨0, cb, cc, mb, m2⟩ cd0.length (st0 dd0 bs E0 m) 0 (.slice iA bs.length ic) (.slice none 0 0)) rfl rfl _ _ (Blk.new w2 _ _) (by kernel_rfl) rfl (rcells_one _ _ _ _ _ _ _ _ _ _) ?_
    refine wpList_plain rfl fun _ hK => op_val (x_assign _ _ _ _ _ _ _ _ rfl) (hK _ _ ?_)
    obtain ⟨l1, l2, l3, l4⟩ := laid_row kB2 kB2.size 38 (rC (.slice none 0 0) (.slice none 0 0) (.slice none 0 0) 0 0) (rcells ⟨0, cb, cc, mb, m2⟩ cd0.length (st0 dd0 bs E0 m) 0 (.slice iA bs.length ic) (.slice none 0 0)) rfl
    have kx3 := kx2.below l3 kx2.lt
    have hR3 := HR2.out.keep l3
    generalize hZ : World.setRow _ _ _ = Z at *
    have HS := Lib.hid (show ∀ w', Below Z.heap.size Z w' → w'.cell? ⟨w.heap.size, 2, none⟩ = some (.int .i64 E0) from fun w' hb => (kx3.below hb kx3.lt).get (i := 2) rfl)
    have HPC := Lib.hid (show ∀ w', Below Z.heap.size Z w' → Calls Try.prog 20 #[.pointer (some ⟨L.g, 0, none⟩)] w' fun e w'' => e = .returned (.int .i64 E0) ∧ w' = w'' from fun w' hb => pc_any w' L.g _ (hR3.keep hb).mach E0 rfl)
    have HR15 := Lib.hid (show ∀ w', Below Z.heap.size Z w' → Calls Try.prog 21 #[.pointer (some ⟨L.g, 0, none⟩), .int .i64 15] w' fun e w'' => e = .returned (.int .i64 (m : Int)) ∧ w' = w'' from fun w' hb => reg_in w' L.g _ (hR3.keep hb).mach 15 (by omega) m rfl)
    have HR0 := Lib.hid (show ∀ w', Below Z.heap.size Z w' → Calls Try.prog 21 #[.pointer (some ⟨L.g, 0, none⟩), .int .i64 0] w' fun e w'' => e = .returned (.int .i64 0) ∧ w' = w'' from fun w' hb => reg_in w' L.g _ (hR3.keep hb).mach 0 (by omega) 0 rfl)
    have HOC := Lib.hid (show ∀ w', Below Z.heap.size Z w' → Calls Try.prog 22 #[.pointer (some ⟨L.g, 0, none⟩)] w' fun e w'' => ∃ A c, e = .returned (.agg #[.int .i64 0, .int .i64 0, .slice A 0 c, .int .i64 0]) ∧ Below Z.heap.size Z w'' from fun w' hb => by
      refine (outcome_rep (hR3.keep hb)).mono ?_
      rintro e w'' ⟨A, c, rfl, _, hb3⟩
      exact ⟨A, c, rfl, below_next' hb hb3⟩)
    clear hZ l1 l3 l4 kB1 hb2 kB2 kx2 hrep hR3 kx3 hiv lmb
    go_wp2_with fail
    refine (num_any _ _).mono ?_
    rintro e w3 ⟨rfl, rfl⟩
    go_wp2
    refine st_tail 21 (by kernel_rfl) (by kernel_rfl) ?_
    intro U hU
    have lU : Below w.heap.size w U := by rw [← hU]; exact l2.drew
    have zU : Below Z.heap.size Z U := by rw [← hU]; exact Below.drew (Below.refl _ Z)
    have c2 := HS.out _ zU
    have ZU := Lib.hid zU
    clear hU zU
    simp only [List.take_succ_cons, List.take_zero, List.drop_succ_cons, List.drop_zero]
    repeat still_step
    still_call ((HPC.out _ ZU.out).mono fun e w' ⟨h1, h2⟩ => ⟨h1, h2.symm⟩)
    repeat still_step
    still_call ((HR15.out _ ZU.out).mono fun e w' ⟨h1, h2⟩ => ⟨h1, h2.symm⟩)
    repeat still_step
    still_call ((HR0.out _ ZU.out).mono fun e w' ⟨h1, h2⟩ => ⟨h1, h2.symm⟩)
    repeat still_step
    refine wpStill_nil ?_
    go_wp2_with fail
    refine (HOC.out _ ZU.out).mono ?_
    rintro e w9 ⟨A9, c9, rfl, hb9⟩
    rename_i K5 hK5
    refine hK5 _ _ ?_
    refine wpList_wanted (by rfl) fun _ hK => op_val (x_field3 _ _ _ _ _ _ _ _ _ _ _ _ rfl) (hK _ _ ?_)
    go_wp2_with fail
    refine (awake_any _).mono ?_
    rintro e w11 ⟨rfl, hb11⟩
    have hb12 := below_next' hb9 hb11
    go_wp2
    go_ret
    exact ⟨rfl, l2.trans (hb12.mono l2.size)⟩
theorem walk (w : World) (CA0 DA0 : Option Addr) (cd0 dd0 : List Int) (c00 c10 : Nat) (E0 : Int) (hc0 : Reads w w.heap.size 1 CA0 cd0.length (cd0.map (Value.int .i64))) (hd0 : Reads w w.heap.size 1 DA0 dd0.length (dd0.map (Value.int .i64))) (hw0 : ∀ n ∈ cd0, -9223372036854775808 ≤ n ∧ n ≤ 9223372036854775807) (hE0 : I64 E0) (a1 : Int) (ha1 : I64 a1) (IA : Option Addr) (bs : List Int) (c2 : Nat) (hi : Reads w w.heap.size 1 IA bs.length (bs.map (Value.int .u8))) (hby : ∀ n ∈ bs, 0 ≤ n ∧ n ≤ 255) :
    Calls Try.prog 4 #[.agg #[.slice CA0 cd0.length c00, .slice DA0 dd0.length c10, .int .i64 E0], .int .i64 a1, .slice IA bs.length c2] w fun e w' => e = .returned (.bool true) ∧ Below w.heap.size w w' := by
  by_cases hl : 10000 < bs.length
  · exact walk_far w CA0 DA0 cd0 dd0 c00 c10 E0 hc0 hd0 hw0 hE0 a1 ha1 IA bs c2 hi hby hl
  · by_cases hf : okF cd0 dd0 E0
    · by_cases hq : okA dd0 bs a1
      · obtain ⟨m, hm⟩ : ∃ m : Nat, a1 = m := ⟨a1.toNat, by have := hq.1; omega⟩
        exact walk_ok w CA0 DA0 cd0 dd0 c00 c10 E0 hc0 hd0 hw0 hE0 a1 ha1 IA bs c2 hi hby hl hf m hm (by rw [← hm]; exact hq)
      · exact walk_arg w CA0 DA0 cd0 dd0 c00 c10 E0 hc0 hd0 hw0 hE0 a1 ha1 IA bs c2 hi hby hl hf hq
    · exact walk_form w CA0 DA0 cd0 dd0 c00 c10 E0 hc0 hd0 hw0 hE0 a1 ha1 IA bs c2 hi hby hl hf

/-! ### The row's step. -/
set_option maxRecDepth 100000 in
theorem lifted (os : Os) (started : os.Started) (H : Type) (enc : TypeId × Value → H) :
    ReturnsInHanded {} Try.checked os 4 .any (Rows.machNewsSpec.pre6 enc Try.prog Try.f4 Rows.machNewsRow.domain false) (Rows.machNewsSpec.post enc Try.prog Try.f4 false true false false) := by
  refine returnsInHanded_of_change (C := Try.checked) own started (by kernel_rfl) Try.func4
    (ChangeSpec.witness6 (enc := enc) (C := Try.checked) false ⟨#[], #[.agg #[.slice none 0 0, .slice none 0 0, .int .i64 0], .int .i64 0, .slice none 0 0], []⟩ 8 (by kernel_rfl) (by kernel_rfl) (by kernel_rfl) (by kernel_rfl)) ?_
  intro W base args ds gs before hval0 hW hcnd _
  have hval : ∀ (j : Nat) t v, Try.f4.params[j]? = some t → args[j]? = some v → Value.okWide Try.prog W .any base t v := hval0
  have hW' := hW
  obtain ⟨p, q, hA0, hV, rfl, hfz, hnd⟩ := hW
  have hA : DataW.TrodAll enc Try.prog W 0 (fun _ => true) true Try.f4.params.toList args.toList ds p := hA0
  rw [Try.params4] at hA hval
  obtain ⟨v0, vs0, d0, ds0, p0, q0, hargs, rfl, rfl, h0, r0⟩ := trodAll_cons hA
  obtain ⟨v1, vs1, d1, ds1, p1, q1, rfl, rfl, rfl, h1, r1⟩ := trodAll_cons r0
  obtain ⟨v2, vs2, d2, ds2, p2, q2, rfl, rfl, rfl, h2, r2⟩ := trodAll_cons r1
  obtain ⟨rfl, rfl, rfl⟩ := trodAll_nil r2
  obtain rfl : args = #[v0, v1, v2] := by cases args; simp_all
  obtain ⟨rfl, rfl⟩ := trodVars_none hV
  obtain ⟨CA0, DA0, cd0, dd0, c00, c10, E0, rfl, hc0, hd0, hw0, _, hE0⟩ := open_image (hval 0 24 v0 rfl rfl) h0
  obtain ⟨a1, rfl, rfl, rfl, w1⟩ := open_int Try.underlying3 (hval 1 3 v1 rfl rfl) h1
  have ha1 := i64_of w1
  obtain ⟨IA, bs, c2, rfl, hi, hby⟩ := open_input (hval 2 25 v2 rfl rfl) h2
  refine (walk W CA0 DA0 cd0 dd0 c00 c10 E0 hc0 hd0 hw0 hE0 a1 ha1 IA bs c2 hi hby).mono fun e W' ⟨he, hb⟩ => ?_
  subst he
  exact ⟨_, rfl, post_law laidOut (by rw [Try.params4]; intro t ht; simp at ht; (first | (rcases ht with rfl | rfl | rfl | rfl | rfl) | (rcases ht with rfl | rfl | rfl | rfl) | (rcases ht with rfl | rfl | rfl) | (rcases ht with rfl | rfl) | subst ht) <;> exact ⟨by kernel_rfl, of_decide_eq_true (by kernel_rfl)⟩) rfl rfl Try.underlying4 rfl hW' hb⟩

theorem over : Rows.machNewsRow.holds Try.pinned (OpenSpec.ofChange Rows.machNewsSpec) :=
  OpenClaim.holds_of_wide 4 Try.f4 rfl rfl rfl rfl rfl rfl rfl ⟨rfl, rfl, rfl, rfl, rfl⟩ rfl rfl rfl rfl rfl (by kernel_rfl) Try.func4 (by kernel_rfl)
    (of_decide_eq_true (by kernel_rfl)) (by unfold Func.isWrapper; first | (rw [if_pos (by decide +kernel)]; kernel_rfl) | (rw [if_neg (by decide +kernel)]; exact ⟨rfl, rfl⟩))
    (fun os started H enc _ => lifted os started H enc)

/-- The statement. -/
theorem proved : Rows.MachNewsSaid :=
  over
#print axioms proved
end Go.Proofs.Ytikgghioneiegaa.machNews
