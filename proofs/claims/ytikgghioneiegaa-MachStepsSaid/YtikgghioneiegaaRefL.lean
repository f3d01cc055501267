/-
  The document's machine: a whole run.
-/
import Derived.Test.YtikgghioneiegaaRefK
namespace Go.Proofs.Ytikgghioneiegaa
open Go.RowKit
set_option linter.unusedVariables false
theorem x_extract (ρ : Operand → Value) (w : World) (dst : Option Tmp) (x : Operand) (i : Nat) (ty : TypeId) (pos : String) (after : Array Edge) (vs : Array Value) (v : Value) (hx : ρ x = .tuple vs) (hv : vs[i]? = some v) : (execOp ρ { dst := dst, op := .extract x i, type := ty, pos := pos, after := after, guard := none }).run Try.prog w = .ok (.value v) w := by
  unfold execOp; simp only [hx]; go_simp
theorem x_assign (ρ : Operand → Value) (w : World) (dst : Option Tmp) (x : Operand) (ty : TypeId) (pos : String) (after : Array Edge) (v : Value) (hx : ρ x = v) : (execOp ρ { dst := dst, op := .assign x, type := ty, pos := pos, after := after, guard := none }).run Try.prog w = .ok (.value v) w := by
  unfold execOp; simp only [hx]; go_simp
/-- A block made and laid whole: all else is as it was. -/
theorem laid_row {w w1 : World} {b : Nat} (hb : Below b w w1) (hle : b ≤ w1.heap.size) (t : TypeId) (c0 c1 : Array Value) (hs : c0.size = c1.size) :
    Blk ((w1.alloc (.cells c0 t)).setRow w1.heap.size c1) w1.heap.size t c1 ∧ Below b w ((w1.alloc (.cells c0 t)).setRow w1.heap.size c1) ∧ Below w1.heap.size w1 ((w1.alloc (.cells c0 t)).setRow w1.heap.size c1) ∧
    (∀ k, k ≠ w1.heap.size → k < (w1.alloc (.cells c0 t)).heap.size → ((w1.alloc (.cells c0 t)).setRow w1.heap.size c1).heap[k]? = (w1.alloc (.cells c0 t)).heap[k]?) :=
  ⟨setRow_heap _ _ _ _ _ _ (Blk.new w1 t c0), below_setRow (hb.alloc hle _) hle _, below_setRow ((Below.refl _ w1).alloc (Nat.le_refl _) _) (Nat.le_refl _) _, fun k hk _ => setRow_other _ _ k _ hk⟩
section
variable {w : World} {B : Nat} {CA DA IA : Option Addr} {cd dd bs : List Int}
theorem rrun_form (h : In3 w B CA DA IA cd dd bs) (c0 c1 c2 : Nat) (E q fuel : Int) (hn : ¬ okF cd dd E) :
    Calls Try.prog 16 #[.agg #[.slice CA cd.length c0, .slice DA dd.length c1, .int .i64 E], .int .i64 q, .slice IA bs.length c2, .int .i64 fuel] w fun e w' => ∃ v, e = .returned v ∧ Told' w' w.heap.size (runP cd dd bs E q fuel) v ∧ Below w.heap.size w w' := by
  have hr : runP cd dd bs E q fuel = ⟨5, 0, [], 0⟩ := by unfold runP; rw [if_neg (fun h => hn h.1)]
  rw [hr]
  have HN := Lib.hid hn
  clear h hn hr
  go_enter Try.func16, Try.ntmps16
  go_wp2_with fail
  obtain ⟨kx, kr, kB⟩ := two_new w #[.slice CA cd.length c0, .slice DA dd.length c1, .int .i64 E] #[.int .i64 0, .int .i64 0, .slice none 0 0, .int .i64 0] 24 29
  refine (rnew_form _ CA DA IA c0 c1 c2 E q cd dd bs HN.out).mono ?_
  rintro e w1 ⟨rfl, hb⟩
  rename_i K1 hK1 K2 hK2
  refine hK2 _ _ ?_
  refine wpList_plain rfl fun _ hK => op_val (x_move _ _ _ _ _ _ _ _ rfl) (hK _ _ ?_)
  refine wpList_plain rfl fun _ hK => op_val (x_extract _ _ _ _ _ _ _ _ _ _ rfl rfl) (hK _ _ ?_)
  refine wpList_plain rfl fun _ hK => op_val (x_extract _ _ _ _ _ _ _ _ _ _ rfl rfl) (hK _ _ ?_)
  refine wpList_plain rfl fun _ hK => op_val (x_alloc _ _ _ _ _ _) (hK _ _ ?_)
  refine wpList_store_row rfl _ _ _ rfl w1.heap.size (rC (.slice none 0 0) (.slice none 0 0) (.slice none 0 0) 0 0) rfl rfl _ _ (Blk.new w1 _ _) (by kernel_rfl) rfl (rC_one _ _ _ _ _ _ _ _ _ _ _) ?_
  refine wpList_plain rfl fun _ hK => op_val (x_assign _ _ _ _ _ _ _ _ rfl) (hK _ _ ?_)
  have r0 := kr.below hb kr.lt
  have kB1 := below_next' kB hb
  obtain ⟨l1, l2, l3, l4⟩ := laid_row kB1 kB1.size 38 (rC (.slice none 0 0) (.slice none 0 0) (.slice none 0 0) 0 0) (rC (.slice none 0 0) (.slice none 0 0) (.slice none 0 0) 0 0) rfl
  have r1 := r0.below l3 r0.lt
  generalize hZ : World.setRow _ _ _ = Z at *
  have f0 := r1.get (i := 0) rfl
  have f1 := r1.get (i := 1) rfl
  have f2 := r1.get (i := 2) rfl
  have f3 := r1.get (i := 3) rfl
  have ff := r1.frozen
  clear kx kr kB hb r0 r1 hZ l1 l3 l4
  go_wp2
  exact bodyPost_ret (v := .agg #[.int .i64 5, .int .i64 0, .slice none 0 0, .int .i64 0]) (by simp [results, Try.results16, go_sem, f0, f1, f2, f3]) rfl ⟨_, rfl, ⟨none, 0, rfl, World.ownsRow_nil _ _ _ _⟩, below_four l2 (by omega) _ _ _ _⟩
theorem rrun_arg (h : In3 w B CA DA IA cd dd bs) (c0 c1 c2 : Nat) (E q fuel : Int) (hf : okF cd dd E) (hn : ¬ okA dd bs q) :
    Calls Try.prog 16 #[.agg #[.slice CA cd.length c0, .slice DA dd.length c1, .int .i64 E], .int .i64 q, .slice IA bs.length c2, .int .i64 fuel] w fun e w' => ∃ v, e = .returned v ∧ Told' w' w.heap.size (runP cd dd bs E q fuel) v ∧ Below w.heap.size w w' := by
  have hr : runP cd dd bs E q fuel = ⟨5, 0, [], 0⟩ := by unfold runP; rw [if_neg (fun h => hn h.2)]
  rw [hr]
  have HN := Lib.hid hn
  have HF := Lib.hid hf
  clear h hn hr hf
  go_enter Try.func16, Try.ntmps16
  go_wp2_with fail
  obtain ⟨kx, kr, kB⟩ := two_new w #[.slice CA cd.length c0, .slice DA dd.length c1, .int .i64 E] #[.int .i64 0, .int .i64 0, .slice none 0 0, .int .i64 0] 24 29
  refine (rnew_arg _ CA DA IA c0 c1 c2 E q cd dd bs HF.out HN.out).mono ?_
  rintro e w1 ⟨rfl, hb⟩
  rename_i K1 hK1 K2 hK2
  refine hK2 _ _ ?_
  refine wpList_plain rfl fun _ hK => op_val (x_move _ _ _ _ _ _ _ _ rfl) (hK _ _ ?_)
  refine wpList_plain rfl fun _ hK => op_val (x_extract _ _ _ _ _ _ _ _ _ _ rfl rfl) (hK _ _ ?_)
  refine wpList_plain rfl fun _ hK => op_val (x_extract _ _ _ _ _ _ _ _ _ _ rfl rfl) (hK _ _ ?_)
  refine wpList_plain rfl fun _ hK => op_val (x_alloc _ _ _ _ _ _) (hK _ _ ?_)
  refine wpList_store_row rfl _ _ _ rfl w1.heap.size (rC (.slice none 0 0) (.slice none 0 0) (.slice none 0 0) 0 0) rfl rfl _ _ (Blk.new w1 _ _) (by kernel_rfl) rfl (rC_one _ _ _ _ _ _ _ _ _ _ _) ?_
  refine wpList_plain rfl fun _ hK => op_val (x_assign _ _ _ _ _ _ _ _ rfl) (hK _ _ ?_)
  have r0 := kr.below hb kr.lt
  have kB1 := below_next' kB hb
  obtain ⟨l1, l2, l3, l4⟩ := laid_row kB1 kB1.size 38 (rC (.slice none 0 0) (.slice none 0 0) (.slice none 0 0) 0 0) (rC (.slice none 0 0) (.slice none 0 0) (.slice none 0 0) 0 0) rfl
  have r1 := r0.below l3 r0.lt
  generalize hZ : World.setRow _ _ _ = Z at *
  have f0 := r1.get (i := 0) rfl
  have f1 := r1.get (i := 1) rfl
  have f2 := r1.get (i := 2) rfl
  have f3 := r1.get (i := 3) rfl
  have ff := r1.frozen
  clear kx kr kB hb r0 r1 hZ l1 l3 l4
  go_wp2
  exact bodyPost_ret (v := .agg #[.int .i64 5, .int .i64 0, .slice none 0 0, .int .i64 0]) (by simp [results, Try.results16, go_sem, f0, f1, f2, f3]) rfl ⟨_, rfl, ⟨none, 0, rfl, World.ownsRow_nil _ _ _ _⟩, below_four l2 (by omega) _ _ _ _⟩
set_option maxHeartbeats 1000000 in
theorem rrun_ok1 (h : In3 w B CA DA IA cd dd bs) (c0 c1 c2 : Nat) (E fuel : Int) (m : Nat) (hf : okF cd dd E) (ha : okA dd bs (m : Int)) (hfu : fuel ≤ 4194304) :
    Calls Try.prog 16 #[.agg #[.slice CA cd.length c0, .slice DA dd.length c1, .int .i64 E], .int .i64 (m : Int), .slice IA bs.length c2, .int .i64 fuel] w fun e w' => ∃ v, e = .returned v ∧ Told' w' w.heap.size (runP cd dd bs E (m : Int) fuel) v ∧ Below w.heap.size w w' := by
  obtain ⟨k, hk⟩ : ∃ k : Nat, (min fuel 4194304).toNat = k := ⟨_, rfl⟩
  have hr : runP cd dd bs E (m : Int) fuel = ocOf (iter cd k (st0 dd bs E m)) := by
    unfold runP
    rw [if_pos ⟨hf, ha⟩, Int.toNat_natCast, hk]
  rw [hr]
  rw [show min fuel 4194304 = fuel by omega] at hk
  have HKK := Lib.hid hk
  have H := Lib.hid h
  have HF := Lib.hid hf
  have HA := Lib.hid ha
  clear h hf ha hr hk
  go_enter Try.func16, Try.ntmps16
  go_wp2_with fail
  obtain ⟨kx, kr, kB⟩ := two_new w #[.slice CA cd.length c0, .slice DA dd.length c1, .int .i64 E] #[.int .i64 0, .int .i64 0, .slice none 0 0, .int .i64 0] 24 29
  have h1 := H.out.below (kB.mono H.out.size)
  refine (rnew_rep h1 c0 c1 c2 E m HF.out HA.out).mono ?_
  rintro e w1 ⟨cb, cc, mb, m2, iA, ic, rfl, hb, hiv, lmb, hrep⟩
  rename_i K1 hK1 K2 hK2
  refine hK2 _ _ ?_
  refine wpList_plain rfl fun _ hK => op_val (x_move _ _ _ _ _ _ _ _ rfl) (hK _ _ ?_)
  refine wpList_plain rfl fun _ hK => op_val (x_extract _ _ _ _ _ _ _ _ _ _ rfl rfl) (hK _ _ ?_)
  refine wpList_plain rfl fun _ hK => op_val (x_extract _ _ _ _ _ _ _ _ _ _ rfl rfl) (hK _ _ ?_)
  refine wpList_plain rfl fun _ hK => op_val (x_alloc _ _ _ _ _ _) (hK _ _ ?_)
  refine wpList_store_row rfl _ _ _ rfl w1.heap.size (rcells ⟨0, cb, cc, mb, m2⟩ cd.length (st0 dd bs E m) 0 (.slice iA bs.length ic) (.slice none 0 0)) rfl rfl _ _ (Blk.new w1 _ _) (by kernel_rfl) rfl (rcells_one _ _ _ _ _ _ _ _ _ _) ?_
  refine wpList_plain rfl fun _ hK => op_val (x_assign _ _ _ _ _ _ _ _ rfl) (hK _ _ ?_)
  have r0 := kr.below hb kr.lt
  have kB1 := below_next' kB hb
  obtain ⟨l1, l2, l3, l4⟩ := laid_row kB1 kB1.size 38 (rC (.slice none 0 0) (.slice none 0 0) (.slice none 0 0) 0 0) (rcells ⟨0, cb, cc, mb, m2⟩ cd.length (st0 dd bs E m) 0 (.slice iA bs.length ic) (.slice none 0 0)) rfl
  have r1 := r0.below l3 r0.lt
  have hs2 : w.heap.size + 2 ≤ w1.heap.size := by have := hb.size; simpa using this
  have hR := hrep _ w1.heap.size (w.heap.size + 2) (fun t cs hx => absurd hx.lt (by omega)) (fun k hk hl => l3.block k hl) l1 hs2 (by simp)
  generalize hZ : World.setRow _ _ _ = Z at *
  have HR := Lib.hid hR
  have HX := Lib.hid r1
  have HB2 := Lib.hid l2
  have hzs : w.heap.size + 2 ≤ Z.heap.size := by have := hR.mach.lt; have := hR.gB; dsimp only at *; omega
  clear kx kr kB hb r0 r1 hZ l1 l2 l3 l4 hrep hR h1 kB1 hiv
  go_wp2_with fail
  refine (rrunm_any Z _ ⟨w1.heap.size, cb, cc, mb, m2⟩ cd bs _ 0 _ _ HR.out fuel (by omega)).mono ?_
  rw [HKK.out]
  rintro e w3 ⟨A, c, rfl, hown, hp⟩
  have hb3 := PostR.below HR.out hp
  have r2 := HX.out.below hb3 (by omega)
  have kB2 : Below w.heap.size w w3 := HB2.out.trans (hb3.mono (by omega))
  have f0 := r2.get (i := 0) rfl
  have f1 := r2.get (i := 1) rfl
  have f2 := r2.get (i := 2) rfl
  have f3 := r2.get (i := 3) rfl
  have ff := r2.frozen
  generalize hz : iter cd k (st0 dd bs E m) = z at *
  have HZ := Lib.hid hz
  have HO := Lib.hid (own_mono (own_four (b := w.heap.size + 1) hown (by omega) (.int .i64 z.kind) (.int .i64 z.code) (.slice A z.out.length c) (.int .i64 z.steps)) (show w.heap.size ≤ Z.heap.size by omega))
  have HB := Lib.hid (below_four (b := w.heap.size + 1) kB2 (by omega) (.int .i64 z.kind) (.int .i64 z.code) (.slice A z.out.length c) (.int .i64 z.steps))
  clear hz hp hb3 r2 HR HX hown
  go_wp2
  have hz := HZ.out
  subst hz
  exact bodyPost_ret (v := .agg #[.int .i64 (iter cd k (st0 dd bs E m)).kind, .int .i64 (iter cd k (st0 dd bs E m)).code, .slice A (iter cd k (st0 dd bs E m)).out.length c, .int .i64 (iter cd k (st0 dd bs E m)).steps]) (by simp [results, Try.results16, go_sem, f0, f1, f2, f3]) rfl ⟨_, rfl, ⟨A, c, rfl, HO.out⟩, HB.out⟩
set_option maxHeartbeats 1000000 in
theorem rrun_ok2 (h : In3 w B CA DA IA cd dd bs) (c0 c1 c2 : Nat) (E fuel : Int) (m : Nat) (hf : okF cd dd E) (ha : okA dd bs (m : Int)) (hfu : ¬ fuel ≤ 4194304) :
    Calls Try.prog 16 #[.agg #[.slice CA cd.length c0, .slice DA dd.length c1, .int .i64 E], .int .i64 (m : Int), .slice IA bs.length c2, .int .i64 fuel] w fun e w' => ∃ v, e = .returned v ∧ Told' w' w.heap.size (runP cd dd bs E (m : Int) fuel) v ∧ Below w.heap.size w w' := by
  obtain ⟨k, hk⟩ : ∃ k : Nat, (min fuel 4194304).toNat = k := ⟨_, rfl⟩
  have hr : runP cd dd bs E (m : Int) fuel = ocOf (iter cd k (st0 dd bs E m)) := by
    unfold runP
    rw [if_pos ⟨hf, ha⟩, Int.toNat_natCast, hk]
  rw [hr]
  rw [show min fuel 4194304 = 4194304 by omega] at hk
  have HKK := Lib.hid hk
  have H := Lib.hid h
  have HF := Lib.hid hf
  have HA := Lib.hid ha
  clear h hf ha hr hk
  go_enter Try.func16, Try.ntmps16
  go_wp2_with fail
  obtain ⟨kx, kr, kB⟩ := two_new w #[.slice CA cd.length c0, .slice DA dd.length c1, .int .i64 E] #[.int .i64 0, .int .i64 0, .slice none 0 0, .int .i64 0] 24 29
  have h1 := H.out.below (kB.mono H.out.size)
  refine (rnew_rep h1 c0 c1 c2 E m HF.out HA.out).mono ?_
  rintro e w1 ⟨cb, cc, mb, m2, iA, ic, rfl, hb, hiv, lmb, hrep⟩
  rename_i K1 hK1 K2 hK2
  refine hK2 _ _ ?_
  refine wpList_plain rfl fun _ hK => op_val (x_move _ _ _ _ _ _ _ _ rfl) (hK _ _ ?_)
  refine wpList_plain rfl fun _ hK => op_val (x_extract _ _ _ _ _ _ _ _ _ _ rfl rfl) (hK _ _ ?_)
  refine wpList_plain rfl fun _ hK => op_val (x_extract _ _ _ _ _ _ _ _ _ _ rfl rfl) (hK _ _ ?_)
  refine wpList_plain rfl fun _ hK => op_val (x_alloc _ _ _ _ _ _) (hK _ _ ?_)
  refine wpList_store_row rfl _ _ _ rfl w1.heap.size (rcells ⟨0, cb, cc, mb, m2⟩ cd.length (st0 dd bs E m) 0 (.slice iA bs.length ic) (.slice none 0 0)) rfl rfl _ _ (Blk.new w1 _ _) (by kernel_rfl) rfl (rcells_one _ _ _ _ _ _ _ _ _ _) ?_
  refine wpList_plain rfl fun _ hK => op_val (x_assign _ _ _ _ _ _ _ _ rfl) (hK _ _ ?_)
  have r0 := kr.below hb kr.lt
  have kB1 := below_next' kB hb
  obtain ⟨l1, l2, l3, l4⟩ := laid_row kB1 kB1.size 38 (rC (.slice none 0 0) (.slice none 0 0) (.slice none 0 0) 0 0) (rcells ⟨0, cb, cc, mb, m2⟩ cd.length (st0 dd bs E m) 0 (.slice iA bs.length ic) (.slice none 0 0)) rfl
  have r1 := r0.below l3 r0.lt
  have hs2 : w.heap.size + 2 ≤ w1.heap.size := by have := hb.size; simpa using this
  have hR := hrep _ w1.heap.size (w.heap.size + 2) (fun t cs hx => absurd hx.lt (by omega)) (fun k hk hl => l3.block k hl) l1 hs2 (by simp)
  generalize hZ : World.setRow _ _ _ = Z at *
  have HR := Lib.hid hR
  have HX := Lib.hid r1
  have HB2 := Lib.hid l2
  have hzs : w.heap.size + 2 ≤ Z.heap.size := by have := hR.mach.lt; have := hR.gB; dsimp only at *; omega
  clear kx kr kB hb r0 r1 hZ l1 l2 l3 l4 hrep hR h1 kB1 hiv
  go_wp2_with fail
  refine (rrunm_any Z _ ⟨w1.heap.size, cb, cc, mb, m2⟩ cd bs _ 0 _ _ HR.out 4194304 (by omega)).mono ?_
  rw [HKK.out]
  rintro e w3 ⟨A, c, rfl, hown, hp⟩
  have hb3 := PostR.below HR.out hp
  have r2 := HX.out.below hb3 (by omega)
  have kB2 : Below w.heap.size w w3 := HB2.out.trans (hb3.mono (by omega))
  have f0 := r2.get (i := 0) rfl
  have f1 := r2.get (i := 1) rfl
  have f2 := r2.get (i := 2) rfl
  have f3 := r2.get (i := 3) rfl
  have ff := r2.frozen
  generalize hz : iter cd k (st0 dd bs E m) = z at *
  have HZ := Lib.hid hz
  have HO := Lib.hid (own_mono (own_four (b := w.heap.size + 1) hown (by omega) (.int .i64 z.kind) (.int .i64 z.code) (.slice A z.out.length c) (.int .i64 z.steps)) (show w.heap.size ≤ Z.heap.size by omega))
  have HB := Lib.hid (below_four (b := w.heap.size + 1) kB2 (by omega) (.int .i64 z.kind) (.int .i64 z.code) (.slice A z.out.length c) (.int .i64 z.steps))
  clear hz hp hb3 r2 HR HX hown
  go_wp2
  have hz := HZ.out
  subst hz
  exact bodyPost_ret (v := .agg #[.int .i64 (iter cd k (st0 dd bs E m)).kind, .int .i64 (iter cd k (st0 dd bs E m)).code, .slice A (iter cd k (st0 dd bs E m)).out.length c, .int .i64 (iter cd k (st0 dd bs E m)).steps]) (by simp [results, Try.results16, go_sem, f0, f1, f2, f3]) rfl ⟨_, rfl, ⟨A, c, rfl, HO.out⟩, HB.out⟩
theorem rrun_any (h : In3 w B CA DA IA cd dd bs) (c0 c1 c2 : Nat) (E q fuel : Int) :
    Calls Try.prog 16 #[.agg #[.slice CA cd.length c0, .slice DA dd.length c1, .int .i64 E], .int .i64 q, .slice IA bs.length c2, .int .i64 fuel] w fun e w' => ∃ v, e = .returned v ∧ Told' w' w.heap.size (runP cd dd bs E q fuel) v ∧ Below w.heap.size w w' := by
  by_cases hf : okF cd dd E
  · by_cases ha : okA dd bs q
    · obtain ⟨m, rfl⟩ : ∃ m : Nat, q = m := ⟨q.toNat, by have := ha.1; omega⟩
      by_cases hfu : fuel ≤ 4194304
      · exact rrun_ok1 h c0 c1 c2 E fuel m hf ha hfu
      · exact rrun_ok2 h c0 c1 c2 E fuel m hf ha hfu
    · exact rrun_arg h c0 c1 c2 E q fuel hf ha
  · exact rrun_form h c0 c1 c2 E q fuel hf
end
end Go.Proofs.Ytikgghioneiegaa
