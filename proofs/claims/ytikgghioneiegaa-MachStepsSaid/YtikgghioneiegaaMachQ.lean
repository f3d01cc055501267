/-
  A whole run of the program.
-/
import Derived.Test.YtikgghioneiegaaMachZ
import Derived.Outline
namespace Go.Proofs.Ytikgghioneiegaa
open Go.RowKit
set_option linter.unusedVariables false
theorem two_new (w : World) (c1 c2 : Array Value) (t1 t2 : TypeId) : Blk ((w.alloc (.cells c1 t1)).alloc (.cells c2 t2)) w.heap.size t1 c1 ∧ Blk ((w.alloc (.cells c1 t1)).alloc (.cells c2 t2)) (w.heap.size + 1) t2 c2 ∧
    Below w.heap.size w ((w.alloc (.cells c1 t1)).alloc (.cells c2 t2)) := by
  refine ⟨(Blk.new w t1 c1).alloc _, ?_, ((Below.refl _ w).alloc (Nat.le_refl _) _).alloc (by simp) _⟩
  have := Blk.new (w.alloc (.cells c1 t1)) t2 c2
  simpa using this
theorem below_four {B b : Nat} {w w1 : World} (h : Below B w w1) (hb : B ≤ b) (v0 v1 v2 v3 : Value) : Below B w ((((w1.setCell ⟨b, 0, none⟩ v0).setCell ⟨b, 1, none⟩ v1).setCell ⟨b, 2, none⟩ v2).setCell ⟨b, 3, none⟩ v3) :=
  (((h.setCell (p := ⟨b, 0, none⟩) hb _).setCell (p := ⟨b, 1, none⟩) hb _).setCell (p := ⟨b, 2, none⟩) hb _).setCell (p := ⟨b, 3, none⟩) hb _
theorem own_four {b base : Nat} {w1 : World} {e : TypeId} {size n : Nat} {v : Value} {xs : List Value} (h : w1.ownsRow base e size v n xs) (hb : b < base) (v0 v1 v2 v3 : Value) : ((((w1.setCell ⟨b, 0, none⟩ v0).setCell ⟨b, 1, none⟩ v1).setCell ⟨b, 2, none⟩ v2).setCell ⟨b, 3, none⟩ v3).ownsRow base e size v n xs :=
  ownsRow_setCell_below (ownsRow_setCell_below (ownsRow_setCell_below (ownsRow_setCell_below h hb _) hb _) hb _) hb _
theorem runm_k (w : World) (B : Nat) (L : Lay) (cd : List Int) (s : St) (iv ov : Value) (h : Rep w B L cd s iv ov) (n : Int) (hn : n ≤ 9223372036854775807) (k : Nat) (hk : n.toNat = k) :
    Calls Try.prog 27 #[.pointer (some ⟨L.g, 0, none⟩), .int .i64 n] w fun e w' => ∃ A c w1 iv' ov', e = .returned (.agg #[.int .i64 (iter cd k s).kind, .int .i64 (iter cd k s).code, .slice A (iter cd k s).out.length c, .int .i64 (iter cd k s).steps]) ∧
      w'.ownsRow w1.heap.size 5 1 (.slice A (iter cd k s).out.length c) (iter cd k s).out.length ((iter cd k s).out.map (Value.int .u8)) ∧ Rep w1 B L cd (iter cd k s) iv' ov' ∧ Below B w w1 ∧ Below w1.heap.size w1 w' := by
  subst hk
  exact runm_any w B L cd s iv ov h n hn
section
variable {w : World} {B : Nat} {CA DA IA : Option Addr} {cd dd bs : List Int}
theorem mrun_form (h : In3 w B CA DA IA cd dd bs) (c0 c1 c2 : Nat) (E q fuel : Int) (hn : ¬ okF cd dd E) :
    Calls Try.prog 14 #[.agg #[.slice CA cd.length c0, .slice DA dd.length c1, .int .i64 E], .int .i64 q, .slice IA bs.length c2, .int .i64 fuel] w fun e w' => ∃ v, e = .returned v ∧ Told' w' w.heap.size (runP cd dd bs E q fuel) v ∧ Below w.heap.size w w' := by
  have hr : runP cd dd bs E q fuel = ⟨5, 0, [], 0⟩ := by unfold runP; rw [if_neg (fun h => hn h.1)]
  rw [hr]
  have H := Lib.hid h
  have HN := Lib.hid hn
  clear h hn hr
  go_enter Try.func14, Try.ntmps14
  go_wp2_with fail
  obtain ⟨kx, kr, kB⟩ := two_new w #[.slice CA cd.length c0, .slice DA dd.length c1, .int .i64 E] #[.int .i64 0, .int .i64 0, .slice none 0 0, .int .i64 0] 24 29
  have h1 := H.out.below (kB.mono H.out.size)
  refine (new_no_form h1 c0 c1 c2 E q HN.out).mono ?_
  rintro e w1 ⟨rfl, hb⟩
  have r1 := kr.below hb kr.lt
  have kB1 := below_next' kB hb
  have f0 := r1.get (i := 0) rfl
  have f1 := r1.get (i := 1) rfl
  have f2 := r1.get (i := 2) rfl
  have f3 := r1.get (i := 3) rfl
  have ff := r1.frozen
  clear kx kr kB h1 hb r1
  go_wp2
  exact bodyPost_ret (v := .agg #[.int .i64 5, .int .i64 0, .slice none 0 0, .int .i64 0]) (by simp [results, Try.results14, go_sem, f0, f1, f2, f3]) rfl ⟨_, rfl, ⟨none, 0, rfl, World.ownsRow_nil _ _ _ _⟩, below_four kB1 (by omega) _ _ _ _⟩
theorem mrun_arg (h : In3 w B CA DA IA cd dd bs) (c0 c1 c2 : Nat) (E q fuel : Int) (hf : okF cd dd E) (hn : ¬ okA dd bs q) :
    Calls Try.prog 14 #[.agg #[.slice CA cd.length c0, .slice DA dd.length c1, .int .i64 E], .int .i64 q, .slice IA bs.length c2, .int .i64 fuel] w fun e w' => ∃ v, e = .returned v ∧ Told' w' w.heap.size (runP cd dd bs E q fuel) v ∧ Below w.heap.size w w' := by
  have hr : runP cd dd bs E q fuel = ⟨5, 0, [], 0⟩ := by unfold runP; rw [if_neg (fun h => hn h.2)]
  rw [hr]
  have H := Lib.hid h
  have HF := Lib.hid hf
  have HN := Lib.hid hn
  clear h hn hr hf
  go_enter Try.func14, Try.ntmps14
  go_wp2_with fail
  obtain ⟨kx, kr, kB⟩ := two_new w #[.slice CA cd.length c0, .slice DA dd.length c1, .int .i64 E] #[.int .i64 0, .int .i64 0, .slice none 0 0, .int .i64 0] 24 29
  have h1 := H.out.below (kB.mono H.out.size)
  refine (new_no_arg h1 c0 c1 c2 E q HF.out HN.out).mono ?_
  rintro e w1 ⟨rfl, hb⟩
  have r1 := kr.below hb kr.lt
  have kB1 := below_next' kB hb
  have f0 := r1.get (i := 0) rfl
  have f1 := r1.get (i := 1) rfl
  have f2 := r1.get (i := 2) rfl
  have f3 := r1.get (i := 3) rfl
  have ff := r1.frozen
  clear kx kr kB h1 hb r1
  go_wp2
  exact bodyPost_ret (v := .agg #[.int .i64 5, .int .i64 0, .slice none 0 0, .int .i64 0]) (by simp [results, Try.results14, go_sem, f0, f1, f2, f3]) rfl ⟨_, rfl, ⟨none, 0, rfl, World.ownsRow_nil _ _ _ _⟩, below_four kB1 (by omega) _ _ _ _⟩
set_option maxHeartbeats 1000000 in
theorem mrun_ok1 (h : In3 w B CA DA IA cd dd bs) (c0 c1 c2 : Nat) (E fuel : Int) (m : Nat) (hf : okF cd dd E) (ha : okA dd bs (m : Int)) (hfu : fuel ≤ 4194304) :
    Calls Try.prog 14 #[.agg #[.slice CA cd.length c0, .slice DA dd.length c1, .int .i64 E], .int .i64 (m : Int), .slice IA bs.length c2, .int .i64 fuel] w fun e w' => ∃ v, e = .returned v ∧ Told' w' w.heap.size (runP cd dd bs E (m : Int) fuel) v ∧ Below w.heap.size w w' := by
  obtain ⟨k, hk⟩ : ∃ k : Nat, (min fuel 4194304).toNat = k := ⟨_, rfl⟩
  have hr : runP cd dd bs E (m : Int) fuel = ocOf (iter cd k (st0 dd bs E m)) := by
    unfold runP
    rw [if_pos ⟨hf, ha⟩, Int.toNat_natCast, hk]
  rw [hr]
  rw [show min fuel 4194304 = fuel by omega] at hk
  have HKK := Lib.hid hk
  clear hk
  have H := Lib.hid h
  have HF := Lib.hid hf
  have HA := Lib.hid ha
  clear h hf ha hr
  go_enter Try.func14, Try.ntmps14
  go_wp2_with fail
  obtain ⟨kx, kr, kB⟩ := two_new w #[.slice CA cd.length c0, .slice DA dd.length c1, .int .i64 E] #[.int .i64 0, .int .i64 0, .slice none 0 0, .int .i64 0] 24 29
  have h1 := H.out.below (kB.mono H.out.size)
  refine (new_rep h1 c0 c1 c2 E m HF.out HA.out).mono ?_
  rintro e w1 ⟨L, iv, rfl, hR, hb⟩
  have r1 := kr.below hb kr.lt
  have kB1 := below_next' kB hb
  have HR := Lib.hid hR
  have HX := Lib.hid r1
  have hsz := hR.gB
  have hg := hR.mach.lt
  clear kx kr kB h1 hb hR r1
  go_wp2_with fail
  refine (runm_k w1 _ L cd _ iv _ HR.out fuel (by omega) k HKK.out).mono ?_
  rintro e w2 ⟨A, c, w3, iv2, ov2, rfl, hown, hR3, hb3, hb4⟩
  have hlt : w.heap.size + 1 < w3.heap.size := by
    have := hR3.mach.lt
    simp at hsz
    omega
  have r2 := ((HX.out.below hb3 (by simp)).below hb4 hlt)
  have kB2 : Below w.heap.size w w2 := (kB1.trans (hb3.mono (by simp; omega))).trans (hb4.mono (by omega))
  have f0 := r2.get (i := 0) rfl
  have f1 := r2.get (i := 1) rfl
  have f2 := r2.get (i := 2) rfl
  have f3 := r2.get (i := 3) rfl
  have ff := r2.frozen
  generalize hz : iter cd k (st0 dd bs E m) = z at *
  have HZ := Lib.hid hz
  clear hz
  have HO := Lib.hid (own_mono (own_four (b := w.heap.size + 1) hown hlt (.int .i64 z.kind) (.int .i64 z.code) (.slice A z.out.length c) (.int .i64 z.steps)) (show w.heap.size ≤ w3.heap.size by omega))
  have HB := Lib.hid (below_four (b := w.heap.size + 1) kB2 (by omega) (.int .i64 z.kind) (.int .i64 z.code) (.slice A z.out.length c) (.int .i64 z.steps))
  clear hR3 hb3 hb4 r2 HR HX hown
  go_wp2
  have hz := HZ.out
  subst hz
  exact bodyPost_ret (v := .agg #[.int .i64 (iter cd k (st0 dd bs E m)).kind, .int .i64 (iter cd k (st0 dd bs E m)).code, .slice A (iter cd k (st0 dd bs E m)).out.length c, .int .i64 (iter cd k (st0 dd bs E m)).steps]) (by simp [results, Try.results14, go_sem, f0, f1, f2, f3]) rfl ⟨_, rfl, ⟨A, c, rfl, HO.out⟩, HB.out⟩
set_option maxHeartbeats 1000000 in
theorem mrun_ok2 (h : In3 w B CA DA IA cd dd bs) (c0 c1 c2 : Nat) (E fuel : Int) (m : Nat) (hf : okF cd dd E) (ha : okA dd bs (m : Int)) (hfu : ¬ fuel ≤ 4194304) :
    Calls Try.prog 14 #[.agg #[.slice CA cd.length c0, .slice DA dd.length c1, .int .i64 E], .int .i64 (m : Int), .slice IA bs.length c2, .int .i64 fuel] w fun e w' => ∃ v, e = .returned v ∧ Told' w' w.heap.size (runP cd dd bs E (m : Int) fuel) v ∧ Below w.heap.size w w' := by
  obtain ⟨k, hk⟩ : ∃ k : Nat, (min fuel 4194304).toNat = k := ⟨_, rfl⟩
  have hr : runP cd dd bs E (m : Int) fuel = ocOf (iter cd k (st0 dd bs E m)) := by
    unfold runP
    rw [if_pos ⟨hf, ha⟩, Int.toNat_natCast, hk]
  rw [hr]
  rw [show min fuel 4194304 = 4194304 by omega] at hk
  have HKK := Lib.hid hk
  clear hk
  have H := Lib.hid h
  have HF := Lib.hid hf
  have HA := Lib.hid ha
  clear h hf ha hr
  go_enter Try.func14, Try.ntmps14
  go_wp2_with fail
  obtain ⟨kx, kr, kB⟩ := two_new w #[.slice CA cd.length c0, .slice DA dd.length c1, .int .i64 E] #[.int .i64 0, .int .i64 0, .slice none 0 0, .int .i64 0] 24 29
  have h1 := H.out.below (kB.mono H.out.size)
  refine (new_rep h1 c0 c1 c2 E m HF.out HA.out).mono ?_
  rintro e w1 ⟨L, iv, rfl, hR, hb⟩
  have r1 := kr.below hb kr.lt
  have kB1 := below_next' kB hb
  have HR := Lib.hid hR
  have HX := Lib.hid r1
  have hsz := hR.gB
  have hg := hR.mach.lt
  clear kx kr kB h1 hb hR r1
  go_wp2_with fail
  refine (runm_k w1 _ L cd _ iv _ HR.out 4194304 (by omega) k HKK.out).mono ?_
  rintro e w2 ⟨A, c, w3, iv2, ov2, rfl, hown, hR3, hb3, hb4⟩
  have hlt : w.heap.size + 1 < w3.heap.size := by
    have := hR3.mach.lt
    simp at hsz
    omega
  have r2 := ((HX.out.below hb3 (by simp)).below hb4 hlt)
  have kB2 : Below w.heap.size w w2 := (kB1.trans (hb3.mono (by simp; omega))).trans (hb4.mono (by omega))
  have f0 := r2.get (i := 0) rfl
  have f1 := r2.get (i := 1) rfl
  have f2 := r2.get (i := 2) rfl
  have f3 := r2.get (i := 3) rfl
  have ff := r2.frozen
  generalize hz : iter cd k (st0 dd bs E m) = z at *
  have HZ := Lib.hid hz
  clear hz
  have HO := Lib.hid (own_mono (own_four (b := w.heap.size + 1) hown hlt (.int .i64 z.kind) (.int .i64 z.code) (.slice A z.out.length c) (.int .i64 z.steps)) (show w.heap.size ≤ w3.heap.size by omega))
  have HB := Lib.hid (below_four (b := w.heap.size + 1) kB2 (by omega) (.int .i64 z.kind) (.int .i64 z.code) (.slice A z.out.length c) (.int .i64 z.steps))
  clear hR3 hb3 hb4 r2 HR HX hown
  go_wp2
  have hz := HZ.out
  subst hz
  exact bodyPost_ret (v := .agg #[.int .i64 (iter cd k (st0 dd bs E m)).kind, .int .i64 (iter cd k (st0 dd bs E m)).code, .slice A (iter cd k (st0 dd bs E m)).out.length c, .int .i64 (iter cd k (st0 dd bs E m)).steps]) (by simp [results, Try.results14, go_sem, f0, f1, f2, f3]) rfl ⟨_, rfl, ⟨A, c, rfl, HO.out⟩, HB.out⟩
theorem mrun_any (h : In3 w B CA DA IA cd dd bs) (c0 c1 c2 : Nat) (E q fuel : Int) :
    Calls Try.prog 14 #[.agg #[.slice CA cd.length c0, .slice DA dd.length c1, .int .i64 E], .int .i64 q, .slice IA bs.length c2, .int .i64 fuel] w fun e w' => ∃ v, e = .returned v ∧ Told' w' w.heap.size (runP cd dd bs E q fuel) v ∧ Below w.heap.size w w' := by
  by_cases hf : okF cd dd E
  · by_cases ha : okA dd bs q
    · obtain ⟨m, rfl⟩ : ∃ m : Nat, q = m := ⟨q.toNat, by have := ha.1; omega⟩
      by_cases hfu : fuel ≤ 4194304
      · exact mrun_ok1 h c0 c1 c2 E fuel m hf ha hfu
      · exact mrun_ok2 h c0 c1 c2 E fuel m hf ha hfu
    · exact mrun_arg h c0 c1 c2 E q fuel hf ha
  · exact mrun_form h c0 c1 c2 E q fuel hf
end
end Go.Proofs.Ytikgghioneiegaa
