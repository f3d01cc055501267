/-
  The document's machine: calls, returns, room: walks.
-/
import Derived.Test.YtikgghioneiegaaRefA
namespace Go.Proofs.Ytikgghioneiegaa
open Go.RowKit
set_option linter.unusedVariables false
theorem set_ne {cs : Array Value} {i j : Nat} {u v : Value} (h : cs[j]? = some v) (hne : i ≠ j) : (cs.setIfInBounds i u)[j]? = some v := by
  rw [Array.getElem?_setIfInBounds_ne hne]
  exact h
theorem set_eq {cs : Array Value} {j : Nat} {u v : Value} (h : cs[j]? = some v) : (cs.setIfInBounds j u)[j]? = some u := by
  rw [Array.getElem?_setIfInBounds_self_of_lt (Array.getElem?_eq_some_iff.1 h).1]

set_option maxRecDepth 100000 in
set_option maxHeartbeats 1600000 in
theorem rc_call (w : World) (g : Nat) (cs : Array Value) (hb : Blk w g 38 cs) (a b c : Nat) (n : Int) (x p : Int) (h17 : cs[17]? = some (.int .i64 x)) (h18 : cs[18]? = some (.int .i64 p)) (mb m m2 k : Nat) (ms : Array Value) (hm : Blk w mb 2 ms) (hcm : cs[1]? = some (.slice (some ⟨mb, 0, none⟩) m m2)) (hk : k < m) (vm : Value) (hmk : ms[k]? = some vm) (hsum : wrap64 (x - 1) = (k : Int)) :
    Calls Try.prog 62 #[.pointer (some ⟨g, 0, none⟩), .agg #[.int .i64 10, .int .i64 a, .int .i64 b, .int .i64 c, .int .i64 n]] w fun e w' => e = .returned (.tuple #[]) ∧ Blk w' g 38 (((cs.setIfInBounds 17 (.int .i64 (k : Int))).setIfInBounds 18 (.int .i64 n))) ∧ Blk w' mb 2 (ms.setIfInBounds k (.int .i64 p)) ∧ Fr g mb none w w' := by
  have hlt := hb.lt
  have hgm : g ≠ mb := hb.ne_ hm (by decide)
  have hmg := hgm.symm
  have hml := hm.lt
  have z1 : w.cell? ⟨g, 17, none⟩ = some (.int .i64 x) := hb.get h17
  have k0 : (0 : Int) ≤ (k : Int) := by omega
  have d1 : decide ((k : Int) < 0) = false := by simp
  go_enter Try.func62, Try.ntmps62
  go_wp2_with fail
  refine (rcell_in _ g mb m cs (hb.alloc _) k m2 hcm hk).mono ?_
  rintro e w1 ⟨rfl, rfl⟩
  go_wp2_with fail
  refine st_tail 9 (by kernel_rfl) (by kernel_rfl) ?_
  intro W hW
  have kb : Blk W g 38 cs := by rw [← hW]; exact (hb.alloc _).drew
  have kc : Blk W w.heap.size 52 (instC 10 a b c n) := by rw [← hW]; exact (Blk.new w _ _).drew
  have km : Blk W mb 2 ms := by rw [← hW]; exact (hm.alloc _).drew
  have jF : Fr g mb none w W := by rw [← hW]; exact ((Fr.refl _ _ _ w).alloc _).drew
  have j1 : W.cell? ⟨g, 17, none⟩ = some (.int .i64 x) := kb.get h17
  have j2 : W.frozen? ⟨g, 17, none⟩ = false := kb.frozen _
  have s1 := (wrap_is _).trans hsum
  have HS := Lib.hid hsum
  clear hW z1 hsum
  simp only [List.take_succ_cons, List.take_zero, List.drop_succ_cons, List.drop_zero]
  repeat still_step
  refine wpStill_nil ?_
  clear s1
  go_wp2_with fail
  refine st_tail 10 (by kernel_rfl) (by kernel_rfl) ?_
  intro U hU
  have ub : Blk U g 38 (cs.setIfInBounds 17 (.int .i64 (k : Int))) := by rw [← hU]; exact (kb.set_ 17 _).drew
  have hgx : w.heap.size ≠ g := kc.ne_ kb (by decide)
  have hmx : w.heap.size ≠ mb := kc.ne_ km (by decide)
  have hxm := hmx.symm
  have uc : Blk U w.heap.size 52 (instC 10 a b c n) := by rw [← hU]; exact (kc.far (p := ⟨g, 17, none⟩) hgx _).drew
  have um : Blk U mb 2 ms := by rw [← hU]; exact (km.far (p := ⟨g, 17, none⟩) hmg _).drew
  have uF : Fr g mb none w U := by rw [← hU]; exact (jF.set_ (p := ⟨g, 17, none⟩) (.inl rfl) _).drew
  have u1 : U.cell? ⟨g, 1, none⟩ = some (.slice (some ⟨mb, 0, none⟩) m m2) := ub.get (set_ne hcm (by decide))
  have u2 : U.cell? ⟨g, 18, none⟩ = some (.int .i64 p) := ub.get (set_ne h18 (by decide))
  have u3 : U.cell? ⟨mb, k, none⟩ = some vm := um.get hmk
  have u4 : U.frozen? ⟨mb, k, none⟩ = false := um.frozen _
  have u5 : U.frozen? ⟨g, 18, none⟩ = false := ub.frozen _
  have u6 : U.cell? ⟨w.heap.size, 4, none⟩ = some (.int .i64 n) := uc.get (i := 4) rfl
  have u7 : U.cell? ⟨w.heap.size, 0, none⟩ = some (.int .i64 10) := uc.get (i := 0) rfl
  have hk2 : (k : Int) < (m : Int) := by omega
  clear hU kb kc km jF j1 j2
  simp only [List.take_succ_cons, List.take_zero, List.drop_succ_cons, List.drop_zero]
  repeat still_step
  refine wpStill_nil ?_
  go_wp2
  first | go_end0 | refine bodyPost_ret (results_none rfl _ _ _) rfl ?_
  exact ⟨rfl, (ub.far (p := ⟨mb, k, none⟩) hgm _).set_ 18 _, (um.set_ k _).far (p := ⟨g, 18, none⟩) hmg _, (uF.set_ (p := ⟨mb, k, none⟩) (.inr (.inl rfl)) _).set_ (p := ⟨g, 18, none⟩) (.inl rfl) _⟩

set_option maxRecDepth 100000 in
set_option maxHeartbeats 1600000 in
theorem rc_far (w : World) (g : Nat) (cs : Array Value) (hb : Blk w g 38 cs) (a b c : Nat) (n : Int) (x p : Int) (h17 : cs[17]? = some (.int .i64 x)) (h18 : cs[18]? = some (.int .i64 p)) (mb m m2 k : Nat) (ms : Array Value) (hm : Blk w mb 2 ms) (hcm : cs[1]? = some (.slice (some ⟨mb, 0, none⟩) m m2)) (hk : k < m) (vm : Value) (hmk : ms[k]? = some vm) (hsum : wrap64 (x - 1) = (k : Int)) (y : Int) (ha : a < 16) (hca : (cs.setIfInBounds 17 (.int .i64 (k : Int)))[2 + a]? = some (.int .i64 y)) :
    Calls Try.prog 62 #[.pointer (some ⟨g, 0, none⟩), .agg #[.int .i64 11, .int .i64 a, .int .i64 b, .int .i64 c, .int .i64 n]] w fun e w' => e = .returned (.tuple #[]) ∧ Blk w' g 38 (((cs.setIfInBounds 17 (.int .i64 (k : Int))).setIfInBounds 18 (.int .i64 n)).setIfInBounds 18 (.int .i64 y)) ∧ Blk w' mb 2 (ms.setIfInBounds k (.int .i64 p)) ∧ Fr g mb none w w' := by
  have hlt := hb.lt
  have hgm : g ≠ mb := hb.ne_ hm (by decide)
  have hmg := hgm.symm
  have hml := hm.lt
  have z1 : w.cell? ⟨g, 17, none⟩ = some (.int .i64 x) := hb.get h17
  have k0 : (0 : Int) ≤ (k : Int) := by omega
  have d1 : decide ((k : Int) < 0) = false := by simp
  go_enter Try.func62, Try.ntmps62
  go_wp2_with fail
  refine (rcell_in _ g mb m cs (hb.alloc _) k m2 hcm hk).mono ?_
  rintro e w1 ⟨rfl, rfl⟩
  go_wp2_with fail
  refine st_tail 9 (by kernel_rfl) (by kernel_rfl) ?_
  intro W hW
  have kb : Blk W g 38 cs := by rw [← hW]; exact (hb.alloc _).drew
  have kc : Blk W w.heap.size 52 (instC 11 a b c n) := by rw [← hW]; exact (Blk.new w _ _).drew
  have km : Blk W mb 2 ms := by rw [← hW]; exact (hm.alloc _).drew
  have jF : Fr g mb none w W := by rw [← hW]; exact ((Fr.refl _ _ _ w).alloc _).drew
  have j1 : W.cell? ⟨g, 17, none⟩ = some (.int .i64 x) := kb.get h17
  have j2 : W.frozen? ⟨g, 17, none⟩ = false := kb.frozen _
  have s1 := (wrap_is _).trans hsum
  have HS := Lib.hid hsum
  clear hW z1 hsum
  simp only [List.take_succ_cons, List.take_zero, List.drop_succ_cons, List.drop_zero]
  repeat still_step
  refine wpStill_nil ?_
  clear s1
  go_wp2_with fail
  refine st_tail 10 (by kernel_rfl) (by kernel_rfl) ?_
  intro U hU
  have ub : Blk U g 38 (cs.setIfInBounds 17 (.int .i64 (k : Int))) := by rw [← hU]; exact (kb.set_ 17 _).drew
  have hgx : w.heap.size ≠ g := kc.ne_ kb (by decide)
  have hmx : w.heap.size ≠ mb := kc.ne_ km (by decide)
  have hxm := hmx.symm
  have uc : Blk U w.heap.size 52 (instC 11 a b c n) := by rw [← hU]; exact (kc.far (p := ⟨g, 17, none⟩) hgx _).drew
  have um : Blk U mb 2 ms := by rw [← hU]; exact (km.far (p := ⟨g, 17, none⟩) hmg _).drew
  have uF : Fr g mb none w U := by rw [← hU]; exact (jF.set_ (p := ⟨g, 17, none⟩) (.inl rfl) _).drew
  have u1 : U.cell? ⟨g, 1, none⟩ = some (.slice (some ⟨mb, 0, none⟩) m m2) := ub.get (set_ne hcm (by decide))
  have u2 : U.cell? ⟨g, 18, none⟩ = some (.int .i64 p) := ub.get (set_ne h18 (by decide))
  have u3 : U.cell? ⟨mb, k, none⟩ = some vm := um.get hmk
  have u4 : U.frozen? ⟨mb, k, none⟩ = false := um.frozen _
  have u5 : U.frozen? ⟨g, 18, none⟩ = false := ub.frozen _
  have u6 : U.cell? ⟨w.heap.size, 4, none⟩ = some (.int .i64 n) := uc.get (i := 4) rfl
  have u7 : U.cell? ⟨w.heap.size, 0, none⟩ = some (.int .i64 11) := uc.get (i := 0) rfl
  have hk2 : (k : Int) < (m : Int) := by omega
  clear hU kb kc km jF j1 j2
  simp only [List.take_succ_cons, List.take_zero, List.drop_succ_cons, List.drop_zero]
  repeat still_step
  refine wpStill_nil ?_
  go_wp2_with fail
  refine st_tail 10 (by kernel_rfl) (by kernel_rfl) ?_
  intro V hV
  have vb : Blk V g 38 ((cs.setIfInBounds 17 (.int .i64 (k : Int))).setIfInBounds 18 (.int .i64 n)) := by rw [← hV]; exact ((ub.far (p := ⟨mb, k, none⟩) hgm _).set_ 18 _).drew
  have vc : Blk V w.heap.size 52 (instC 11 a b c n) := by rw [← hV]; exact ((uc.far (p := ⟨mb, k, none⟩) hmx _).far (p := ⟨g, 18, none⟩) hgx _).drew
  have vm1 : Blk V mb 2 (ms.setIfInBounds k (.int .i64 p)) := by rw [← hV]; exact ((um.set_ k _).far (p := ⟨g, 18, none⟩) hmg _).drew
  have vF : Fr g mb none w V := by rw [← hV]; exact ((uF.set_ (p := ⟨mb, k, none⟩) (.inr (.inl rfl)) _).set_ (p := ⟨g, 18, none⟩) (.inl rfl) _).drew
  have v1 : V.cell? ⟨w.heap.size, 1, none⟩ = some (.int .i64 a) := vc.get (i := 1) rfl
  have v2 : V.cell? ⟨g, 2 + a, none⟩ = some (.int .i64 y) := vb.get (set_ne hca (by omega))
  have v3 : V.frozen? ⟨g, 18, none⟩ = false := vb.frozen _
  have v4 : (a : Int) < 16 := by omega
  have v5 : V.cell? ⟨g, 18, none⟩ = some (.int .i64 n) := vb.get (set_eq (set_ne h18 (by decide)))
  clear hV ub uc um uF u1 u2 u3 u4 u5 u6 u7
  simp only [List.take_succ_cons, List.take_zero, List.drop_succ_cons, List.drop_zero]
  repeat still_step
  refine wpStill_nil ?_
  go_wp2
  first | go_end0 | refine bodyPost_ret (results_none rfl _ _ _) rfl ?_
  exact ⟨rfl, vb.set_ 18 _, vm1.far (p := ⟨g, 18, none⟩) hmg _, vF.set_ (p := ⟨g, 18, none⟩) (.inl rfl) _⟩

set_option maxRecDepth 100000 in
set_option maxHeartbeats 1600000 in
theorem rc_call_out (w : World) (g : Nat) (cs : Array Value) (hb : Blk w g 38 cs) (a b c : Nat) (n : Int) (x : Int) (h17 : cs[17]? = some (.int .i64 x)) (A : Option Addr) (m m2 : Nat) (hcm : cs[1]? = some (.slice A m m2)) (k : Int) (hk : k < 0 ∨ (m : Int) ≤ k) (hsum : wrap64 (x - 1) = k) (v : Value) (hv : cs[21]? = some v) :
    Calls Try.prog 62 #[.pointer (some ⟨g, 0, none⟩), .agg #[.int .i64 10, .int .i64 a, .int .i64 b, .int .i64 c, .int .i64 n]] w fun e w' => e = .returned (.tuple #[]) ∧ Blk w' g 38 (cs.setIfInBounds 21 (.int .i64 5)) ∧ Fr g g none w w' := by
  have hlt := hb.lt
  have z1 : w.cell? ⟨g, 17, none⟩ = some (.int .i64 x) := hb.get h17
  have HS := Lib.hid hsum
  clear hsum
  go_enter Try.func62, Try.ntmps62
  go_wp2_with fail
  refine (rcell_out' _ g m cs (hb.alloc _) A m2 hcm _ k hk v hv HS.out).mono ?_
  rintro e w1 ⟨rfl, rfl⟩
  go_wp2
  first | go_end0 | refine bodyPost_ret (results_none rfl _ _ _) rfl ?_
  exact ⟨rfl, (hb.set_ 21 _).alloc _, ((Fr.refl g g none w).set_ (p := ⟨g, 21, none⟩) (.inl rfl) _).alloc _⟩

set_option maxRecDepth 100000 in
set_option maxHeartbeats 1600000 in
theorem rc_far_out (w : World) (g : Nat) (cs : Array Value) (hb : Blk w g 38 cs) (a b c : Nat) (n : Int) (x : Int) (h17 : cs[17]? = some (.int .i64 x)) (A : Option Addr) (m m2 : Nat) (hcm : cs[1]? = some (.slice A m m2)) (k : Int) (hk : k < 0 ∨ (m : Int) ≤ k) (hsum : wrap64 (x - 1) = k) (v : Value) (hv : cs[21]? = some v) :
    Calls Try.prog 62 #[.pointer (some ⟨g, 0, none⟩), .agg #[.int .i64 11, .int .i64 a, .int .i64 b, .int .i64 c, .int .i64 n]] w fun e w' => e = .returned (.tuple #[]) ∧ Blk w' g 38 (cs.setIfInBounds 21 (.int .i64 5)) ∧ Fr g g none w w' := by
  have hlt := hb.lt
  have z1 : w.cell? ⟨g, 17, none⟩ = some (.int .i64 x) := hb.get h17
  have HS := Lib.hid hsum
  clear hsum
  go_enter Try.func62, Try.ntmps62
  go_wp2_with fail
  refine (rcell_out' _ g m cs (hb.alloc _) A m2 hcm _ k hk v hv HS.out).mono ?_
  rintro e w1 ⟨rfl, rfl⟩
  go_wp2
  first | go_end0 | refine bodyPost_ret (results_none rfl _ _ _) rfl ?_
  exact ⟨rfl, (hb.set_ 21 _).alloc _, ((Fr.refl g g none w).set_ (p := ⟨g, 21, none⟩) (.inl rfl) _).alloc _⟩

set_option maxRecDepth 100000 in
set_option maxHeartbeats 1600000 in
theorem rc_ret (w : World) (g : Nat) (cs : Array Value) (hb : Blk w g 38 cs) (a b c : Nat) (n : Int) (p : Value) (mb m m2 k : Nat) (h17 : cs[17]? = some (.int .i64 (k : Int))) (h18 : cs[18]? = some p) (ms : Array Value) (hm : Blk w mb 2 ms) (hcm : cs[1]? = some (.slice (some ⟨mb, 0, none⟩) m m2)) (hk : k < m) (hm9 : m ≤ 262144) (y : Int) (hmk : ms[k]? = some (.int .i64 y)) :
    Calls Try.prog 62 #[.pointer (some ⟨g, 0, none⟩), .agg #[.int .i64 12, .int .i64 a, .int .i64 b, .int .i64 c, .int .i64 n]] w fun e w' => e = .returned (.tuple #[]) ∧ Blk w' g 38 ((cs.setIfInBounds 18 (.int .i64 y)).setIfInBounds 17 (.int .i64 ((k : Int) + 1))) ∧ Fr g g none w w' := by
  have hlt := hb.lt
  have z1 : w.cell? ⟨g, 17, none⟩ = some (.int .i64 (k : Int)) := hb.get h17
  have z2 : w.cell? ⟨g, 18, none⟩ = some p := hb.get h18
  have z3 : w.cell? ⟨g, 1, none⟩ = some (.slice (some ⟨mb, 0, none⟩) m m2) := hb.get hcm
  have z4 : w.cell? ⟨mb, k, none⟩ = some (.int .i64 y) := hm.get hmk
  have z5 : w.frozen? ⟨g, 18, none⟩ = false := hb.frozen _
  have hml := hm.lt
  have k0 : (0 : Int) ≤ (k : Int) := by omega
  have k1 : (k : Int) < (m : Int) := by omega
  have d1 : decide ((k : Int) < 0) = false := by simp
  go_enter Try.func62, Try.ntmps62
  go_wp2_with fail
  refine (rcell_in _ g mb m cs (hb.alloc _) k m2 hcm hk).mono ?_
  rintro e w1 ⟨rfl, rfl⟩
  go_wp2_with fail
  refine st_tail 9 (by kernel_rfl) (by kernel_rfl) ?_
  intro W hW
  have kb : Blk W g 38 (cs.setIfInBounds 18 (.int .i64 y)) := by rw [← hW]; first | exact ((hb.set_ 18 _).alloc _).drew | exact ((hb.alloc _).set_ 18 _).drew
  have jF : Fr g g none w W := by rw [← hW]; first | exact (((Fr.refl g g none w).set_ (p := ⟨g, 18, none⟩) (.inl rfl) _).alloc _).drew | exact (((Fr.refl g g none w).alloc _).set_ (p := ⟨g, 18, none⟩) (.inl rfl) _).drew
  have j1 : W.cell? ⟨g, 17, none⟩ = some (.int .i64 (k : Int)) := kb.get (set_ne h17 (by decide))
  have j2 : W.frozen? ⟨g, 17, none⟩ = false := kb.frozen _
  have s1 : IntKind.i64.wrap ((k : Int) + 1) = (k : Int) + 1 := (wrap_is _).trans (by unfold wrap64; omega)
  clear hW z1 z2 z3 z4 z5
  simp only [List.take_succ_cons, List.take_zero, List.drop_succ_cons, List.drop_zero]
  repeat still_step
  refine wpStill_nil ?_
  clear s1
  go_wp2
  first | go_end0 | refine bodyPost_ret (results_none rfl _ _ _) rfl ?_
  exact ⟨rfl, kb.set_ 17 _, jF.set_ (p := ⟨g, 17, none⟩) (.inl rfl) _⟩

set_option maxRecDepth 100000 in
set_option maxHeartbeats 1600000 in
theorem rc_ret_out (w : World) (g : Nat) (cs : Array Value) (hb : Blk w g 38 cs) (a b c : Nat) (n : Int) (x : Int) (h17 : cs[17]? = some (.int .i64 x)) (A : Option Addr) (m m2 : Nat) (hcm : cs[1]? = some (.slice A m m2)) (hk : x < 0 ∨ (m : Int) ≤ x) (v : Value) (hv : cs[21]? = some v) :
    Calls Try.prog 62 #[.pointer (some ⟨g, 0, none⟩), .agg #[.int .i64 12, .int .i64 a, .int .i64 b, .int .i64 c, .int .i64 n]] w fun e w' => e = .returned (.tuple #[]) ∧ Blk w' g 38 (cs.setIfInBounds 21 (.int .i64 5)) ∧ Fr g g none w w' := by
  have hlt := hb.lt
  have z1 : w.cell? ⟨g, 17, none⟩ = some (.int .i64 x) := hb.get h17
  go_enter Try.func62, Try.ntmps62
  go_wp2_with fail
  refine (rcell_out _ g m cs (hb.alloc _) A m2 hcm x hk v hv).mono ?_
  rintro e w1 ⟨rfl, rfl⟩
  go_wp2
  first | go_end0 | refine bodyPost_ret (results_none rfl _ _ _) rfl ?_
  exact ⟨rfl, (hb.set_ 21 _).alloc _, ((Fr.refl g g none w).set_ (p := ⟨g, 21, none⟩) (.inl rfl) _).alloc _⟩

set_option maxRecDepth 100000 in
set_option maxHeartbeats 1600000 in
theorem rc_room (w : World) (g : Nat) (cs : Array Value) (hb : Blk w g 38 cs) (a b c : Nat) (n : Int) (va : Value) (ha : a < 16) (hca : cs[2 + a]? = some va) (A : Option Addr) (m m2 : Nat) (hcm : cs[1]? = some (.slice A m m2)) :
    Calls Try.prog 62 #[.pointer (some ⟨g, 0, none⟩), .agg #[.int .i64 15, .int .i64 a, .int .i64 b, .int .i64 c, .int .i64 n]] w fun e w' => e = .returned (.tuple #[]) ∧ Blk w' g 38 (cs.setIfInBounds (2 + a) (.int .i64 (m : Int))) ∧ Fr g g none w w' := by
  have hlt := hb.lt
  go_enter Try.func62, Try.ntmps62
  go_wp2_with fail
  refine st_tail 11 (by kernel_rfl) (by kernel_rfl) ?_
  intro W hW
  have kb : Blk W g 38 cs := by rw [← hW]; exact (hb.alloc _).drew
  have kc : Blk W w.heap.size 52 (instC 15 a b c n) := by rw [← hW]; exact (Blk.new w _ _).drew
  have jF : Fr g g none w W := by rw [← hW]; exact ((Fr.refl _ _ _ w).alloc _).drew
  have j1 : W.cell? ⟨g, 1, none⟩ = some (.slice A m m2) := kb.get hcm
  have j2 : W.cell? ⟨g, 2 + a, none⟩ = some va := kb.get hca
  have j3 : W.frozen? ⟨g, 2 + a, none⟩ = false := kb.frozen _
  have j4 : W.cell? ⟨w.heap.size, 1, none⟩ = some (.int .i64 a) := kc.get (i := 1) rfl
  have a1 : (a : Int) < 16 := by omega
  clear hW kc
  simp only [List.take_succ_cons, List.take_zero, List.drop_succ_cons, List.drop_zero]
  repeat still_step
  refine wpStill_nil ?_
  go_wp2
  first | go_end0 | refine bodyPost_ret (results_none rfl _ _ _) rfl ?_
  exact ⟨rfl, kb.set_ _ _, jF.set_ (p := ⟨g, 2 + a, none⟩) (.inl rfl) _⟩

set_option maxRecDepth 100000 in
set_option maxHeartbeats 1600000 in
theorem rc_read_no (w : World) (g : Nat) (cs : Array Value) (hb : Blk w g 38 cs) (a b c : Nat) (n : Int) (va : Value) (ha : a < 16) (hca : cs[2 + a]? = some va) (I j ic : Nat) (h20 : cs[20]? = some (.int .i64 (j : Int))) (A : Option Addr) (h19 : cs[19]? = some (.slice A I ic)) (hj : I ≤ j) :
    Calls Try.prog 62 #[.pointer (some ⟨g, 0, none⟩), .agg #[.int .i64 13, .int .i64 a, .int .i64 b, .int .i64 c, .int .i64 n]] w fun e w' => e = .returned (.tuple #[]) ∧ Blk w' g 38 (cs.setIfInBounds (2 + a) (.int .i64 (-1))) ∧ Fr g g none w w' := by
  have hlt := hb.lt
  go_enter Try.func62, Try.ntmps62
  go_wp2_with fail
  refine st_tail 6 (by kernel_rfl) (by kernel_rfl) ?_
  intro W hW
  have kb : Blk W g 38 cs := by rw [← hW]; exact (hb.alloc _).drew
  have kc : Blk W w.heap.size 52 (instC 13 a b c n) := by rw [← hW]; exact (Blk.new w _ _).drew
  have hgx : w.heap.size ≠ g := kc.ne_ kb (by decide)
  have jF : Fr g g none w W := by rw [← hW]; exact ((Fr.refl _ _ _ w).alloc _).drew
  have j2 : W.cell? ⟨g, 2 + a, none⟩ = some va := kb.get hca
  have j3 : W.frozen? ⟨g, 2 + a, none⟩ = false := kb.frozen _
  have j4 : W.cell? ⟨w.heap.size, 1, none⟩ = some (.int .i64 a) := kc.get (i := 1) rfl
  have a1 : (a : Int) < 16 := by omega
  clear hW
  simp only [List.take_succ_cons, List.take_zero, List.drop_succ_cons, List.drop_zero]
  repeat still_step
  refine wpStill_nil ?_
  go_wp2_with fail
  refine st_all (by kernel_rfl) (by kernel_rfl) ?_
  intro U hU
  have ub : Blk U g 38 (cs.setIfInBounds (2 + a) (.int .i64 (-1))) := by rw [← hU]; exact (kb.set_ _ _).drew
  have uc : Blk U w.heap.size 52 (instC 13 a b c n) := by rw [← hU]; exact (kc.far (p := ⟨g, 2 + a, none⟩) hgx _).drew
  have uF : Fr g g none w U := by rw [← hU]; exact (jF.set_ (p := ⟨g, 2 + a, none⟩) (.inl rfl) _).drew
  have u1 : U.cell? ⟨g, 20, none⟩ = some (.int .i64 (j : Int)) := ub.get (set_ne h20 (by omega))
  have u2 : U.cell? ⟨g, 19, none⟩ = some (.slice A I ic) := ub.get (set_ne h19 (by omega))
  have jI : decide ((j : Int) < (I : Int)) = false := by simp; omega
  clear hU kb kc jF j2 j3 j4
  repeat still_step
  refine wpStill_nil ?_
  clear u1 u2
  go_wp2
  first | go_end0 | refine bodyPost_ret (results_none rfl _ _ _) rfl ?_
  exact ⟨rfl, ub, uF⟩

set_option maxRecDepth 100000 in
set_option maxHeartbeats 1600000 in
theorem rc_read (w : World) (g : Nat) (cs : Array Value) (hb : Blk w g 38 cs) (a b c : Nat) (n : Int) (va : Value) (ha : a < 16) (hca : cs[2 + a]? = some va) (I j ic : Nat) (h20 : cs[20]? = some (.int .i64 (j : Int))) (ib : Nat) (h19 : cs[19]? = some (.slice (some ⟨ib, 0, none⟩) I ic)) (bcs : Array Value) (hbi : Blk w ib 5 bcs) (x : Int) (hx : bcs[j]? = some (.int .u8 x)) (hx0 : 0 ≤ x) (hx1 : x ≤ 255) (hj : j < I) (hI : I ≤ 4096) :
    Calls Try.prog 62 #[.pointer (some ⟨g, 0, none⟩), .agg #[.int .i64 13, .int .i64 a, .int .i64 b, .int .i64 c, .int .i64 n]] w fun e w' => e = .returned (.tuple #[]) ∧ Blk w' g 38 (((cs.setIfInBounds (2 + a) (.int .i64 (-1))).setIfInBounds (2 + a) (.int .i64 x)).setIfInBounds 20 (.int .i64 ((j : Int) + 1))) ∧ Fr g g none w w' := by
  have hlt := hb.lt
  go_enter Try.func62, Try.ntmps62
  go_wp2_with fail
  refine st_tail 6 (by kernel_rfl) (by kernel_rfl) ?_
  intro W hW
  have kb : Blk W g 38 cs := by rw [← hW]; exact (hb.alloc _).drew
  have kc : Blk W w.heap.size 52 (instC 13 a b c n) := by rw [← hW]; exact (Blk.new w _ _).drew
  have hgx : w.heap.size ≠ g := kc.ne_ kb (by decide)
  have jF : Fr g g none w W := by rw [← hW]; exact ((Fr.refl _ _ _ w).alloc _).drew
  have j2 : W.cell? ⟨g, 2 + a, none⟩ = some va := kb.get hca
  have j3 : W.frozen? ⟨g, 2 + a, none⟩ = false := kb.frozen _
  have j4 : W.cell? ⟨w.heap.size, 1, none⟩ = some (.int .i64 a) := kc.get (i := 1) rfl
  have a1 : (a : Int) < 16 := by omega
  have ki : Blk W ib 5 bcs := by rw [← hW]; exact (hbi.alloc _).drew
  clear hW
  simp only [List.take_succ_cons, List.take_zero, List.drop_succ_cons, List.drop_zero]
  repeat still_step
  refine wpStill_nil ?_
  go_wp2_with fail
  refine st_all (by kernel_rfl) (by kernel_rfl) ?_
  intro U hU
  have ub : Blk U g 38 (cs.setIfInBounds (2 + a) (.int .i64 (-1))) := by rw [← hU]; exact (kb.set_ _ _).drew
  have uc : Blk U w.heap.size 52 (instC 13 a b c n) := by rw [← hU]; exact (kc.far (p := ⟨g, 2 + a, none⟩) hgx _).drew
  have uF : Fr g g none w U := by rw [← hU]; exact (jF.set_ (p := ⟨g, 2 + a, none⟩) (.inl rfl) _).drew
  have u1 : U.cell? ⟨g, 20, none⟩ = some (.int .i64 (j : Int)) := ub.get (set_ne h20 (by omega))
  have u2 : U.cell? ⟨g, 19, none⟩ = some (.slice (some ⟨ib, 0, none⟩) I ic) := ub.get (set_ne h19 (by omega))
  have ui : Blk U ib 5 bcs := by rw [← hU]; exact (ki.far (p := ⟨g, 2 + a, none⟩) (ki.ne_ kb (by decide)) _).drew
  have jI : (j : Int) < (I : Int) := by omega
  clear hU kb kc jF j2 j3 j4 ki
  repeat still_step
  refine wpStill_nil ?_
  clear u1 u2
  go_wp2_with fail
  refine st_tail 17 (by kernel_rfl) (by kernel_rfl) ?_
  intro V hV
  have vb : Blk V g 38 (cs.setIfInBounds (2 + a) (.int .i64 (-1))) := by rw [← hV]; exact ub.drew
  have vc : Blk V w.heap.size 52 (instC 13 a b c n) := by rw [← hV]; exact uc.drew
  have vi : Blk V ib 5 bcs := by rw [← hV]; exact ui.drew
  have vF : Fr g g none w V := by rw [← hV]; exact uF.drew
  have v1 : V.cell? ⟨g, 20, none⟩ = some (.int .i64 (j : Int)) := vb.get (set_ne h20 (by omega))
  have v2 : V.cell? ⟨g, 19, none⟩ = some (.slice (some ⟨ib, 0, none⟩) I ic) := vb.get (set_ne h19 (by omega))
  have v3 : V.cell? ⟨ib, j, none⟩ = some (.int .u8 x) := vi.get hx
  have v4 : V.cell? ⟨w.heap.size, 1, none⟩ = some (.int .i64 a) := vc.get (i := 1) rfl
  have v5 : V.cell? ⟨g, 2 + a, none⟩ = some (.int .i64 (-1)) := vb.get (set_eq hca)
  have v6 : V.frozen? ⟨g, 2 + a, none⟩ = false := vb.frozen _
  have v7 : V.frozen? ⟨g, 20, none⟩ = false := vb.frozen _
  have hne : 2 + a ≠ 20 := by omega
  have hne2 : a ≠ 18 := by omega
  have s1 : wrap64 ((j : Int) + 1) = (j : Int) + 1 := by unfold wrap64; omega
  clear hV ub uc ui uF
  simp only [List.take_succ_cons, List.take_zero, List.drop_succ_cons, List.drop_zero]
  repeat still_step
  refine wpStill_nil ?_
  go_wp2
  first | go_end0 | refine bodyPost_ret (results_none rfl _ _ _) rfl ?_
  exact ⟨rfl, (vb.set_ _ _).set_ 20 _, (vF.set_ (p := ⟨g, 2 + a, none⟩) (.inl rfl) _).set_ (p := ⟨g, 20, none⟩) (.inl rfl) _⟩

end Go.Proofs.Ytikgghioneiegaa
