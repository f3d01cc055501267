/-
  The machine's instructions: jumps under a condition, bytes, what gives up: walks.
-/
import Derived.Test.YtikgghioneiegaaMachC
namespace Go.Proofs.Ytikgghioneiegaa
open Go.RowKit
set_option linter.unusedVariables false

theorem jump_rel (w : World) (g : Nat) (cs : Array Value) (hb : Blk w g 62 cs) (o n : Int) (a b c : Nat) (p : Int) (hcp : cs[2]? = some (.int .i64 p)) :
    Calls Try.prog 48 #[.pointer (some ⟨g, 0, none⟩), .agg #[.int .i64 o, .int .i64 a, .int .i64 b, .int .i64 c, .int .i64 n]] w fun e w' => e = .returned (.tuple #[]) ∧
      Blk w' g 62 (cs.setIfInBounds 2 (.int .i64 (wrap64 (p + n)))) ∧ Fr g g none w w' := by
  refine (jump_any w g cs hb o n a b c p hcp).mono ?_
  rintro e w' ⟨rfl, rfl⟩
  exact ⟨rfl, (hb.alloc _).drew.set_ 2 _, ((Fr.refl g g none w).alloc _).drew.set_ (.inl rfl) _⟩

theorem zero_yes (w : World) (g : Nat) (cs : Array Value) (hb : Blk w g 62 cs) (o n : Int) (a b c : Nat) (x p : Int) (ha : a < 16) (hca : cs[3 + a]? = some (.int .i64 x)) (hcp : cs[2]? = some (.int .i64 p)) (hx : (x == 0) = true) :
    Calls Try.prog 49 #[.pointer (some ⟨g, 0, none⟩), .agg #[.int .i64 o, .int .i64 a, .int .i64 b, .int .i64 c, .int .i64 n]] w fun e w' => e = .returned (.tuple #[]) ∧
      Blk w' g 62 (cs.setIfInBounds 2 (.int .i64 (wrap64 (p + n)))) ∧ Fr g g none w w' := by
  have hlt := hb.lt
  go_enter Try.func49, Try.ntmps49
  go_wp2
  refine st_all (by kernel_rfl) (by kernel_rfl) ?_
  intro W hW
  have kb := old_cells hb _ W hW
  have kc := box_cells w _ _ W hW
  have jF : Fr g g none w W := by rw [← hW]; exact ((Fr.refl g g none w).alloc _).drew
  have h1 : W.cell? ⟨g, 3 + a, none⟩ = some (.int .i64 x) := kb.get hca
  have k0 : W.cell? ⟨w.heap.size, 0, none⟩ = some (.int .i64 o) := kc 0
  have k1 : W.cell? ⟨w.heap.size, 1, none⟩ = some (.int .i64 a) := kc 1
  have k2 : W.cell? ⟨w.heap.size, 2, none⟩ = some (.int .i64 b) := kc 2
  have k3 : W.cell? ⟨w.heap.size, 3, none⟩ = some (.int .i64 c) := kc 3
  have k4 : W.cell? ⟨w.heap.size, 4, none⟩ = some (.int .i64 n) := kc 4
  have a1 : (a : Int) < 16 := by omega
  clear hW kc hb hca
  repeat still_step
  refine wpStill_nil ?_
  go_wp2_with fail
  refine (jump_rel W g cs kb o n a b c p hcp).mono ?_
  rintro e w1 ⟨rfl, jb, iF⟩
  clear h1 k0 k1 k2 k3 k4 kb hcp hx
  go_wp2
  go_end0
  exact ⟨rfl, jb, jF.trans iF⟩

theorem zero_no (w : World) (g : Nat) (cs : Array Value) (hb : Blk w g 62 cs) (o n : Int) (a b c : Nat) (x p : Int) (ha : a < 16) (hca : cs[3 + a]? = some (.int .i64 x)) (hcp : cs[2]? = some (.int .i64 p)) (hx : (x == 0) = false) :
    Calls Try.prog 49 #[.pointer (some ⟨g, 0, none⟩), .agg #[.int .i64 o, .int .i64 a, .int .i64 b, .int .i64 c, .int .i64 n]] w fun e w' => e = .returned (.tuple #[]) ∧
      Blk w' g 62 cs ∧ Fr g g none w w' := by
  have hlt := hb.lt
  go_enter Try.func49, Try.ntmps49
  go_wp2
  refine st_all (by kernel_rfl) (by kernel_rfl) ?_
  intro W hW
  have kb := old_cells hb _ W hW
  have kc := box_cells w _ _ W hW
  have jF : Fr g g none w W := by rw [← hW]; exact ((Fr.refl g g none w).alloc _).drew
  have h1 : W.cell? ⟨g, 3 + a, none⟩ = some (.int .i64 x) := kb.get hca
  have k0 : W.cell? ⟨w.heap.size, 0, none⟩ = some (.int .i64 o) := kc 0
  have k1 : W.cell? ⟨w.heap.size, 1, none⟩ = some (.int .i64 a) := kc 1
  have k2 : W.cell? ⟨w.heap.size, 2, none⟩ = some (.int .i64 b) := kc 2
  have k3 : W.cell? ⟨w.heap.size, 3, none⟩ = some (.int .i64 c) := kc 3
  have k4 : W.cell? ⟨w.heap.size, 4, none⟩ = some (.int .i64 n) := kc 4
  have a1 : (a : Int) < 16 := by omega
  clear hW kc hb hca
  repeat still_step
  refine wpStill_nil ?_
  clear k0 k1 k2 k3 k4 hcp h1
  go_wp2
  go_end0
  exact ⟨rfl, kb, jF⟩

theorem some_yes (w : World) (g : Nat) (cs : Array Value) (hb : Blk w g 62 cs) (o n : Int) (a b c : Nat) (x p : Int) (ha : a < 16) (hca : cs[3 + a]? = some (.int .i64 x)) (hcp : cs[2]? = some (.int .i64 p)) (hx : (x != 0) = true) :
    Calls Try.prog 50 #[.pointer (some ⟨g, 0, none⟩), .agg #[.int .i64 o, .int .i64 a, .int .i64 b, .int .i64 c, .int .i64 n]] w fun e w' => e = .returned (.tuple #[]) ∧
      Blk w' g 62 (cs.setIfInBounds 2 (.int .i64 (wrap64 (p + n)))) ∧ Fr g g none w w' := by
  have hlt := hb.lt
  go_enter Try.func50, Try.ntmps50
  go_wp2
  refine st_all (by kernel_rfl) (by kernel_rfl) ?_
  intro W hW
  have kb := old_cells hb _ W hW
  have kc := box_cells w _ _ W hW
  have jF : Fr g g none w W := by rw [← hW]; exact ((Fr.refl g g none w).alloc _).drew
  have h1 : W.cell? ⟨g, 3 + a, none⟩ = some (.int .i64 x) := kb.get hca
  have k0 : W.cell? ⟨w.heap.size, 0, none⟩ = some (.int .i64 o) := kc 0
  have k1 : W.cell? ⟨w.heap.size, 1, none⟩ = some (.int .i64 a) := kc 1
  have k2 : W.cell? ⟨w.heap.size, 2, none⟩ = some (.int .i64 b) := kc 2
  have k3 : W.cell? ⟨w.heap.size, 3, none⟩ = some (.int .i64 c) := kc 3
  have k4 : W.cell? ⟨w.heap.size, 4, none⟩ = some (.int .i64 n) := kc 4
  have a1 : (a : Int) < 16 := by omega
  clear hW kc hb hca
  repeat still_step
  refine wpStill_nil ?_
  go_wp2_with fail
  refine (jump_rel W g cs kb o n a b c p hcp).mono ?_
  rintro e w1 ⟨rfl, jb, iF⟩
  clear h1 k0 k1 k2 k3 k4 kb hcp hx
  go_wp2
  go_end0
  exact ⟨rfl, jb, jF.trans iF⟩

theorem some_no (w : World) (g : Nat) (cs : Array Value) (hb : Blk w g 62 cs) (o n : Int) (a b c : Nat) (x p : Int) (ha : a < 16) (hca : cs[3 + a]? = some (.int .i64 x)) (hcp : cs[2]? = some (.int .i64 p)) (hx : (x != 0) = false) :
    Calls Try.prog 50 #[.pointer (some ⟨g, 0, none⟩), .agg #[.int .i64 o, .int .i64 a, .int .i64 b, .int .i64 c, .int .i64 n]] w fun e w' => e = .returned (.tuple #[]) ∧
      Blk w' g 62 cs ∧ Fr g g none w w' := by
  have hlt := hb.lt
  go_enter Try.func50, Try.ntmps50
  go_wp2
  refine st_all (by kernel_rfl) (by kernel_rfl) ?_
  intro W hW
  have kb := old_cells hb _ W hW
  have kc := box_cells w _ _ W hW
  have jF : Fr g g none w W := by rw [← hW]; exact ((Fr.refl g g none w).alloc _).drew
  have h1 : W.cell? ⟨g, 3 + a, none⟩ = some (.int .i64 x) := kb.get hca
  have k0 : W.cell? ⟨w.heap.size, 0, none⟩ = some (.int .i64 o) := kc 0
  have k1 : W.cell? ⟨w.heap.size, 1, none⟩ = some (.int .i64 a) := kc 1
  have k2 : W.cell? ⟨w.heap.size, 2, none⟩ = some (.int .i64 b) := kc 2
  have k3 : W.cell? ⟨w.heap.size, 3, none⟩ = some (.int .i64 c) := kc 3
  have k4 : W.cell? ⟨w.heap.size, 4, none⟩ = some (.int .i64 n) := kc 4
  have a1 : (a : Int) < 16 := by omega
  clear hW kc hb hca
  repeat still_step
  refine wpStill_nil ?_
  clear k0 k1 k2 k3 k4 hcp h1
  go_wp2
  go_end0
  exact ⟨rfl, kb, jF⟩

theorem read_none (w : World) (g : Nat) (cs : Array Value) (hb : Blk w g 62 cs) (o n : Int) (a b c : Nat) (va : Value) (ha : a < 16) (hca : cs[3 + a]? = some va) (A : Option Addr) (c2 : Nat) (hci : cs[20]? = some (.slice A 0 c2)) :
    Calls Try.prog 54 #[.pointer (some ⟨g, 0, none⟩), .agg #[.int .i64 o, .int .i64 a, .int .i64 b, .int .i64 c, .int .i64 n]] w fun e w' => e = .returned (.tuple #[]) ∧
      Blk w' g 62 (cs.setIfInBounds (3 + a) (.int .i64 (-1))) ∧ Fr g g none w w' := by
  have hlt := hb.lt
  have z1 : w.cell? ⟨g, 20, none⟩ = some (.slice A 0 c2) := hb.get hci
  go_enter Try.func54, Try.ntmps54
  go_wp2
  refine st_tail 6 (by kernel_rfl) (by kernel_rfl) ?_
  intro W hW
  have kb := old_cells hb _ W hW
  have kc := box_cells w _ _ W hW
  have h1 : W.cell? ⟨g, 3 + a, none⟩ = some (va) := (kb.cell _).trans hca
  have k1 : W.cell? ⟨w.heap.size, 1, none⟩ = some (.int .i64 a) := kc 1
  have hf : W.frozen? ⟨g, 3 + a, none⟩ = false := kb.frozen _
  have HW := Lib.hid hW
  have jF : Fr g g none w W := by rw [← hW]; exact ((Fr.refl g g none w).alloc _).drew
  clear hW kc z1
  have a1 : (a : Int) < 16 := by omega
  simp only [List.take_succ_cons, List.take_zero, List.drop_succ_cons, List.drop_zero]
  repeat still_step
  refine wpStill_nil ?_
  go_wp2
  refine bodyPost_ret (results_none rfl _ _ _) rfl ?_
  exact ⟨rfl, kb.set_ _ _, jF.set_ (.inl rfl) _⟩

theorem read_some (w : World) (g : Nat) (cs : Array Value) (hb : Blk w g 62 cs) (o n : Int) (a b c : Nat) (va : Value) (ha : a < 16) (hca : cs[3 + a]? = some va) (ib off l c2 : Nat) (cur : Array Value) (x : Int) (hx0 : 0 ≤ x) (hx1 : x ≤ 255) (hi : Blk w ib 5 cur) (hci : cs[20]? = some (.slice (some ⟨ib, off, none⟩) (l + 1) c2)) (hx : cur[off]? = some (.int .u8 x)) (hl : l + 1 ≤ c2) (hc64 : c2 ≤ 9223372036854775807) :
    Calls Try.prog 54 #[.pointer (some ⟨g, 0, none⟩), .agg #[.int .i64 o, .int .i64 a, .int .i64 b, .int .i64 c, .int .i64 n]] w fun e w' => e = .returned (.tuple #[]) ∧
      Blk w' g 62 ((cs.setIfInBounds (3 + a) (.int .i64 x)).setIfInBounds 20 (.slice (some ⟨ib, if c2 = 1 then off else off + 1, none⟩) l (c2 - 1))) ∧ Fr g g none w w' := by
  have hlt := hb.lt
  have hig : ib ≠ g := hi.ne_ hb (by decide)
  have z1 : w.cell? ⟨g, 20, none⟩ = some (.slice (some ⟨ib, off, none⟩) (l + 1) c2) := hb.get hci
  have d1 : (((l + 1 : Nat) : Int) == 0) = false := by simp; omega
  go_enter Try.func54, Try.ntmps54
  go_wp2
  refine st_tail 13 (by kernel_rfl) (by kernel_rfl) ?_
  intro W hW
  have kb := old_cells hb _ W hW
  have kc := box_cells w _ _ W hW
  have h1 : W.cell? ⟨g, 3 + a, none⟩ = some (va) := (kb.cell _).trans hca
  have h2 : W.cell? ⟨g, 20, none⟩ = some (.slice (some ⟨ib, off, none⟩) (l + 1) c2) := (kb.cell _).trans hci
  have k1 : W.cell? ⟨w.heap.size, 1, none⟩ = some (.int .i64 a) := kc 1
  have hf : W.frozen? ⟨g, 3 + a, none⟩ = false := kb.frozen _
  have HW := Lib.hid hW
  have jF : Fr g g none w W := by rw [← hW]; exact ((Fr.refl g g none w).alloc _).drew
  have hxc : W.cell? ⟨ib, off, none⟩ = some (.int .u8 x) := by
    have ki : Blk W ib 5 cur := by rw [← hW]; exact hi.alloc _
    exact ki.get hx
  have hf20 : W.frozen? ⟨g, 20, none⟩ = false := kb.frozen _
  clear hW kc z1
  have a1 : (a : Int) < 16 := by omega
  simp only [List.take_succ_cons, List.take_zero, List.drop_succ_cons, List.drop_zero]
  repeat still_step
  refine wpStill_nil ?_
  by_cases h1c : c2 = 1
  · subst h1c
    obtain rfl : l = 0 := by omega
    go_wp2
    go_end0
    exact ⟨rfl, (kb.set_ _ _).set_ _ _, (jF.set_ (.inl rfl) _).set_ (.inl rfl) _⟩
  · go_wp2
    go_end0
    exact ⟨rfl, (kb.set_ _ _).set_ _ _, (jF.set_ (.inl rfl) _).set_ (.inl rfl) _⟩

theorem write_full (w : World) (g : Nat) (cs : Array Value) (hb : Blk w g 62 cs) (o n : Int) (a b c : Nat) (A : Option Addr) (m c2 : Nat) (hco : cs[21]? = some (.slice A m c2)) (hm : (decide ((m : Int) < 4096)) = false) :
    Calls Try.prog 55 #[.pointer (some ⟨g, 0, none⟩), .agg #[.int .i64 o, .int .i64 a, .int .i64 b, .int .i64 c, .int .i64 n]] w fun e w' => e = .returned (.tuple #[]) ∧
      Blk w' g 62 cs ∧ Fr g g none w w' := by
  have hlt := hb.lt
  have z1 : w.cell? ⟨g, 21, none⟩ = some (.slice A m c2) := hb.get hco
  have hm2 : ¬ (m : Int) < 4096 := by simpa using hm
  go_enter Try.func55, Try.ntmps55
  go_wp2
  go_end0
  exact ⟨rfl, hb.alloc _, (Fr.refl g g none w).alloc _⟩

set_option maxHeartbeats 4000000 in
theorem push_out (w : World) (g m : Nat) (cs : Array Value) (hb : Blk w g 62 cs) (A : Option Addr) (m2 : Nat) (hcm : cs[19]? = some (.slice A m m2)) (x p : Int) (hcx : cs[18]? = some (.int .i64 x)) (hcp : cs[2]? = some (.int .i64 p)) (k : Int) (hk : k < 0 ∨ (m : Int) ≤ k) (hsum : wrap64 (x - 1) = k) :
    Calls Try.prog 67 #[.pointer (some ⟨g, 0, none⟩)] w fun e w' => e = .panicked [{ v := .iface 60 (.agg #[.int .i64 5, .int .i64 0]), recovered := false }] ∧ w' = w.drew := by
  have z1 : w.cell? ⟨g, 18, none⟩ = some (.int .i64 x) := hb.get hcx
  have z2 : w.cell? ⟨g, 2, none⟩ = some (.int .i64 p) := hb.get hcp
  have hlt := hb.lt
  go_enter Try.func67, Try.ntmps67
  go_wp2
  clear z1
  go_region_dies
  all_goals
    refine (cell_out w.drew g m cs hb.drew A m2 hcm k hk).mono ?_
    rintro e w' ⟨rfl, rfl⟩
    exact ⟨rfl, rfl, rfl⟩

theorem call_out (w : World) (g m : Nat) (cs : Array Value) (hb : Blk w g 62 cs) (o n : Int) (a b c : Nat) (A : Option Addr) (m2 : Nat) (hcm : cs[19]? = some (.slice A m m2)) (x p : Int) (hcx : cs[18]? = some (.int .i64 x)) (hcp : cs[2]? = some (.int .i64 p)) (k : Int) (hk : k < 0 ∨ (m : Int) ≤ k) (hsum : wrap64 (x - 1) = k) :
    Calls Try.prog 51 #[.pointer (some ⟨g, 0, none⟩), .agg #[.int .i64 o, .int .i64 a, .int .i64 b, .int .i64 c, .int .i64 n]] w fun e w' => e = .panicked [{ v := .iface 60 (.agg #[.int .i64 5, .int .i64 0]), recovered := false }] ∧ w' = (w.alloc (.cells (instC o a b c n) 52)).drew := by
  go_enter Try.func51, Try.ntmps51
  go_wp2_with fail
  refine (push_out _ g m cs (hb.alloc _) A m2 hcm x p hcx hcp k hk hsum).mono ?_
  rintro e w' ⟨rfl, rfl⟩
  exact ⟨rfl, rfl, rfl⟩

theorem at_out (w : World) (g m : Nat) (cs : Array Value) (hb : Blk w g 62 cs) (o n : Int) (a b c : Nat) (A : Option Addr) (m2 : Nat) (hcm : cs[19]? = some (.slice A m m2)) (x p : Int) (hcx : cs[18]? = some (.int .i64 x)) (hcp : cs[2]? = some (.int .i64 p)) (k : Int) (hk : k < 0 ∨ (m : Int) ≤ k) (hsum : wrap64 (x - 1) = k) :
    Calls Try.prog 52 #[.pointer (some ⟨g, 0, none⟩), .agg #[.int .i64 o, .int .i64 a, .int .i64 b, .int .i64 c, .int .i64 n]] w fun e w' => e = .panicked [{ v := .iface 60 (.agg #[.int .i64 5, .int .i64 0]), recovered := false }] ∧ w' = (w.alloc (.cells (instC o a b c n) 52)).drew := by
  go_enter Try.func52, Try.ntmps52
  go_wp2_with fail
  refine (push_out _ g m cs (hb.alloc _) A m2 hcm x p hcx hcp k hk hsum).mono ?_
  rintro e w' ⟨rfl, rfl⟩
  exact ⟨rfl, rfl, rfl⟩

theorem ret_out (w : World) (g m : Nat) (cs : Array Value) (hb : Blk w g 62 cs) (o n : Int) (a b c : Nat) (A : Option Addr) (m2 : Nat) (hcm : cs[19]? = some (.slice A m m2)) (k : Int) (hcx : cs[18]? = some (.int .i64 k)) (hk : k < 0 ∨ (m : Int) ≤ k) :
    Calls Try.prog 53 #[.pointer (some ⟨g, 0, none⟩), .agg #[.int .i64 o, .int .i64 a, .int .i64 b, .int .i64 c, .int .i64 n]] w fun e w' => e = .panicked [{ v := .iface 60 (.agg #[.int .i64 5, .int .i64 0]), recovered := false }] ∧ w' = w.alloc (.cells (instC o a b c n) 52) := by
  have z1 : w.cell? ⟨g, 18, none⟩ = some (.int .i64 k) := hb.get hcx
  have hlt := hb.lt
  go_enter Try.func53, Try.ntmps53
  go_wp2_with fail
  refine (cell_out _ g m cs (hb.alloc _) A m2 hcm k hk).mono ?_
  rintro e w' ⟨rfl, rfl⟩
  exact ⟨rfl, rfl, rfl⟩

end Go.Proofs.Ytikgghioneiegaa
