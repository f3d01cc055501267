/-
  The machine's instructions: the stack, bytes, jumps: walks.
-/
import Derived.Test.YtikgghioneiegaaMachA
import Derived.Test.YtikgghioneiegaaWordM
import Derived.Deep.RegionWith
import Derived.RegionDies
namespace Go.Proofs.Ytikgghioneiegaa
open Go.RowKit
set_option linter.unusedVariables false

/-- Only the blocks g, mb and that of ov have turned. -/
structure Fr (g mb : Nat) (ov : Option Nat) (w w' : World) : Prop where
  os : w'.os = w.os
  tape : w'.tape = w.tape
  output : w'.output = w.output
  size : w.heap.size ≤ w'.heap.size
  block : ∀ k, k < w.heap.size → k ≠ g → k ≠ mb → some k ≠ ov → w'.heap[k]? = w.heap[k]?
theorem Fr.refl (g mb : Nat) (ov : Option Nat) (w : World) : Fr g mb ov w w := ⟨rfl, rfl, rfl, Nat.le_refl _, fun _ _ _ _ _ => rfl⟩
theorem Fr.drew {g mb : Nat} {ov : Option Nat} {w w' : World} (h : Fr g mb ov w w') : Fr g mb ov w w'.drew := ⟨h.os, h.tape, h.output, h.size, h.block⟩
theorem Fr.drewN {g mb : Nat} {ov : Option Nat} {w w' : World} (h : Fr g mb ov w w') (n : Nat) : Fr g mb ov w (w'.drewN n) := ⟨h.os, h.tape, h.output, h.size, h.block⟩
theorem Fr.alloc {g mb : Nat} {ov : Option Nat} {w w' : World} (h : Fr g mb ov w w') (o : Obj) : Fr g mb ov w (w'.alloc o) :=
  ⟨h.os, h.tape, h.output, Nat.le_trans h.size (by simp), fun k hk h1 h2 h3 => (Below.heap_alloc w' o k (Nat.lt_of_lt_of_le hk h.size)).trans (h.block k hk h1 h2 h3)⟩
theorem Fr.set_ {g mb : Nat} {ov : Option Nat} {w w' : World} (h : Fr g mb ov w w') {p : Addr} (hp : p.block = g ∨ p.block = mb ∨ some p.block = ov ∨ w.heap.size ≤ p.block) (u : Value) : Fr g mb ov w (w'.setCell p u) :=
  ⟨h.os, h.tape, h.output, by simpa [World.setCell] using h.size, fun k hk h1 h2 h3 => (Below.heap_setCell w' p u k (by
    rintro rfl
    rcases hp with hp | hp | hp | hp
    · exact h1 hp
    · exact h2 hp
    · exact h3 hp
    · omega)).trans (h.block k hk h1 h2 h3)⟩
theorem Fr.trans {g mb : Nat} {ov : Option Nat} {a b c : World} (h : Fr g mb ov a b) (k : Fr g mb ov b c) : Fr g mb ov a c :=
  ⟨k.os.trans h.os, k.tape.trans h.tape, k.output.trans h.output, Nat.le_trans h.size k.size, fun i hi h1 h2 h3 => (k.block i (Nat.lt_of_lt_of_le hi h.size) h1 h2 h3).trans (h.block i hi h1 h2 h3)⟩
theorem Fr.grown {g mb : Nat} {ov : Option Nat} {w w1 w2 : World} (h : Fr g mb ov w w1) (k : w1.grownBy w2 ov) : Fr g mb ov w w2 :=
  ⟨k.os.trans h.os, k.tape.trans h.tape, k.output.trans h.output, Nat.le_trans h.size k.size, fun i hi h1 h2 h3 => (k.block i (Nat.lt_of_lt_of_le hi h.size) h3).trans (h.block i hi h1 h2 h3)⟩
theorem Fr.below {g mb : Nat} {ov : Option Nat} {w w1 w2 : World} (h : Fr g mb ov w w1) (k : Below w1.heap.size w1 w2) : Fr g mb ov w w2 :=
  ⟨k.os.trans h.os, k.tape.trans h.tape, k.output.trans h.output, Nat.le_trans h.size k.size, fun i hi h1 h2 h3 => (k.block i (Nat.lt_of_lt_of_le hi h.size)).trans (h.block i hi h1 h2 h3)⟩
theorem Fr.toBelow {g mb : Nat} {ov : Option Nat} {w w' : World} {B : Nat} (h : Fr g mb ov w w') (hg : B ≤ g) (hm : B ≤ mb) (ho : ∀ k, ov = some k → B ≤ k) (hB : B ≤ w.heap.size) : Below B w w' :=
  ⟨h.os, h.tape, h.output, h.size, fun k hk => h.block k (by omega) (by omega) (by omega) (fun e => by have := ho k e.symm; omega)⟩
theorem Fr.widen {g mb : Nat} {ov : Option Nat} {w w' : World} (h : Fr g mb none w w') : Fr g mb ov w w' := ⟨h.os, h.tape, h.output, h.size, fun k hk h1 h2 _ => h.block k hk h1 h2 (by simp)⟩
theorem Blk.fr {g mb : Nat} {ov : Option Nat} {w w' : World} {b : Nat} {t : TypeId} {cs : Array Value} (h : Blk w b t cs) (f : Fr g mb ov w w') (h1 : b ≠ g) (h2 : b ≠ mb) (h3 : some b ≠ ov) : Blk w' b t cs :=
  (f.block b h.lt h1 h2 h3).trans h
theorem wrap_is (n : Int) : IntKind.i64.wrap n = wrap64 n := by rw [IntKind.wrap_i64]; unfold wrap64; rfl
theorem Blk.get {w : World} {g : Nat} {t : TypeId} {cs : Array Value} (h : Blk w g t cs) {i : Nat} {v : Value} (hv : cs[i]? = some v) : w.cell? ⟨g, i, none⟩ = some v := (h.cell i).trans hv
theorem set_get {cs : Array Value} {i : Nat} {u v : Value} (h : cs[i]? = some u) : (cs.setIfInBounds i v)[i]? = some v := by
  have hi : i < cs.size := by
    rcases Nat.lt_or_ge i cs.size with h' | h'
    · exact h'
    · rw [Array.getElem?_eq_none h'] at h; cases h
  simp [hi]
theorem set_get_ne {cs : Array Value} {i j : Nat} {v : Value} (h : i ≠ j) : (cs.setIfInBounds i v)[j]? = cs[j]? := Array.getElem?_setIfInBounds_ne h
theorem st_all {P : Program} {id : Nat} {Q : Exit → Act → World → Prop} {a : Act} {w : World} {l : List Oper} (hm : P.follows .mixedOrders = true) (hB : Region.lexB .any l.toArray = true)
    (h : ∀ W, w.drew = W → wpStill P l.toArray W (fun a' => Q .normal a' W) l a) : (Code.region id l.toArray true).wp P Q a w :=
  wp_region_still_lit hm hB (h _ rfl)
theorem same_left {P : Program} {f : FuncId} {args : Array Value} {w : World} {v : Value} (h : Calls P f args w fun e w' => e = .returned v ∧ w = w') : Calls P f args w fun e w' => e = .returned v ∧ w' = w :=
  h.mono fun _ _ h => ⟨h.1, h.2.symm⟩

theorem push_in (w : World) (g : Nat) (cs : Array Value) (hb : Blk w g 62 cs) (p x : Int) (mb m m2 k : Nat) (vm : Value) (ms : Array Value) (hm : Blk w mb 2 ms) (hcp : cs[2]? = some (.int .i64 p)) (hcx : cs[18]? = some (.int .i64 x)) (hcm : cs[19]? = some (.slice (some ⟨mb, 0, none⟩) m m2)) (hk : k < m) (hmk : ms[k]? = some vm) (hsum : wrap64 (x - 1) = (k : Int)) :
    Calls Try.prog 67 #[.pointer (some ⟨g, 0, none⟩)] w fun e w' => e = .returned (.tuple #[]) ∧
      Blk w' g 62 (cs.setIfInBounds 18 (.int .i64 (k : Int))) ∧ Blk w' mb 2 (ms.setIfInBounds k (.int .i64 p)) ∧ Fr g mb none w w' := by
  have hlt := hb.lt
  have hgm : g ≠ mb := hb.ne_ hm (by decide)
  have hmg : mb ≠ g := hgm.symm
  have z1 : w.cell? ⟨g, 18, none⟩ = some (.int .i64 x) := hb.get hcx
  go_enter Try.func67, Try.ntmps67
  go_wp2
  refine st_tail 8 (by kernel_rfl) (by kernel_rfl) ?_
  intro W hW
  have kb : Blk W g 62 cs := by rw [← hW]; exact hb
  have km : Blk W mb 2 ms := by rw [← hW]; exact hm
  have h1 : W.cell? ⟨g, 2, none⟩ = some (.int .i64 p) := kb.get hcp
  have h3 : W.cell? ⟨mb, k, none⟩ = some vm := km.get hmk
  have f1 : W.frozen? ⟨mb, k, none⟩ = false := km.frozen _
  have h2 : W.cell? ⟨g, 18, none⟩ = some (.int .i64 x) := kb.get hcx
  have f2 : W.frozen? ⟨g, 18, none⟩ = false := kb.frozen _
  have HW := Lib.hid hW
  clear hW z1
  simp only [hsum]
  simp only [List.take_succ_cons, List.take_zero, List.drop_succ_cons, List.drop_zero]
  repeat still_step
  still_call (cell_in W g mb m cs kb k m2 hcm hk)
  repeat still_step
  refine wpStill_nil ?_
  clear hsum
  go_wp2
  go_end0
  exact ⟨rfl, (kb.far (p := ⟨mb, k, none⟩) hgm _).set_ 18 _, (km.set_ k _).far (p := ⟨g, 18, none⟩) hmg _, ((HW.out ▸ (Fr.refl g mb none w).drew).set_ (.inr (.inl rfl)) _).set_ (.inl rfl) _⟩

theorem call_in (w : World) (g : Nat) (cs : Array Value) (hb : Blk w g 62 cs) (o n : Int) (a b c : Nat) (p x : Int) (mb m m2 k : Nat) (vm : Value) (ms : Array Value) (hm : Blk w mb 2 ms) (hcp : cs[2]? = some (.int .i64 p)) (hcx : cs[18]? = some (.int .i64 x)) (hcm : cs[19]? = some (.slice (some ⟨mb, 0, none⟩) m m2)) (hk : k < m) (hmk : ms[k]? = some vm) (hsum : wrap64 (x - 1) = (k : Int)) :
    Calls Try.prog 51 #[.pointer (some ⟨g, 0, none⟩), .agg #[.int .i64 o, .int .i64 a, .int .i64 b, .int .i64 c, .int .i64 n]] w fun e w' => e = .returned (.tuple #[]) ∧
      Blk w' g 62 ((cs.setIfInBounds 18 (.int .i64 (k : Int))).setIfInBounds 2 (.int .i64 n)) ∧ Blk w' mb 2 (ms.setIfInBounds k (.int .i64 p)) ∧ Fr g mb none w w' := by
  have hgm : g ≠ mb := hb.ne_ hm (by decide)
  have lg := hb.lt
  have lm := hm.lt
  go_enter Try.func51, Try.ntmps51
  go_wp2_with fail
  refine (push_in _ g cs (hb.alloc _) p x mb m m2 k vm ms (hm.alloc _) hcp hcx hcm hk hmk hsum).mono ?_
  rintro e w1 ⟨rfl, kb, km, hf⟩
  have kx : Blk w1 w.heap.size 52 (instC o a b c n) := (Blk.new w _ _).fr hf (by omega) (by omega) (by simp)
  have hF : Fr g mb none w w1 := ((Fr.refl g mb none w).alloc _).trans hf
  have hgs : g ≠ w.heap.size := by omega
  have q4 : w1.cell? ⟨w.heap.size, 4, none⟩ = some (.int .i64 n) := kx.get (i := 4) rfl
  have q2 : w1.cell? ⟨g, 2, none⟩ = some (.int .i64 p) := kb.get ((set_get_ne (by decide)).trans hcp)
  have qf : w1.frozen? ⟨g, 2, none⟩ = false := kb.frozen _
  clear hsum
  go_wp2
  go_end0
  exact ⟨rfl, kb.set_ 2 _, km.far (p := ⟨g, 2, none⟩) hgm.symm _, hF.set_ (.inl rfl) _⟩

theorem at_in (w : World) (g : Nat) (cs : Array Value) (hb : Blk w g 62 cs) (o n : Int) (a b c : Nat) (y : Int) (ha : a < 16) (p x : Int) (mb m m2 k : Nat) (vm : Value) (ms : Array Value) (hm : Blk w mb 2 ms) (hcp : cs[2]? = some (.int .i64 p)) (hcx : cs[18]? = some (.int .i64 x)) (hcm : cs[19]? = some (.slice (some ⟨mb, 0, none⟩) m m2)) (hk : k < m) (hmk : ms[k]? = some vm) (hsum : wrap64 (x - 1) = (k : Int)) (hca : (cs.setIfInBounds 18 (.int .i64 (k : Int)))[3 + a]? = some (.int .i64 y)) :
    Calls Try.prog 52 #[.pointer (some ⟨g, 0, none⟩), .agg #[.int .i64 o, .int .i64 a, .int .i64 b, .int .i64 c, .int .i64 n]] w fun e w' => e = .returned (.tuple #[]) ∧
      Blk w' g 62 ((cs.setIfInBounds 18 (.int .i64 (k : Int))).setIfInBounds 2 (.int .i64 y)) ∧ Blk w' mb 2 (ms.setIfInBounds k (.int .i64 p)) ∧ Fr g mb none w w' := by
  have hgm : g ≠ mb := hb.ne_ hm (by decide)
  have lg := hb.lt
  have lm := hm.lt
  go_enter Try.func52, Try.ntmps52
  go_wp2_with fail
  refine (push_in _ g cs (hb.alloc _) p x mb m m2 k vm ms (hm.alloc _) hcp hcx hcm hk hmk hsum).mono ?_
  rintro e w1 ⟨rfl, kb, km, hf⟩
  have kx : Blk w1 w.heap.size 52 (instC o a b c n) := (Blk.new w _ _).fr hf (by omega) (by omega) (by simp)
  have hF : Fr g mb none w w1 := ((Fr.refl g mb none w).alloc _).trans hf
  have hgs : g ≠ w.heap.size := by omega
  clear hsum hf
  go_wp2
  refine st_tail 10 (by kernel_rfl) (by kernel_rfl) ?_
  intro W hW
  have jb : Blk W g 62 (cs.setIfInBounds 18 (.int .i64 (k : Int))) := by rw [← hW]; exact kb
  have jm : Blk W mb 2 (ms.setIfInBounds k (.int .i64 p)) := by rw [← hW]; exact km
  have jx : Blk W w.heap.size 52 (instC o a b c n) := by rw [← hW]; exact kx
  have jF : Fr g mb none w W := by rw [← hW]; exact hF.drew
  have q1 : W.cell? ⟨w.heap.size, 1, none⟩ = some (.int .i64 a) := jx.get (i := 1) rfl
  have q2 : W.cell? ⟨g, 2, none⟩ = some (.int .i64 p) := jb.get ((set_get_ne (by decide)).trans hcp)
  have q3 : W.cell? ⟨g, 3 + a, none⟩ = some (.int .i64 y) := jb.get hca
  have qf : W.frozen? ⟨g, 2, none⟩ = false := jb.frozen _
  have a1 : (a : Int) < 16 := by omega
  clear hW kb km kx hF jx hca hb hm hcp hcx hcm hmk
  simp only [List.take_succ_cons, List.take_zero, List.drop_succ_cons, List.drop_zero]
  repeat still_step
  refine wpStill_nil ?_
  go_wp2
  go_end0
  exact ⟨rfl, jb.set_ 2 _, jm.far (p := ⟨g, 2, none⟩) hgm.symm _, jF.set_ (.inl rfl) _⟩

theorem ret_in (w : World) (g : Nat) (cs : Array Value) (hb : Blk w g 62 cs) (o n : Int) (a b c : Nat) (vp : Value) (y : Int) (mb m m2 k : Nat) (ms : Array Value) (hm : Blk w mb 2 ms) (hcp : cs[2]? = some vp) (hcx : cs[18]? = some (.int .i64 (k : Int))) (hcm : cs[19]? = some (.slice (some ⟨mb, 0, none⟩) m m2)) (hk : k < m) (hmk : ms[k]? = some (.int .i64 y)) :
    Calls Try.prog 53 #[.pointer (some ⟨g, 0, none⟩), .agg #[.int .i64 o, .int .i64 a, .int .i64 b, .int .i64 c, .int .i64 n]] w fun e w' => e = .returned (.tuple #[]) ∧
      Blk w' g 62 ((cs.setIfInBounds 2 (.int .i64 y)).setIfInBounds 18 (.int .i64 (wrap64 ((k : Int) + 1)))) ∧ Blk w' mb 2 ms ∧ Fr g mb none w w' := by
  have hgm : g ≠ mb := hb.ne_ hm (by decide)
  have hmg := hgm.symm
  have lg := hb.lt
  have lm := hm.lt
  have z1 : w.cell? ⟨g, 18, none⟩ = some (.int .i64 (k : Int)) := hb.get hcx
  have z2 : w.cell? ⟨mb, k, none⟩ = some (.int .i64 y) := hm.get hmk
  have z3 : w.cell? ⟨g, 2, none⟩ = some vp := hb.get hcp
  have z4 : w.frozen? ⟨g, 2, none⟩ = false := hb.frozen _
  go_enter Try.func53, Try.ntmps53
  go_wp2_with (go_at_call 66; refine (cell_in _ g mb m cs (hb.alloc _) k m2 hcm hk).mono ?_; rintro e w' ⟨rfl, rfl⟩)
  refine st_tail 9 (by kernel_rfl) (by kernel_rfl) ?_
  intro W hW
  have jb : Blk W g 62 (cs.setIfInBounds 2 (.int .i64 y)) := by rw [← hW]; exact (hb.set_ 2 _).alloc _
  have jm : Blk W mb 2 ms := by rw [← hW]; exact (hm.far (p := ⟨g, 2, none⟩) hmg _).alloc _
  have jF : Fr g mb none w W := by rw [← hW]; exact (((Fr.refl g mb none w).set_ (.inl rfl) _).alloc _).drew
  have q1 : W.cell? ⟨g, 18, none⟩ = some (.int .i64 (k : Int)) := jb.get ((set_get_ne (by decide)).trans hcx)
  have qf : W.frozen? ⟨g, 18, none⟩ = false := jb.frozen _
  clear hW z1 z2 z3 z4 hb hm hcp hcx hcm hmk
  simp only [List.take_succ_cons, List.take_zero, List.drop_succ_cons, List.drop_zero]
  repeat still_step
  refine wpStill_nil ?_
  go_wp2
  go_end0
  exact ⟨rfl, jb.set_ 18 _, jm.far (p := ⟨g, 18, none⟩) hmg _, jF.set_ (.inl rfl) _⟩

theorem two_ok (w : World) (g : Nat) (cs : Array Value) (hb : Blk w g 62 cs) (o n : Int) (a b c : Nat) (x y q : Int) (va : Value) (ha : a < 16) (hb2 : b < 16) (hc2 : c < 16) (hca : cs[3 + a]? = some va) (hcb : cs[3 + b]? = some (.int .i64 x)) (hcc : cs[3 + c]? = some (.int .i64 y)) (hq : wrap64 (o - 16) = q) (hC : (C q y != 0) = false) :
    Calls Try.prog 58 #[.pointer (some ⟨g, 0, none⟩), .agg #[.int .i64 o, .int .i64 a, .int .i64 b, .int .i64 c, .int .i64 n]] w fun e w' => e = .returned (.tuple #[]) ∧
      Blk w' g 62 (cs.setIfInBounds (3 + a) (.int .i64 (V q x y))) ∧ Fr g g none w w' := by
  have hlt := hb.lt
  go_enter Try.func58, Try.ntmps58
  go_wp2
  refine st_all (by kernel_rfl) (by kernel_rfl) ?_
  intro W hW
  have kb := old_cells hb _ W hW
  have kc := box_cells w _ _ W hW
  have kx : Blk W w.heap.size 52 (instC o a b c n) := by rw [← hW]; exact Blk.new w _ _
  have jF : Fr g g none w W := by rw [← hW]; exact ((Fr.refl g g none w).alloc _).drew
  have h2 : W.cell? ⟨g, 3 + b, none⟩ = some (.int .i64 x) := kb.get hcb
  have h3 : W.cell? ⟨g, 3 + c, none⟩ = some (.int .i64 y) := kb.get hcc
  have k0 : W.cell? ⟨w.heap.size, 0, none⟩ = some (.int .i64 o) := kc 0
  have k2 : W.cell? ⟨w.heap.size, 2, none⟩ = some (.int .i64 b) := kc 2
  have k3 : W.cell? ⟨w.heap.size, 3, none⟩ = some (.int .i64 c) := kc 3
  have a1 : (a : Int) < 16 := by omega
  have b1 : (b : Int) < 16 := by omega
  have c1 : (c : Int) < 16 := by omega
  have s1 := (wrap_is _).trans hq
  clear hW kc hq hb
  repeat still_step
  still_call (same_left (bin_any _ _ _ W))
  repeat still_step
  refine wpStill_nil ?_
  clear k0 k2 k3 h2 h3 s1 b1 c1
  go_wp2
  refine st_tail 7 (by kernel_rfl) (by kernel_rfl) ?_
  intro U hU
  have jb : Blk U g 62 cs := by rw [← hU]; exact kb
  have iF : Fr g g none w U := by rw [← hU]; exact jF.drew
  have q1 : U.cell? ⟨w.heap.size, 1, none⟩ = some (.int .i64 a) := by rw [← hU]; exact kx.get (i := 1) rfl
  have q2 : U.cell? ⟨g, 3 + a, none⟩ = some va := jb.get hca
  have qf : U.frozen? ⟨g, 3 + a, none⟩ = false := jb.frozen _
  clear hU kx kb jF
  simp only [List.take_succ_cons, List.take_zero, List.drop_succ_cons, List.drop_zero]
  repeat still_step
  refine wpStill_nil ?_
  go_wp2
  go_end0
  exact ⟨rfl, jb.set_ _ _, iF.set_ (.inl rfl) _⟩

theorem two_bad (w : World) (g : Nat) (cs : Array Value) (hb : Blk w g 62 cs) (o n : Int) (a b c : Nat) (x y q : Int) (va : Value) (ha : a < 16) (hb2 : b < 16) (hc2 : c < 16) (hca : cs[3 + a]? = some va) (hcb : cs[3 + b]? = some (.int .i64 x)) (hcc : cs[3 + c]? = some (.int .i64 y)) (hq : wrap64 (o - 16) = q) (hC : (C q y != 0) = true) :
    Calls Try.prog 58 #[.pointer (some ⟨g, 0, none⟩), .agg #[.int .i64 o, .int .i64 a, .int .i64 b, .int .i64 c, .int .i64 n]] w fun e w' => e = .panicked [{ v := .iface 60 (.agg #[.int .i64 2, .int .i64 (C q y)]), recovered := false }] ∧
      Fr g g none w w' ∧ Blk w' g 62 cs := by
  have hlt := hb.lt
  go_enter Try.func58, Try.ntmps58
  go_wp2
  refine st_all (by kernel_rfl) (by kernel_rfl) ?_
  intro W hW
  have kb := old_cells hb _ W hW
  have kc := box_cells w _ _ W hW
  have kx : Blk W w.heap.size 52 (instC o a b c n) := by rw [← hW]; exact Blk.new w _ _
  have jF : Fr g g none w W := by rw [← hW]; exact ((Fr.refl g g none w).alloc _).drew
  have h2 : W.cell? ⟨g, 3 + b, none⟩ = some (.int .i64 x) := kb.get hcb
  have h3 : W.cell? ⟨g, 3 + c, none⟩ = some (.int .i64 y) := kb.get hcc
  have k0 : W.cell? ⟨w.heap.size, 0, none⟩ = some (.int .i64 o) := kc 0
  have k2 : W.cell? ⟨w.heap.size, 2, none⟩ = some (.int .i64 b) := kc 2
  have k3 : W.cell? ⟨w.heap.size, 3, none⟩ = some (.int .i64 c) := kc 3
  have a1 : (a : Int) < 16 := by omega
  have b1 : (b : Int) < 16 := by omega
  have c1 : (c : Int) < 16 := by omega
  have s1 := (wrap_is _).trans hq
  clear hW kc hq hb
  repeat still_step
  still_call (same_left (bin_any _ _ _ W))
  repeat still_step
  refine wpStill_nil ?_
  clear k0 k2 k3 h2 h3 s1 b1 c1
  go_wp2
  exact ⟨rfl, rfl, jF, kb⟩

end Go.Proofs.Ytikgghioneiegaa
