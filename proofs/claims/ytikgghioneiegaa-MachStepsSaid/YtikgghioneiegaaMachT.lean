/-
  Each instruction of the program does what the plain reading says.
-/
import Derived.Test.YtikgghioneiegaaMachS
namespace Go.Proofs.Ytikgghioneiegaa
open Go.RowKit
set_option linter.unusedVariables false

/-- What the method of an instruction answers. -/
def OpR (B : Nat) (L : Lay) (cd : List Int) (iv ov : Value) (w : World) (s : St) : Res → Ending → World → Prop
  | .did s', e, w' => e = .returned (.tuple #[]) ∧ Post B L cd iv ov w s' w'
  | .gave k c, e, w' => e = .panicked [{ v := .iface 60 (.agg #[.int .i64 k, .int .i64 c]), recovered := false }] ∧ Rep w' B L cd s iv ov ∧ Fr L.g L.mb ov.ownBlock w w'
section
variable {w : World} {B : Nat} {L : Lay} {cd : List Int} {s : St} {iv ov : Value}
theorem Rep.rel (h : Rep w B L cd s iv ov) {w' : World} {s' : St} (hm : Blk w' L.g 62 (mcells L cd.length s' iv ov)) (f : Fr L.g L.g none w w') (e1 : s'.mem = s.mem) (e2 : s'.inn = s.inn) (e3 : s'.out = s.out) : Post B L cd iv ov w s' w' :=
  h.post (f.to rfl) hm (by rw [e1]; exact h.mem.fr f (Ne.symm h.ne) (Ne.symm h.ne) (by simp)) (by rw [e2]; exact h.inn) e3 (by rw [e1])
theorem Rep.reg (h : Rep w B L cd s iv ov) {a : Nat} (ha : a < 16) (v : Int) (o : Obj) : Post B L cd iv ov w { s with r := upd s.r a v } ((w.alloc o).drew.setCell ⟨L.g, 3 + a, none⟩ (.int .i64 v)) := by
  refine h.rel ?_ (((Fr.refl L.g L.g none w).alloc _).drew.set_ (p := ⟨L.g, 3 + a, none⟩) (.inl rfl) _) rfl rfl rfl
  rw [← mcells_set L cd.length s iv ov ha v]
  exact (h.mach.alloc _).drew.set_ _ _
theorem Rep.out_ (h : Rep w B L cd s iv ov) {k c : Int} {e : Ending} {w' : World} (he : e = .panicked [{ v := .iface 60 (.agg #[.int .i64 k, .int .i64 c]), recovered := false }]) (hb : Below w.heap.size w w') : OpR B L cd iv ov w s (.gave k c) e w' :=
  ⟨he, h.keep hb, (Fr.refl _ _ _ w).below hb⟩
theorem below_bd (w : World) (o : Obj) : Below w.heap.size w (w.alloc o).drew := Below.drew ((Below.refl _ w).alloc (Nat.le_refl _) o)
theorem below_b (w : World) (o : Obj) : Below w.heap.size w (w.alloc o) := (Below.refl _ w).alloc (Nat.le_refl _) o

theorem op_halt (h : Rep w B L cd s iv ov) (a b c : Nat) (n : Int) : Calls Try.prog 41 #[.pointer (some ⟨L.g, 0, none⟩), .agg #[.int .i64 0, .int .i64 a, .int .i64 b, .int .i64 c, .int .i64 n]] w (OpR B L cd iv ov w s (act s 0 a b c n)) := by
  refine (halt_any w L.g _ h.mach 0 n a b c _ _ rfl rfl).mono ?_
  rintro e w' ⟨rfl, rfl⟩
  exact ⟨rfl, h.rel (s' := { s with kind := 1, code := 0 }) (((h.mach.set_ 22 _).set_ 23 _).alloc _) ((((Fr.refl L.g L.g none w).set_ (p := ⟨L.g, 22, none⟩) (.inl rfl) _).set_ (p := ⟨L.g, 23, none⟩) (.inl rfl) _).alloc _) rfl rfl rfl⟩
theorem op_trap (h : Rep w B L cd s iv ov) (a b c : Nat) (n : Int) : Calls Try.prog 42 #[.pointer (some ⟨L.g, 0, none⟩), .agg #[.int .i64 1, .int .i64 a, .int .i64 b, .int .i64 c, .int .i64 n]] w (OpR B L cd iv ov w s (act s 1 a b c n)) := by
  show Calls _ _ _ _ (OpR B L cd iv ov w s (.gave (trapOf n).1 (trapOf n).2))
  by_cases h1 : 1 ≤ n ∧ n ≤ 999
  · rw [show trapOf n = (2, n) by simp [trapOf, h1]]
    refine (trap_code w L.g 1 n a b c h1.1 h1.2).mono ?_
    rintro e w' ⟨rfl, rfl⟩
    exact h.out_ rfl (below_b _ _)
  by_cases h2 : n = 1000
  · rw [show trapOf n = (3, 0) by simp [trapOf, h2]]
    refine (trap_mem w L.g 1 n a b c h2).mono ?_
    rintro e w' ⟨rfl, rfl⟩
    exact h.out_ rfl (below_b _ _)
  by_cases h3 : n = 1001
  · rw [show trapOf n = (4, 0) by simp [trapOf, h3]]
    refine (trap_stack w L.g 1 n a b c h3).mono ?_
    rintro e w' ⟨rfl, rfl⟩
    exact h.out_ rfl (below_b _ _)
  rw [show trapOf n = (5, 0) by simp [trapOf, h1, h2, h3]]
  by_cases h4 : n < 1
  · refine (trap_low w L.g 1 n a b c h4).mono ?_
    rintro e w' ⟨rfl, rfl⟩
    exact h.out_ rfl (below_b _ _)
  · refine (trap_high w L.g 1 n a b c (by omega) (by simpa using h2) (by simpa using h3)).mono ?_
    rintro e w' ⟨rfl, rfl⟩
    exact h.out_ rfl (below_b _ _)
theorem op_move (h : Rep w B L cd s iv ov) (a b c : Nat) (n : Int) (ha : a < 16) (hb : b < 16) : Calls Try.prog 43 #[.pointer (some ⟨L.g, 0, none⟩), .agg #[.int .i64 2, .int .i64 a, .int .i64 b, .int .i64 c, .int .i64 n]] w (OpR B L cd iv ov w s (act s 2 a b c n)) := by
  refine (move_any w L.g _ h.mach 2 n a b c _ _ ha hb (mcells_reg _ _ _ _ _ ha) (mcells_reg _ _ _ _ _ hb)).mono ?_
  rintro e w' ⟨rfl, rfl⟩
  exact ⟨rfl, h.reg ha _ _⟩
theorem op_const (h : Rep w B L cd s iv ov) (a b c : Nat) (n : Int) (ha : a < 16) : Calls Try.prog 44 #[.pointer (some ⟨L.g, 0, none⟩), .agg #[.int .i64 3, .int .i64 a, .int .i64 b, .int .i64 c, .int .i64 n]] w (OpR B L cd iv ov w s (act s 3 a b c n)) := by
  refine (const_any w L.g _ h.mach 3 n a b c _ ha (mcells_reg _ _ _ _ _ ha)).mono ?_
  rintro e w' ⟨rfl, rfl⟩
  exact ⟨rfl, h.reg ha _ _⟩
theorem op_high (h : Rep w B L cd s iv ov) (a b c : Nat) (n : Int) (ha : a < 16) : Calls Try.prog 45 #[.pointer (some ⟨L.g, 0, none⟩), .agg #[.int .i64 4, .int .i64 a, .int .i64 b, .int .i64 c, .int .i64 n]] w (OpR B L cd iv ov w s (act s 4 a b c n)) := by
  refine (high_any w L.g _ h.mach 4 n a b c _ ha (mcells_reg _ _ _ _ _ ha)).mono ?_
  rintro e w' ⟨rfl, rfl⟩
  exact ⟨rfl, h.reg ha _ _⟩
theorem op_load (h : Rep w B L cd s iv ov) (a b c : Nat) (n : Int) (ha : a < 16) (hb : b < 16) : Calls Try.prog 46 #[.pointer (some ⟨L.g, 0, none⟩), .agg #[.int .i64 5, .int .i64 a, .int .i64 b, .int .i64 c, .int .i64 n]] w (OpR B L cd iv ov w s (act s 5 a b c n)) := by
  show Calls _ _ _ _ (OpR B L cd iv ov w s (match cellAt s.mem (wrap64 (s.r b + n)) with | some y => .did { s with r := upd s.r a y } | none => .gave 5 0))
  cases hc : cellAt s.mem (wrap64 (s.r b + n)) with
  | some y =>
    obtain ⟨j, e1, e2, e3⟩ := cellAt_some hc
    refine (load_in w L.g _ h.mach 5 n a b c _ y _ ha hb (mcells_reg _ _ _ _ _ ha) (mcells_reg _ _ _ _ _ hb) L.mb s.mem.length s.mem.length j _ h.mem rfl e2 (memGet e3) e1).mono ?_
    rintro e w' ⟨rfl, rfl⟩
    exact ⟨rfl, h.reg ha _ _⟩
  | none =>
    refine (load_out w L.g _ h.mach 5 n a b c _ _ ha hb (mcells_reg _ _ _ _ _ ha) (mcells_reg _ _ _ _ _ hb) _ s.mem.length s.mem.length rfl _ (cellAt_none hc) rfl).mono ?_
    rintro e w' ⟨rfl, rfl⟩
    exact h.out_ rfl (below_bd _ _)
theorem op_store (h : Rep w B L cd s iv ov) (a b c : Nat) (n : Int) (ha : a < 16) (hb : b < 16) : Calls Try.prog 47 #[.pointer (some ⟨L.g, 0, none⟩), .agg #[.int .i64 6, .int .i64 a, .int .i64 b, .int .i64 c, .int .i64 n]] w (OpR B L cd iv ov w s (act s 6 a b c n)) := by
  show Calls _ _ _ _ (OpR B L cd iv ov w s (match cellAt s.mem (wrap64 (s.r b + n)) with | some _ => .did { s with mem := s.mem.set (wrap64 (s.r b + n)).toNat (s.r a) } | none => .gave 5 0))
  cases hc : cellAt s.mem (wrap64 (s.r b + n)) with
  | some y =>
    obtain ⟨j, e1, e2, e3⟩ := cellAt_some hc
    refine (store_in w L.g _ h.mach 6 n a b c _ (s.r a) _ ha hb (mcells_reg _ _ _ _ _ ha) (mcells_reg _ _ _ _ _ hb) L.mb s.mem.length s.mem.length j _ h.mem rfl e2 (memGet e3) e1).mono ?_
    rintro e w' ⟨rfl, rfl⟩
    rw [e1]
    have hj : ((j : Int)).toNat = j := by simp
    rw [hj]
    refine ⟨rfl, h.post (s' := { s with mem := s.mem.set j (s.r a) }) (((Fr.refl L.g L.mb none w).alloc _).drew.set_ (p := ⟨L.mb, j, none⟩) (.inr (.inl rfl)) _) ?_ ?_ h.inn rfl (by simp)⟩
    · have q : mcells L cd.length { s with mem := s.mem.set j (s.r a) } iv ov = mcells L cd.length s iv ov := by simp [mcells]
      rw [q]
      exact (h.mach.alloc _).drew.far (p := ⟨L.mb, j, none⟩) h.ne _
    · rw [← memSet]
      exact (h.mem.alloc _).drew.set_ j _
  | none =>
    refine (store_out w L.g _ h.mach 6 n a b c _ _ ha hb (mcells_reg _ _ _ _ _ ha) (mcells_reg _ _ _ _ _ hb) _ s.mem.length s.mem.length rfl _ (cellAt_none hc) rfl).mono ?_
    rintro e w' ⟨rfl, rfl⟩
    exact h.out_ rfl (below_bd _ _)
theorem op_jump (h : Rep w B L cd s iv ov) (a b c : Nat) (n : Int) : Calls Try.prog 48 #[.pointer (some ⟨L.g, 0, none⟩), .agg #[.int .i64 7, .int .i64 a, .int .i64 b, .int .i64 c, .int .i64 n]] w (OpR B L cd iv ov w s (act s 7 a b c n)) := by
  refine (jump_rel w L.g _ h.mach 7 n a b c s.pc rfl).mono ?_
  rintro e w' ⟨rfl, hm, f⟩
  exact ⟨rfl, h.rel (s' := { s with pc := wrap64 (s.pc + n) }) hm f rfl rfl rfl⟩
theorem op_zero (h : Rep w B L cd s iv ov) (a b c : Nat) (n : Int) (ha : a < 16) : Calls Try.prog 49 #[.pointer (some ⟨L.g, 0, none⟩), .agg #[.int .i64 8, .int .i64 a, .int .i64 b, .int .i64 c, .int .i64 n]] w (OpR B L cd iv ov w s (act s 8 a b c n)) := by
  show Calls _ _ _ _ (OpR B L cd iv ov w s (if s.r a = 0 then .did { s with pc := wrap64 (s.pc + n) } else .did s))
  by_cases h0 : s.r a = 0
  · rw [if_pos h0]
    refine (zero_yes w L.g _ h.mach 8 n a b c _ s.pc ha (mcells_reg _ _ _ _ _ ha) rfl (by simpa using h0)).mono ?_
    rintro e w' ⟨rfl, hm, f⟩
    exact ⟨rfl, h.rel (s' := { s with pc := wrap64 (s.pc + n) }) hm f rfl rfl rfl⟩
  · rw [if_neg h0]
    refine (zero_no w L.g _ h.mach 8 n a b c _ s.pc ha (mcells_reg _ _ _ _ _ ha) rfl (by simpa using h0)).mono ?_
    rintro e w' ⟨rfl, hm, f⟩
    exact ⟨rfl, h.rel (s' := s) hm f rfl rfl rfl⟩
theorem op_some (h : Rep w B L cd s iv ov) (a b c : Nat) (n : Int) (ha : a < 16) : Calls Try.prog 50 #[.pointer (some ⟨L.g, 0, none⟩), .agg #[.int .i64 9, .int .i64 a, .int .i64 b, .int .i64 c, .int .i64 n]] w (OpR B L cd iv ov w s (act s 9 a b c n)) := by
  show Calls _ _ _ _ (OpR B L cd iv ov w s (if s.r a = 0 then .did s else .did { s with pc := wrap64 (s.pc + n) }))
  by_cases h0 : s.r a = 0
  · rw [if_pos h0]
    refine (some_no w L.g _ h.mach 9 n a b c _ s.pc ha (mcells_reg _ _ _ _ _ ha) rfl (by simpa using h0)).mono ?_
    rintro e w' ⟨rfl, hm, f⟩
    exact ⟨rfl, h.rel (s' := s) hm f rfl rfl rfl⟩
  · rw [if_neg h0]
    refine (some_yes w L.g _ h.mach 9 n a b c _ s.pc ha (mcells_reg _ _ _ _ _ ha) rfl (by simpa using h0)).mono ?_
    rintro e w' ⟨rfl, hm, f⟩
    exact ⟨rfl, h.rel (s' := { s with pc := wrap64 (s.pc + n) }) hm f rfl rfl rfl⟩
theorem op_call (h : Rep w B L cd s iv ov) (a b c : Nat) (n : Int) : Calls Try.prog 51 #[.pointer (some ⟨L.g, 0, none⟩), .agg #[.int .i64 10, .int .i64 a, .int .i64 b, .int .i64 c, .int .i64 n]] w (OpR B L cd iv ov w s (act s 10 a b c n)) := by
  show Calls _ _ _ _ (OpR B L cd iv ov w s (match cellAt s.mem (wrap64 (s.r 15 - 1)) with | some _ => .did { s with mem := s.mem.set (wrap64 (s.r 15 - 1)).toNat s.pc, r := upd s.r 15 (wrap64 (s.r 15 - 1)), pc := n } | none => .gave 5 0))
  cases hc : cellAt s.mem (wrap64 (s.r 15 - 1)) with
  | some y =>
    obtain ⟨j, e1, e2, e3⟩ := cellAt_some hc
    refine (call_in w L.g _ h.mach 10 n a b c s.pc (s.r 15) L.mb s.mem.length s.mem.length j _ _ h.mem rfl rfl rfl e2 (memGet e3) e1).mono ?_
    rintro e w' ⟨rfl, hm, hme, f⟩
    rw [e1]
    have hj : ((j : Int)).toNat = j := by simp
    rw [hj]
    refine ⟨rfl, h.post (s' := { s with mem := s.mem.set j s.pc, r := upd s.r 15 j, pc := n }) f ?_ (by rw [← memSet]; exact hme) h.inn rfl (by simp)⟩
    have q : mcells L cd.length { s with mem := s.mem.set j s.pc, r := upd s.r 15 j, pc := n } iv ov = ((mcells L cd.length s iv ov).setIfInBounds 18 (.int .i64 (j : Int))).setIfInBounds 2 (.int .i64 n) := by
      rw [mcells_set L cd.length s iv ov (a := 15) (by decide) j]
      simp [mcells]
    rw [q]
    exact hm
  | none =>
    refine (call_out w L.g _ _ h.mach 10 n a b c _ s.mem.length rfl (s.r 15) s.pc rfl rfl _ (cellAt_none hc) rfl).mono ?_
    rintro e w' ⟨rfl, rfl⟩
    exact h.out_ rfl (below_bd _ _)
theorem op_at (h : Rep w B L cd s iv ov) (a b c : Nat) (n : Int) (ha : a < 16) : Calls Try.prog 52 #[.pointer (some ⟨L.g, 0, none⟩), .agg #[.int .i64 11, .int .i64 a, .int .i64 b, .int .i64 c, .int .i64 n]] w (OpR B L cd iv ov w s (act s 11 a b c n)) := by
  show Calls _ _ _ _ (OpR B L cd iv ov w s (match cellAt s.mem (wrap64 (s.r 15 - 1)) with | some _ => .did { s with mem := s.mem.set (wrap64 (s.r 15 - 1)).toNat s.pc, r := upd s.r 15 (wrap64 (s.r 15 - 1)), pc := upd s.r 15 (wrap64 (s.r 15 - 1)) a } | none => .gave 5 0))
  cases hc : cellAt s.mem (wrap64 (s.r 15 - 1)) with
  | some y =>
    obtain ⟨j, e1, e2, e3⟩ := cellAt_some hc
    have hr : ((mcells L cd.length s iv ov).setIfInBounds 18 (.int .i64 (j : Int)))[3 + a]? = some (.int .i64 (upd s.r 15 j a)) := by
      rw [mcells_set L cd.length s iv ov (a := 15) (by decide) j]
      exact mcells_reg L cd.length { s with r := upd s.r 15 j } iv ov ha
    refine (at_in w L.g _ h.mach 11 n a b c (upd s.r 15 j a) ha s.pc (s.r 15) L.mb s.mem.length s.mem.length j _ _ h.mem rfl rfl rfl e2 (memGet e3) e1 hr).mono ?_
    rintro e w' ⟨rfl, hm, hme, f⟩
    rw [e1]
    have hj : ((j : Int)).toNat = j := by simp
    rw [hj]
    refine ⟨rfl, h.post (s' := { s with mem := s.mem.set j s.pc, r := upd s.r 15 j, pc := upd s.r 15 j a }) f ?_ (by rw [← memSet]; exact hme) h.inn rfl (by simp)⟩
    have q : mcells L cd.length { s with mem := s.mem.set j s.pc, r := upd s.r 15 j, pc := upd s.r 15 j a } iv ov = ((mcells L cd.length s iv ov).setIfInBounds 18 (.int .i64 (j : Int))).setIfInBounds 2 (.int .i64 (upd s.r 15 j a)) := by
      rw [mcells_set L cd.length s iv ov (a := 15) (by decide) j]
      simp [mcells]
    rw [q]
    exact hm
  | none =>
    refine (at_out w L.g _ _ h.mach 11 n a b c _ s.mem.length rfl (s.r 15) s.pc rfl rfl _ (cellAt_none hc) rfl).mono ?_
    rintro e w' ⟨rfl, rfl⟩
    exact h.out_ rfl (below_bd _ _)
theorem op_ret (h : Rep w B L cd s iv ov) (a b c : Nat) (n : Int) : Calls Try.prog 53 #[.pointer (some ⟨L.g, 0, none⟩), .agg #[.int .i64 12, .int .i64 a, .int .i64 b, .int .i64 c, .int .i64 n]] w (OpR B L cd iv ov w s (act s 12 a b c n)) := by
  show Calls _ _ _ _ (OpR B L cd iv ov w s (match cellAt s.mem (s.r 15) with | some y => .did { s with pc := y, r := upd s.r 15 (wrap64 (s.r 15 + 1)) } | none => .gave 5 0))
  cases hc : cellAt s.mem (s.r 15) with
  | some y =>
    obtain ⟨j, e1, e2, e3⟩ := cellAt_some hc
    refine (ret_in w L.g _ h.mach 12 n a b c _ y L.mb s.mem.length s.mem.length j _ h.mem rfl (by rw [← e1]; rfl) rfl e2 (memGet e3)).mono ?_
    rintro e w' ⟨rfl, hm, hme, f⟩
    refine ⟨rfl, h.post (s' := { s with pc := y, r := upd s.r 15 (wrap64 (s.r 15 + 1)) }) f ?_ hme h.inn rfl rfl⟩
    have q : mcells L cd.length { s with pc := y, r := upd s.r 15 (wrap64 (s.r 15 + 1)) } iv ov = ((mcells L cd.length s iv ov).setIfInBounds 2 (.int .i64 y)).setIfInBounds 18 (.int .i64 (wrap64 ((j : Int) + 1))) := by
      rw [← e1]
      exact (mcells_set L cd.length { s with pc := y } iv ov (a := 15) (by decide) (wrap64 (s.r 15 + 1))).symm
    rw [q]
    exact hm
  | none =>
    refine (ret_out w L.g _ _ h.mach 12 n a b c _ s.mem.length rfl (s.r 15) rfl (cellAt_none hc)).mono ?_
    rintro e w' ⟨rfl, rfl⟩
    exact h.out_ rfl (below_b _ _)
theorem op_read (h : Rep w B L cd s iv ov) (a b c : Nat) (n : Int) (ha : a < 16) : Calls Try.prog 54 #[.pointer (some ⟨L.g, 0, none⟩), .agg #[.int .i64 13, .int .i64 a, .int .i64 b, .int .i64 c, .int .i64 n]] w (OpR B L cd iv ov w s (act s 13 a b c n)) := by
  show Calls _ _ _ _ (OpR B L cd iv ov w s (match s.inn with | [] => .did { s with r := upd s.r a (-1) } | x :: t => .did { s with r := upd s.r a x, inn := t }))
  obtain ⟨A, c2, hiv, hlc, hcm, hby, hne⟩ := h.inn
  subst hiv
  cases hi : s.inn with
  | nil =>
    rw [hi] at hlc hby hne
    have hmach := h.mach
    rw [hi] at hmach
    refine (read_none w L.g _ hmach 13 n a b c _ ha (mcells_reg _ _ _ _ _ ha) A c2 rfl).mono ?_
    rintro e w' ⟨rfl, hm, f⟩
    rw [mcells_set L cd.length s _ ov ha] at hm
    rw [← hi] at hm
    have p := h.rel (s' := { s with r := upd s.r a (-1), inn := [] }) hm f rfl hi.symm rfl
    rw [hi] at p
    exact ⟨rfl, p⟩
  | cons x t =>
    rw [hi] at hlc hby hne
    obtain ⟨ib, off, cur, rfl, hib, hio, hcell⟩ := hne (by simp)
    have hmach := h.mach
    have hx := hby x (by simp)
    simp only [List.length_cons] at hlc
    have hmach' : Blk w L.g 62 (mcells L cd.length s (.slice (some ⟨ib, off, none⟩) (t.length + 1) c2) ov) := by
      rw [hi] at hmach
      exact hmach
    refine (read_some w L.g _ hmach' 13 n a b c _ ha (mcells_reg _ _ _ _ _ ha) ib off t.length c2 cur x hx.1 hx.2 hib rfl (by have := hcell 0 x rfl; simpa using this) hlc (by unfold maxLen at hcm; omega)).mono ?_
    rintro e w' ⟨rfl, hm, f⟩
    rw [mcells_set L cd.length s _ ov ha] at hm
    have hr := h
    have p : Post B L cd (.slice (some ⟨ib, off, none⟩) s.inn.length c2) ov w { s with r := upd s.r a x, inn := t } w' := by
      refine hr.post (s' := { s with r := upd s.r a x, inn := t }) (iv' := .slice (some ⟨ib, if c2 = 1 then off else off + 1, none⟩) t.length (c2 - 1)) (f.to rfl) hm (h.mem.fr f (Ne.symm h.ne) (Ne.symm h.ne) (by simp)) ?_ rfl rfl
      refine ⟨_, _, rfl, by show t.length ≤ c2 - 1; omega, by omega, fun y hy => hby y (by simp [hy]), fun hl => ?_⟩
      have hl' : 0 < t.length := hl
      rw [if_neg (by omega)]
      refine ⟨ib, off + 1, cur, rfl, hib, hio, fun j y hj => ?_⟩
      have := hcell (j + 1) y (by simpa using hj)
      rw [show off + 1 + j = off + (j + 1) by omega]
      exact this
    rw [hi] at p
    exact ⟨rfl, p⟩
theorem op_write (h : Rep w B L cd s iv ov) (a b c : Nat) (n : Int) (ha : a < 16) : Calls Try.prog 55 #[.pointer (some ⟨L.g, 0, none⟩), .agg #[.int .i64 14, .int .i64 a, .int .i64 b, .int .i64 c, .int .i64 n]] w (OpR B L cd iv ov w s (act s 14 a b c n)) := by
  show Calls _ _ _ _ (OpR B L cd iv ov w s (if s.out.length < 4096 then .did { s with out := s.out ++ [s.r a % 256] } else .did s))
  obtain ⟨A, c2, hov⟩ := own_shape h.out
  by_cases hl : s.out.length < 4096
  · rw [if_pos hl]
    subst hov
    refine (write_ok w L.g _ h.mach 14 n a b c ha (s.r a) (mcells_reg _ _ _ _ _ ha) B A s.out.length c2 _ rfl h.out hl (by have := h.gB; have := h.mach.lt; omega)).mono ?_
    rintro e w' ⟨rfl, A', c', hm, hown, f, hat⟩
    have k1 := own_blk_ne h.out h.mem (by decide)
    have kk : ∀ {b : Nat} {t : TypeId} {cs : Array Value}, Blk w b t cs → b ≠ L.g → some b ≠ (Value.slice A s.out.length c2).ownBlock → Blk w' b t cs := fun hb h1 h2 => hb.fr f h1 h1 h2
    refine ⟨rfl, iv, .slice A' (s.out.length + 1) c', ⟨?_, ?_, ?_, ?_, ?_, ?_, ?_, h.meml, h.codel, h.gB, h.mB⟩, ⟨f.os, f.tape, f.output, f.size, fun k q1 q2 _ q4 => f.block k q1 q2 q2 q4⟩, hat, fun _ hk => hk⟩
    · exact hm
    · obtain ⟨cur, q1, q2, q3⟩ := h.code
      exact ⟨cur, kk q1 (q1.ne_ h.mach (by decide)) (own_not h.out q1 (by decide)), q2, q3⟩
    · obtain ⟨cur, q1, q2, q3⟩ := h.doing
      exact ⟨cur, kk q1 (q1.ne_ h.mach (by decide)) (own_not h.out q1 (by decide)), q2, q3⟩
    · exact kk h.mem (Ne.symm h.ne) (own_not h.out h.mem (by decide))
    · obtain ⟨A0, c0, q1, q2, q3, q4, q5⟩ := h.inn
      refine ⟨A0, c0, q1, q2, q3, q4, fun hl' => ?_⟩
      obtain ⟨ib, off, cur, r1, r2, r3, r4⟩ := q5 hl'
      refine ⟨ib, off, cur, r1, kk r2 (r2.ne_ h.mach (by decide)) r3, ?_, r4⟩
      rcases hat with e | e
      · rw [e]; exact r3
      · intro e'
        have := e ib e'.symm
        have := r2.lt
        omega
    · simpa using hown
    · simp; omega
  · rw [if_neg hl]
    subst hov
    refine (write_full w L.g _ h.mach 14 n a b c A s.out.length c2 rfl (by simp; omega)).mono ?_
    rintro e w' ⟨rfl, hm, f⟩
    exact ⟨rfl, h.rel (s' := s) hm f rfl rfl rfl⟩
theorem op_room (h : Rep w B L cd s iv ov) (a b c : Nat) (n : Int) (ha : a < 16) : Calls Try.prog 56 #[.pointer (some ⟨L.g, 0, none⟩), .agg #[.int .i64 15, .int .i64 a, .int .i64 b, .int .i64 c, .int .i64 n]] w (OpR B L cd iv ov w s (act s 15 a b c n)) := by
  refine (room_any w L.g _ h.mach 15 n a b c _ _ s.mem.length s.mem.length ha (mcells_reg _ _ _ _ _ ha) rfl).mono ?_
  rintro e w' ⟨rfl, rfl⟩
  exact ⟨rfl, h.reg ha _ _⟩
theorem op_two (h : Rep w B L cd s iv ov) (o : Int) (a b c : Nat) (n : Int) (ha : a < 16) (hb : b < 16) (hc : c < 16) (h17 : 17 ≤ o) (h32 : o ≤ 32) : Calls Try.prog 58 #[.pointer (some ⟨L.g, 0, none⟩), .agg #[.int .i64 o, .int .i64 a, .int .i64 b, .int .i64 c, .int .i64 n]] w (OpR B L cd iv ov w s (act s o a b c n)) := by
  have ea : act s o a b c n = if C (wrap64 (o - 16)) (s.r c) = 0 then .did { s with r := upd s.r a (V (wrap64 (o - 16)) (s.r b) (s.r c)) } else .gave 2 (C (wrap64 (o - 16)) (s.r c)) := by
    unfold act
    repeat rw [if_neg (by omega)]
    rw [if_pos h32]
  rw [ea]
  by_cases hC : C (wrap64 (o - 16)) (s.r c) = 0
  · rw [if_pos hC]
    refine (two_ok w L.g _ h.mach o n a b c _ _ _ _ ha hb hc (mcells_reg _ _ _ _ _ ha) (mcells_reg _ _ _ _ _ hb) (mcells_reg _ _ _ _ _ hc) rfl (by simpa using hC)).mono ?_
    rintro e w' ⟨rfl, hm, f⟩
    rw [mcells_set L cd.length s iv ov ha] at hm
    exact ⟨rfl, h.rel hm f rfl rfl rfl⟩
  · rw [if_neg hC]
    refine (two_bad w L.g _ h.mach o n a b c _ _ _ _ ha hb hc (mcells_reg _ _ _ _ _ ha) (mcells_reg _ _ _ _ _ hb) (mcells_reg _ _ _ _ _ hc) rfl (by simpa using hC)).mono ?_
    rintro e w' ⟨rfl, f, hm⟩
    exact ⟨rfl, h.next (f.to rfl) hm (h.mem.fr f (Ne.symm h.ne) (Ne.symm h.ne) (by simp)) h.inn rfl rfl, (f.to rfl).widen⟩
theorem op_one (h : Rep w B L cd s iv ov) (o : Int) (a b c : Nat) (n : Int) (ha : a < 16) (hb : b < 16) (h41 : 33 ≤ o) : Calls Try.prog 57 #[.pointer (some ⟨L.g, 0, none⟩), .agg #[.int .i64 o, .int .i64 a, .int .i64 b, .int .i64 c, .int .i64 n]] w (OpR B L cd iv ov w s (act s o a b c n)) := by
  have ea : act s o a b c n = .did { s with r := upd s.r a (VU (wrap64 (o - 40)) (s.r b)) } := by
    unfold act
    repeat rw [if_neg (by omega)]
  rw [ea]
  refine (inst_one w L.g _ h.mach o n a b c _ _ _ ha hb (mcells_reg _ _ _ _ _ ha) (mcells_reg _ _ _ _ _ hb) rfl).mono ?_
  rintro e w' ⟨rfl, rfl⟩
  exact ⟨rfl, h.reg ha _ _⟩
end
end Go.Proofs.Ytikgghioneiegaa
