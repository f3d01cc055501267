/-
  A machine's state as plain data, how it lies in memory, and what one instruction makes of it.
-/
import Derived.Test.YtikgghioneiegaaMachB
import Derived.Test.YtikgghioneiegaaMachD
import Derived.Test.YtikgghioneiegaaMachE
import Derived.Test.YtikgghioneiegaaMachM
namespace Go.Proofs.Ytikgghioneiegaa
open Go.RowKit
set_option linter.unusedVariables false

structure Lay where
  g : Nat
  cb : Nat
  db : Nat
  mb : Nat
structure St where
  pc : Int
  r : Nat → Int
  mem : List Int
  inn : List Int
  out : List Int
  kind : Int
  code : Int
  steps : Int
def upd (r : Nat → Int) (a : Nat) (v : Int) : Nat → Int := fun k => if k = a then v else r k
inductive Res where
  | gave (k c : Int)
  | did (s : St)
def cellAt (mem : List Int) (k : Int) : Option Int := if 0 ≤ k then mem[k.toNat]? else none
def trapOf (n : Int) : Int × Int := if 1 ≤ n ∧ n ≤ 999 then (2, n) else if n = 1000 then (3, 0) else if n = 1001 then (4, 0) else (5, 0)
/-- What one instruction makes of a state whose place is one more already. -/
def act (s : St) (o : Int) (a b c : Nat) (n : Int) : Res :=
  if o = 0 then .did { s with kind := 1, code := 0 }
  else if o = 1 then .gave (trapOf n).1 (trapOf n).2
  else if o = 2 then .did { s with r := upd s.r a (s.r b) }
  else if o = 3 then .did { s with r := upd s.r a n }
  else if o = 4 then .did { s with r := upd s.r a (wrap64 (wrap64 (s.r a * 4294967296) + wrap64 (n % 4294967296))) }
  else if o = 5 then (match cellAt s.mem (wrap64 (s.r b + n)) with | some y => .did { s with r := upd s.r a y } | none => .gave 5 0)
  else if o = 6 then (match cellAt s.mem (wrap64 (s.r b + n)) with | some _ => .did { s with mem := s.mem.set (wrap64 (s.r b + n)).toNat (s.r a) } | none => .gave 5 0)
  else if o = 7 then .did { s with pc := wrap64 (s.pc + n) }
  else if o = 8 then (if s.r a = 0 then .did { s with pc := wrap64 (s.pc + n) } else .did s)
  else if o = 9 then (if s.r a = 0 then .did s else .did { s with pc := wrap64 (s.pc + n) })
  else if o = 10 then (match cellAt s.mem (wrap64 (s.r 15 - 1)) with | some _ => .did { s with mem := s.mem.set (wrap64 (s.r 15 - 1)).toNat s.pc, r := upd s.r 15 (wrap64 (s.r 15 - 1)), pc := n } | none => .gave 5 0)
  else if o = 11 then (match cellAt s.mem (wrap64 (s.r 15 - 1)) with | some _ => .did { s with mem := s.mem.set (wrap64 (s.r 15 - 1)).toNat s.pc, r := upd s.r 15 (wrap64 (s.r 15 - 1)), pc := upd s.r 15 (wrap64 (s.r 15 - 1)) a } | none => .gave 5 0)
  else if o = 12 then (match cellAt s.mem (s.r 15) with | some y => .did { s with pc := y, r := upd s.r 15 (wrap64 (s.r 15 + 1)) } | none => .gave 5 0)
  else if o = 13 then (match s.inn with | [] => .did { s with r := upd s.r a (-1) } | x :: t => .did { s with r := upd s.r a x, inn := t })
  else if o = 14 then (if s.out.length < 4096 then .did { s with out := s.out ++ [s.r a % 256] } else .did s)
  else if o = 15 then .did { s with r := upd s.r a (s.mem.length : Int) }
  else if o ≤ 32 then (if C (wrap64 (o - 16)) (s.r c) = 0 then .did { s with r := upd s.r a (V (wrap64 (o - 16)) (s.r b) (s.r c)) } else .gave 2 (C (wrap64 (o - 16)) (s.r c)))
  else .did { s with r := upd s.r a (VU (wrap64 (o - 40)) (s.r b)) }

def mcells (L : Lay) (N : Nat) (s : St) (iv ov : Value) : Array Value :=
  #[.slice (some ⟨L.cb, 0, none⟩) N N, .slice (some ⟨L.db, 0, none⟩) 44 44, .int .i64 s.pc,
    .int .i64 (s.r 0), .int .i64 (s.r 1), .int .i64 (s.r 2), .int .i64 (s.r 3), .int .i64 (s.r 4), .int .i64 (s.r 5), .int .i64 (s.r 6), .int .i64 (s.r 7),
    .int .i64 (s.r 8), .int .i64 (s.r 9), .int .i64 (s.r 10), .int .i64 (s.r 11), .int .i64 (s.r 12), .int .i64 (s.r 13), .int .i64 (s.r 14), .int .i64 (s.r 15),
    .slice (some ⟨L.mb, 0, none⟩) s.mem.length s.mem.length, iv, ov, .int .i64 s.kind, .int .i64 s.code, .int .i64 s.steps]
theorem lt16 {a : Nat} (h : a < 16) : a = 0 ∨ a = 1 ∨ a = 2 ∨ a = 3 ∨ a = 4 ∨ a = 5 ∨ a = 6 ∨ a = 7 ∨ a = 8 ∨ a = 9 ∨ a = 10 ∨ a = 11 ∨ a = 12 ∨ a = 13 ∨ a = 14 ∨ a = 15 := by omega
theorem mcells_reg (L : Lay) (N : Nat) (s : St) (iv ov : Value) {a : Nat} (h : a < 16) : (mcells L N s iv ov)[3 + a]? = some (.int .i64 (s.r a)) := by
  rcases lt16 h with rfl | rfl | rfl | rfl | rfl | rfl | rfl | rfl | rfl | rfl | rfl | rfl | rfl | rfl | rfl | rfl <;> rfl
theorem mcells_set (L : Lay) (N : Nat) (s : St) (iv ov : Value) {a : Nat} (h : a < 16) (v : Int) : (mcells L N s iv ov).setIfInBounds (3 + a) (.int .i64 v) = mcells L N { s with r := upd s.r a v } iv ov := by
  rcases lt16 h with rfl | rfl | rfl | rfl | rfl | rfl | rfl | rfl | rfl | rfl | rfl | rfl | rfl | rfl | rfl | rfl <;> rfl
/-- The bytes that are still to be read. -/
def InR (w : World) (iv ov : Value) (l : List Int) : Prop :=
  ∃ A c, iv = .slice A l.length c ∧ l.length ≤ c ∧ c ≤ maxLen ∧ (∀ x ∈ l, 0 ≤ x ∧ x ≤ 255) ∧
    (0 < l.length → ∃ ib off cur, A = some ⟨ib, off, none⟩ ∧ Blk w ib 5 cur ∧ some ib ≠ ov.ownBlock ∧ ∀ (j : Nat) (x : Int), l[j]? = some x → cur[off + j]? = some (.int .u8 x))
structure Rep (w : World) (B : Nat) (L : Lay) (cd : List Int) (s : St) (iv ov : Value) : Prop where
  mach : Blk w L.g 62 (mcells L cd.length s iv ov)
  code : DC w L.cb cd.length cd.length cd
  doing : DT w L.db L.g 33
  mem : Blk w L.mb 2 (s.mem.map (Value.int .i64)).toArray
  inn : InR w iv ov s.inn
  out : w.ownsRow B 5 1 ov s.out.length (s.out.map (Value.int .u8))
  outl : s.out.length ≤ 4096
  meml : s.mem.length ≤ 262144
  codel : cd.length ≤ 65536
  gB : B ≤ L.g
  mB : B ≤ L.mb
/-- What holds behind an instruction that was done. -/
def Post (B : Nat) (L : Lay) (cd : List Int) (iv ov : Value) (w : World) (s' : St) (w' : World) : Prop :=
  ∃ iv' ov', Rep w' B L cd s' iv' ov' ∧ Fr L.g L.mb ov.ownBlock w w' ∧ (ov'.ownBlock = ov.ownBlock ∨ ∀ k, ov'.ownBlock = some k → w.heap.size ≤ k) ∧ (∀ k, iv'.ownBlock = some k → iv.ownBlock = some k)
theorem Rep.ne {w : World} {B : Nat} {L : Lay} {cd : List Int} {s : St} {iv ov : Value} (h : Rep w B L cd s iv ov) : L.g ≠ L.mb := h.mach.ne_ h.mem (by decide)
theorem DC.fr {w w' : World} {D N k : Nat} {cd : List Int} (h : DC w D N k cd) {g mb : Nat} {ov : Option Nat} (f : Fr g mb ov w w') (h1 : D ≠ g) (h2 : D ≠ mb) (h3 : some D ≠ ov) : DC w' D N k cd := by
  obtain ⟨cur, q1, q2, q3⟩ := h
  exact ⟨cur, q1.fr f h1 h2 h3, q2, q3⟩
theorem DT.fr {w w' : World} {D g k : Nat} (h : DT w D g k) {g' mb : Nat} {ov : Option Nat} (f : Fr g' mb ov w w') (h1 : D ≠ g') (h2 : D ≠ mb) (h3 : some D ≠ ov) : DT w' D g k := by
  obtain ⟨cur, q1, q2, q3⟩ := h
  exact ⟨cur, q1.fr f h1 h2 h3, q2, q3⟩
theorem own_not {w : World} {base n size : Nat} {e t : TypeId} {v : Value} {xs : List Value} {b : Nat} {cs : Array Value} (h : w.ownsRow base e size v n xs) (k : Blk w b t cs) (hne : e ≠ t) : some b ≠ v.ownBlock := fun e' => own_blk_ne h k hne e'.symm
/-- A state whose code, operations and input stay: the frame tells them. -/
theorem Rep.next {w w' : World} {B : Nat} {L : Lay} {cd : List Int} {s s' : St} {iv ov iv' : Value} (h : Rep w B L cd s iv ov) (f : Fr L.g L.mb none w w')
    (hm : Blk w' L.g 62 (mcells L cd.length s' iv' ov)) (hmem : Blk w' L.mb 2 (s'.mem.map (Value.int .i64)).toArray) (hin : InR w iv' ov s'.inn) (hout : s'.out = s.out) (hml : s'.mem.length = s.mem.length) :
    Rep w' B L cd s' iv' ov := by
  have e0 := h.ne
  refine ⟨hm, ?_, ?_, hmem, ?_, ?_, by rw [hout]; exact h.outl, by rw [hml]; exact h.meml, h.codel, h.gB, h.mB⟩
  · obtain ⟨cur, q1, q2, q3⟩ := h.code
    exact ⟨cur, q1.fr f (q1.ne_ h.mach (by decide)) (q1.ne_ h.mem (by decide)) (by simp), q2, q3⟩
  · obtain ⟨cur, q1, q2, q3⟩ := h.doing
    exact ⟨cur, q1.fr f (q1.ne_ h.mach (by decide)) (q1.ne_ h.mem (by decide)) (by simp), q2, q3⟩
  · obtain ⟨A, c, q1, q2, q3, q4, q5⟩ := hin
    refine ⟨A, c, q1, q2, q3, q4, fun hl => ?_⟩
    obtain ⟨ib, off, cur, r1, r2, r3, r4⟩ := q5 hl
    exact ⟨ib, off, cur, r1, r2.fr f (r2.ne_ h.mach (by decide)) (r2.ne_ h.mem (by decide)) (by simp), r3, r4⟩
  · rw [hout]
    have k1 := own_blk_ne h.out h.mach (by decide)
    have k2 := own_blk_ne h.out h.mem (by decide)
    refine ⟨h.out.1, ?_⟩
    rcases h.out.2 with hn | ⟨g, cap, cur, rfl, hb, hgg, rest⟩
    · exact .inl hn
    · refine .inr ⟨g, cap, cur, rfl, hb, ?_, rest⟩
      have k3 : Blk w g 5 cur := hgg
      exact k3.fr f (by rintro rfl; exact k1 rfl) (by rintro rfl; exact k2 rfl) (by simp)
theorem Rep.post {w w' : World} {B : Nat} {L : Lay} {cd : List Int} {s s' : St} {iv ov iv' : Value} (h : Rep w B L cd s iv ov) (f : Fr L.g L.mb none w w')
    (hm : Blk w' L.g 62 (mcells L cd.length s' iv' ov)) (hmem : Blk w' L.mb 2 (s'.mem.map (Value.int .i64)).toArray) (hin : InR w iv' ov s'.inn) (hout : s'.out = s.out) (hml : s'.mem.length = s.mem.length) (hiv : ∀ k, iv'.ownBlock = some k → iv.ownBlock = some k := by intro k hk; exact hk) :
    Post B L cd iv ov w s' w' :=
  ⟨iv', ov, h.next f hm hmem hin hout hml, f.widen, .inl rfl, hiv⟩
/-- Nothing but new blocks. -/
theorem Rep.keep {w w' : World} {B : Nat} {L : Lay} {cd : List Int} {s : St} {iv ov : Value} (h : Rep w B L cd s iv ov) (hb : Below w.heap.size w w') : Rep w' B L cd s iv ov := by
  have f : Fr L.g L.mb none w w' := ⟨hb.os, hb.tape, hb.output, hb.size, fun k hk _ _ _ => hb.block k hk⟩
  exact h.next f (h.mach.below hb h.mach.lt) (h.mem.below hb h.mem.lt) h.inn rfl rfl
theorem cellAt_some {mem : List Int} {k y : Int} (h : cellAt mem k = some y) : ∃ j : Nat, k = j ∧ j < mem.length ∧ mem[j]? = some y := by
  unfold cellAt at h
  split at h
  · rename_i h0
    refine ⟨k.toNat, by omega, ?_, h⟩
    rcases Nat.lt_or_ge k.toNat mem.length with h' | h'
    · exact h'
    · rw [List.getElem?_eq_none h'] at h; cases h
  · cases h
theorem cellAt_none {mem : List Int} {k : Int} (h : cellAt mem k = none) : k < 0 ∨ (mem.length : Int) ≤ k := by
  unfold cellAt at h
  split at h
  · rename_i h0
    right
    rw [List.getElem?_eq_none_iff] at h
    omega
  · left; omega
theorem memGet {mem : List Int} {j : Nat} {y : Int} (h : mem[j]? = some y) : ((mem.map (Value.int .i64)).toArray)[j]? = some (.int .i64 y) := by simp [h]
theorem memSet (mem : List Int) (j : Nat) (y : Int) : ((mem.map (Value.int .i64)).toArray).setIfInBounds j (.int .i64 y) = ((mem.set j y).map (Value.int .i64)).toArray := by
  simp [List.map_set]
theorem Fr.to {g g' mb : Nat} {w w' : World} (h : Fr g g none w w') (hg : g = g') : Fr g' mb none w w' := by
  subst hg
  exact ⟨h.os, h.tape, h.output, h.size, fun k hk h1 _ h3 => h.block k hk h1 h1 h3⟩
end Go.Proofs.Ytikgghioneiegaa
