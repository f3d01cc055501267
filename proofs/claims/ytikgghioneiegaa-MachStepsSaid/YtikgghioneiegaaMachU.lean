/-
  A step of the machine.
-/
import Derived.Test.YtikgghioneiegaaMachV
namespace Go.Proofs.Ytikgghioneiegaa
open Go.RowKit
set_option linter.unusedVariables false

/-- The instruction at a place: there is none, or its parts. -/
def fetch (cd : List Int) (pc : Int) : Option (Int × Nat × Nat × Nat × Int) :=
  match cellAt cd pc with
  | some v => if G v then some (dO v, (dA v).toNat, (dB v).toNat, (dC v).toNat, dN v) else none
  | none => none
def step (cd : List Int) (s : St) : St :=
  if s.kind = 0 then
    match fetch cd s.pc with
    | none => { s with steps := wrap64 (s.steps + 1), kind := 5, code := 0 }
    | some (o, a, b, c, n) =>
      match act { s with steps := wrap64 (s.steps + 1), pc := s.pc + 1 } o a b c n with
      | .did s' => s'
      | .gave k c => { s with steps := wrap64 (s.steps + 1), pc := s.pc + 1, kind := k, code := c }
  else s
theorem fetch_some {cd : List Int} {pc : Int} {o n : Int} {a b c : Nat} (h : fetch cd pc = some (o, a, b, c, n)) : K o = true ∧ a < 16 ∧ b < 16 ∧ c < 16 ∧ 0 ≤ pc ∧ pc < (cd.length : Int) := by
  unfold fetch at h
  cases hc : cellAt cd pc with
  | none => rw [hc] at h; cases h
  | some v =>
    rw [hc] at h
    dsimp only at h
    obtain ⟨j, e1, e2, e3⟩ := cellAt_some hc
    cases hG : G v with
    | false => rw [hG] at h; simp at h
    | true =>
      rw [hG] at h
      simp only [if_true, Option.some.injEq, Prod.mk.injEq] at h
      obtain ⟨rfl, rfl, rfl, rfl, rfl⟩ := h
      have hF : F (dO v) (dA v) (dB v) (dC v) (dN v) = true := by
        unfold G at hG
        simp only [Bool.and_eq_true] at hG
        exact hG.1
      refine ⟨(F_parts hF).1, ?_, ?_, ?_, by omega, by omega⟩
      · unfold dA; omega
      · unfold dB; omega
      · unfold dC; omega
def instA (t : Int × Nat × Nat × Nat × Int) : Value := .agg #[.int .i64 t.1, .int .i64 t.2.1, .int .i64 t.2.2.1, .int .i64 t.2.2.2.1, .int .i64 t.2.2.2.2]
section
variable {w : World} {B : Nat} {L : Lay} {cd : List Int} {s : St} {iv ov : Value}
theorem fetch_none_any (h : Rep w B L cd s iv ov) (hf : fetch cd s.pc = none) :
    Calls Try.prog 34 #[.pointer (some ⟨L.g, 0, none⟩)] w fun e w' => e = .panicked [{ v := .iface 60 (.agg #[.int .i64 5, .int .i64 0]), recovered := false }] ∧ Below w.heap.size w w' := by
  unfold fetch at hf
  cases hc : cellAt cd s.pc with
  | none =>
    by_cases h0 : s.pc < 0
    · exact fetch_neg w L.g _ h.mach s.pc rfl _ cd.length cd.length rfl (by simpa using h0)
    · have := cellAt_none hc
      exact fetch_far w L.g _ h.mach s.pc rfl _ cd.length cd.length rfl (by simpa using h0) (by simp; omega)
  | some v =>
    rw [hc] at hf
    dsimp only at hf
    obtain ⟨j, e1, e2, e3⟩ := cellAt_some hc
    have hG : G v = false := by
      cases hG : G v with
      | false => rfl
      | true => rw [hG] at hf; simp at hf
    obtain ⟨cur, q1, q2, q3⟩ := h.code
    have ho := q3 j v e2 e3 0 (by omega)
    simp only [dcell, hG, Bool.false_eq_true, if_false, Nat.add_zero] at ho
    exact fetch_mute w L.g _ h.mach s.pc rfl _ cd.length cd.length rfl L.cb j cur rfl e1 e2 q1 (-1) ho (by decide)
theorem fetch_some_any (h : Rep w B L cd s iv ov) {t : Int × Nat × Nat × Nat × Int} (hf : fetch cd s.pc = some t) :
    Calls Try.prog 34 #[.pointer (some ⟨L.g, 0, none⟩)] w fun e w' => e = .returned (.agg #[.int .i64 t.1, .int .i64 t.2.1, .int .i64 t.2.2.1, .int .i64 t.2.2.2.1, .int .i64 t.2.2.2.2]) ∧ Below w.heap.size w w' := by
  unfold fetch at hf
  cases hc : cellAt cd s.pc with
  | none => rw [hc] at hf; cases hf
  | some v =>
    rw [hc] at hf
    dsimp only at hf
    obtain ⟨j, e1, e2, e3⟩ := cellAt_some hc
    cases hG : G v with
    | false => rw [hG] at hf; simp at hf
    | true =>
      rw [hG] at hf
      simp only [if_true, Option.some.injEq] at hf
      subst hf
      obtain ⟨cur, q1, q2, q3⟩ := h.code
      have hd : dcell v = [.int .i64 (dO v), .int .i64 (dA v), .int .i64 (dB v), .int .i64 (dC v), .int .i64 (dN v)] := by simp [dcell, hG]
      have h0 := q3 j v e2 e3 0 (by omega)
      have h1 := q3 j v e2 e3 1 (by omega)
      have h2 := q3 j v e2 e3 2 (by omega)
      have h3 := q3 j v e2 e3 3 (by omega)
      have h4 := q3 j v e2 e3 4 (by omega)
      rw [hd] at h0 h1 h2 h3 h4
      have hF : F (dO v) (dA v) (dB v) (dC v) (dN v) = true := by
        unfold G at hG
        simp only [Bool.and_eq_true] at hG
        exact hG.1
      have ob := K_bd (F_parts hF).1
      have r := fetch_in w L.g _ h.mach s.pc rfl _ cd.length cd.length rfl L.cb j cur rfl e1 e2 q1 (dO v) (by simpa using h0) (by simp; omega) (dA v) (dB v) (dC v) (dN v) (by simpa using h1) (by simpa using h2) (by simpa using h3) (by simpa using h4)
      refine r.mono ?_
      rintro e w' ⟨rfl, hb⟩
      have ea : (((dA v).toNat : Nat) : Int) = dA v := by unfold dA; omega
      have eb : (((dB v).toNat : Nat) : Int) = dB v := by unfold dB; omega
      have ec : (((dC v).toNat : Nat) : Int) = dC v := by unfold dC; omega
      simp only [ea, eb, ec]
      exact ⟨trivial, hb⟩
/-- The operation that stands in the list does what the plain reading says. -/
theorem op_any {o n : Int} {a b c : Nat} (hK : K o = true) (ha : a < 16) (hb : b < 16) (hc : c < 16) (g : Nat) :
    ∃ f, (if 17 ≤ o.toNat ∧ o.toNat < 33 then fnv g (some 58) else fnv g (fid0 o.toNat)) = .func (.func f) #[.pointer (some ⟨g, 0, none⟩)] #[] ∧ (∀ (args : Array Value) (w : World), (callFunc f args).run Try.prog w = .ok (.enter f args) w) ∧
      ∀ (w : World) (B : Nat) (L : Lay) (cd : List Int) (s : St) (iv ov : Value), Rep w B L cd s iv ov → Calls Try.prog f #[.pointer (some ⟨L.g, 0, none⟩), .agg #[.int .i64 o, .int .i64 a, .int .i64 b, .int .i64 c, .int .i64 n]] w (OpR B L cd iv ov w s (act s o a b c n)) := by
  have h := K_bd hK
  unfold K at hK
  have hk := of_decide_eq_true hK
  by_cases h17 : 17 ≤ o ∧ o ≤ 32
  · refine ⟨58, by rw [if_pos (by omega)]; rfl, fun _ _ => rfl, fun w B L cd s iv ov hr => op_two hr o a b c n ha hb hc h17.1 h17.2⟩
  · rw [if_neg (by omega)]
    by_cases h41 : 41 ≤ o
    · refine ⟨57, ?_, fun _ _ => rfl, fun w B L cd s iv ov hr => op_one hr o a b c n ha hb (by omega)⟩
      have : o = 41 ∨ o = 42 ∨ o = 43 := by omega
      rcases this with rfl | rfl | rfl <;> rfl
    · have : o = 0 ∨ o = 1 ∨ o = 2 ∨ o = 3 ∨ o = 4 ∨ o = 5 ∨ o = 6 ∨ o = 7 ∨ o = 8 ∨ o = 9 ∨ o = 10 ∨ o = 11 ∨ o = 12 ∨ o = 13 ∨ o = 14 ∨ o = 15 := by omega
      rcases this with rfl | rfl | rfl | rfl | rfl | rfl | rfl | rfl | rfl | rfl | rfl | rfl | rfl | rfl | rfl | rfl
      · exact ⟨_, rfl, fun _ _ => rfl, fun w B L cd s iv ov hr => op_halt hr a b c n⟩
      · exact ⟨_, rfl, fun _ _ => rfl, fun w B L cd s iv ov hr => op_trap hr a b c n⟩
      · exact ⟨_, rfl, fun _ _ => rfl, fun w B L cd s iv ov hr => op_move hr a b c n ha hb⟩
      · exact ⟨_, rfl, fun _ _ => rfl, fun w B L cd s iv ov hr => op_const hr a b c n ha⟩
      · exact ⟨_, rfl, fun _ _ => rfl, fun w B L cd s iv ov hr => op_high hr a b c n ha⟩
      · exact ⟨_, rfl, fun _ _ => rfl, fun w B L cd s iv ov hr => op_load hr a b c n ha hb⟩
      · exact ⟨_, rfl, fun _ _ => rfl, fun w B L cd s iv ov hr => op_store hr a b c n ha hb⟩
      · exact ⟨_, rfl, fun _ _ => rfl, fun w B L cd s iv ov hr => op_jump hr a b c n⟩
      · exact ⟨_, rfl, fun _ _ => rfl, fun w B L cd s iv ov hr => op_zero hr a b c n ha⟩
      · exact ⟨_, rfl, fun _ _ => rfl, fun w B L cd s iv ov hr => op_some hr a b c n ha⟩
      · exact ⟨_, rfl, fun _ _ => rfl, fun w B L cd s iv ov hr => op_call hr a b c n⟩
      · exact ⟨_, rfl, fun _ _ => rfl, fun w B L cd s iv ov hr => op_at hr a b c n ha⟩
      · exact ⟨_, rfl, fun _ _ => rfl, fun w B L cd s iv ov hr => op_ret hr a b c n⟩
      · exact ⟨_, rfl, fun _ _ => rfl, fun w B L cd s iv ov hr => op_read hr a b c n ha⟩
      · exact ⟨_, rfl, fun _ _ => rfl, fun w B L cd s iv ov hr => op_write hr a b c n ha⟩
      · exact ⟨_, rfl, fun _ _ => rfl, fun w B L cd s iv ov hr => op_room hr a b c n ha⟩

theorem step_over (h : Rep w B L cd s iv ov) (hk : s.kind ≠ 0) :
    Calls Try.prog 23 #[.pointer (some ⟨L.g, 0, none⟩)] w fun e w' => e = .returned (.bool false) ∧ Below w.heap.size w w' := by
  have q1 : w.cell? ⟨L.g, 22, none⟩ = some (.int .i64 s.kind) := h.mach.get (i := 22) rfl
  have hlt := h.mach.lt
  have d1 : (s.kind != 0) = true := by simpa using hk
  generalize s.kind = kd at *
  generalize L.g = g at *
  clear h hk
  go_enter_defers Try.func23, Try.ntmps23
  go_wp2
  exact ⟨_, results_tmp rfl _ _ _, rfl, (Below.refl _ w).alloc (Nat.le_refl _) _⟩
end
end Go.Proofs.Ytikgghioneiegaa
