/-
  The code of calls as deep as is asked, run.
-/
import Derived.Test.YtpokhdnfclmifaaLawE
namespace Go.Proofs.Ytpokhdnfclmifaa
open Go.RowKit
set_option linter.unusedVariables false

def callL (n : Int) : List In := [⟨3, 1, 0, 0, n⟩, ⟨3, 2, 0, 0, 1⟩, ⟨10, 0, 0, 0, 4⟩, ⟨0, 0, 0, 0, 0⟩, ⟨8, 1, 0, 0, 3⟩, ⟨18, 1, 1, 2, 0⟩, ⟨10, 0, 0, 0, 4⟩, ⟨12, 0, 0, 0, 0⟩, ⟨12, 0, 0, 0, 0⟩]
theorem act_call {s : St} {n y : Int} (h : cellAt s.mem (wrap64 (s.r 15 - 1)) = some y) :
    act s 10 0 0 0 n = .did { s with mem := s.mem.set (wrap64 (s.r 15 - 1)).toNat s.pc, r := upd s.r 15 (wrap64 (s.r 15 - 1)), pc := n } := by
  have e : act s 10 0 0 0 n = (match cellAt s.mem (wrap64 (s.r 15 - 1)) with | some _ => .did { s with mem := s.mem.set (wrap64 (s.r 15 - 1)).toNat s.pc, r := upd s.r 15 (wrap64 (s.r 15 - 1)), pc := n } | none => .gave 5 0) := rfl
  rw [e, h]
theorem act_call_no {s : St} {n : Int} (h : cellAt s.mem (wrap64 (s.r 15 - 1)) = none) : act s 10 0 0 0 n = .gave 5 0 := by
  have e : act s 10 0 0 0 n = (match cellAt s.mem (wrap64 (s.r 15 - 1)) with | some _ => .did { s with mem := s.mem.set (wrap64 (s.r 15 - 1)).toNat s.pc, r := upd s.r 15 (wrap64 (s.r 15 - 1)), pc := n } | none => .gave 5 0) := rfl
  rw [e, h]
theorem act_ret {s : St} {y : Int} (h : cellAt s.mem (s.r 15) = some y) : act s 12 0 0 0 0 = .did { s with pc := y, r := upd s.r 15 (wrap64 (s.r 15 + 1)) } := by
  have e : act s 12 0 0 0 0 = (match cellAt s.mem (s.r 15) with | some y => .did { s with pc := y, r := upd s.r 15 (wrap64 (s.r 15 + 1)) } | none => .gave 5 0) := rfl
  rw [e, h]
theorem act_jz_yes {s : St} (h : s.r 1 = 0) : act s 8 1 0 0 3 = .did { s with pc := wrap64 (s.pc + 3) } := by
  have e : act s 8 1 0 0 3 = (if s.r 1 = 0 then .did { s with pc := wrap64 (s.pc + 3) } else .did s) := rfl
  rw [e, if_pos h]
theorem act_jz_no {s : St} (h : s.r 1 ≠ 0) : act s 8 1 0 0 3 = .did s := by
  have e : act s 8 1 0 0 3 = (if s.r 1 = 0 then .did { s with pc := wrap64 (s.pc + 3) } else .did s) := rfl
  rw [e, if_neg h]
theorem act_sub {s : St} : act s 18 1 1 2 0 = .did { s with r := upd s.r 1 (wrap64 (s.r 1 - s.r 2)) } := by
  have e : act s 18 1 1 2 0 = (if C (wrap64 (18 - 16)) (s.r 2) = 0 then .did { s with r := upd s.r 1 (V (wrap64 (18 - 16)) (s.r 1) (s.r 2)) } else .gave 2 (C (wrap64 (18 - 16)) (s.r 2))) := rfl
  have e2 : wrap64 (18 - 16) = 2 := by kernel_rfl
  rw [e, e2, if_pos (show C 2 (s.r 2) = 0 by simp [C])]
  rfl
theorem cellAt_nat {mem : List Int} {k : Nat} {y : Int} (h : mem[k]? = some y) {i : Int} (e : i = k) : cellAt mem i = some y := by
  subst e
  unfold cellAt
  rw [if_pos (by omega), Int.toNat_natCast]
  exact h
/-- So many calls deep. -/
structure Deep (s : St) (n m k : Nat) : Prop where
  kind : s.kind = 0
  pc : s.pc = 4
  r1 : s.r 1 = (n : Int) - k
  r2 : s.r 2 = 1
  r15 : s.r 15 = (m : Int) - 1 - k
  steps : s.steps = 3 + 3 * k
  meml : s.mem.length = m
  cells : ∀ j, j ≤ k → s.mem[m - 1 - j]? = some (if j = 0 then 3 else 7)
/-- So many returns made. -/
structure Back (s : St) (n m i : Nat) : Prop where
  kind : s.kind = 0
  pc : s.pc = if i = 0 then 8 else if i = n + 1 then 3 else 7
  r1 : s.r 1 = 0
  r15 : s.r 15 = (m : Int) - 1 - n + i
  steps : s.steps = 4 + 3 * n + i
  meml : s.mem.length = m
  cells : ∀ j, j ≤ n → s.mem[m - 1 - j]? = some (if j = 0 then 3 else 7)
section
variable {n m : Nat}
theorem F_n (hn : n ≤ 255) : F 3 1 0 0 n = true := by
  have e : ni true n = true := by simp [ni]; omega
  have : F 3 1 0 0 n = (K 3 && rg (hA 3) 1 && rg (hB 3) 0 && rg (hC 3) 0 && ni true n) := rfl
  rw [this, e]
  rfl
/-- The state before the first call. -/
def pre3 (n m : Nat) : St := { st0 [] [] 0 m with pc := 2, steps := 2, r := upd (upd (st0 [] [] 0 m).r 1 n) 2 1 }
theorem pre_is (hn : n ≤ 255) : iter ((callL n).map encw) 2 (st0 [] [] 0 m) = pre3 n m := by
  have s1 := step_enc (l := callL n) (s := st0 [] [] 0 m) (k := 0) rfl rfl rfl (F_n hn) rfl
  have s2 := step_enc (l := callL n) (s := step ((callL n).map encw) (st0 [] [] 0 m)) (k := 1) (by rw [s1]; rfl) (by rw [s1]; rfl) rfl (by kernel_rfl) rfl
  show step ((callL n).map encw) (step ((callL n).map encw) (st0 [] [] 0 m)) = _
  rw [s2, s1]
  have e : wrap64 (wrap64 (0 + 1) + 1) = 2 := by kernel_rfl
  show ({ st0 [] [] 0 m with pc := 2, steps := wrap64 (wrap64 (0 + 1) + 1), r := upd (upd (st0 [] [] 0 m).r 1 n) 2 1 } : St) = _
  rw [e]
  rfl
theorem mem0 : (st0 [] [] 0 m).mem = List.replicate m 0 := by simp [st0]
theorem deep_zero (hn : n ≤ 255) (hm : m ≤ 255) (h : 1 ≤ m) : Deep (iter ((callL n).map encw) 3 (st0 [] [] 0 m)) n m 0 := by
  have e : iter ((callL n).map encw) 3 (st0 [] [] 0 m) = step ((callL n).map encw) (pre3 n m) := by
    rw [← pre_is hn]
    rfl
  have hw : wrap64 ((m : Int) - 1) = ((m - 1 : Nat) : Int) := by rw [wrap_in (by omega) (by omega)]; omega
  have hc : cellAt (List.replicate m (0 : Int)) (wrap64 ((m : Int) - 1)) = some 0 := cellAt_nat (k := m - 1) (by rw [List.getElem?_replicate]; simp; omega) hw
  rw [e, step_enc (l := callL n) (s := pre3 n m) (k := 2) rfl rfl rfl (by kernel_rfl) (act_call (y := 0) (by
    show cellAt (st0 [] [] 0 m).mem (wrap64 ((m : Int) - 1)) = some 0
    rw [mem0]
    exact hc))]
  refine ⟨rfl, rfl, by show (n : Int) = (n : Int) - 0; omega, rfl, ?_, by kernel_rfl, ?_, ?_⟩
  · show wrap64 ((m : Int) - 1) = (m : Int) - 1 - 0
    rw [hw]
    omega
  · show ((st0 [] [] 0 m).mem.set _ _).length = m
    rw [mem0]
    simp
  · intro j hj
    obtain rfl : j = 0 := by omega
    show ((st0 [] [] 0 m).mem.set (wrap64 ((m : Int) - 1)).toNat 3)[m - 1 - 0]? = some 3
    rw [mem0, hw, Int.toNat_natCast, Nat.sub_zero, List.getElem?_set_self (by simp; omega)]
theorem none_zero (hn : n ≤ 255) (h : m = 0) : (iter ((callL n).map encw) 3 (st0 [] [] 0 m)).kind = 5 := by
  have e : iter ((callL n).map encw) 3 (st0 [] [] 0 m) = step ((callL n).map encw) (pre3 n m) := by
    rw [← pre_is hn]
    rfl
  subst h
  rw [e, step_gave (l := callL n) (s := pre3 n 0) (k := 2) rfl rfl rfl (by kernel_rfl) (act_call_no (by kernel_rfl))]
/-- Not at the bottom: three steps, the third a call. -/
theorem deep_two {s : St} {k : Nat} (hn : n ≤ 255) (hm : m ≤ 255) (d : Deep s n m k) (hk : k < n) :
    iter ((callL n).map encw) 2 s = { s with pc := 6, steps := s.steps + 2, r := upd s.r 1 ((n : Int) - (k + 1)) } := by
  have hst := d.steps
  have e1 := step_enc (l := callL n) (s := s) (k := 4) d.kind d.pc rfl (by kernel_rfl) (act_jz_no (by show s.r 1 ≠ 0; rw [d.r1]; omega))
  have e2 := step_enc (l := callL n) (s := step ((callL n).map encw) s) (k := 5) (by rw [e1]; exact d.kind) (by rw [e1]; show s.pc + 1 = 5; rw [d.pc]; rfl) rfl (by kernel_rfl) act_sub
  show step ((callL n).map encw) (step ((callL n).map encw) s) = _
  rw [e2, e1]
  have w1 : wrap64 (wrap64 (s.steps + 1) + 1) = s.steps + 2 := by rw [wrap_in (n := s.steps + 1) (by omega) (by omega), wrap_in (by omega) (by omega)]; omega
  have w2 : wrap64 (s.r 1 - s.r 2) = (n : Int) - (k + 1) := by rw [d.r1, d.r2, wrap_in (by omega) (by omega)]; omega
  have w3 : s.pc + 1 + 1 = 6 := by rw [d.pc]; rfl
  show ({ s with pc := s.pc + 1 + 1, steps := wrap64 (wrap64 (s.steps + 1) + 1), r := upd s.r 1 (wrap64 (s.r 1 - s.r 2)) } : St) = _
  rw [w1, w2, w3]
theorem deep_next {s : St} {k : Nat} (hn : n ≤ 255) (hm : m ≤ 255) (d : Deep s n m k) (hk : k < n) (h : k + 1 < m) : Deep (iter ((callL n).map encw) 3 s) n m (k + 1) := by
  have e := deep_two hn hm d hk
  have hst := d.steps
  have hml := d.meml
  have h15 := d.r15
  have e3 : iter ((callL n).map encw) 3 s = step ((callL n).map encw) (iter ((callL n).map encw) 2 s) := rfl
  have hw : wrap64 (s.r 15 - 1) = ((m - 1 - (k + 1) : Nat) : Int) := by rw [wrap_in (by omega) (by omega)]; omega
  have hlt : m - 1 - (k + 1) < s.mem.length := by omega
  rw [e3, e, step_enc (l := callL n) (k := 6) (by exact d.kind) rfl rfl (by kernel_rfl) (act_call (y := s.mem[m - 1 - (k + 1)]) (by
    show cellAt s.mem (wrap64 (s.r 15 - 1)) = _
    exact cellAt_nat (by simp [hlt]) hw))]
  refine ⟨d.kind, rfl, ?_, d.r2, ?_, ?_, ?_, ?_⟩
  · show (n : Int) - (k + 1) = (n : Int) - ((k + 1 : Nat) : Int)
    omega
  · show wrap64 (s.r 15 - 1) = _
    rw [hw]
    omega
  · show wrap64 (s.steps + 2 + 1) = _
    rw [wrap_in (by omega) (by omega)]
    omega
  · show (s.mem.set _ _).length = m
    rw [List.length_set, hml]
  · intro j hj
    show (s.mem.set (wrap64 (s.r 15 - 1)).toNat 7)[m - 1 - j]? = _
    rw [hw, Int.toNat_natCast]
    by_cases ej : j = k + 1
    · subst ej
      rw [List.getElem?_set_self hlt, if_neg (by omega)]
    · rw [List.getElem?_set_ne (by omega)]
      exact d.cells j (by omega)
theorem deep_fall {s : St} {k : Nat} (hn : n ≤ 255) (hm : m ≤ 255) (d : Deep s n m k) (hk : k < n) (h : k + 1 = m) : (iter ((callL n).map encw) 3 s).kind = 5 := by
  have e := deep_two hn hm d hk
  have h15 := d.r15
  have hw : wrap64 (s.r 15 - 1) = -1 := by rw [wrap_in (by omega) (by omega)]; omega
  have e3 : iter ((callL n).map encw) 3 s = step ((callL n).map encw) (iter ((callL n).map encw) 2 s) := rfl
  rw [e3, e, step_gave (l := callL n) (k := 6) (by exact d.kind) rfl rfl (by kernel_rfl) (act_call_no (by
    show cellAt s.mem (wrap64 (s.r 15 - 1)) = none
    rw [hw]
    rfl))]
theorem deep_all (hn : n ≤ 255) (hm : m ≤ 255) : ∀ k, k ≤ n → k < m → Deep (iter ((callL n).map encw) (3 + 3 * k) (st0 [] [] 0 m)) n m k
  | 0, _, h => deep_zero hn hm h
  | k + 1, hk, h => by
    have ih := deep_all hn hm k (by omega) (by omega)
    rw [show 3 + 3 * (k + 1) = (3 + 3 * k) + 3 by omega, iter_add]
    exact deep_next hn hm ih (by omega) h
theorem back_zero {s : St} (hn : n ≤ 255) (hm : m ≤ 255) (d : Deep s n m n) : Back (iter ((callL n).map encw) 1 s) n m 0 := by
  have hst := d.steps
  have h15 := d.r15
  have hr1 := d.r1
  show Back (step ((callL n).map encw) s) n m 0
  rw [step_enc (l := callL n) (s := s) (k := 4) d.kind d.pc rfl (by kernel_rfl) (act_jz_yes (by show s.r 1 = 0; rw [hr1]; omega))]
  refine ⟨d.kind, ?_, by show s.r 1 = 0; rw [hr1]; omega, by show s.r 15 = _; rw [h15]; omega, ?_, d.meml, d.cells⟩
  · show wrap64 (s.pc + 1 + 3) = 8
    rw [d.pc]
    kernel_rfl
  · show wrap64 (s.steps + 1) = _
    rw [wrap_in (by omega) (by omega)]
    omega
theorem back_next {s : St} {i : Nat} (hn : n ≤ 255) (hm : m ≤ 255) (hnm : n < m) (b : Back s n m i) (hi : i ≤ n) : Back (iter ((callL n).map encw) 1 s) n m (i + 1) := by
  have hst := b.steps
  have h15 := b.r15
  have hc := b.cells (n - i) (by omega)
  have hca : cellAt s.mem (s.r 15) = some (if n - i = 0 then 3 else 7) := cellAt_nat hc (by omega)
  show Back (step ((callL n).map encw) s) n m (i + 1)
  have key : ∀ k : Nat, s.pc = (k : Int) → (callL n)[k]? = some ⟨12, 0, 0, 0, 0⟩ → Back (step ((callL n).map encw) s) n m (i + 1) := by
    intro k hpc hk
    rw [step_enc (l := callL n) (s := s) (k := k) (t := ⟨12, 0, 0, 0, 0⟩) b.kind hpc hk (by kernel_rfl) (act_ret (y := if n - i = 0 then 3 else 7) (by exact hca))]
    refine ⟨b.kind, ?_, b.r1, ?_, ?_, b.meml, b.cells⟩
    · show (if n - i = 0 then (3 : Int) else 7) = if i + 1 = 0 then 8 else if i + 1 = n + 1 then 3 else 7
      rw [if_neg (show ¬ i + 1 = 0 by omega)]
      by_cases e : i = n
      · rw [if_pos (by omega), if_pos (by omega)]
      · rw [if_neg (by omega), if_neg (by omega)]
    · show wrap64 (s.r 15 + 1) = _
      rw [wrap_in (by omega) (by omega)]
      omega
    · show wrap64 (s.steps + 1) = _
      rw [wrap_in (by omega) (by omega)]
      omega
  by_cases e : i = 0
  · refine key 8 ?_ rfl
    rw [b.pc, if_pos e]
    rfl
  · refine key 7 ?_ rfl
    rw [b.pc, if_neg e, if_neg (by omega)]
    rfl
theorem back_all {s : St} (hn : n ≤ 255) (hm : m ≤ 255) (hnm : n < m) (d : Deep s n m n) : ∀ i, i ≤ n + 1 → Back (iter ((callL n).map encw) (1 + i) s) n m i
  | 0, _ => back_zero hn hm d
  | i + 1, hi => by
    have ih := back_all hn hm hnm d i (by omega)
    rw [show 1 + (i + 1) = (1 + i) + 1 by omega, iter_add]
    exact back_next hn hm hnm ih (by omega)
/-- As deep as there is memory. -/
theorem calls_far (hn : n ≤ 255) (hm : m ≤ 255) (h : n < m) :
    let s := iter ((callL n).map encw) 3000 (st0 [] [] 0 m)
    s.kind = 1 ∧ s.r 15 = m ∧ s.r 1 = 0 ∧ s.steps = 4 * n + 6 := by
  have d := deep_all hn hm n (Nat.le_refl _) h
  have b := back_all hn hm h d (n + 1) (Nat.le_refl _)
  rw [← iter_add] at b
  have hst := b.steps
  have h15 := b.r15
  have hpc : (iter ((callL n).map encw) (3 + 3 * n + (1 + (n + 1))) (st0 [] [] 0 m)).pc = ((3 : Nat) : Int) := by
    rw [b.pc, if_neg (by omega), if_pos rfl]
    rfl
  have e := step_enc (l := callL n) (k := 3) b.kind hpc rfl (by kernel_rfl) rfl
  have key : (iter ((callL n).map encw) (3 + 3 * n + (1 + (n + 1)) + 1) (st0 [] [] 0 m)).kind = 1 ∧ (iter ((callL n).map encw) (3 + 3 * n + (1 + (n + 1)) + 1) (st0 [] [] 0 m)).r 15 = m ∧
      (iter ((callL n).map encw) (3 + 3 * n + (1 + (n + 1)) + 1) (st0 [] [] 0 m)).r 1 = 0 ∧ (iter ((callL n).map encw) (3 + 3 * n + (1 + (n + 1)) + 1) (st0 [] [] 0 m)).steps = 4 * n + 6 := by
    rw [iter_add _ _ (3 + 3 * n + (1 + (n + 1))) 1]
    show (step _ _).kind = 1 ∧ _
    simp only [iter] at e ⊢
    rw [e]
    refine ⟨rfl, ?_, b.r1, ?_⟩
    · show (iter ((callL n).map encw) (3 + 3 * n + (1 + (n + 1))) (st0 [] [] 0 m)).r 15 = m
      rw [h15]
      omega
    · show wrap64 ((iter ((callL n).map encw) (3 + 3 * n + (1 + (n + 1))) (st0 [] [] 0 m)).steps + 1) = 4 * n + 6
      rw [hst, wrap_in (by omega) (by omega)]
      omega
  have hidle := iter_idle (cd := (callL n).map encw) (s := st0 [] [] 0 m) (k := 3 + 3 * n + (1 + (n + 1)) + 1) (by rw [key.1]; decide) 3000 (by omega)
  show (iter _ 3000 _).kind = 1 ∧ _
  rw [hidle]
  exact key
theorem calls_fall (hn : n ≤ 255) (hm : m ≤ 255) (h : m ≤ n) : (iter ((callL n).map encw) 3000 (st0 [] [] 0 m)).kind = 5 := by
  by_cases h0 : m = 0
  · have k := none_zero (n := n) hn h0
    rw [iter_idle (k := 3) (by rw [k]; decide) 3000 (by omega)]
    exact k
  · have d := deep_all hn hm (m - 1) (by omega) (by omega)
    have k := deep_fall hn hm d (by omega) (by omega)
    rw [← iter_add] at k
    rw [iter_idle (k := 3 + 3 * (m - 1) + 3) (by rw [k]; decide) 3000 (by omega)]
    exact k
end
end Go.Proofs.Ytpokhdnfclmifaa
