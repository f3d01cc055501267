/-
  More steps: what stays, what grows; one output as the beginning of another.
-/
import Derived.Test.YtikgghioneiegaaLawB
namespace Go.Proofs.Ytikgghioneiegaa
open Go.RowKit
set_option linter.unusedVariables false

theorem act_did {s s' : St} {o n : Int} {a b c : Nat} (h : act s o a b c n = .did s') : s'.steps = s.steps ∧ ∃ t, s'.out = s.out ++ t := by
  unfold act at h
  by_cases e0 : o = 0
  · rw [if_pos e0] at h
    injection h with h
    subst h
    exact ⟨rfl, [], by simp⟩
  rw [if_neg e0] at h
  by_cases e1 : o = 1
  · rw [if_pos e1] at h
    cases h
  rw [if_neg e1] at h
  by_cases e2 : o = 2
  · rw [if_pos e2] at h
    injection h with h
    subst h
    exact ⟨rfl, [], by simp⟩
  rw [if_neg e2] at h
  by_cases e3 : o = 3
  · rw [if_pos e3] at h
    injection h with h
    subst h
    exact ⟨rfl, [], by simp⟩
  rw [if_neg e3] at h
  by_cases e4 : o = 4
  · rw [if_pos e4] at h
    injection h with h
    subst h
    exact ⟨rfl, [], by simp⟩
  rw [if_neg e4] at h
  by_cases e5 : o = 5
  · rw [if_pos e5] at h
    split at h
    all_goals first
      | (injection h with h; subst h; exact ⟨rfl, [], by simp⟩)
      | (injection h with h; subst h; exact ⟨rfl, _, rfl⟩)
      | cases h
  rw [if_neg e5] at h
  by_cases e6 : o = 6
  · rw [if_pos e6] at h
    split at h
    all_goals first
      | (injection h with h; subst h; exact ⟨rfl, [], by simp⟩)
      | (injection h with h; subst h; exact ⟨rfl, _, rfl⟩)
      | cases h
  rw [if_neg e6] at h
  by_cases e7 : o = 7
  · rw [if_pos e7] at h
    injection h with h
    subst h
    exact ⟨rfl, [], by simp⟩
  rw [if_neg e7] at h
  by_cases e8 : o = 8
  · rw [if_pos e8] at h
    split at h
    all_goals first
      | (injection h with h; subst h; exact ⟨rfl, [], by simp⟩)
      | (injection h with h; subst h; exact ⟨rfl, _, rfl⟩)
      | cases h
  rw [if_neg e8] at h
  by_cases e9 : o = 9
  · rw [if_pos e9] at h
    split at h
    all_goals first
      | (injection h with h; subst h; exact ⟨rfl, [], by simp⟩)
      | (injection h with h; subst h; exact ⟨rfl, _, rfl⟩)
      | cases h
  rw [if_neg e9] at h
  by_cases e10 : o = 10
  · rw [if_pos e10] at h
    split at h
    all_goals first
      | (injection h with h; subst h; exact ⟨rfl, [], by simp⟩)
      | (injection h with h; subst h; exact ⟨rfl, _, rfl⟩)
      | cases h
  rw [if_neg e10] at h
  by_cases e11 : o = 11
  · rw [if_pos e11] at h
    split at h
    all_goals first
      | (injection h with h; subst h; exact ⟨rfl, [], by simp⟩)
      | (injection h with h; subst h; exact ⟨rfl, _, rfl⟩)
      | cases h
  rw [if_neg e11] at h
  by_cases e12 : o = 12
  · rw [if_pos e12] at h
    split at h
    all_goals first
      | (injection h with h; subst h; exact ⟨rfl, [], by simp⟩)
      | (injection h with h; subst h; exact ⟨rfl, _, rfl⟩)
      | cases h
  rw [if_neg e12] at h
  by_cases e13 : o = 13
  · rw [if_pos e13] at h
    split at h
    all_goals first
      | (injection h with h; subst h; exact ⟨rfl, [], by simp⟩)
      | (injection h with h; subst h; exact ⟨rfl, _, rfl⟩)
      | cases h
  rw [if_neg e13] at h
  by_cases e14 : o = 14
  · rw [if_pos e14] at h
    split at h
    · injection h with h
      subst h
      exact ⟨rfl, _, rfl⟩
    · injection h with h
      subst h
      exact ⟨rfl, [], by simp⟩
  rw [if_neg e14] at h
  by_cases e15 : o = 15
  · rw [if_pos e15] at h
    injection h with h
    subst h
    exact ⟨rfl, [], by simp⟩
  rw [if_neg e15] at h
  by_cases e16 : o ≤ 32
  · rw [if_pos e16] at h
    split at h
    all_goals first
      | (injection h with h; subst h; exact ⟨rfl, [], by simp⟩)
      | (injection h with h; subst h; exact ⟨rfl, _, rfl⟩)
      | cases h
  rw [if_neg e16] at h
  injection h with h
  subst h
  exact ⟨rfl, [], by simp⟩
theorem step_more (cd : List Int) (s : St) (hk : s.kind = 0) : (step cd s).steps = wrap64 (s.steps + 1) ∧ ∃ t, (step cd s).out = s.out ++ t := by
  unfold step
  rw [if_pos hk]
  split
  · exact ⟨rfl, [], by simp⟩
  · split
    · rename_i s' hd
      have := act_did hd
      exact this
    · exact ⟨rfl, [], by simp⟩
theorem wrap_in {n : Int} (h0 : -9223372036854775808 ≤ n) (h1 : n ≤ 9223372036854775807) : wrap64 n = n := by
  unfold wrap64
  omega
theorem iter_steps (cd : List Int) (s : St) (h0 : s.steps = 0) : ∀ k : Nat, k ≤ 1000000000000 → 0 ≤ (iter cd k s).steps ∧ (iter cd k s).steps ≤ k ∧ ((iter cd k s).kind = 0 → (iter cd k s).steps = k)
  | 0, _ => by simp [iter, h0]
  | k + 1, hk => by
    have ih := iter_steps cd s h0 k (by omega)
    show 0 ≤ (step cd (iter cd k s)).steps ∧ (step cd (iter cd k s)).steps ≤ ((k + 1 : Nat) : Int) ∧ ((step cd (iter cd k s)).kind = 0 → (step cd (iter cd k s)).steps = ((k + 1 : Nat) : Int))
    by_cases hz : (iter cd k s).kind = 0
    · have h1 := (step_more cd _ hz).1
      have h2 := ih.2.2 hz
      rw [h1, h2, wrap_in (by omega) (by omega)]
      refine ⟨by omega, by omega, fun _ => by omega⟩
    · rw [step_idle hz]
      exact ⟨ih.1, by omega, fun h => absurd h hz⟩
theorem iter_add (cd : List Int) (s : St) (k : Nat) : ∀ j : Nat, iter cd (k + j) s = iter cd j (iter cd k s)
  | 0 => rfl
  | j + 1 => by
    show step cd (iter cd (k + j) s) = step cd (iter cd j (iter cd k s))
    rw [iter_add cd s k j]
theorem iter_out (cd : List Int) (s : St) : ∀ j : Nat, ∃ t, (iter cd j s).out = s.out ++ t
  | 0 => ⟨[], by simp [iter]⟩
  | j + 1 => by
    obtain ⟨t, ht⟩ := iter_out cd s j
    show ∃ t, (step cd (iter cd j s)).out = s.out ++ t
    by_cases hz : (iter cd j s).kind = 0
    · obtain ⟨u, hu⟩ := (step_more cd _ hz).2
      exact ⟨t ++ u, by rw [hu, ht, List.append_assoc]⟩
    · rw [step_idle hz]
      exact ⟨t, ht⟩
theorem iter_mono (cd : List Int) (s : St) (h0 : s.steps = 0) (k j : Nat) (hk : k + j ≤ 1000000000000) : (iter cd k s).steps ≤ (iter cd (k + j) s).steps := by
  by_cases hz : (iter cd k s).kind = 0
  · have h1 := (iter_steps cd s h0 k (by omega)).2.2 hz
    induction j with
    | zero => exact Int.le_refl _
    | succ j ih =>
      have ih' := ih (by omega)
      have e : iter cd (k + (j + 1)) s = step cd (iter cd (k + j) s) := rfl
      rw [e]
      by_cases hy : (iter cd (k + j) s).kind = 0
      · have h2 := (iter_steps cd s h0 (k + j) (by omega)).2.2 hy
        rw [(step_more cd _ hy).1, h2, wrap_in (by omega) (by omega)]
        omega
      · rw [step_idle hy]
        exact ih'
  · rw [iter_idle hz (k + j) (by omega)]
    exact Int.le_refl _
theorem own_prefix {w : World} {base m c : Nat} {e : TypeId} {A : Option Addr} {xs : List Value} (h : w.ownsRow base e 1 (.slice A m c) m xs) {n : Nat} (hn : n ≤ m) : w.ownsRow base e 1 (.slice A n c) n (xs.take n) := by
  have hl : xs.length = m := by have := h.1; omega
  refine ⟨by simp; omega, ?_⟩
  rcases h.2 with ⟨e1, e2⟩ | ⟨g, cap, cur, e1, hb, hg, hn', hm, hs, ht⟩
  · injection e1 with e3 e4 e5
    subst e3 e5
    obtain rfl : n = 0 := by omega
    exact .inl ⟨rfl, rfl⟩
  · injection e1 with e3 e4 e5
    subst e3 e5
    refine .inr ⟨g, c, cur, rfl, hb, hg, by omega, hm, hs, ?_⟩
    rw [← ht, List.take_take]
    congr 1
    omega
theorem own_cap {w : World} {base m c : Nat} {e : TypeId} {A : Option Addr} {xs : List Value} (h : w.ownsRow base e 1 (.slice A m c) m xs) : m ≤ c ∧ c ≤ maxLen := by
  rcases h.2 with ⟨e1, e2⟩ | ⟨g, cap, cur, e1, hb, hg, hn', hm, hs, ht⟩
  · injection e1 with e3 e4 e5
    subst e5
    exact ⟨by omega, by simp⟩
  · injection e1 with e3 e4 e5
    subst e5
    exact ⟨hn', hm⟩
set_option maxHeartbeats 1000000 in
theorem begins_yes (w : World) (b1 b2 : Nat) (k1 k2 c1 c2 s1 s2 : Int) (m n : Nat) (xs ys : List Int) (A1 A2 : Option Addr) (d1 d2 : Nat) (hm : m = xs.length) (hn : n = (xs ++ ys).length)
    (h1 : w.ownsRow b1 5 1 (.slice A1 m d1) m (xs.map (Value.int .u8))) (h2 : w.ownsRow b2 5 1 (.slice A2 n d2) n ((xs ++ ys).map (Value.int .u8))) :
    Calls Try.prog 28 #[.agg #[.int .i64 k1, .int .i64 c1, .slice A1 m d1, .int .i64 s1], .agg #[.int .i64 k2, .int .i64 c2, .slice A2 n d2, .int .i64 s2]] w fun e w' => e = .returned (.bool true) ∧ Below w.heap.size w w' := by
  have hmn : m ≤ n := by rw [hm, hn]; simp
  have hcap := own_cap h2
  have h3 := own_prefix h2 hmn
  have htk : ((xs ++ ys).map (Value.int .u8)).take m = xs.map (Value.int .u8) := by
    rw [hm]
    simp
  rw [htk] at h3
  have HM := Lib.hid hm
  have HN := Lib.hid hn
  clear hm hn htk
  go_enter Try.func28, Try.ntmps28
  go_wp2
  refine st_all (by kernel_rfl) (by kernel_rfl) ?_
  intro W hW
  obtain ⟨kx, ky, kB⟩ := two_new w #[.int .i64 k1, .int .i64 c1, .slice A1 m d1, .int .i64 s1] #[.int .i64 k2, .int .i64 c2, .slice A2 n d2, .int .i64 s2] 29 29
  have jB : Below w.heap.size w W := by rw [← hW]; exact kB.drew
  have q1 : W.cell? ⟨w.heap.size, 2, none⟩ = some (.slice A1 m d1) := by rw [← hW]; exact kx.get (i := 2) rfl
  have q2 : W.cell? ⟨w.heap.size + 1, 2, none⟩ = some (.slice A2 n d2) := by rw [← hW]; exact ky.get (i := 2) rfl
  have r1 := conv_own (own_below h1 jB)
  have r3 := conv_own (own_below h3 jB)
  have hmn1 : (m : Int) ≤ (n : Int) := by omega
  have hmd : (m : Int) ≤ (d2 : Int) := by omega
  have hmd2 : m ≤ d2 := by omega
  clear hW kx ky kB h1 h2 h3 hcap
  repeat still_step
  refine wpStill_nil ?_
  clear q1 q2 r1 r3
  go_wp2
  go_ret
  exact ⟨rfl, jB⟩
theorem more_facts (cd dd bs : List Int) (E q fuel more : Int) (h0 : 0 ≤ fuel) (h1 : fuel ≤ 3000) (h2 : 0 ≤ more) (h3 : more ≤ 3000) :
    ((runP cd dd bs E q fuel).kind ≠ 0 → runP cd dd bs E q (fuel + more) = runP cd dd bs E q fuel) ∧
    ((runP cd dd bs E q fuel).kind = 0 → (∃ t, (runP cd dd bs E q (fuel + more)).out = (runP cd dd bs E q fuel).out ++ t) ∧ (runP cd dd bs E q fuel).steps ≤ (runP cd dd bs E q (fuel + more)).steps) := by
  unfold runP
  by_cases hc : okF cd dd E ∧ okA dd bs q
  · rw [if_pos hc, if_pos hc]
    have e1 : (min fuel 4194304).toNat = fuel.toNat := by rw [Int.min_eq_left (by omega)]
    have e2 : (min (fuel + more) 4194304).toNat = fuel.toNat + more.toNat := by rw [Int.min_eq_left (by omega)]; omega
    rw [e1, e2]
    refine ⟨fun hk => ?_, fun hk => ⟨?_, ?_⟩⟩
    · rw [iter_idle (cd := cd) (s := st0 dd bs E q.toNat) hk (fuel.toNat + more.toNat) (by omega)]
    · show ∃ t, (iter cd (fuel.toNat + more.toNat) (st0 dd bs E q.toNat)).out = (iter cd fuel.toNat (st0 dd bs E q.toNat)).out ++ t
      rw [iter_add]
      exact iter_out cd _ _
    · exact iter_mono cd (st0 dd bs E q.toNat) rfl fuel.toNat more.toNat (by omega)
  · rw [if_neg hc, if_neg hc]
    exact ⟨fun _ => rfl, fun hk => by cases hk⟩
end Go.Proofs.Ytikgghioneiegaa
