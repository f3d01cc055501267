/-
  The document's signs: a walk; a text's places, what is told of it.
-/
import Derived.Test.YtihnnbeepfgphaaGreatDoorLawP
namespace Go.Proofs.YtihnnbeepfgphaaGreatDoor
open Go.RowKit
set_option linter.unusedVariables false
set_option linter.unusedSimpArgs false

set_option maxRecDepth 100000 in
set_option maxHeartbeats 2000000 in
theorem rsign_any (k : Int) (w : World) : Calls Tryz.prog 11 #[.int .i64 k] w fun e w' => e = .returned (.tuple #[.string (bs (signZ k).1), .int .i64 (signZ k).2]) ∧ w = w' := by
  by_cases h18 : k = 18
  · subst h18
    go_enter Tryz.func11, Tryz.ntmps11
    go_wp2
    go_ret2
    exact ⟨rfl, rfl⟩
  have e18 : (k == 18) = false := by simpa using h18
  by_cases h17 : k = 17
  · subst h17
    go_enter Tryz.func11, Tryz.ntmps11
    go_wp2
    go_ret2
    exact ⟨rfl, rfl⟩
  have e17 : (k == 17) = false := by simpa using h17
  by_cases h11 : k = 11
  · subst h11
    go_enter Tryz.func11, Tryz.ntmps11
    go_wp2
    go_ret2
    exact ⟨rfl, rfl⟩
  have e11 : (k == 11) = false := by simpa using h11
  by_cases h12 : k = 12
  · subst h12
    go_enter Tryz.func11, Tryz.ntmps11
    go_wp2
    go_ret2
    exact ⟨rfl, rfl⟩
  have e12 : (k == 12) = false := by simpa using h12
  by_cases h13 : k = 13
  · subst h13
    go_enter Tryz.func11, Tryz.ntmps11
    go_wp2
    go_ret2
    exact ⟨rfl, rfl⟩
  have e13 : (k == 13) = false := by simpa using h13
  by_cases h14 : k = 14
  · subst h14
    go_enter Tryz.func11, Tryz.ntmps11
    go_wp2
    go_ret2
    exact ⟨rfl, rfl⟩
  have e14 : (k == 14) = false := by simpa using h14
  by_cases h15 : k = 15
  · subst h15
    go_enter Tryz.func11, Tryz.ntmps11
    go_wp2
    go_ret2
    exact ⟨rfl, rfl⟩
  have e15 : (k == 15) = false := by simpa using h15
  by_cases h16 : k = 16
  · subst h16
    go_enter Tryz.func11, Tryz.ntmps11
    go_wp2
    go_ret2
    exact ⟨rfl, rfl⟩
  have e16 : (k == 16) = false := by simpa using h16
  by_cases h1 : k = 1
  · subst h1
    go_enter Tryz.func11, Tryz.ntmps11
    go_wp2
    go_ret2
    exact ⟨rfl, rfl⟩
  have e1 : (k == 1) = false := by simpa using h1
  by_cases h2 : k = 2
  · subst h2
    go_enter Tryz.func11, Tryz.ntmps11
    go_wp2
    go_ret2
    exact ⟨rfl, rfl⟩
  have e2 : (k == 2) = false := by simpa using h2
  by_cases h3 : k = 3
  · subst h3
    go_enter Tryz.func11, Tryz.ntmps11
    go_wp2
    go_ret2
    exact ⟨rfl, rfl⟩
  have e3 : (k == 3) = false := by simpa using h3
  by_cases h4 : k = 4
  · subst h4
    go_enter Tryz.func11, Tryz.ntmps11
    go_wp2
    go_ret2
    exact ⟨rfl, rfl⟩
  have e4 : (k == 4) = false := by simpa using h4
  by_cases h5 : k = 5
  · subst h5
    go_enter Tryz.func11, Tryz.ntmps11
    go_wp2
    go_ret2
    exact ⟨rfl, rfl⟩
  have e5 : (k == 5) = false := by simpa using h5
  have hz : signZ k = ([], 0) := by simp only [signZ, if_neg h18, if_neg h17, if_neg h11, if_neg h12, if_neg h13, if_neg h14, if_neg h15, if_neg h16, if_neg h1, if_neg h2, if_neg h3, if_neg h4, if_neg h5]
  rw [hz]
  clear h18 h17 h11 h12 h13 h14 h15 h16 h1 h2 h3 h4 h5 hz
  go_enter Tryz.func11, Tryz.ntmps11
  go_wp2
  go_ret2
  exact ⟨rfl, rfl⟩
theorem file_kind : ∀ {n : Nat} {l : List T} {o : Nat} {t : Tr} {l' : List T}, go n .file l o = .ok t l' → ∃ tx a ks, t = .mk 1 0 0 [] tx a ks := by
  intro n l o t l' h
  cases n with
  | zero => cases h
  | succ n =>
    simp only [go] at h
    unfold want takeR at h
    split at h
    · cases l with
      | nil => cases h
      | cons x r =>
        try simp only at h
        try unfold wantK takeR at h
        split at h
        · cases r with
          | nil => cases h
          | cons y r =>
            try simp only at h
            try unfold want takeR at h
            split at h
            · cases r with
              | nil => cases h
              | cons z r =>
                try simp only at h
                generalize go n (.imports []) r o = q at h
                cases q with
                | bad a e => cases h
                | out => cases h
                | ok t1 l1 =>
                  simp only [bnd] at h
                  generalize go n (.decls t1.kids) l1 o = q at h
                  cases q with
                  | bad a e => cases h
                  | out => cases h
                  | ok t2 l2 =>
                    simp only at h
                    injection h with h1 h2
                    subst h1
                    exact ⟨_, _, _, rfl⟩
            · try unfold refuse at h
              cases r with
              | nil => cases h
              | cons z r => cases h
        · try unfold refuse at h
          cases r with
          | nil => cases h
          | cons z r => cases h
    · try unfold refuse at h
      cases l with
      | nil => cases h
      | cons z r => cases h
/-- What a text is told to be: a place in it and an error, or a tree of bounded size. -/
theorem parseD_says (l : List UInt8) : (∃ a k, parseD l = .fault a k ∧ a ≤ l.length ∧ k ≠ 0) ∨ ∃ tx a ks, parseD l = .tree (.mk 1 0 0 [] tx a ks) ∧ (Tr.mk 1 0 0 [] tx a ks).nodes ≤ 3000 ∧ (Tr.mk 1 0 0 [] tx a ks).deep ≤ 100 := by
  rcases lexD_cases l with ⟨ts, h⟩ | ⟨p, k, h, hp, hk⟩
  · have e : parseD l = parseT ts := by unfold parseD; rw [h]; rfl
    have hg : gd l.length ts := ⟨(lexD_good h).1, lexD_places h⟩
    have hf := file_fine hg
    rw [e]
    unfold parseT
    generalize hr : go (10 * ts.length + 1) .file ts 0 = r at hf ⊢
    cases r with
    | out => exact hf.elim
    | bad a e =>
      refine .inl ⟨a, e, rfl, hf.1, ?_⟩
      rcases hf.2 with h | h <;> rw [h] <;> decide
    | ok t l' =>
      obtain ⟨tx, a, ks, rfl⟩ := file_kind hr
      by_cases h1 : 3000 < (Tr.mk 1 0 0 [] tx a ks).nodes
      · exact .inl ⟨0, 2, by simp only [h1, if_true], by omega, by decide⟩
      · by_cases h2 : 100 < (Tr.mk 1 0 0 [] tx a ks).deep
        · exact .inl ⟨0, 3, by simp only [h1, h2, if_true, if_false], by omega, by decide⟩
        · exact .inr ⟨tx, a, ks, by simp only [h1, h2, if_false], by omega, by omega⟩
  · have e : parseD l = .fault p k := by unfold parseD; rw [h]; rcases hk with rfl | rfl <;> rfl
    exact .inl ⟨p, k, e, hp, by rcases hk with rfl | rfl <;> decide⟩
end Go.Proofs.YtihnnbeepfgphaaGreatDoor
