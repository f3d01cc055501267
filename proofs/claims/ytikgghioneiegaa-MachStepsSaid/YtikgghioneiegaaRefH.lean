/-
  The document's machine: any step; a run of it: walks.
-/
import Derived.Test.YtikgghioneiegaaRefF
import Derived.Test.YtikgghioneiegaaMachQ
namespace Go.Proofs.Ytikgghioneiegaa
open Go.RowKit
set_option linter.unusedVariables false

section
variable {w w' : World} {B : Nat} {L : RLay} {cd bs : List Int} {s : St} {j : Nat} {iv ov : Value}
theorem dA_nat (v : Int) : ((dA v).toNat : Int) = dA v ∧ (dA v).toNat < 16 := by unfold dA; omega
theorem dB_nat (v : Int) : ((dB v).toNat : Int) = dB v ∧ (dB v).toNat < 16 := by unfold dB; omega
theorem dC_nat (v : Int) : ((dC v).toNat : Int) = dC v ∧ (dC v).toNat < 16 := by unfold dC; omega
theorem rstep_any (h : RepR w B L cd bs s j iv ov) (hk : s.kind = 0) :
    Calls Try.prog 24 #[.pointer (some ⟨L.g, 0, none⟩)] w fun e w' => e = .returned (.bool true) ∧ PostR B L cd bs iv ov w (step cd s) w' := by
  have hstep : step cd s = (match fetch cd s.pc with
    | none => { s with steps := wrap64 (s.steps + 1), kind := 5, code := 0 }
    | some (o, a, b, c, n) => resOf { s with steps := wrap64 (s.steps + 1), pc := s.pc + 1 } (act { s with steps := wrap64 (s.steps + 1), pc := s.pc + 1 } o a b c n)) := by
    unfold step
    rw [if_pos hk]
    cases fetch cd s.pc with
    | none => rfl
    | some t =>
      obtain ⟨o, a, b, c, n⟩ := t
      dsimp only
      cases act { s with steps := wrap64 (s.steps + 1), pc := s.pc + 1 } o a b c n <;> rfl
  rw [hstep]
  unfold fetch
  cases hc : cellAt cd s.pc with
  | none =>
    dsimp only
    refine (rstep_out w L.g _ h.mach s.steps s.pc (by rw [← hk]; rfl) rfl rfl _ cd.length L.cc rfl (cellAt_none hc)).mono fun e w' ⟨he, hm, f⟩ => ⟨he, ?_⟩
    have hm2 : Blk w' L.g 38 (rcells L cd.length { s with steps := wrap64 (s.steps + 1), kind := 5, code := 0 } j iv ov) := by
      rw [← rcells_kind _ _ { s with steps := wrap64 (s.steps + 1) } _ _ _ (h.k0 hk)]
      exact hm
    exact h.own_ f hm2 rfl rfl rfl (fun h => by cases h)
  | some v =>
    dsimp only
    obtain ⟨p, e1, e2, e3⟩ := cellAt_some hc
    obtain ⟨v0, v1⟩ := h.cwf v (List.mem_of_getElem? e3)
    cases hG : G v with
    | false =>
      simp only [Bool.false_eq_true, if_false]
      have hdec : ∀ w, Calls Try.prog 35 #[.int .i64 v] w fun e w' => e = .returned (.tuple #[.agg #[.int .i64 0, .int .i64 ((0 : Nat) : Int), .int .i64 ((0 : Nat) : Int), .int .i64 ((0 : Nat) : Int), .int .i64 0], .int .i64 4]) ∧ Below w.heap.size w w' := by
        intro w
        have := rdecode_any v v0 v1 w
        rw [hG] at this
        exact this
      exact rstep_in h hk p e1 e2 v e3 0 0 0 0 0 4 (by omega) (by omega) (by omega) hdec (fun h => by cases h)
    | true =>
      simp only [if_true]
      have hF : F (dO v) (dA v) (dB v) (dC v) (dN v) = true := by
        unfold G at hG
        simp only [Bool.and_eq_true] at hG
        exact hG.1
      obtain ⟨a1, a2⟩ := dA_nat v
      obtain ⟨b1, b2⟩ := dB_nat v
      obtain ⟨c1, c2⟩ := dC_nat v
      have hdec : ∀ w, Calls Try.prog 35 #[.int .i64 v] w fun e w' => e = .returned (.tuple #[.agg #[.int .i64 (dO v), .int .i64 ((dA v).toNat : Int), .int .i64 ((dB v).toNat : Int), .int .i64 ((dC v).toNat : Int), .int .i64 (dN v)], .int .i64 0]) ∧ Below w.heap.size w w' := by
        intro w
        have := rdecode_any v v0 v1 w
        rw [hG] at this
        rw [a1, b1, c1]
        exact this
      have hK := (F_parts hF).1
      exact rstep_in h hk p e1 e2 v e3 (dO v) _ _ _ (dN v) 0 a2 b2 c2 hdec (fun _ => by have := K_cases hK; omega)
theorem PostR.below {s' : St} (h : RepR w B L cd bs s j iv ov) (p : PostR B L cd bs iv ov w s' w') : Below B w w' := by
  obtain ⟨j', ov', h1, h2, h3⟩ := p
  exact h2.toBelow h.gB h.mB (fun k hk => (h.out.lt k hk).1) (by have := h.gB; have := h.mach.lt; omega)
end
end Go.Proofs.Ytikgghioneiegaa
