/-
  Two machines side by side: a step of one leaves the other as it was.
-/
import Derived.Test.YtikgghioneiegaaLawD
namespace Go.Proofs.Ytikgghioneiegaa
open Go.RowKit
set_option linter.unusedVariables false

theorem Rep.beside {w w' : World} {B1 B2 : Nat} {La L : Lay} {ca cd : List Int} {sa s : St} {iva ova iv ov : Value} (ha : Rep w B1 La ca sa iva ova) (h : Rep w B2 L cd s iv ov) (f : Fr La.g La.mb ova.ownBlock w w') (hg : L.g ≠ La.g) (hm : L.mb ≠ La.mb)
    (h1 : ∀ k, iv.ownBlock = some k → ova.ownBlock ≠ some k) (h2 : ∀ k, ov.ownBlock = some k → ova.ownBlock ≠ some k) : Rep w' B2 L cd s iv ov := by
  refine ⟨h.mach.fr f hg (h.mach.ne_ ha.mem (by decide)) (own_not ha.out h.mach (by decide)), ?_, ?_, h.mem.fr f (h.mem.ne_ ha.mach (by decide)) hm (own_not ha.out h.mem (by decide)), ?_, ?_, h.outl, h.meml, h.codel, h.gB, h.mB⟩
  · obtain ⟨cur, q1, q2, q3⟩ := h.code
    exact ⟨cur, q1.fr f (q1.ne_ ha.mach (by decide)) (q1.ne_ ha.mem (by decide)) (own_not ha.out q1 (by decide)), q2, q3⟩
  · obtain ⟨cur, q1, q2, q3⟩ := h.doing
    exact ⟨cur, q1.fr f (q1.ne_ ha.mach (by decide)) (q1.ne_ ha.mem (by decide)) (own_not ha.out q1 (by decide)), q2, q3⟩
  · obtain ⟨A, c, q1, q2, q3, q4, q5⟩ := h.inn
    refine ⟨A, c, q1, q2, q3, q4, fun hl => ?_⟩
    obtain ⟨ib, off, cur, r1, r2, r3, r4⟩ := q5 hl
    exact ⟨ib, off, cur, r1, r2.fr f (r2.ne_ ha.mach (by decide)) (r2.ne_ ha.mem (by decide)) (fun e => h1 ib (by rw [q1, r1]; rfl) e.symm), r3, r4⟩
  · refine ⟨h.out.1, ?_⟩
    rcases h.out.2 with hn | ⟨g, cap, cur, hv, hb, hgg, rest⟩
    · exact .inl hn
    · refine .inr ⟨g, cap, cur, hv, hb, ?_, rest⟩
      have k3 : Blk w g 5 cur := hgg
      exact k3.fr f (k3.ne_ ha.mach (by decide)) (k3.ne_ ha.mem (by decide)) (fun e => h2 g (by rw [hv]; rfl) e.symm)
theorem Rep.lower {w : World} {B B' : Nat} {L : Lay} {cd : List Int} {s : St} {iv ov : Value} (h : Rep w B L cd s iv ov) (hb : B' ≤ B) : Rep w B' L cd s iv ov :=
  ⟨h.mach, h.code, h.doing, h.mem, h.inn, own_mono h.out hb, h.outl, h.meml, h.codel, Nat.le_trans hb h.gB, Nat.le_trans hb h.mB⟩
structure Two (w : World) (B : Nat) (La Lb : Lay) (ca cb : List Int) (sa sb : St) : Prop where
  ex : ∃ iva ova ivb ovb, Rep w B La ca sa iva ova ∧ Rep w B Lb cb sb ivb ovb ∧ (∀ k, iva.ownBlock = some k → k < w.heap.size ∧ ovb.ownBlock ≠ some k) ∧
    (∀ k, ivb.ownBlock = some k → k < w.heap.size ∧ ova.ownBlock ≠ some k) ∧ (∀ k, ova.ownBlock = some k → ovb.ownBlock ≠ some k)
  g : La.g ≠ Lb.g
  mb : La.mb ≠ Lb.mb
section
variable {w w' : World} {B : Nat} {La Lb : Lay} {ca cb : List Int} {sa sb : St}
theorem Two.swap (t : Two w B La Lb ca cb sa sb) : Two w B Lb La cb ca sb sa := by
  obtain ⟨⟨iva, ova, ivb, ovb, ha, hb, h1, h2, h3⟩, hg, hm⟩ := t
  exact ⟨⟨ivb, ovb, iva, ova, hb, ha, h2, h1, fun k hk e => h3 k e hk⟩, Ne.symm hg, Ne.symm hm⟩
theorem Two.keep (t : Two w B La Lb ca cb sa sb) (h : Below w.heap.size w w') : Two w' B La Lb ca cb sa sb := by
  obtain ⟨⟨iva, ova, ivb, ovb, ha, hb, h1, h2, h3⟩, hg, hm⟩ := t
  exact ⟨⟨iva, ova, ivb, ovb, ha.keep h, hb.keep h, fun k hk => ⟨Nat.lt_of_lt_of_le (h1 k hk).1 h.size, (h1 k hk).2⟩, fun k hk => ⟨Nat.lt_of_lt_of_le (h2 k hk).1 h.size, (h2 k hk).2⟩, h3⟩, hg, hm⟩
theorem step_do {L : Lay} {cd : List Int} {s : St} {iv ov : Value} (h : Rep w B L cd s iv ov) :
    Calls Try.prog 23 #[.pointer (some ⟨L.g, 0, none⟩)] w fun e w' => (∃ b, e = .returned (.bool b)) ∧ Post B L cd iv ov w (step cd s) w' := by
  by_cases hk : s.kind = 0
  · refine (step_any h hk).mono ?_
    rintro e w' ⟨rfl, hp⟩
    exact ⟨⟨_, rfl⟩, hp⟩
  · refine (step_over h hk).mono ?_
    rintro e w' ⟨rfl, hb⟩
    rw [step_idle hk]
    exact ⟨⟨_, rfl⟩, iv, ov, h.keep hb, (Fr.refl _ _ _ w).below hb, .inl rfl, fun _ h => h⟩
theorem Two.step_a (t : Two w B La Lb ca cb sa sb) : Calls Try.prog 23 #[.pointer (some ⟨La.g, 0, none⟩)] w fun e w' => (∃ b, e = .returned (.bool b)) ∧ Two w' B La Lb ca cb (step ca sa) sb ∧ Below B w w' := by
  obtain ⟨⟨iva, ova, ivb, ovb, ha, hb, h1, h2, h3⟩, hg, hm⟩ := t
  refine (step_do ha).mono ?_
  rintro e w' ⟨he, hp⟩
  have hB := Post.below ha hp
  obtain ⟨iva', ova', ha', f, hat, hia⟩ := hp
  have hb' := Rep.beside ha hb f (Ne.symm hg) (Ne.symm hm) (fun k hk => (h2 k hk).2) (fun k hk e => h3 k e hk)
  refine ⟨he, ⟨⟨iva', ova', ivb, ovb, ha', hb', ?_, ?_, ?_⟩, hg, hm⟩, hB⟩
  · intro k hk
    have := h1 k (hia k hk)
    exact ⟨Nat.lt_of_lt_of_le this.1 f.size, this.2⟩
  · intro k hk
    have hk2 := h2 k hk
    refine ⟨Nat.lt_of_lt_of_le hk2.1 f.size, ?_⟩
    rcases hat with e | e
    · rw [e]; exact hk2.2
    · intro e2
      have := e k e2
      omega
  · intro k hk e2
    rcases hat with e | e
    · rw [e] at hk; exact h3 k hk e2
    · have := e k hk
      have := (hb.out.lt k e2).2
      omega
theorem Two.step_b (t : Two w B La Lb ca cb sa sb) : Calls Try.prog 23 #[.pointer (some ⟨Lb.g, 0, none⟩)] w fun e w' => (∃ b, e = .returned (.bool b)) ∧ Two w' B La Lb ca cb sa (step cb sb) ∧ Below B w w' := by
  refine t.swap.step_a.mono ?_
  rintro e w' ⟨he, t', hB⟩
  exact ⟨he, t'.swap, hB⟩
theorem Two.out_a (t : Two w B La Lb ca cb sa sb) : Calls Try.prog 22 #[.pointer (some ⟨La.g, 0, none⟩)] w fun e w' => ∃ A c, e = .returned (.agg #[.int .i64 sa.kind, .int .i64 sa.code, .slice A sa.out.length c, .int .i64 sa.steps]) ∧
    w'.ownsRow w.heap.size 5 1 (.slice A sa.out.length c) sa.out.length (sa.out.map (Value.int .u8)) ∧ Below w.heap.size w w' := by
  obtain ⟨⟨iva, ova, ivb, ovb, ha, hb, h1, h2, h3⟩, hg, hm⟩ := t
  exact outcome_rep ha
theorem Two.out_b (t : Two w B La Lb ca cb sa sb) : Calls Try.prog 22 #[.pointer (some ⟨Lb.g, 0, none⟩)] w fun e w' => ∃ A c, e = .returned (.agg #[.int .i64 sb.kind, .int .i64 sb.code, .slice A sb.out.length c, .int .i64 sb.steps]) ∧
    w'.ownsRow w.heap.size 5 1 (.slice A sb.out.length c) sb.out.length (sb.out.map (Value.int .u8)) ∧ Below w.heap.size w w' := t.swap.out_a
theorem Two.new_ {w3 : World} {iva ivb : Value} (ha : Rep w B La ca sa iva (.slice none 0 0)) (ka : ∀ k, iva.ownBlock = some k → k < w.heap.size) (hb : Rep w3 w.heap.size Lb cb sb ivb (.slice none 0 0)) (kb : ∀ k, ivb.ownBlock = some k → k < w3.heap.size) (hw : Below w.heap.size w w3) (hB : B ≤ w.heap.size) : Two w3 B La Lb ca cb sa sb := by
  have g1 := ha.mach.lt
  have g2 := hb.gB
  have m1 := ha.mem.lt
  have m2 := hb.mB
  exact ⟨⟨iva, _, ivb, _, ha.keep hw, hb.lower hB, fun k hk => ⟨Nat.lt_of_lt_of_le (ka k hk) hw.size, by simp [Value.ownBlock]⟩, fun k hk => ⟨kb k hk, by simp [Value.ownBlock]⟩, by simp [Value.ownBlock]⟩, by omega, by omega⟩
end
section
variable {w : World} {B : Nat} {CA DA IA : Option Addr} {cd dd bs : List Int}
theorem new_off (h : In3 w B CA DA IA cd dd bs) (c0 c1 c2 : Nat) (E q : Int) (hn : ¬ (okF cd dd E ∧ okA dd bs q)) :
    Calls Try.prog 17 #[.agg #[.slice CA cd.length c0, .slice DA dd.length c1, .int .i64 E], .int .i64 q, .slice IA bs.length c2] w fun e w' => ∃ x, e = .returned (.tuple #[.pointer none, .int .i64 x]) ∧ (x != 0) = true ∧ Below w.heap.size w w' := by
  by_cases hf : okF cd dd E
  · refine (new_no_arg h c0 c1 c2 E q hf (fun ha => hn ⟨hf, ha⟩)).mono ?_
    rintro e w' ⟨rfl, hb⟩
    exact ⟨1, rfl, rfl, hb⟩
  · refine (new_no_form h c0 c1 c2 E q hf).mono ?_
    rintro e w' ⟨rfl, hb⟩
    exact ⟨4, rfl, rfl, hb⟩
theorem new_any (h : In3 w B CA DA IA cd dd bs) (c0 c1 c2 : Nat) (E q : Int) :
    Calls Try.prog 17 #[.agg #[.slice CA cd.length c0, .slice DA dd.length c1, .int .i64 E], .int .i64 q, .slice IA bs.length c2] w fun e w' => ∃ p x, e = .returned (.tuple #[.pointer p, .int .i64 x]) ∧ Below w.heap.size w w' := by
  by_cases hn : okF cd dd E ∧ okA dd bs q
  · obtain ⟨m, rfl⟩ : ∃ m : Nat, q = m := ⟨q.toNat, by have := hn.2.1; omega⟩
    refine (new_rep h c0 c1 c2 E m hn.1 hn.2).mono ?_
    rintro e w' ⟨L, iv, rfl, hR, hB⟩
    exact ⟨_, _, rfl, hB⟩
  · refine (new_off h c0 c1 c2 E q hn).mono ?_
    rintro e w' ⟨x, rfl, _, hb⟩
    exact ⟨_, _, rfl, hb⟩
end
end Go.Proofs.Ytikgghioneiegaa
