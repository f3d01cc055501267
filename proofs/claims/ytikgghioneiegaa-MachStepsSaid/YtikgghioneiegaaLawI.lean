/-
  The program's machine and the document's, side by side.
-/
import Derived.Test.YtikgghioneiegaaLawH
import Derived.Test.YtikgghioneiegaaRefL
import Derived.Test.YtikgghioneiegaaMachG
namespace Go.Proofs.Ytikgghioneiegaa
open Go.RowKit
set_option linter.unusedVariables false

theorem RepR.beside {w w' : World} {B1 B2 : Nat} {La : Lay} {L : RLay} {ca cd bs : List Int} {sa s : St} {j : Nat} {iva ova iv ov : Value} (ha : Rep w B1 La ca sa iva ova) (h : RepR w B2 L cd bs s j iv ov) (f : Fr La.g La.mb ova.ownBlock w w') (hm : L.mb ≠ La.mb) (hc : L.cb ≠ La.mb)
    (h1 : ∀ k, iv.ownBlock = some k → ova.ownBlock ≠ some k) (h2 : ∀ k, ov.ownBlock = some k → ova.ownBlock ≠ some k) : RepR w' B2 L cd bs s j iv ov := by
  refine ⟨h.mach.fr f (h.mach.ne_ ha.mach (by decide)) (h.mach.ne_ ha.mem (by decide)) (own_not ha.out h.mach (by decide)), ?_, h.cne, h.cwf, h.mem.fr f (h.mem.ne_ ha.mach (by decide)) hm (own_not ha.out h.mem (by decide)), ?_, h.innj, h.jle, ?_, h.outl, h.meml, h.codel, h.gB, h.mB, h.k0⟩
  · obtain ⟨ccs, q1, q2⟩ := h.code
    exact ⟨ccs, q1.fr f (q1.ne_ ha.mach (by decide)) hc (own_not ha.out q1 (by decide)), q2⟩
  · obtain ⟨A, c, q1, q2, q3, q5⟩ := h.inn
    refine ⟨A, c, q1, q2, q3, fun hl => ?_⟩
    obtain ⟨ib, cur, r1, r2, r3, r4⟩ := q5 hl
    exact ⟨ib, cur, r1, r2.fr f (r2.ne_ ha.mach (by decide)) (r2.ne_ ha.mem (by decide)) (fun e => h1 ib (by rw [q1, r1]; rfl) e.symm), r3, r4⟩
  · refine ⟨h.out.1, ?_⟩
    rcases h.out.2 with hn | ⟨g, cap, cur, hv, hb, hgg, rest⟩
    · exact .inl hn
    · refine .inr ⟨g, cap, cur, hv, hb, ?_, rest⟩
      have k3 : Blk w g 5 cur := hgg
      exact k3.fr f (k3.ne_ ha.mach (by decide)) (k3.ne_ ha.mem (by decide)) (fun e => h2 g (by rw [hv]; rfl) e.symm)
theorem Rep.beside2 {w w' : World} {B1 B2 : Nat} {La : RLay} {L : Lay} {ca cd bs : List Int} {sa s : St} {j : Nat} {iva ova iv ov : Value} (ha : RepR w B1 La ca bs sa j iva ova) (h : Rep w B2 L cd s iv ov) (f : Fr La.g La.mb ova.ownBlock w w') (hm : L.mb ≠ La.mb)
    (h1 : ∀ k, iv.ownBlock = some k → ova.ownBlock ≠ some k) (h2 : ∀ k, ov.ownBlock = some k → ova.ownBlock ≠ some k) : Rep w' B2 L cd s iv ov := by
  refine ⟨h.mach.fr f (h.mach.ne_ ha.mach (by decide)) (h.mach.ne_ ha.mem (by decide)) (own_not ha.out h.mach (by decide)), ?_, ?_, h.mem.fr f (h.mem.ne_ ha.mach (by decide)) hm (own_not ha.out h.mem (by decide)), ?_, ?_, h.outl, h.meml, h.codel, h.gB, h.mB⟩
  · obtain ⟨cur, q1, q2, q3⟩ := h.code
    exact ⟨cur, q1.fr f (q1.ne_ ha.mach (by decide)) (q1.ne_ ha.mem (by decide)) (own_not ha.out q1 (by decide)), q2, q3⟩
  · obtain ⟨cur, q1, q2, q3⟩ := h.doing
    exact ⟨cur, q1.fr f (q1.ne_ ha.mach (by decide)) (q1.ne_ ha.mem (by decide)) (own_not ha.out q1 (by decide)), q2, q3⟩
  · obtain ⟨A, c, q1, q2, q3, q4, q5⟩ := h.inn
    refine ⟨A, c, q1, q2, q3, q4, fun hl => ?_⟩
    obtain ⟨ib, off, cur, r1, r2, r3, r4⟩ := q5 hl
    exact ⟨ib, off, cur, r1, r2.fr f (r2.ne_ ha.mach (by decide)) (r2.ne_ ha.mem (by decide)) (fun e => h1 ib (by rw [q1, r1]; rfl) e.symm), r3, r4⟩
  · refine ⟨h.out.1, ?_⟩
    rcases h.out.2 with hn | ⟨g, cap, cur, hv, hb, hgg, rest⟩
    · exact .inl hn
    · refine .inr ⟨g, cap, cur, hv, hb, ?_, rest⟩
      have k3 : Blk w g 5 cur := hgg
      exact k3.fr f (k3.ne_ ha.mach (by decide)) (k3.ne_ ha.mem (by decide)) (fun e => h2 g (by rw [hv]; rfl) e.symm)
structure Duo (w : World) (B : Nat) (L : Lay) (R : RLay) (cd bs : List Int) (sa sb : St) : Prop where
  ex : ∃ iv ov j ivr ovr, Rep w B L cd sa iv ov ∧ RepR w B R cd bs sb j ivr ovr ∧ (∀ k, iv.ownBlock = some k → k < w.heap.size ∧ ovr.ownBlock ≠ some k) ∧
    (∀ k, ivr.ownBlock = some k → k < w.heap.size ∧ ov.ownBlock ≠ some k) ∧ (∀ k, ov.ownBlock = some k → ovr.ownBlock ≠ some k)
  mb : L.mb ≠ R.mb
  cb : R.cb ≠ L.mb
section
variable {w w' : World} {B : Nat} {L : Lay} {R : RLay} {cd bs : List Int} {sa sb : St}
theorem Duo.keep (t : Duo w B L R cd bs sa sb) (h : Below w.heap.size w w') : Duo w' B L R cd bs sa sb := by
  obtain ⟨⟨iv, ov, j, ivr, ovr, ha, hb, h1, h2, h3⟩, hm, hc⟩ := t
  exact ⟨⟨iv, ov, j, ivr, ovr, ha.keep h, hb.keep h, fun k hk => ⟨Nat.lt_of_lt_of_le (h1 k hk).1 h.size, (h1 k hk).2⟩, fun k hk => ⟨Nat.lt_of_lt_of_le (h2 k hk).1 h.size, (h2 k hk).2⟩, h3⟩, hm, hc⟩
def alive (s : St) : Bool := decide (s.kind = 0)
theorem step_do2 {iv ov : Value} (h : Rep w B L cd sa iv ov) :
    Calls Try.prog 23 #[.pointer (some ⟨L.g, 0, none⟩)] w fun e w' => e = .returned (.bool (alive sa)) ∧ Post B L cd iv ov w (step cd sa) w' := by
  by_cases hk : sa.kind = 0
  · refine (step_any h hk).mono ?_
    rintro e w' ⟨rfl, hp⟩
    exact ⟨by simp [alive, hk], hp⟩
  · refine (step_over h hk).mono ?_
    rintro e w' ⟨rfl, hb⟩
    rw [step_idle hk]
    exact ⟨by simp [alive, hk], iv, ov, h.keep hb, (Fr.refl _ _ _ w).below hb, .inl rfl, fun _ h => h⟩
theorem rstep_do {j : Nat} {iv ov : Value} (h : RepR w B R cd bs sb j iv ov) :
    Calls Try.prog 24 #[.pointer (some ⟨R.g, 0, none⟩)] w fun e w' => e = .returned (.bool (alive sb)) ∧ PostR B R cd bs iv ov w (step cd sb) w' := by
  by_cases hk : sb.kind = 0
  · refine (rstep_any h hk).mono ?_
    rintro e w' ⟨rfl, hp⟩
    exact ⟨by simp [alive, hk], hp⟩
  · refine (rstep_idle w R.g _ h.mach sb.kind hk rfl).mono ?_
    rintro e w' ⟨rfl, rfl⟩
    rw [step_idle hk]
    exact ⟨by simp [alive, hk], j, ov, h, Fr.refl _ _ _ _, .inl rfl⟩
theorem Duo.step_a (t : Duo w B L R cd bs sa sb) : Calls Try.prog 23 #[.pointer (some ⟨L.g, 0, none⟩)] w fun e w' => e = .returned (.bool (alive sa)) ∧ Duo w' B L R cd bs (step cd sa) sb ∧ Below B w w' := by
  obtain ⟨⟨iv, ov, j, ivr, ovr, ha, hb, h1, h2, h3⟩, hm, hc⟩ := t
  refine (step_do2 ha).mono ?_
  rintro e w' ⟨he, hp⟩
  have hB := Post.below ha hp
  obtain ⟨iv', ov', ha', f, hat, hia⟩ := hp
  have hb' := RepR.beside ha hb f (Ne.symm hm) hc (fun k hk => (h2 k hk).2) (fun k hk e => h3 k e hk)
  refine ⟨he, ⟨⟨iv', ov', j, ivr, ovr, ha', hb', ?_, ?_, ?_⟩, hm, hc⟩, hB⟩
  · intro k hk
    have := h1 k (hia k hk)
    exact ⟨Nat.lt_of_lt_of_le this.1 f.size, this.2⟩
  · intro k hk
    have hk2 := h2 k hk
    refine ⟨Nat.lt_of_lt_of_le hk2.1 f.size, ?_⟩
    rcases hat with e | e
    · rw [e]; exact hk2.2
    · intro e2
      have := e k e2
      omega
  · intro k hk e2
    rcases hat with e | e
    · rw [e] at hk; exact h3 k hk e2
    · have := e k hk
      have := (hb.out.lt k e2).2
      omega
theorem Duo.post_b (t : Duo w B L R cd bs sa sb) {s' : St} (hp : ∀ {j ivr ovr}, RepR w B R cd bs sb j ivr ovr → PostR B R cd bs ivr ovr w s' w') : Duo w' B L R cd bs sa s' ∧ Below B w w' := by
  obtain ⟨⟨iv, ov, j, ivr, ovr, ha, hb, h1, h2, h3⟩, hm, hc⟩ := t
  have hp := hp hb
  have hB := PostR.below hb hp
  obtain ⟨j', ovr', hb', f, hat⟩ := hp
  have ha' := Rep.beside2 hb ha f hm (fun k hk => (h1 k hk).2) h3
  refine ⟨⟨⟨iv, ov, j', ivr, ovr', ha', hb', ?_, ?_, ?_⟩, hm, hc⟩, hB⟩
  · intro k hk
    have hk2 := h1 k hk
    refine ⟨Nat.lt_of_lt_of_le hk2.1 f.size, ?_⟩
    rcases hat with e | e
    · rw [e]; exact hk2.2
    · intro e2
      have := e k e2
      omega
  · intro k hk
    have := h2 k hk
    exact ⟨Nat.lt_of_lt_of_le this.1 f.size, this.2⟩
  · intro k hk e2
    rcases hat with e | e
    · rw [e] at e2; exact h3 k hk e2
    · have := e k e2
      have := (ha.out.lt k hk).2
      omega
theorem Duo.step_b (t : Duo w B L R cd bs sa sb) : Calls Try.prog 24 #[.pointer (some ⟨R.g, 0, none⟩)] w fun e w' => e = .returned (.bool (alive sb)) ∧ Duo w' B L R cd bs sa (step cd sb) ∧ Below B w w' := by
  obtain ⟨⟨iv, ov, j, ivr, ovr, ha, hb, h1, h2, h3⟩, hm, hc⟩ := t
  refine (rstep_do hb).mono ?_
  rintro e w' ⟨he, hp⟩
  have hB := PostR.below hb hp
  obtain ⟨j', ovr', hb', f, hat⟩ := hp
  have ha' := Rep.beside2 hb ha f hm (fun k hk => (h1 k hk).2) h3
  refine ⟨he, ⟨⟨iv, ov, j', ivr, ovr', ha', hb', ?_, ?_, ?_⟩, hm, hc⟩, hB⟩
  · intro k hk
    have hk2 := h1 k hk
    refine ⟨Nat.lt_of_lt_of_le hk2.1 f.size, ?_⟩
    rcases hat with e | e
    · rw [e]; exact hk2.2
    · intro e2
      have := e k e2
      omega
  · intro k hk
    have := h2 k hk
    exact ⟨Nat.lt_of_lt_of_le this.1 f.size, this.2⟩
  · intro k hk e2
    rcases hat with e | e
    · rw [e] at e2; exact h3 k hk e2
    · have := e k e2
      have := (ha.out.lt k hk).2
      omega
theorem Duo.out_a (t : Duo w B L R cd bs sa sb) : Calls Try.prog 22 #[.pointer (some ⟨L.g, 0, none⟩)] w fun e w' => ∃ A c, e = .returned (.agg #[.int .i64 sa.kind, .int .i64 sa.code, .slice A sa.out.length c, .int .i64 sa.steps]) ∧
    w'.ownsRow w.heap.size 5 1 (.slice A sa.out.length c) sa.out.length (sa.out.map (Value.int .u8)) ∧ Below w.heap.size w w' := by
  obtain ⟨⟨iv, ov, j, ivr, ovr, ha, hb, h1, h2, h3⟩, hm, hc⟩ := t
  exact outcome_rep ha
theorem Duo.run_b (t : Duo w B L R cd bs sa sb) : Calls Try.prog 26 #[.pointer (some ⟨R.g, 0, none⟩), .int .i64 0] w fun e w' => ∃ A c, e = .returned (.agg #[.int .i64 sb.kind, .int .i64 sb.code, .slice A sb.out.length c, .int .i64 sb.steps]) ∧
    w'.ownsRow w.heap.size 5 1 (.slice A sb.out.length c) sb.out.length (sb.out.map (Value.int .u8)) ∧ Duo w' B L R cd bs sa sb ∧ Below B w w' := by
  obtain ⟨⟨iv, ov, j, ivr, ovr, ha, hb, h1, h2, h3⟩, hm, hc⟩ := t
  refine (rrunm_any w B R cd bs sb j ivr ovr hb 0 (by omega)).mono ?_
  rintro e w' ⟨A, c, rfl, hown, hp⟩
  have hB := PostR.below hb hp
  obtain ⟨j', ovr', hb', f, hat⟩ := hp
  have ha' := Rep.beside2 hb ha f hm (fun k hk => (h1 k hk).2) h3
  refine ⟨A, c, rfl, hown, ⟨⟨iv, ov, j', ivr, ovr', ha', hb', ?_, ?_, ?_⟩, hm, hc⟩, hB⟩
  · intro k hk
    have hk2 := h1 k hk
    refine ⟨Nat.lt_of_lt_of_le hk2.1 f.size, ?_⟩
    rcases hat with e | e
    · rw [e]; exact hk2.2
    · intro e2
      have := e k e2
      omega
  · intro k hk
    have := h2 k hk
    exact ⟨Nat.lt_of_lt_of_le this.1 f.size, this.2⟩
  · intro k hk e2
    rcases hat with e | e
    · rw [e] at e2; exact h3 k hk e2
    · have := e k e2
      have := (ha.out.lt k hk).2
      omega
theorem Duo.run_b2 {w0 : World} (t0 : Duo w0 B L R cd bs sa sb) (h0 : Below w0.heap.size w0 w) : Calls Try.prog 26 #[.pointer (some ⟨R.g, 0, none⟩), .int .i64 0] w fun e w' => ∃ A c, e = .returned (.agg #[.int .i64 sb.kind, .int .i64 sb.code, .slice A sb.out.length c, .int .i64 sb.steps]) ∧
    w'.ownsRow w.heap.size 5 1 (.slice A sb.out.length c) sb.out.length (sb.out.map (Value.int .u8)) ∧ Duo w' B L R cd bs sa sb ∧ Below B w0 w' ∧ (∀ v n xs, w.ownsRow w0.heap.size 5 1 v n xs → w'.ownsRow w0.heap.size 5 1 v n xs) := by
  have t := t0.keep h0
  obtain ⟨⟨iv, ov, j, ivr, ovr, ha, hb, h1, h2, h3⟩, hm, hc⟩ := t0
  have hbw := hb.keep h0
  have haw := ha.keep h0
  have hBs := hb.gB
  have hgl := hb.mach.lt
  refine (rrunm_any w B R cd bs sb j ivr ovr hbw 0 (by omega)).mono ?_
  rintro e w' ⟨A, c, rfl, hown, hp⟩
  have hB := PostR.below hbw hp
  have hp2 := hp
  obtain ⟨j', ovr', hb', f, hat⟩ := hp
  have ha' := Rep.beside2 hbw haw f hm (fun k hk => (h1 k hk).2) h3
  refine ⟨A, c, rfl, hown, ⟨⟨iv, ov, j', ivr, ovr', ha', hb', ?_, ?_, ?_⟩, hm, hc⟩, (h0.mono (by omega)).trans hB, ?_⟩
  · intro k hk
    have hk2 := h1 k hk
    refine ⟨Nat.lt_of_lt_of_le hk2.1 (Nat.le_trans h0.size f.size), ?_⟩
    rcases hat with e | e
    · rw [e]; exact hk2.2
    · intro e2
      have := e k e2
      have := h0.size
      omega
  · intro k hk
    have := h2 k hk
    exact ⟨Nat.lt_of_lt_of_le this.1 (Nat.le_trans h0.size f.size), this.2⟩
  · intro k hk e2
    rcases hat with e | e
    · rw [e] at e2; exact h3 k hk e2
    · have := e k e2
      have := (ha.out.lt k hk).2
      have := h0.size
      omega
  · intro v n xs hv
    refine ⟨hv.1, ?_⟩
    rcases hv.2 with hn | ⟨g, cap, cur, hv', hb1, hgg, rest⟩
    · exact .inl hn
    · refine .inr ⟨g, cap, cur, hv', hb1, ?_, rest⟩
      have k3 : Blk w g 5 cur := hgg
      refine k3.fr f (by omega) (by have := hb.mem.lt; omega) (fun e => ?_)
      have := (hb.out.lt g e.symm).2
      omega
theorem Duo.a (t : Duo w B L R cd bs sa sb) : ∃ iv ov, Rep w B L cd sa iv ov := by
  obtain ⟨⟨iv, ov, j, ivr, ovr, ha, hb, h1, h2, h3⟩, hm, hc⟩ := t
  exact ⟨_, _, ha⟩
theorem Duo.b (t : Duo w B L R cd bs sa sb) : ∃ j ivr ovr, RepR w B R cd bs sb j ivr ovr := by
  obtain ⟨⟨iv, ov, j, ivr, ovr, ha, hb, h1, h2, h3⟩, hm, hc⟩ := t
  exact ⟨_, _, _, hb⟩
theorem Duo.pc_ (t : Duo w B L R cd bs sa sb) : Calls Try.prog 20 #[.pointer (some ⟨L.g, 0, none⟩)] w fun e w' => e = .returned (.int .i64 sa.pc) ∧ w = w' := by
  obtain ⟨iv, ov, h⟩ := t.a
  exact pc_any w L.g _ h.mach sa.pc rfl
theorem Duo.reg_ (t : Duo w B L R cd bs sa sb) (k : Nat) (hk : k < 16) : Calls Try.prog 21 #[.pointer (some ⟨L.g, 0, none⟩), .int .i64 (k : Int)] w fun e w' => e = .returned (.int .i64 (sa.r k)) ∧ w = w' := by
  obtain ⟨iv, ov, h⟩ := t.a
  exact reg_in w L.g _ h.mach k hk (sa.r k) (by rcases lt16 hk with rfl | rfl | rfl | rfl | rfl | rfl | rfl | rfl | rfl | rfl | rfl | rfl | rfl | rfl | rfl | rfl <;> rfl)
theorem Duo.regb (t : Duo w B L R cd bs sa sb) (k : Nat) (hk : k < 16) : w.cell? ⟨R.g, 2 + k, none⟩ = some (.int .i64 (sb.r k)) := by
  obtain ⟨j, ivr, ovr, h⟩ := t.b
  exact h.mach.get (rcells_reg _ _ _ _ _ _ hk)
theorem Duo.memb (t : Duo w B L R cd bs sa sb) : w.cell? ⟨R.g, 1, none⟩ = some (.slice (some ⟨R.mb, 0, none⟩) sb.mem.length R.m2) := by
  obtain ⟨j, ivr, ovr, h⟩ := t.b
  exact h.mach.get rfl
theorem Duo.pcb (t : Duo w B L R cd bs sa sb) : w.cell? ⟨R.g, 18, none⟩ = some (.int .i64 sb.pc) := by
  obtain ⟨j, ivr, ovr, h⟩ := t.b
  exact h.mach.get rfl
theorem Duo.wordb (t : Duo w B L R cd bs sa sb) (k : Nat) (x : Int) (hk : sb.mem[k]? = some x) : w.cell? ⟨R.mb, k, none⟩ = some (.int .i64 x) := by
  obtain ⟨j, ivr, ovr, h⟩ := t.b
  exact h.mem.get (by simp [hk])
theorem Duo.worda (t : Duo w B L R cd bs sa sb) (k : Nat) (x : Int) (hk : sa.mem[k]? = some x) : Calls Try.prog 25 #[.pointer (some ⟨L.g, 0, none⟩), .int .i64 (k : Int)] w fun e w' => e = .returned (.int .i64 x) ∧ w = w' := by
  obtain ⟨iv, ov, h⟩ := t.a
  exact mem_in w L.g _ h.mach L.mb sa.mem.length sa.mem.length k _ h.mem rfl (List.getElem?_eq_some_iff.1 hk).1 x (by simp [hk])
end
end Go.Proofs.Ytikgghioneiegaa
