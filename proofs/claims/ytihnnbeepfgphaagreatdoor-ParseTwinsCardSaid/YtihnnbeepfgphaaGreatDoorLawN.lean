/-
  A tree that is spoilt: what stays.
-/
import Derived.Test.YtihnnbeepfgphaaGreatDoorLawD
import Derived.Test.YtihnnbeepfgphaaGreatDoorLawS
namespace Go.Proofs.YtihnnbeepfgphaaGreatDoor
open Go.RowKit
set_option linter.unusedVariables false
set_option linter.unusedSimpArgs false

theorem Rep.openF {w : World} {F : Nat → Prop} {k op n : Int} {p tx : List UInt8} {a : Nat} {ks : List Tr} {vs : List Value} (h : Rep w F (.mk k op n p tx a ks) vs) :
    ∃ A c, vs = ndC k op n p tx a (.slice A ks.length c) ∧ ∀ (i : Nat) (u : Tr), ks[i]? = some u → ∃ g us, A = some ⟨g, 0, none⟩ ∧ F g ∧ g < w.heap.size ∧ (∀ j, w.frozen? ⟨g, j, none⟩ = false) ∧ Rep w F u us ∧ ∀ (j : Nat) (v : Value), us[j]? = some v → w.cell? ⟨g, i * 7 + j, none⟩ = some v := by
  simp only [Rep] at h
  obtain ⟨A, c, xs, rfl, hrow, hreps⟩ := h
  refine ⟨A, c, rfl, fun i u hu => ?_⟩
  have hil := (List.getElem?_eq_some_iff.1 hu).1
  obtain ⟨g, rfl, hF, hgl, hcell, hfz⟩ := hrow.2 (by omega)
  obtain ⟨us, hrep, hat⟩ := hreps.at i u hu
  exact ⟨g, us, rfl, hF, hgl, hfz, hrep, fun j v hv => hcell _ _ (hat j v hv)⟩
/-- Blocks from lo on, ahead of hi, in which cells were turned, but none that holds kids. -/
structure Wr7 (lo hi : Nat) (w0 w : World) : Prop where
  gr : Gr (fun q => lo ≤ q ∧ q < hi) w0 w
  there : ∀ g j, (∃ v, w0.cell? ⟨g, j, none⟩ = some v) → ∃ v, w.cell? ⟨g, j, none⟩ = some v
  frozen : ∀ g j, w.frozen? ⟨g, j, none⟩ = w0.frozen? ⟨g, j, none⟩
  six : ∀ g j, j % 7 = 6 → w.cell? ⟨g, j, none⟩ = w0.cell? ⟨g, j, none⟩
theorem Wr7.refl (lo hi : Nat) (w : World) : Wr7 lo hi w w := ⟨Gr.refl w, fun _ _ h => h, fun _ _ => rfl, fun _ _ _ => rfl⟩
theorem Wr7.set {lo hi : Nat} {w0 w : World} (h : Wr7 lo hi w0 w) {g j : Nat} (hg : lo ≤ g ∧ g < hi) (hj : j % 7 ≠ 6) (v : Value) : Wr7 lo hi w0 (w.setCell ⟨g, j, none⟩ v) where
  gr := h.gr.setCell (.inr hg) v
  there := fun g' j' hx => by
    obtain ⟨u, hu⟩ := h.there g' j' hx
    by_cases e : (⟨g', j', none⟩ : Addr) = ⟨g, j, none⟩
    · rw [e] at hu ⊢
      exact ⟨v, World.cell?_setCell_same' w _ v (by rw [hu]; rfl)⟩
    · exact ⟨u, (World.cell?_setCell_other w _ _ v (fun h => e h.symm)).trans hu⟩
  frozen := fun g' j' => (World.frozen?_setCell _ _ _ _).trans (h.frozen g' j')
  six := fun g' j' h6 => (World.cell?_setCell_other w _ _ v (by intro e; injection e with e1 e2; subst e2; exact hj h6)).trans (h.six g' j' h6)
theorem bs_nil : bs [] = (⟨#[]⟩ : ByteArray) := rfl
/-- A text, read: a tree, or none, the same at each time. -/
theorem parse_rep (s : ByteArray) : ∃ (k op n : Int) (p tx : List UInt8) (a : Nat) (ks : List Tr) (at_ er : Int), (Tr.mk k op n p tx a ks).nodes ≤ 3000 ∧ ∀ w, ErrT w →
    Calls Tryz.prog 13 #[.string s] w fun e w' => ∃ A c, e = .returned (.tuple #[.agg #[.int .i64 k, .int .i64 op, .int .i64 n, .string (bs p), .string (bs tx), .int .i64 a, .slice A ks.length c], .int .i64 at_, .int .i64 er]) ∧ Below w.heap.size w w' ∧
      Rep w' (fun g => w.heap.size ≤ g ∧ g < w'.heap.size) (.mk k op n p tx a ks) (ndC k op n p tx a (.slice A ks.length c)) := by
  rcases parseD_says s.data.toList with ⟨a, k, hp, ha, hk⟩ | ⟨tx, a, ks, hp, hn, hd⟩
  · refine ⟨0, 0, 0, [], [], 0, [], a, k, by simp [Tr.nodes, nodesL], fun w ht => (parse_fault s w ht a k hp).mono ?_⟩
    rintro e w' ⟨rfl, hb⟩
    exact ⟨none, 0, rfl, hb, rep_zero w' _⟩
  · refine ⟨1, 0, 0, [], tx, a, ks, 0, 0, hn, fun w ht => (parse_tree s w ht _ _ _ _ _ _ _ hp).mono ?_⟩
    rintro e w' ⟨A, c, rfl, hb, hr⟩
    exact ⟨A, c, rfl, hb, Rep.keep (fun _ _ _ => rfl) (Nat.le_refl _) (fun g h1 h2 => ⟨h2, h1⟩) _ _ hr⟩
end Go.Proofs.YtihnnbeepfgphaaGreatDoor
