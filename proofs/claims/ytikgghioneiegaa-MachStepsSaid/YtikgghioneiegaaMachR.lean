/-
  The code decoded: a walk.
-/
import Derived.Test.YtikgghioneiegaaMachC
import Derived.Test.YtikgghioneiegaaIsaF
import Derived.LoopTactic
import Derived.Laws.MakeOwn
import Derived.Outline
namespace Go.Proofs.Ytikgghioneiegaa
open Go.RowKit
set_option linter.unusedVariables false

theorem inst_info : (Try.prog.info? 52).map (fun i => (i.zero, i.size, i.bytes)) = some (some (.agg #[.int .i64 0, .int .i64 0, .int .i64 0, .int .i64 0, .int .i64 0]), 5, 40) := by kernel_rfl
theorem run_make_rowN {P : Program} (t e : TypeId) (i : TypeInfo) (z : Value) (ht : P.underlying t = some (.slice e)) (hi : P.info? e = some i) (hz : i.zero = some z)
    (kl kc : IntKind) (n c : Nat) (hnc : n ≤ c) (hbytes : i.bytes * c ≤ 281474976710656) (h63 : c ≤ 9223372036854775807) (w : World) :
    (Instr.makeSlice t (.int kl (n : Int)) (.int kc (c : Int))).run P w = .ok (.slice (some ⟨w.heap.size, 0, none⟩) n c) (w.alloc (.cells (madeCells z.cells (c * i.size)) e)) := by
  have hb : (i.bytes : Int) * (c : Int) ≤ 281474976710656 := by
    have h : ((i.bytes * c : Nat) : Int) ≤ 281474976710656 := by omega
    rwa [Int.natCast_mul] at h
  have hr := run_make (P := P) w t e i z ht hi hz kl kc n c (by omega) (by omega) hb (by omega)
  simp only [Int.toNat_natCast] at hr
  exact hr

/-- The five cells of what a word says; of one that says nothing. -/
def dcell (v : Int) : List Value := if G v then [.int .i64 (dO v), .int .i64 (dA v), .int .i64 (dB v), .int .i64 (dC v), .int .i64 (dN v)] else [.int .i64 (-1), .int .i64 0, .int .i64 0, .int .i64 0, .int .i64 0]
def DC (w : World) (D N k : Nat) (cd : List Int) : Prop := ∃ cur, Blk w D 52 cur ∧ cur.size = N * 5 ∧ ∀ j v, j < k → cd[j]? = some v → ∀ f, f < 5 → cur[j * 5 + f]? = (dcell v)[f]?
theorem DC.below {w w' : World} {D N k B : Nat} {cd : List Int} (h : DC w D N k cd) (hb : Below B w w') (hD : D < B) : DC w' D N k cd := by
  obtain ⟨cur, h1, h2, h3⟩ := h
  exact ⟨cur, h1.below hb hD, h2, h3⟩
theorem DC.lt {w : World} {D N k : Nat} {cd : List Int} (h : DC w D N k cd) : D < w.heap.size := by
  obtain ⟨cur, h1, h2, h3⟩ := h
  exact h1.lt
theorem DC.five {w : World} {D N k j : Nat} {cd : List Int} (h : DC w D N k cd) (hj : j < N) : (∃ u, w.cell? ⟨D, j * 5, none⟩ = some u) ∧ (∃ u, w.cell? ⟨D, j * 5 + 1, none⟩ = some u) ∧ (∃ u, w.cell? ⟨D, j * 5 + 2, none⟩ = some u) ∧
    (∃ u, w.cell? ⟨D, j * 5 + 3, none⟩ = some u) ∧ (∃ u, w.cell? ⟨D, j * 5 + 4, none⟩ = some u) ∧ ∀ i, w.frozen? ⟨D, i, none⟩ = false := by
  obtain ⟨cur, h1, h2, h3⟩ := h
  have g : ∀ i, i < cur.size → ∃ u, w.cell? ⟨D, i, none⟩ = some u := fun i hi => ⟨cur[i], h1.get (by simp [hi])⟩
  exact ⟨g _ (by omega), g _ (by omega), g _ (by omega), g _ (by omega), g _ (by omega), h1.frozen⟩
theorem DC.put {w : World} {D N k : Nat} {cd : List Int} {v : Int} {c0 c1 c2 c3 c4 : Value} (h : DC w D N k cd) (hv : cd[k]? = some v) (hk : k < N) (hc : dcell v = [c0, c1, c2, c3, c4]) (o : Obj) :
    DC ((((((w.setCell ⟨D, k * 5, none⟩ c0).setCell ⟨D, k * 5 + 1, none⟩ c1).setCell ⟨D, k * 5 + 2, none⟩ c2).setCell ⟨D, k * 5 + 3, none⟩ c3).setCell ⟨D, k * 5 + 4, none⟩ c4).alloc o) D N (k + 1) cd := by
  obtain ⟨cur, h1, h2, h3⟩ := h
  refine ⟨_, (((((h1.set_ (k * 5) c0).set_ (k * 5 + 1) c1).set_ (k * 5 + 2) c2).set_ (k * 5 + 3) c3).set_ (k * 5 + 4) c4).alloc o, by simpa using h2, fun j u hj hu f hf => ?_⟩
  by_cases e : j = k
  · subst e
    rw [hv] at hu
    obtain rfl : v = u := by simpa using hu
    rw [hc]
    have : f = 0 ∨ f = 1 ∨ f = 2 ∨ f = 3 ∨ f = 4 := by omega
    rcases this with rfl | rfl | rfl | rfl | rfl <;> simp [Array.getElem?_setIfInBounds] <;> omega
  · rw [set_get_ne (by omega), set_get_ne (by omega), set_get_ne (by omega), set_get_ne (by omega), set_get_ne (by omega)]
    exact h3 j u (by omega) hu f hf
theorem dec_t (v : Int) (h0 : -9223372036854775808 ≤ v) (h1 : v ≤ 9223372036854775807) (hG : G v = true) (w : World) :
    Calls Try.prog 40 #[.int .i64 v] w fun e w' => e = .returned (.tuple #[.agg #[.int .i64 (dO v), .int .i64 (dA v), .int .i64 (dB v), .int .i64 (dC v), .int .i64 (dN v)], .int .i64 0]) ∧ Below w.heap.size w w' := by
  refine (decode_any v h0 h1 w).mono ?_
  rintro e w' ⟨rfl, hb⟩
  rw [hG]
  exact ⟨rfl, hb⟩
theorem dec_f (v : Int) (h0 : -9223372036854775808 ≤ v) (h1 : v ≤ 9223372036854775807) (hG : G v = false) (w : World) :
    Calls Try.prog 40 #[.int .i64 v] w fun e w' => e = .returned (.tuple #[.agg #[.int .i64 0, .int .i64 0, .int .i64 0, .int .i64 0, .int .i64 0], .int .i64 4]) ∧ Below w.heap.size w w' := by
  refine (decode_any v h0 h1 w).mono ?_
  rintro e w' ⟨rfl, hb⟩
  rw [hG]
  exact ⟨rfl, hb⟩
set_option maxHeartbeats 1000000 in
theorem decode_list (w : World) (A : Option Addr) (B N c : Nat) (cd : List Int) (hr : Reads w B 1 A N (cd.map (Value.int .i64))) (hB : B ≤ w.heap.size) (hN : N ≤ 65536) (hcd : ∀ v ∈ cd, -9223372036854775808 ≤ v ∧ v ≤ 9223372036854775807) :
    Calls Try.prog 31 #[.slice A N c] w fun e w' => e = .returned (.slice (some ⟨w.heap.size, 0, none⟩) N N) ∧ DC w' w.heap.size N N cd ∧ Below w.heap.size w w' := by
  obtain ⟨i0, hi0, hz0, hz1, hz2⟩ := info_parts inst_info
  have hmk : ∀ w : World, (Instr.makeSlice 53 (.int .i64 (N : Int)) (.int .i64 (N : Int))).run Try.prog w = .ok (.slice (some ⟨w.heap.size, 0, none⟩) N N) (w.alloc (.cells (madeCells (Value.agg #[.int .i64 0, .int .i64 0, .int .i64 0, .int .i64 0, .int .i64 0]).cells (N * i0.size)) 52)) :=
    fun w => run_make_rowN 53 52 i0 _ Try.underlying53 hi0 hz0 .i64 .i64 N N (Nat.le_refl _) (by rw [hz2]; omega) (by omega) w
  have hlen : cd.length = N := by have := hr.1; simpa using this
  go_enter Try.func31, Try.ntmps31
  go_wp2
  clear hmk
  go_loopw [13] (fun i wr => ∃ k : Nat, k ≤ N ∧ i = .int .i64 k ∧ DC wr w.heap.size N k cd ∧ Below w.heap.size w wr) (fun i _ => N - (intOf i).toNat)
  case atStart =>
    refine ⟨0, by omega, rfl, ⟨_, Blk.new w _ _, ?_, fun j v hj => by omega⟩, (Below.refl _ w).alloc (Nat.le_refl _) _⟩
    simp [madeCells]
  case round =>
    obtain ⟨k, hk, rfl, hD, hBe⟩ := hrel
    obtain ⟨wo, rfl⟩ : ∃ wo : World, wo = wr := ⟨_, rfl⟩
    have k0 : (0 : Int) ≤ (k : Int) := by omega
    by_cases hlt : k < N
    · have k1 : (k : Int) < (N : Int) := by omega
      obtain ⟨ad, u, rfl, had, hu, hc⟩ := hr.at_ hlt
      have hkl : k < cd.length := by omega
      obtain ⟨v, hv⟩ : ∃ v, cd[k]? = some v := ⟨_, List.getElem?_eq_getElem hkl⟩
      have hvr := hcd v (List.mem_of_getElem? hv)
      obtain rfl : u = .int .i64 v := by simp [hv] at hu; exact hu.symm
      have hc' : wo.cell? (ad.add k) = some (.int .i64 v) := (hBe.cell (by rw [block_of_add]; omega)).trans hc
      cases hG : G v
      · go_wp2_with fail
        refine (dec_f v hvr.1 hvr.2 hG wo).mono ?_
        rintro e w1 ⟨rfl, hb1⟩
        have hl := hBe.size
        have hD1 : DC w1 w.heap.size N k cd := hD.below hb1 (by have := hD.lt; omega)
        have hB1 : Below w.heap.size w w1 := hBe.trans (hb1.mono hBe.size)
        have hlt1 : w.heap.size < w1.heap.size := hD1.lt
        obtain ⟨⟨u0, q0⟩, ⟨u1, q1⟩, ⟨u2, q2⟩, ⟨u3, q3⟩, ⟨u4, q4⟩, qf⟩ := hD1.five hlt
        clear hc hc' hD hb1 hr
        go_wp2
        exact ⟨⟨k + 1, by omega, by go_num, hD1.put hv hlt (by simp [dcell, hG]) _, (((((hB1.setCell (p := ⟨w.heap.size, k * 5, none⟩) (Nat.le_refl _) _).setCell (p := ⟨w.heap.size, k * 5 + 1, none⟩) (Nat.le_refl _) _).setCell (p := ⟨w.heap.size, k * 5 + 2, none⟩) (Nat.le_refl _) _).setCell (p := ⟨w.heap.size, k * 5 + 3, none⟩) (Nat.le_refl _) _).setCell (p := ⟨w.heap.size, k * 5 + 4, none⟩) (Nat.le_refl _) _).alloc (by simp [World.setCell]; omega) _⟩, by simp [intOf]; omega⟩
      · go_wp2_with fail
        refine (dec_t v hvr.1 hvr.2 hG wo).mono ?_
        rintro e w1 ⟨rfl, hb1⟩
        have hl := hBe.size
        have hD1 : DC w1 w.heap.size N k cd := hD.below hb1 (by have := hD.lt; omega)
        have hB1 : Below w.heap.size w w1 := hBe.trans (hb1.mono hBe.size)
        have hlt1 : w.heap.size < w1.heap.size := hD1.lt
        obtain ⟨⟨u0, q0⟩, ⟨u1, q1⟩, ⟨u2, q2⟩, ⟨u3, q3⟩, ⟨u4, q4⟩, qf⟩ := hD1.five hlt
        clear hc hc' hD hb1 hr
        go_wp2
        exact ⟨⟨k + 1, by omega, by go_num, hD1.put hv hlt (by simp [dcell, hG]) _, (((((hB1.setCell (p := ⟨w.heap.size, k * 5, none⟩) (Nat.le_refl _) _).setCell (p := ⟨w.heap.size, k * 5 + 1, none⟩) (Nat.le_refl _) _).setCell (p := ⟨w.heap.size, k * 5 + 2, none⟩) (Nat.le_refl _) _).setCell (p := ⟨w.heap.size, k * 5 + 3, none⟩) (Nat.le_refl _) _).setCell (p := ⟨w.heap.size, k * 5 + 4, none⟩) (Nat.le_refl _) _).alloc (by simp [World.setCell]; omega) _⟩, by simp [intOf]; omega⟩
    · have k1 : decide ((k : Int) < (N : Int)) = false := by simp; omega
      obtain rfl : k = N := by omega
      go_wp2
      go_ret
      exact ⟨rfl, hD, hBe⟩
end Go.Proofs.Ytikgghioneiegaa
