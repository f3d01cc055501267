/-
  KindsSame: the walk.
-/
import Derived.Test.YtkgilhdoahkakaaTyT
import Derived.Test.YtkgilhdoahkakaaTyU
import Derived.Test.YtkgilhdoahkakaaTyV
namespace Go.Proofs.Ytkgilhdoahkakaa
open Go.RowKit
set_option linter.unusedVariables false
set_option linter.unusedSimpArgs false

mutual
theorem same_refl : ∀ t : Ty, same t t = true
  | .mk k p n la lr => by rw [same_mk, sameL_refl la, sameL_refl lr]; simp
theorem sameL_refl : ∀ l : List Ty, sameL l l = true
  | [] => sameL_nil
  | t :: r => by rw [sameL_cons, same_refl t, sameL_refl r]; rfl
end
theorem keepS {w w1 w2 : World} {k1 k2 : Int} {p1 n1 p2 n2 : ByteArray} {A1 B1 A2 B2 : Option Addr} {m1 c1 l1 d1 m2 c2 l2 d2 : Nat} (hS : w1.cell? ⟨w.heap.size, 0, none⟩ = some (.int .i64 k1) ∧ w1.cell? ⟨w.heap.size, 1, none⟩ = some (.string p1) ∧ w1.cell? ⟨w.heap.size, 2, none⟩ = some (.string n1) ∧ w1.cell? ⟨w.heap.size, 3, none⟩ = some (.slice A1 m1 c1) ∧ w1.cell? ⟨w.heap.size, 4, none⟩ = some (.slice B1 l1 d1) ∧ w1.cell? ⟨w.heap.size + 1, 0, none⟩ = some (.int .i64 k2) ∧ w1.cell? ⟨w.heap.size + 1, 1, none⟩ = some (.string p2) ∧ w1.cell? ⟨w.heap.size + 1, 2, none⟩ = some (.string n2) ∧ w1.cell? ⟨w.heap.size + 1, 3, none⟩ = some (.slice A2 m2 c2) ∧ w1.cell? ⟨w.heap.size + 1, 4, none⟩ = some (.slice B2 l2 d2) ∧ Below w.heap.size w w1 ∧ w.heap.size + 1 < w1.heap.size) (hb : Below w1.heap.size w1 w2) : w2.cell? ⟨w.heap.size, 0, none⟩ = some (.int .i64 k1) ∧ w2.cell? ⟨w.heap.size, 1, none⟩ = some (.string p1) ∧ w2.cell? ⟨w.heap.size, 2, none⟩ = some (.string n1) ∧ w2.cell? ⟨w.heap.size, 3, none⟩ = some (.slice A1 m1 c1) ∧ w2.cell? ⟨w.heap.size, 4, none⟩ = some (.slice B1 l1 d1) ∧ w2.cell? ⟨w.heap.size + 1, 0, none⟩ = some (.int .i64 k2) ∧ w2.cell? ⟨w.heap.size + 1, 1, none⟩ = some (.string p2) ∧ w2.cell? ⟨w.heap.size + 1, 2, none⟩ = some (.string n2) ∧ w2.cell? ⟨w.heap.size + 1, 3, none⟩ = some (.slice A2 m2 c2) ∧ w2.cell? ⟨w.heap.size + 1, 4, none⟩ = some (.slice B2 l2 d2) ∧ Below w.heap.size w w2 ∧ w.heap.size + 1 < w2.heap.size := by
  obtain ⟨s0, s1, s2, s3, s4, s5, s6, s7, s8, s9, s10, s11⟩ := hS
  have hx := fun o => hb.cell (p := ⟨w.heap.size, o, none⟩) (by show w.heap.size < _; omega)
  have hy := fun o => hb.cell (p := ⟨w.heap.size + 1, o, none⟩) (by show w.heap.size + 1 < _; omega)
  exact ⟨(hx 0).trans s0, (hx 1).trans s1, (hx 2).trans s2, (hx 3).trans s3, (hx 4).trans s4, (hy 0).trans s5, (hy 1).trans s6, (hy 2).trans s7, (hy 3).trans s8, (hy 4).trans s9, s10.trans (hb.mono s10.size), Nat.lt_of_lt_of_le s11 hb.size⟩
set_option maxRecDepth 100000 in
set_option maxHeartbeats 4000000 in
theorem ksame_any (a b : Ty) (ha : a.sz ≤ 1500000) (hb : b.sz ≤ 1500000) (w : World) (F : Nat → Prop) (vs us : List Value) (hr : RT w F a vs) (hr' : RT w F b us) : Calls Try.prog 3 #[.agg vs.toArray, .agg us.toArray] w (TruthP w true) := by
  have hca := count_sz a
  have hcb := count_sz b
  have HS := Lib.hid (fun w' (h : Below w.heap.size w w') => same_all 2000000 (Nat.le_refl _) a b (by omega) w' F F vs us (hr.bel h) (hr'.bel h))
  have HSA := Lib.hid (fun w' (h : Below w.heap.size w w') => same_all 2000000 (Nat.le_refl _) a a (by omega) w' F F vs vs (hr.bel h) (hr.bel h))
  have HR := Lib.hid (fun w' (h : Below w.heap.size w w') => rsame_all 2000000 (Nat.le_refl _) a b (by omega) w' F F vs us (hr.bel h) (hr'.bel h))
  have hold := fun (t : Ty) (xs : List Value) (h : RT w F t xs) => (RT.keep (fun _ _ _ => rfl) (Nat.le_refl _) (fun _ hg _ => hg) t xs h : RT w (fun k => k < w.heap.size) t xs)
  have HTA := Lib.hid (fun w' (h : Below w.heap.size w w') => text_any a ha w' (fun k => k < w.heap.size) vs ((hold a vs hr).bel h) (fun g hg => Nat.lt_of_lt_of_le hg h.size))
  have HTB := Lib.hid (fun w' (h : Below w.heap.size w w') => text_any b hb w' (fun k => k < w.heap.size) us ((hold b us hr').bel h) (fun g hg => Nat.lt_of_lt_of_le hg h.size))
  have HRA := Lib.hid (fun w' (h : Below w.heap.size w w') => rtext_all a.count a (Nat.le_refl _) ha w' F vs (hr.bel h))
  have HRB := Lib.hid (fun w' (h : Below w.heap.size w w') => rtext_all b.count b (Nat.le_refl _) hb w' F us (hr'.bel h))
  obtain ⟨k1, p1, n1, A1, m1, c1, B1, l1, d1, rfl⟩ := hr.shape
  obtain ⟨k2, p2, n2, A2, m2, c2, B2, l2, d2, rfl⟩ := hr'.shape
  rw [same_refl] at HSA
  simp only [tyC] at HS HSA HR HTA HTB HRA HRB
  obtain ⟨s, hs⟩ : ∃ s, same a b = s := ⟨_, rfl⟩
  rw [hs] at HS HR
  obtain ⟨ta, hta⟩ : ∃ t, bs (txt a) = t := ⟨_, rfl⟩
  rw [hta] at HTA HRA
  obtain ⟨tb, htb⟩ : ∃ t, bs (txt b) = t := ⟨_, rfl⟩
  rw [htb] at HTB HRB
  have hB3 : Below w.heap.size w (((w.alloc (.cells #[.int .i64 k1, .string p1, .string n1, .slice A1 m1 c1, .slice B1 l1 d1] 24)).alloc (.cells #[.int .i64 k2, .string p2, .string n2, .slice A2 m2 c2, .slice B2 l2 d2] 24)).alloc (.cells #[.int .i64 k1, .string p1, .string n1, .slice A1 m1 c1, .slice B1 l1 d1, .int .i64 k2, .string p2, .string n2, .slice A2 m2 c2, .slice B2 l2 d2] 24)) := (((Below.refl _ w).alloc (Nat.le_refl _) _).alloc (by simp) _).alloc (by simp; omega) _
  have hsl : SlT (((w.alloc (.cells #[.int .i64 k1, .string p1, .string n1, .slice A1 m1 c1, .slice B1 l1 d1] 24)).alloc (.cells #[.int .i64 k2, .string p2, .string n2, .slice A2 m2 c2, .slice B2 l2 d2] 24)).alloc (.cells #[.int .i64 k1, .string p1, .string n1, .slice A1 m1 c1, .slice B1 l1 d1, .int .i64 k2, .string p2, .string n2, .slice A2 m2 c2, .slice B2 l2 d2] 24)) (fun k => k < (((w.alloc (.cells #[.int .i64 k1, .string p1, .string n1, .slice A1 m1 c1, .slice B1 l1 d1] 24)).alloc (.cells #[.int .i64 k2, .string p2, .string n2, .slice A2 m2 c2, .slice B2 l2 d2] 24)).alloc (.cells #[.int .i64 k1, .string p1, .string n1, .slice A1 m1 c1, .slice B1 l1 d1, .int .i64 k2, .string p2, .string n2, .slice A2 m2 c2, .slice B2 l2 d2] 24)).heap.size) (some ⟨w.heap.size + 1 + 1, 0, none⟩) [a, b] :=
    SlT.two (Blk.new_at (by simp)) (by simp) (RT.keep (fun g _ hg => hB3.block g hg) hB3.size (fun g hg _ => Nat.lt_of_lt_of_le hg hB3.size) _ _ hr) (RT.keep (fun g _ hg => hB3.block g hg) hB3.size (fun g hg _ => Nat.lt_of_lt_of_le hg hB3.size) _ _ hr')
  have HG := Lib.hid (great_any [a, b] (by simp) _ _ _ 2 hsl)
  have hlen : [a, b].length = 2 := rfl
  rw [hlen] at HG
  have HB3 := Lib.hid hB3
  have hk1 : Blk (((w.alloc (.cells #[.int .i64 k1, .string p1, .string n1, .slice A1 m1 c1, .slice B1 l1 d1] 24)).alloc (.cells #[.int .i64 k2, .string p2, .string n2, .slice A2 m2 c2, .slice B2 l2 d2] 24)).alloc (.cells #[.int .i64 k1, .string p1, .string n1, .slice A1 m1 c1, .slice B1 l1 d1, .int .i64 k2, .string p2, .string n2, .slice A2 m2 c2, .slice B2 l2 d2] 24)) w.heap.size 24 #[.int .i64 k1, .string p1, .string n1, .slice A1 m1 c1, .slice B1 l1 d1] := ((Blk.new w _ _).alloc _).alloc _
  have hk2 : Blk (((w.alloc (.cells #[.int .i64 k1, .string p1, .string n1, .slice A1 m1 c1, .slice B1 l1 d1] 24)).alloc (.cells #[.int .i64 k2, .string p2, .string n2, .slice A2 m2 c2, .slice B2 l2 d2] 24)).alloc (.cells #[.int .i64 k1, .string p1, .string n1, .slice A1 m1 c1, .slice B1 l1 d1, .int .i64 k2, .string p2, .string n2, .slice A2 m2 c2, .slice B2 l2 d2] 24)) (w.heap.size + 1) 24 #[.int .i64 k2, .string p2, .string n2, .slice A2 m2 c2, .slice B2 l2 d2] := (Blk.new_at (w := (w.alloc (.cells #[.int .i64 k1, .string p1, .string n1, .slice A1 m1 c1, .slice B1 l1 d1] 24))) (by simp)).alloc _
  have HS0 : (((w.alloc (.cells #[.int .i64 k1, .string p1, .string n1, .slice A1 m1 c1, .slice B1 l1 d1] 24)).alloc (.cells #[.int .i64 k2, .string p2, .string n2, .slice A2 m2 c2, .slice B2 l2 d2] 24)).alloc (.cells #[.int .i64 k1, .string p1, .string n1, .slice A1 m1 c1, .slice B1 l1 d1, .int .i64 k2, .string p2, .string n2, .slice A2 m2 c2, .slice B2 l2 d2] 24)).cell? ⟨w.heap.size, 0, none⟩ = some (.int .i64 k1) ∧ (((w.alloc (.cells #[.int .i64 k1, .string p1, .string n1, .slice A1 m1 c1, .slice B1 l1 d1] 24)).alloc (.cells #[.int .i64 k2, .string p2, .string n2, .slice A2 m2 c2, .slice B2 l2 d2] 24)).alloc (.cells #[.int .i64 k1, .string p1, .string n1, .slice A1 m1 c1, .slice B1 l1 d1, .int .i64 k2, .string p2, .string n2, .slice A2 m2 c2, .slice B2 l2 d2] 24)).cell? ⟨w.heap.size, 1, none⟩ = some (.string p1) ∧ (((w.alloc (.cells #[.int .i64 k1, .string p1, .string n1, .slice A1 m1 c1, .slice B1 l1 d1] 24)).alloc (.cells #[.int .i64 k2, .string p2, .string n2, .slice A2 m2 c2, .slice B2 l2 d2] 24)).alloc (.cells #[.int .i64 k1, .string p1, .string n1, .slice A1 m1 c1, .slice B1 l1 d1, .int .i64 k2, .string p2, .string n2, .slice A2 m2 c2, .slice B2 l2 d2] 24)).cell? ⟨w.heap.size, 2, none⟩ = some (.string n1) ∧ (((w.alloc (.cells #[.int .i64 k1, .string p1, .string n1, .slice A1 m1 c1, .slice B1 l1 d1] 24)).alloc (.cells #[.int .i64 k2, .string p2, .string n2, .slice A2 m2 c2, .slice B2 l2 d2] 24)).alloc (.cells #[.int .i64 k1, .string p1, .string n1, .slice A1 m1 c1, .slice B1 l1 d1, .int .i64 k2, .string p2, .string n2, .slice A2 m2 c2, .slice B2 l2 d2] 24)).cell? ⟨w.heap.size, 3, none⟩ = some (.slice A1 m1 c1) ∧ (((w.alloc (.cells #[.int .i64 k1, .string p1, .string n1, .slice A1 m1 c1, .slice B1 l1 d1] 24)).alloc (.cells #[.int .i64 k2, .string p2, .string n2, .slice A2 m2 c2, .slice B2 l2 d2] 24)).alloc (.cells #[.int .i64 k1, .string p1, .string n1, .slice A1 m1 c1, .slice B1 l1 d1, .int .i64 k2, .string p2, .string n2, .slice A2 m2 c2, .slice B2 l2 d2] 24)).cell? ⟨w.heap.size, 4, none⟩ = some (.slice B1 l1 d1) ∧ (((w.alloc (.cells #[.int .i64 k1, .string p1, .string n1, .slice A1 m1 c1, .slice B1 l1 d1] 24)).alloc (.cells #[.int .i64 k2, .string p2, .string n2, .slice A2 m2 c2, .slice B2 l2 d2] 24)).alloc (.cells #[.int .i64 k1, .string p1, .string n1, .slice A1 m1 c1, .slice B1 l1 d1, .int .i64 k2, .string p2, .string n2, .slice A2 m2 c2, .slice B2 l2 d2] 24)).cell? ⟨w.heap.size + 1, 0, none⟩ = some (.int .i64 k2) ∧ (((w.alloc (.cells #[.int .i64 k1, .string p1, .string n1, .slice A1 m1 c1, .slice B1 l1 d1] 24)).alloc (.cells #[.int .i64 k2, .string p2, .string n2, .slice A2 m2 c2, .slice B2 l2 d2] 24)).alloc (.cells #[.int .i64 k1, .string p1, .string n1, .slice A1 m1 c1, .slice B1 l1 d1, .int .i64 k2, .string p2, .string n2, .slice A2 m2 c2, .slice B2 l2 d2] 24)).cell? ⟨w.heap.size + 1, 1, none⟩ = some (.string p2) ∧ (((w.alloc (.cells #[.int .i64 k1, .string p1, .string n1, .slice A1 m1 c1, .slice B1 l1 d1] 24)).alloc (.cells #[.int .i64 k2, .string p2, .string n2, .slice A2 m2 c2, .slice B2 l2 d2] 24)).alloc (.cells #[.int .i64 k1, .string p1, .string n1, .slice A1 m1 c1, .slice B1 l1 d1, .int .i64 k2, .string p2, .string n2, .slice A2 m2 c2, .slice B2 l2 d2] 24)).cell? ⟨w.heap.size + 1, 2, none⟩ = some (.string n2) ∧ (((w.alloc (.cells #[.int .i64 k1, .string p1, .string n1, .slice A1 m1 c1, .slice B1 l1 d1] 24)).alloc (.cells #[.int .i64 k2, .string p2, .string n2, .slice A2 m2 c2, .slice B2 l2 d2] 24)).alloc (.cells #[.int .i64 k1, .string p1, .string n1, .slice A1 m1 c1, .slice B1 l1 d1, .int .i64 k2, .string p2, .string n2, .slice A2 m2 c2, .slice B2 l2 d2] 24)).cell? ⟨w.heap.size + 1, 3, none⟩ = some (.slice A2 m2 c2) ∧ (((w.alloc (.cells #[.int .i64 k1, .string p1, .string n1, .slice A1 m1 c1, .slice B1 l1 d1] 24)).alloc (.cells #[.int .i64 k2, .string p2, .string n2, .slice A2 m2 c2, .slice B2 l2 d2] 24)).alloc (.cells #[.int .i64 k1, .string p1, .string n1, .slice A1 m1 c1, .slice B1 l1 d1, .int .i64 k2, .string p2, .string n2, .slice A2 m2 c2, .slice B2 l2 d2] 24)).cell? ⟨w.heap.size + 1, 4, none⟩ = some (.slice B2 l2 d2) ∧ Below w.heap.size w (((w.alloc (.cells #[.int .i64 k1, .string p1, .string n1, .slice A1 m1 c1, .slice B1 l1 d1] 24)).alloc (.cells #[.int .i64 k2, .string p2, .string n2, .slice A2 m2 c2, .slice B2 l2 d2] 24)).alloc (.cells #[.int .i64 k1, .string p1, .string n1, .slice A1 m1 c1, .slice B1 l1 d1, .int .i64 k2, .string p2, .string n2, .slice A2 m2 c2, .slice B2 l2 d2] 24)) ∧ w.heap.size + 1 < (((w.alloc (.cells #[.int .i64 k1, .string p1, .string n1, .slice A1 m1 c1, .slice B1 l1 d1] 24)).alloc (.cells #[.int .i64 k2, .string p2, .string n2, .slice A2 m2 c2, .slice B2 l2 d2] 24)).alloc (.cells #[.int .i64 k1, .string p1, .string n1, .slice A1 m1 c1, .slice B1 l1 d1, .int .i64 k2, .string p2, .string n2, .slice A2 m2 c2, .slice B2 l2 d2] 24)).heap.size := ⟨hk1.cell 0, hk1.cell 1, hk1.cell 2, hk1.cell 3, hk1.cell 4, hk2.cell 0, hk2.cell 1, hk2.cell 2, hk2.cell 3, hk2.cell 4, hB3, hk2.lt⟩
  have HSS := Lib.hid HS0
  show Calls Try.prog 3 #[.agg #[.int .i64 k1, .string p1, .string n1, .slice A1 m1 c1, .slice B1 l1 d1], .agg #[.int .i64 k2, .string p2, .string n2, .slice A2 m2 c2, .slice B2 l2 d2]] w _
  obtain ⟨gr, hgr⟩ : ∃ g, decide (400 < countL [a, b]) = g := ⟨_, rfl⟩
  rw [hgr] at HG
  clear hr hr' hs hta htb hB3 hsl hk1 hk2 HS0 hold hca hcb ha hb hlen hgr
  cases gr with
  | true =>
    go_enter Try.func3, Try.ntmps3
    go_wp2_with (first | (go_at_call 12; ((with_reducible refine HG.out.mono ?_); rintro e w5 ⟨rfl, hb5⟩)) | (go_at_call 13; ((with_reducible refine (awake_any _).mono ?_); rintro e w6 ⟨rfl, hb6⟩)))
    go_ret
    have h5 := HB3.out.trans (hb5.mono HB3.out.size)
    exact ⟨rfl, h5.trans (hb6.mono h5.size)⟩
  | false =>
    go_enter Try.func3, Try.ntmps3
    go_wp2_with (first | (go_at_call 12; ((with_reducible refine HG.out.mono ?_); rintro e w5 ⟨rfl, hb5⟩)))
    have hS5 := keepS HSS.out hb5
    have hD5 := keepS hS5 (Below.refl _ w5).drew
    obtain ⟨s0, s1, s2, s3, s4, s5, s6, s7, s8, s9, s10, s11⟩ := hS5
    have hBD := hD5.2.2.2.2.2.2.2.2.2.2.1
    clear hb5
    go_region_held3 (fun w' => w'.cell? ⟨w.heap.size, 0, none⟩ = some (.int .i64 k1) ∧ w'.cell? ⟨w.heap.size, 1, none⟩ = some (.string p1) ∧ w'.cell? ⟨w.heap.size, 2, none⟩ = some (.string n1) ∧ w'.cell? ⟨w.heap.size, 3, none⟩ = some (.slice A1 m1 c1) ∧ w'.cell? ⟨w.heap.size, 4, none⟩ = some (.slice B1 l1 d1) ∧ w'.cell? ⟨w.heap.size + 1, 0, none⟩ = some (.int .i64 k2) ∧ w'.cell? ⟨w.heap.size + 1, 1, none⟩ = some (.string p2) ∧ w'.cell? ⟨w.heap.size + 1, 2, none⟩ = some (.string n2) ∧ w'.cell? ⟨w.heap.size + 1, 3, none⟩ = some (.slice A2 m2 c2) ∧ w'.cell? ⟨w.heap.size + 1, 4, none⟩ = some (.slice B2 l2 d2) ∧ Below w.heap.size w w' ∧ w.heap.size + 1 < w'.heap.size) ((first | exact hD5 | exact ⟨s0, s1, s2, s3, s4, s5, s6, s7, s8, s9, s10, s11⟩ | exact hS11 | exact hS12 | exact hS13 | exact hS14 | exact hS15 | exact hS16 | exact hS17 | exact hS18)) (first
      | (go_at_call 14; ((with_reducible refine (HS.out _ ?_).mono ?_); assumption; rintro e w11 ⟨rfl, hb11⟩); have hS11 := keepS (by first | exact hS18 | exact hS17 | exact hS16 | exact hS15 | exact hS14 | exact hS13 | exact hS12 | exact hS11 | exact hD5 | (refine ⟨?_, ?_, ?_, ?_, ?_, ?_, ?_, ?_, ?_, ?_, ?_, ?_⟩ <;> assumption)) hb11; have hB11 := hS11.2.2.2.2.2.2.2.2.2.2.1; clear hb11)
      | (go_at_call 15; ((with_reducible refine (HR.out _ ?_).mono ?_); assumption; rintro e w12 ⟨rfl, hb12⟩); have hS12 := keepS (by first | exact hS18 | exact hS17 | exact hS16 | exact hS15 | exact hS14 | exact hS13 | exact hS12 | exact hS11 | exact hD5 | (refine ⟨?_, ?_, ?_, ?_, ?_, ?_, ?_, ?_, ?_, ?_, ?_, ?_⟩ <;> assumption)) hb12; have hB12 := hS12.2.2.2.2.2.2.2.2.2.2.1; clear hb12)
      | (go_at_call 16; ((with_reducible refine (HTA.out _ ?_).mono ?_); assumption; rintro e w13 ⟨rfl, hb13⟩); have hS13 := keepS (by first | exact hS18 | exact hS17 | exact hS16 | exact hS15 | exact hS14 | exact hS13 | exact hS12 | exact hS11 | exact hD5 | (refine ⟨?_, ?_, ?_, ?_, ?_, ?_, ?_, ?_, ?_, ?_, ?_, ?_⟩ <;> assumption)) hb13; have hB13 := hS13.2.2.2.2.2.2.2.2.2.2.1; clear hb13)
      | (go_at_call 17; ((with_reducible refine (HRA.out _ ?_).mono ?_); assumption; rintro e w14 ⟨rfl, hb14⟩); have hS14 := keepS (by first | exact hS18 | exact hS17 | exact hS16 | exact hS15 | exact hS14 | exact hS13 | exact hS12 | exact hS11 | exact hD5 | (refine ⟨?_, ?_, ?_, ?_, ?_, ?_, ?_, ?_, ?_, ?_, ?_, ?_⟩ <;> assumption)) hb14; have hB14 := hS14.2.2.2.2.2.2.2.2.2.2.1; clear hb14)
      | (go_at_call 16; ((with_reducible refine (HTB.out _ ?_).mono ?_); assumption; rintro e w15 ⟨rfl, hb15⟩); have hS15 := keepS (by first | exact hS18 | exact hS17 | exact hS16 | exact hS15 | exact hS14 | exact hS13 | exact hS12 | exact hS11 | exact hD5 | (refine ⟨?_, ?_, ?_, ?_, ?_, ?_, ?_, ?_, ?_, ?_, ?_, ?_⟩ <;> assumption)) hb15; have hB15 := hS15.2.2.2.2.2.2.2.2.2.2.1; clear hb15)
      | (go_at_call 17; ((with_reducible refine (HRB.out _ ?_).mono ?_); assumption; rintro e w16 ⟨rfl, hb16⟩); have hS16 := keepS (by first | exact hS18 | exact hS17 | exact hS16 | exact hS15 | exact hS14 | exact hS13 | exact hS12 | exact hS11 | exact hD5 | (refine ⟨?_, ?_, ?_, ?_, ?_, ?_, ?_, ?_, ?_, ?_, ?_, ?_⟩ <;> assumption)) hb16; have hB16 := hS16.2.2.2.2.2.2.2.2.2.2.1; clear hb16)
      | (go_at_call 14; ((with_reducible refine (HSA.out _ ?_).mono ?_); assumption; rintro e w17 ⟨rfl, hb17⟩); have hS17 := keepS (by first | exact hS18 | exact hS17 | exact hS16 | exact hS15 | exact hS14 | exact hS13 | exact hS12 | exact hS11 | exact hD5 | (refine ⟨?_, ?_, ?_, ?_, ?_, ?_, ?_, ?_, ?_, ?_, ?_, ?_⟩ <;> assumption)) hb17; have hB17 := hS17.2.2.2.2.2.2.2.2.2.2.1; clear hb17)
      | (go_at_call 13; ((with_reducible refine (awake_any _).mono ?_); rintro e w18 ⟨rfl, hb18⟩); have hS18 := keepS (by first | exact hS17 | exact hS16 | (refine ⟨?_, ?_, ?_, ?_, ?_, ?_, ?_, ?_, ?_, ?_, ?_, ?_⟩ <;> assumption)) hb18; clear hb18))
    all_goals (go_wp2; go_ret; exact ⟨rfl, hS18.2.2.2.2.2.2.2.2.2.2.1⟩)
end Go.Proofs.Ytkgilhdoahkakaa
