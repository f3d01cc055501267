/-
  The document's Copy and Put, for all.
-/
import Derived.Test.YtkgilhdoahkakaaTyZb
namespace Go.Proofs.Ytkgilhdoahkakaa
open Go.RowKit
set_option linter.unusedVariables false
set_option linter.unusedSimpArgs false

theorem hit_nil (k : Int) (n : ByteArray) : hitT [] [] k n = none := by simp [hitT, place]
mutual
theorem putT_nil : ∀ t : Ty, putT [] [] t = t
  | .mk k p n la lr => by rw [putT_mk, hit_nil, Option.getD_none, putL_nil la, putL_nil lr]
theorem putL_nil : ∀ l : List Ty, putL [] [] l = l
  | [] => by simp only [putL]
  | t :: r => by simp only [putL, putT_nil t, putL_nil r]
end
theorem rput_nil : ∀ N : Nat, N ≤ 2000000 → RPutC [] [] N
  | 0, _ => fun t h => by have := count_pos t; omega
  | N + 1, h => rput_step [] [] (by simp) (fun u hu => by cases hu) N (rput_nil N (by omega)) (by omega)
theorem SlS.none_ (w : World) (F : Nat → Prop) : SlS w F none [] := ⟨fun s hs => by (cases hs), fun h => absurd h (by simp)⟩
set_option maxRecDepth 100000 in
set_option maxHeartbeats 4000000 in
theorem copy_any (t : Ty) (hc : t.count ≤ 2000000) (w : World) (F : Nat → Prop) (vs : List Value) (hr : RT w F t vs) : Calls Try.prog 30 #[.agg vs.toArray] w (NewP t w) := by
  have HI := Lib.hid (fun w' (h : Below w.heap.size w w') => rput_nil 2000000 (Nat.le_refl _) t hc w' F (fun _ => True) (fun _ => True) none 0 none 0 vs (SlS.none_ _ _) (SlT.none_ _ _) (hr.bel h))
  rw [putT_nil] at HI
  obtain ⟨k, p, n, A, m, c, B, l, d, rfl⟩ := hr.shape
  simp only [tyC, List.length_nil] at HI
  show Calls Try.prog 30 #[.agg #[.int .i64 k, .string p, .string n, .slice A m c, .slice B l d]] w _
  have hS1 : Below w.heap.size w ((w.alloc (.cells #[.int .i64 k, .string p, .string n, .slice A m c, .slice B l d] 24)).alloc (.cells #[.int .i64 0, .string ⟨#[]⟩, .string ⟨#[]⟩, .slice none 0 0, .slice none 0 0] 24)) := ((Below.refl _ w).alloc (Nat.le_refl _) _).alloc (by simp) _
  have HS1 := Lib.hid hS1
  have hR1 : Blk ((w.alloc (.cells #[.int .i64 k, .string p, .string n, .slice A m c, .slice B l d] 24)).alloc (.cells #[.int .i64 0, .string ⟨#[]⟩, .string ⟨#[]⟩, .slice none 0 0, .slice none 0 0] 24)) (w.heap.size + 1) 24 #[.int .i64 0, .string ⟨#[]⟩, .string ⟨#[]⟩, .slice none 0 0, .slice none 0 0] := Blk.new_at (by simp)
  have HR1 := Lib.hid hR1
  clear hr hS1 hR1
  go_enter Try.func30, Try.ntmps30
  go_wp2_with (go_at_call 32; ((with_reducible refine (HI.out _ HS1.out).mono ?_); rintro e w5 ⟨k2, p2, n2, A2, m2, c2, B2, l2, d2, rfl, hr5, hb5⟩; have hR5 := HR1.out.below hb5 HR1.out.lt; have x0 := hR5.cell 0; have x1 := hR5.cell 1; have x2 := hR5.cell 2; have x3 := hR5.cell 3; have x4 := hR5.cell 4; have xl := hR5.lt; have f0 := hR5.frozen 0; have f1 := hR5.frozen 1; have f2 := hR5.frozen 2; have f3 := hR5.frozen 3; have f4 := hR5.frozen 4; have HRR := Lib.hid hr5; have HBB := Lib.hid hb5; have HR5 := Lib.hid hR5; clear hr5 hb5 hR5))
  have hV := put5_blk (show Blk w5 (w.heap.size + 1) 24 z5 from HR5.out) (.int .i64 k2) (.string p2) (.string n2) (.slice A2 m2 c2) (.slice B2 l2 d2)
  have HV5 := Lib.hid (put5_bel ((HS1.out.trans (HBB.out.mono HS1.out.size))) (show w.heap.size ≤ w.heap.size + 1 by omega) (.int .i64 k2) (.string p2) (.string n2) (.slice A2 m2 c2) (.slice B2 l2 d2))
  have HVR := Lib.hid ((HRR.out.gr (put5_gr w5 (w.heap.size + 1) (.int .i64 k2) (.string p2) (.string n2) (.slice A2 m2 c2) (.slice B2 l2 d2)) (fun h => by simp at h; omega)).more (F' := fun q => w.heap.size ≤ q) (fun q hq => by simp at hq; show w.heap.size ≤ q; omega))
  have y0 := hV.cell 0
  have y1 := hV.cell 1
  have y2 := hV.cell 2
  have y3 := hV.cell 3
  have y4 := hV.cell 4
  clear hV x0 x1 x2 x3 x4 f0 f1 f2 f3 f4
  show bodyPost _ _ _ _ _ (put5 w5 (w.heap.size + 1) (.int .i64 k2) (.string p2) (.string n2) (.slice A2 m2 c2) (.slice B2 l2 d2))
  generalize put5 w5 (w.heap.size + 1) (.int .i64 k2) (.string p2) (.string n2) (.slice A2 m2 c2) (.slice B2 l2 d2) = V at HV5 HVR y0 y1 y2 y3 y4 ⊢
  exact bodyPost_ret (v := .agg #[.int .i64 k2, .string p2, .string n2, .slice A2 m2 c2, .slice B2 l2 d2]) (by simp [results, Try.results30, go_sem, y0, y1, y2, y3, y4]) rfl ⟨_, _, _, _, _, _, _, _, _, rfl, HVR.out, HV5.out⟩
theorem rput_all (nl : List ByteArray) (ts : List Ty) (hnl : nl.length ≤ 100000) (hts : ∀ u ∈ ts, u.count ≤ 2000000) : ∀ N : Nat, N ≤ 2000000 → RPutC nl ts N
  | 0, _ => fun t h => by have := count_pos t; omega
  | N + 1, h => rput_step nl ts hnl (fun u hu w F us hr => copy_any u (hts u hu) w F us hr) N (rput_all nl ts hnl hts N (by omega)) (by omega)
mutual
theorem putT_count (nl : List ByteArray) (ts : List Ty) : ∀ t : Ty, (putT nl ts t).count ≤ t.count * (countL ts + 1)
  | .mk k p n la lr => by
    rw [putT_mk]
    have h1 := putL_count nl ts la
    have h2 := putL_count nl ts lr
    have e : (Ty.mk k p n la lr).count * (countL ts + 1) = countL la * (countL ts + 1) + countL lr * (countL ts + 1) + (countL ts + 1) := by rw [count_mk, Nat.add_mul, Nat.add_mul, Nat.one_mul]
    rw [e]
    cases hh : hitT nl ts k n with
    | none => rw [Option.getD_none, count_mk]; omega
    | some u =>
      rw [Option.getD_some]
      have hm : u.count ≤ countL ts := by
        unfold hitT at hh
        split at hh
        · obtain ⟨i, h3, h4⟩ := Option.bind_eq_some_iff.1 hh
          have := count_kid ts i u h4
          omega
        · cases hh
      omega
theorem putL_count (nl : List ByteArray) (ts : List Ty) : ∀ l : List Ty, countL (putL nl ts l) ≤ countL l * (countL ts + 1)
  | [] => by simp only [putL, countL_nil]; omega
  | t :: r => by
    simp only [putL, countL_cons]
    have := putT_count nl ts t
    have := putL_count nl ts r
    rw [Nat.add_mul]
    omega
end
end Go.Proofs.Ytkgilhdoahkakaa
