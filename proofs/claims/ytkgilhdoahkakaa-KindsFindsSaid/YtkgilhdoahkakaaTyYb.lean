/-
  Types in the place of variables: walks.
-/
import Derived.Test.YtkgilhdoahkakaaTyY
namespace Go.Proofs.Ytkgilhdoahkakaa
open Go.RowKit
set_option linter.unusedVariables false
set_option linter.unusedSimpArgs false

set_option maxRecDepth 100000 in
set_option maxHeartbeats 4000000 in
theorem put_step (nl : List ByteArray) (ts : List Ty) (hnl : nl.length ≤ 100000) (hsm : Small ts) (hnok : True) (N : Nat) (ih : PutC nl ts N) (hN : N ≤ 2000000) : PutC nl ts (N + 1) := by
  rintro ⟨k, p, n, la, lr⟩ hct hsz w F F' m D f vs hpu hr
  rw [putT_mk]
  have hnz : n.size ≤ maxLen := by rw [mx_mk] at hsz; unfold maxLen; omega
  obtain ⟨A, c, B, d, rfl, ha, hb⟩ := hr.openL
  have HI := Lib.hid (fun w' (h : Below w.heap.size w w') => rebuilt_put nl ts N ih hN k p n la lr hct hsz w' F F' m D f (hpu.bel h) A B c d (ha.bel h) (hb.bel h))
  show Calls Try.prog 56 #[.agg #[.map (some m), .slice D ts.length f], .agg #[.int .i64 k, .string p, .string n, .slice A la.length c, .slice B lr.length d]] w _
  have hS1 : Below w.heap.size w (((w.alloc (.cells #[.map (some m), .slice D ts.length f] 78)).alloc (.cells #[.int .i64 k, .string p, .string n, .slice A la.length c, .slice B lr.length d] 24)).alloc (.cells z5 24)) := (((Below.refl _ w).alloc (Nat.le_refl _) _).alloc (by simp) _).alloc (by simp; omega) _
  have HS1 := Lib.hid hS1
  have hR1 : Blk (((w.alloc (.cells #[.map (some m), .slice D ts.length f] 78)).alloc (.cells #[.int .i64 k, .string p, .string n, .slice A la.length c, .slice B lr.length d] 24)).alloc (.cells z5 24)) (w.heap.size + 1 + 1) 24 z5 := Blk.new_at (by simp)
  have HR1 := Lib.hid hR1
  have hlk := (hpu.bel hS1).map.look n hnz (by omega)
  simp only [z5] at hlk
  have HPU := Lib.hid hpu
  clear hr ha hb ih hS1 hR1 hct hsz hnz hpu
  by_cases hk : k = 9
  · subst hk
    cases hp : place nl n with
    | none =>
      have e : hitT nl ts 9 n = none := by simp [hitT, hp]
      rw [e]
      rw [hp] at hlk
      clear hp e HPU
      go_enter Try.func56, Try.ntmps56
      go_wp2_with (go_at_call 82; refine (HI.out _ HS1.out).mono ?_; rintro e w5 ⟨k2, p2, n2, A2, m2, c2, B2, l2, d2, rfl, hr5, hb5⟩; have hR5 := HR1.out.below hb5 HR1.out.lt; have x0 := hR5.cell 0; have x1 := hR5.cell 1; have x2 := hR5.cell 2; have x3 := hR5.cell 3; have x4 := hR5.cell 4; simp only [z5] at x0 x1 x2 x3 x4; have xl := hR5.lt; have f0 := hR5.frozen 0; have f1 := hR5.frozen 1; have f2 := hR5.frozen 2; have f3 := hR5.frozen 3; have f4 := hR5.frozen 4; have HRR := Lib.hid hr5; have HBB := Lib.hid hb5; have HR5 := Lib.hid hR5; clear hr5 hb5 hR5)
      have hV := put5_blk HR5.out (.int .i64 k2) (.string p2) (.string n2) (.slice A2 m2 c2) (.slice B2 l2 d2)
      have HV5 := Lib.hid (put5_bel ((HS1.out.trans (HBB.out.mono HS1.out.size))) (show w.heap.size ≤ w.heap.size + 1 + 1 by omega) (.int .i64 k2) (.string p2) (.string n2) (.slice A2 m2 c2) (.slice B2 l2 d2))
      have HVR := Lib.hid ((HRR.out.gr (put5_gr w5 (w.heap.size + 1 + 1) (.int .i64 k2) (.string p2) (.string n2) (.slice A2 m2 c2) (.slice B2 l2 d2)) (fun h => by simp at h; omega)).more (F' := fun q => w.heap.size ≤ q) (fun q hq => by simp at hq; show w.heap.size ≤ q; omega))
      have y0 := hV.cell 0
      have y1 := hV.cell 1
      have y2 := hV.cell 2
      have y3 := hV.cell 3
      have y4 := hV.cell 4
      clear hV x0 x1 x2 x3 x4 f0 f1 f2 f3 f4
      show bodyPost _ _ _ _ _ (put5 w5 (w.heap.size + 1 + 1) (.int .i64 k2) (.string p2) (.string n2) (.slice A2 m2 c2) (.slice B2 l2 d2))
      generalize put5 w5 (w.heap.size + 1 + 1) (.int .i64 k2) (.string p2) (.string n2) (.slice A2 m2 c2) (.slice B2 l2 d2) = V at HV5 HVR y0 y1 y2 y3 y4 ⊢
      exact bodyPost_ret (v := .agg #[.int .i64 k2, .string p2, .string n2, .slice A2 m2 c2, .slice B2 l2 d2]) (by simp [results, Try.results56, go_sem, y0, y1, y2, y3, y4]) rfl ⟨_, _, _, _, _, _, _, _, _, rfl, HVR.out, HV5.out⟩
    | some i =>
      have i0 : (0 : Int) ≤ (i : Int) := by omega
      by_cases hi : i < ts.length
      · obtain ⟨u, hu⟩ : ∃ u, ts[i]? = some u := ⟨_, List.getElem?_eq_getElem hi⟩
        have e : hitT nl ts 9 n = some u := by simp [hitT, hp, hu]
        rw [e]
        rw [hp] at hlk
        have hsmu := hsm u (List.mem_of_getElem? hu)
        obtain ⟨q, o, us, rfl, hFq, hgl, hru, hat⟩ := HPU.out.row.at_ hu
        have HC := Lib.hid (fun w' (h : Below w.heap.size w w') => copied_all 2000000 (Nat.le_refl _) u hsmu.1 hsmu.2 w' F' us (hru.bel h))
        obtain ⟨k1, p1, n1, A1, m1, c1, B1, l1, d1, rfl⟩ := hru.shape
        have q0 := hat 0 _ rfl
        have q1 := hat 1 _ rfl
        have q2 := hat 2 _ rfl
        have q3 := hat 3 _ rfl
        have q4 := hat 4 _ rfl
        rw [Nat.add_zero] at q0
        have r0 := (HS1.out.cell (p := ⟨q, _, none⟩) hgl).trans q0
        have r1 := (HS1.out.cell (p := ⟨q, _, none⟩) hgl).trans q1
        have r2 := (HS1.out.cell (p := ⟨q, _, none⟩) hgl).trans q2
        have r3 := (HS1.out.cell (p := ⟨q, _, none⟩) hgl).trans q3
        have r4 := (HS1.out.cell (p := ⟨q, _, none⟩) hgl).trans q4
        simp only [z5] at r0 r1 r2 r3 r4
        have i1 : (i : Int) < (ts.length : Int) := by omega
        have i2 : decide ((i : Int) < (ts.length : Int)) = true := decide_eq_true (by omega)
        have i3 : decide (i < ts.length) = true := decide_eq_true hi
        clear hp e hu hat hru HPU hsm hsmu HI
        go_enter Try.func56, Try.ntmps56
        go_wp2_with (go_at_call 73; refine (HC.out _ HS1.out).mono ?_; rintro e w5 ⟨k2, p2, n2, A2, m2, c2, B2, l2, d2, rfl, hr5, hb5⟩; have hR5 := HR1.out.below hb5 HR1.out.lt; have x0 := hR5.cell 0; have x1 := hR5.cell 1; have x2 := hR5.cell 2; have x3 := hR5.cell 3; have x4 := hR5.cell 4; simp only [z5] at x0 x1 x2 x3 x4; have xl := hR5.lt; have f0 := hR5.frozen 0; have f1 := hR5.frozen 1; have f2 := hR5.frozen 2; have f3 := hR5.frozen 3; have f4 := hR5.frozen 4; have HRR := Lib.hid hr5; have HBB := Lib.hid hb5; have HR5 := Lib.hid hR5; clear hr5 hb5 hR5)
        have hV := put5_blk HR5.out (.int .i64 k2) (.string p2) (.string n2) (.slice A2 m2 c2) (.slice B2 l2 d2)
        have HV5 := Lib.hid (put5_bel ((HS1.out.trans (HBB.out.mono HS1.out.size))) (show w.heap.size ≤ w.heap.size + 1 + 1 by omega) (.int .i64 k2) (.string p2) (.string n2) (.slice A2 m2 c2) (.slice B2 l2 d2))
        have HVR := Lib.hid ((HRR.out.gr (put5_gr w5 (w.heap.size + 1 + 1) (.int .i64 k2) (.string p2) (.string n2) (.slice A2 m2 c2) (.slice B2 l2 d2)) (fun h => by simp at h; omega)).more (F' := fun q => w.heap.size ≤ q) (fun q hq => by simp at hq; show w.heap.size ≤ q; omega))
        have y0 := hV.cell 0
        have y1 := hV.cell 1
        have y2 := hV.cell 2
        have y3 := hV.cell 3
        have y4 := hV.cell 4
        clear hV x0 x1 x2 x3 x4 f0 f1 f2 f3 f4
        show bodyPost _ _ _ _ _ (put5 w5 (w.heap.size + 1 + 1) (.int .i64 k2) (.string p2) (.string n2) (.slice A2 m2 c2) (.slice B2 l2 d2))
        generalize put5 w5 (w.heap.size + 1 + 1) (.int .i64 k2) (.string p2) (.string n2) (.slice A2 m2 c2) (.slice B2 l2 d2) = V at HV5 HVR y0 y1 y2 y3 y4 ⊢
        exact bodyPost_ret (v := .agg #[.int .i64 k2, .string p2, .string n2, .slice A2 m2 c2, .slice B2 l2 d2]) (by simp [results, Try.results56, go_sem, y0, y1, y2, y3, y4]) rfl ⟨_, _, _, _, _, _, _, _, _, rfl, HVR.out, HV5.out⟩
      · have hu : ts[i]? = none := List.getElem?_eq_none (by omega)
        have e : hitT nl ts 9 n = none := by simp [hitT, hp, hu]
        rw [e]
        rw [hp] at hlk
        have i2 : decide ((i : Int) < (ts.length : Int)) = false := decide_eq_false (by omega)
        have i3 : decide (i < ts.length) = false := decide_eq_false hi
        clear hp e hu hi HPU
        go_enter Try.func56, Try.ntmps56
        go_wp2_with (go_at_call 82; refine (HI.out _ HS1.out).mono ?_; rintro e w5 ⟨k2, p2, n2, A2, m2, c2, B2, l2, d2, rfl, hr5, hb5⟩; have hR5 := HR1.out.below hb5 HR1.out.lt; have x0 := hR5.cell 0; have x1 := hR5.cell 1; have x2 := hR5.cell 2; have x3 := hR5.cell 3; have x4 := hR5.cell 4; simp only [z5] at x0 x1 x2 x3 x4; have xl := hR5.lt; have f0 := hR5.frozen 0; have f1 := hR5.frozen 1; have f2 := hR5.frozen 2; have f3 := hR5.frozen 3; have f4 := hR5.frozen 4; have HRR := Lib.hid hr5; have HBB := Lib.hid hb5; have HR5 := Lib.hid hR5; clear hr5 hb5 hR5)
        have hV := put5_blk HR5.out (.int .i64 k2) (.string p2) (.string n2) (.slice A2 m2 c2) (.slice B2 l2 d2)
        have HV5 := Lib.hid (put5_bel ((HS1.out.trans (HBB.out.mono HS1.out.size))) (show w.heap.size ≤ w.heap.size + 1 + 1 by omega) (.int .i64 k2) (.string p2) (.string n2) (.slice A2 m2 c2) (.slice B2 l2 d2))
        have HVR := Lib.hid ((HRR.out.gr (put5_gr w5 (w.heap.size + 1 + 1) (.int .i64 k2) (.string p2) (.string n2) (.slice A2 m2 c2) (.slice B2 l2 d2)) (fun h => by simp at h; omega)).more (F' := fun q => w.heap.size ≤ q) (fun q hq => by simp at hq; show w.heap.size ≤ q; omega))
        have y0 := hV.cell 0
        have y1 := hV.cell 1
        have y2 := hV.cell 2
        have y3 := hV.cell 3
        have y4 := hV.cell 4
        clear hV x0 x1 x2 x3 x4 f0 f1 f2 f3 f4
        show bodyPost _ _ _ _ _ (put5 w5 (w.heap.size + 1 + 1) (.int .i64 k2) (.string p2) (.string n2) (.slice A2 m2 c2) (.slice B2 l2 d2))
        generalize put5 w5 (w.heap.size + 1 + 1) (.int .i64 k2) (.string p2) (.string n2) (.slice A2 m2 c2) (.slice B2 l2 d2) = V at HV5 HVR y0 y1 y2 y3 y4 ⊢
        exact bodyPost_ret (v := .agg #[.int .i64 k2, .string p2, .string n2, .slice A2 m2 c2, .slice B2 l2 d2]) (by simp [results, Try.results56, go_sem, y0, y1, y2, y3, y4]) rfl ⟨_, _, _, _, _, _, _, _, _, rfl, HVR.out, HV5.out⟩
  · have e : hitT nl ts k n = none := by simp [hitT, hk]
    rw [e]
    have hkb : (k == 9) = false := by simpa using hk
    clear e hk HPU hlk
    go_enter Try.func56, Try.ntmps56
    go_wp2_with (go_at_call 82; refine (HI.out _ HS1.out).mono ?_; rintro e w5 ⟨k2, p2, n2, A2, m2, c2, B2, l2, d2, rfl, hr5, hb5⟩; have hR5 := HR1.out.below hb5 HR1.out.lt; have x0 := hR5.cell 0; have x1 := hR5.cell 1; have x2 := hR5.cell 2; have x3 := hR5.cell 3; have x4 := hR5.cell 4; simp only [z5] at x0 x1 x2 x3 x4; have xl := hR5.lt; have f0 := hR5.frozen 0; have f1 := hR5.frozen 1; have f2 := hR5.frozen 2; have f3 := hR5.frozen 3; have f4 := hR5.frozen 4; have HRR := Lib.hid hr5; have HBB := Lib.hid hb5; have HR5 := Lib.hid hR5; clear hr5 hb5 hR5)
    have hV := put5_blk HR5.out (.int .i64 k2) (.string p2) (.string n2) (.slice A2 m2 c2) (.slice B2 l2 d2)
    have HV5 := Lib.hid (put5_bel ((HS1.out.trans (HBB.out.mono HS1.out.size))) (show w.heap.size ≤ w.heap.size + 1 + 1 by omega) (.int .i64 k2) (.string p2) (.string n2) (.slice A2 m2 c2) (.slice B2 l2 d2))
    have HVR := Lib.hid ((HRR.out.gr (put5_gr w5 (w.heap.size + 1 + 1) (.int .i64 k2) (.string p2) (.string n2) (.slice A2 m2 c2) (.slice B2 l2 d2)) (fun h => by simp at h; omega)).more (F' := fun q => w.heap.size ≤ q) (fun q hq => by simp at hq; show w.heap.size ≤ q; omega))
    have y0 := hV.cell 0
    have y1 := hV.cell 1
    have y2 := hV.cell 2
    have y3 := hV.cell 3
    have y4 := hV.cell 4
    clear hV x0 x1 x2 x3 x4 f0 f1 f2 f3 f4
    show bodyPost _ _ _ _ _ (put5 w5 (w.heap.size + 1 + 1) (.int .i64 k2) (.string p2) (.string n2) (.slice A2 m2 c2) (.slice B2 l2 d2))
    generalize put5 w5 (w.heap.size + 1 + 1) (.int .i64 k2) (.string p2) (.string n2) (.slice A2 m2 c2) (.slice B2 l2 d2) = V at HV5 HVR y0 y1 y2 y3 y4 ⊢
    exact bodyPost_ret (v := .agg #[.int .i64 k2, .string p2, .string n2, .slice A2 m2 c2, .slice B2 l2 d2]) (by simp [results, Try.results56, go_sem, y0, y1, y2, y3, y4]) rfl ⟨_, _, _, _, _, _, _, _, _, rfl, HVR.out, HV5.out⟩
theorem put_all (nl : List ByteArray) (ts : List Ty) (hnl : nl.length ≤ 100000) (hsm : Small ts) : ∀ N : Nat, N ≤ 2000000 → PutC nl ts N
  | 0, _ => fun t h => by have := count_pos t; omega
  | N + 1, h => put_step nl ts hnl hsm trivial N (put_all nl ts hnl hsm N (by omega)) (by omega)
end Go.Proofs.Ytkgilhdoahkakaa
