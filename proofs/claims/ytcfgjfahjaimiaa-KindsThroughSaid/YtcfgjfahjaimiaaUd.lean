/-
  A unit's parts: the document's count, walks.
-/
import Derived.Test.YtcfgjfahjaimiaaUc
namespace Go.Proofs.Ytcfgjfahjaimiaa
open Go.RowKit
set_option linter.unusedVariables false
set_option linter.unusedSimpArgs false

def BulkP (c : Nat) (M : Int) (w : World) (e : Ending) (w' : World) : Prop := ∃ r : Int, e = .returned (.int .i64 r) ∧ 0 ≤ r ∧ r ≤ 1125899906842624 ∧ (r ≤ M → r = c) ∧ Below w.heap.size w w'
set_option maxRecDepth 100000 in
set_option maxHeartbeats 8000000 in
theorem bulk_any (u : Un) (hok : u.ok 140737488355328) (w : World) (F : Nat → Prop) (vs : List Value) (M : Int) (hr : RUn w F u vs) (hM : 0 ≤ M) (hM2 : M ≤ 2000000) :
    Calls Try.prog 20 #[.agg vs.toArray, .int .i64 M] w (BulkP u.cnt M w) := by
  obtain ⟨pkg, imps, decls, funs⟩ := u
  obtain ⟨A, a, B, b, C, c, rfl, h1, h2, h3⟩ := hr
  have HD := Lib.hid h2
  have HF := Lib.hid h3
  obtain ⟨o1, ⟨o2, o3⟩, ⟨o4, o5⟩, ⟨o6, o7⟩⟩ := hok
  dsimp only at o1 o2 o3 o4 o5 o6 o7 h1 h2 h3 HD HF
  have HOD := Lib.hid o5
  have HOF := Lib.hid o7
  show Calls Try.prog 20 #[.agg #[.string pkg, .slice A imps.length a, .slice B decls.length b, .slice C funs.length c], .int .i64 M] w (BulkP (imps.length + decls.length + funs.length + sumL Dl.cnt decls + sumL (fun f => cntSs f.body) funs) M w)
  have i0 : (0 : Int) ≤ (imps.length : Int) := by omega
  have i1 : (imps.length : Int) ≤ 140737488355328 := by omega
  have d0 : (0 : Int) ≤ (decls.length : Int) := by omega
  have d1 : (decls.length : Int) ≤ 140737488355328 := by omega
  have f0 : (0 : Int) ≤ (funs.length : Int) := by omega
  have f1 : (funs.length : Int) ≤ 140737488355328 := by omega
  clear h1 h2 h3 o1 o2 o3 o4 o5 o6 o7
  go_enter Try.func20, Try.ntmps20
  go_wp2
  go_loopg [5, 6] decls.length (fun gk v5 v6 wr => ∃ (j : Nat) (x : Int), j + gk = decls.length ∧ v6 = .int .i64 j ∧ v5 = .int .i64 x ∧ 0 ≤ x ∧ x ≤ 1125899906842624 ∧ (x ≤ M → x = imps.length + decls.length + funs.length + sumL Dl.cnt (decls.take j)) ∧ Below w.heap.size w wr ∧ Blk wr w.heap.size 47 #[.string pkg, .slice A imps.length a, .slice B decls.length b, .slice C funs.length c])
  case atStart => exact ⟨0, _, by simp, rfl, rfl, by omega, by omega, fun _ => by simp [sumL], (Below.refl _ _).alloc (Nat.le_refl _) _, Blk.new _ _ _⟩
  case round =>
    obtain ⟨j, x, hj, rfl, rfl, x0, x1, hx, hb, hk⟩ := hrel
    have HX := Lib.hid hx
    have HB := Lib.hid hb
    have HK := Lib.hid hk
    have c1' := hk.cell 1
    have c2' := hk.cell 2
    have c3' := hk.cell 3
    have cl := hk.lt
    clear hx
    cases gk with
    | zero =>
      obtain rfl : j = decls.length := by omega
      have hX := HX.out
      rw [List.take_length] at hX
      have HX2 := Lib.hid hX
      clear hX hj hb hk HX
      by_cases hg : x ≤ M
      · skip
        go_wp2
        clear c1' c2' c3' cl
        obtain ⟨wo, hwo⟩ : ∃ wo : World, wo = wr := ⟨_, rfl⟩
        rw [← hwo] at HB HK ⊢
        clear hwo
        go_loopg [5, 8] funs.length (fun gk v5 v8 wr => ∃ (k : Nat) (y : Int), k + gk = funs.length ∧ v8 = .int .i64 k ∧ v5 = .int .i64 y ∧ x ≤ y ∧ y ≤ 1125899906842624 ∧ (y ≤ M → y = x + sumL (fun f => cntSs f.body) (funs.take k)) ∧ wr = wo)
        case atStart => exact ⟨0, x, by simp, rfl, rfl, by omega, x1, fun _ => by simp [sumL], rfl⟩
        case round =>
          obtain ⟨k, y, hkk, rfl, rfl, y0, y1, hy, hwr⟩ := hrel
          subst hwr
          have HY := Lib.hid hy
          have c3' := HK.out.cell 3
          have cl := HK.out.lt
          have y00 : 0 ≤ y := by omega
          clear hy
          cases gk with
          | zero =>
            obtain rfl : k = funs.length := by omega
            have hY := HY.out
            rw [List.take_length] at hY
            have HY2 := Lib.hid hY
            clear hY hkk
            by_cases hg2 : y ≤ M
            all_goals
              go_wp2
              go_ret
              exact ⟨y, rfl, y00, y1, fun h => by have h1 := HY2.out h; have h2 := HX2.out (by omega); omega, HB.out⟩
          | succ f =>
            have hkl : k < funs.length := by omega
            obtain ⟨fn, hfn⟩ : ∃ u, funs[k]? = some u := ⟨_, List.getElem?_eq_getElem hkl⟩
            have hct := sumL_take (fun f : Fn8 => cntSs f.body) funs k fn hfn
            have hfo := HOF.out fn (List.mem_of_getElem? hfn)
            have k1 : (k : Int) < (funs.length : Int) := by omega
            have k0 : (0 : Int) ≤ (k : Int) := by omega
            have k2 : (k : Int) ≤ 140737488355328 := by omega
            obtain ⟨q, o, vs, hCq, hFq, hgl, hrep, hat⟩ := (HF.out.bel RFn_keeps HB.out).at_ RFn_sized hfn
            obtain ⟨nm, wk, pr, lc, body⟩ := fn
            obtain ⟨A1, c1, rfl, hbody⟩ := hrep
            dsimp only at hbody hct
            have q4 := hat 4 _ rfl
            have HCT := Lib.hid hct
            by_cases hg2 : y ≤ M
            · have hgd : decide (y ≤ M) = true := decide_eq_true hg2
              have HC := Lib.hid (stats_any (cntSs body) body (Nat.le_refl _) ((okSs_iff _).2 hfo.2.2) hfo.2.1 wr F A1 c1 (M - y) hbody (by omega) (by omega))
              subst hCq
              clear hat hct hfn hfo hbody
              go_wp2_with (fail)
              go_at_call 39
              refine HC.out.mono ?_
              rintro e w5 ⟨r, rfl, r0, r1, hr1, rfl⟩
              have HR1 := Lib.hid hr1
              clear hr1
              go_wp2
              go_roundg f
              case measure => omega
              case rel => exact ⟨k + 1, y + r, by omega, by go_num, rfl, by omega, by omega, fun h => by have h1 := HY.out hg2; have h2 := HR1.out (by omega); have h3 := HCT.out; omega, rfl⟩
            · have hgd : decide (y ≤ M) = false := decide_eq_false hg2
              subst hCq
              clear hat hct hfn hfo hbody
              go_wp2
              go_ret
              exact ⟨y, rfl, y00, y1, fun h => by omega, HB.out⟩
      · skip
        go_wp2
        clear c1' c2' c3' cl
        obtain ⟨wo, hwo⟩ : ∃ wo : World, wo = wr := ⟨_, rfl⟩
        rw [← hwo] at HB HK ⊢
        clear hwo
        go_loopg [5, 8] funs.length (fun gk v5 v8 wr => v8 = .int .i64 0 ∧ v5 = .int .i64 x ∧ wr = wo)
        case atStart => exact ⟨rfl, rfl, rfl⟩
        case round =>
          obtain ⟨rfl, rfl, hwr⟩ := hrel
          subst hwr
          have c3' := HK.out.cell 3
          have cl := HK.out.lt
          by_cases hf0 : 0 < funs.length
          · have hf1 : (0 : Int) < (funs.length : Int) := by omega
            have hf2 : decide (0 < funs.length) = true := decide_eq_true hf0
            go_wp2
            go_ret
            exact ⟨x, rfl, x0, x1, fun h => by omega, HB.out⟩
          · have hf1 : ¬ (0 : Int) < (funs.length : Int) := by omega
            have hf2 : decide (0 < funs.length) = false := decide_eq_false hf0
            go_wp2
            go_ret
            exact ⟨x, rfl, x0, x1, fun h => by omega, HB.out⟩
    | succ f =>
      have hjl : j < decls.length := by omega
      obtain ⟨dc, hdc⟩ : ∃ u, decls[j]? = some u := ⟨_, List.getElem?_eq_getElem hjl⟩
      have hct := sumL_take Dl.cnt decls j dc hdc
      have hdo := HOD.out dc (List.mem_of_getElem? hdc)
      have j1 : (j : Int) < (decls.length : Int) := by omega
      have j0 : (0 : Int) ≤ (j : Int) := by omega
      have j2 : (j : Int) ≤ 140737488355328 := by omega
      obtain ⟨q, o, vs, hBq, hFq, hgl, hrep, hat⟩ := (HD.out.bel RDl_keeps hb).at_ RDl_sized hdc
      obtain ⟨dk, dn, dof, dv, dt, fs⟩ := dc
      obtain ⟨tv, Af, cf, rfl, hrt, hfs⟩ := hrep
      obtain ⟨o1, o2, o3, o4, o5⟩ := hdo
      dsimp only at o1 o2 o3 o4 o5 hrt hfs hct
      have HCN := Lib.hid (fun w' (h' : Below wr.heap.size wr w') (m : Int) (h0 : 0 ≤ m) (h1 : m ≤ 2000000) => count_any dt.count dt (Nat.le_refl _) w' F tv m (hrt.bel h') h0 h1)
      obtain ⟨kt, pt, nt, A1, m1, c1, B1, l1, e1, rfl⟩ := hrt.shape
      have q4 := hat 4 _ rfl
      have q5 := hat 5 _ rfl
      have q6 := hat 6 _ rfl
      have q7 := hat 7 _ rfl
      have q8 := hat 8 _ rfl
      have q9 := hat 9 _ rfl
      have HCT := Lib.hid hct
      have HBQ := Lib.hid hBq
      have HFS := Lib.hid hfs
      have g0 : (0 : Int) ≤ (fs.length : Int) := by omega
      have g1 : (fs.length : Int) ≤ 140737488355328 := by omega
      have HOFI := Lib.hid o5
      by_cases hg : x ≤ M
      · have hgd : decide (x ≤ M) = true := decide_eq_true hg
        clear hat hct hdc hb hk hfs hrt o1 o2 o3 o4 o5 hBq
        simp only [tyC] at HCN
        go_wp2
        refine wp_region_held_drew (S := fun V => Below wr.heap.size wr V) (by kernel_rfl) (Below.refl _ wr).drew (fun hS0 => ?_)
        refine wpAnyH_take (i := 0) (v := .int .i64 x) rfl (by kernel_rfl) (by kernel_rfl) (by kernel_rfl) (fun _ _ _ h => h) (Or.inl ⟨rfl, fun w' hS => by (unfold execOp; go_simp)⟩) hS0 ?_
        simp only [Act.put, List.getElem_toArray, List.getElem_cons_zero, List.getElem_cons_succ, List.setIfInBounds_toArray, List.set_cons_zero, List.set_cons_succ]
        refine wpAnyH_take (i := 1) (v := .pointer (some ⟨w.heap.size, 2, none⟩)) rfl (by kernel_rfl) (by kernel_rfl) (by kernel_rfl) (fun _ _ _ h => h) (Or.inl ⟨rfl, fun w' hS => by (unfold execOp; go_simp)⟩) hS0 ?_
        simp only [Act.put, List.getElem_toArray, List.getElem_cons_zero, List.getElem_cons_succ, List.setIfInBounds_toArray, List.set_cons_zero, List.set_cons_succ]
        refine wpAnyH_take (i := 2) (v := .slice B decls.length b) rfl (by kernel_rfl) (by kernel_rfl) (by kernel_rfl) (fun _ _ _ h => h) (Or.inl ⟨rfl, fun w' hS => by (have yu := (hS.cell (p := ⟨w.heap.size, 2, none⟩) cl).trans c2'; have yl := Nat.lt_of_lt_of_le cl hS.size; unfold execOp; go_simp)⟩) hS0 ?_
        simp only [Act.put, List.getElem_toArray, List.getElem_cons_zero, List.getElem_cons_succ, List.setIfInBounds_toArray, List.set_cons_zero, List.set_cons_succ]
        refine wpAnyH_take (i := 3) (v := .int .i64 j) rfl (by kernel_rfl) (by kernel_rfl) (by kernel_rfl) (fun _ _ _ h => h) (Or.inl ⟨rfl, fun w' hS => by (unfold execOp; go_simp)⟩) hS0 ?_
        simp only [Act.put, List.getElem_toArray, List.getElem_cons_zero, List.getElem_cons_succ, List.setIfInBounds_toArray, List.set_cons_zero, List.set_cons_succ]
        refine wpAnyH_take (i := 4) (v := .pointer (some ⟨q, o + j * 10, none⟩)) rfl (by kernel_rfl) (by kernel_rfl) (by kernel_rfl) (fun _ _ _ h => h) (Or.inl ⟨rfl, fun w' hS => by (have zb := HBQ.out; unfold execOp; go_simp)⟩) hS0 ?_
        simp only [Act.put, List.getElem_toArray, List.getElem_cons_zero, List.getElem_cons_succ, List.setIfInBounds_toArray, List.set_cons_zero, List.set_cons_succ]
        refine wpAnyH_take (i := 5) (v := .pointer (some ⟨q, o + j * 10 + 4, none⟩)) rfl (by kernel_rfl) (by kernel_rfl) (by kernel_rfl) (fun _ _ _ h => h) (Or.inl ⟨rfl, fun w' hS => by (unfold execOp; go_simp)⟩) hS0 ?_
        simp only [Act.put, List.getElem_toArray, List.getElem_cons_zero, List.getElem_cons_succ, List.setIfInBounds_toArray, List.set_cons_zero, List.set_cons_succ]
        refine wpAnyH_take (i := 6) (v := .agg #[.int .i64 kt, .string pt, .string nt, .slice A1 m1 c1, .slice B1 l1 e1]) rfl (by kernel_rfl) (by kernel_rfl) (by kernel_rfl) (fun _ _ _ h => h) (Or.inl ⟨rfl, fun w' hS => by (have y4 := (hS.cell (p := ⟨q, _, none⟩) hgl).trans q4; have y5 := (hS.cell (p := ⟨q, _, none⟩) hgl).trans q5; have y6 := (hS.cell (p := ⟨q, _, none⟩) hgl).trans q6; have y7 := (hS.cell (p := ⟨q, _, none⟩) hgl).trans q7; have y8 := (hS.cell (p := ⟨q, _, none⟩) hgl).trans q8; unfold execOp; go_simp)⟩) hS0 ?_
        simp only [Act.put, List.getElem_toArray, List.getElem_cons_zero, List.getElem_cons_succ, List.setIfInBounds_toArray, List.set_cons_zero, List.set_cons_succ]
        refine wpAnyH_take (i := 7) (v := .int .i64 M) rfl (by kernel_rfl) (by kernel_rfl) (by kernel_rfl) (fun _ _ _ h => h) (Or.inl ⟨rfl, fun w' hS => by (unfold execOp; go_simp)⟩) hS0 ?_
        simp only [Act.put, List.getElem_toArray, List.getElem_cons_zero, List.getElem_cons_succ, List.setIfInBounds_toArray, List.set_cons_zero, List.set_cons_succ]
        refine wpAnyH_take (i := 8) (v := .int .i64 x) rfl (by kernel_rfl) (by kernel_rfl) (by kernel_rfl) (fun _ _ _ h => h) (Or.inl ⟨rfl, fun w' hS => by (unfold execOp; go_simp)⟩) hS0 ?_
        simp only [Act.put, List.getElem_toArray, List.getElem_cons_zero, List.getElem_cons_succ, List.setIfInBounds_toArray, List.set_cons_zero, List.set_cons_succ]
        have es : IntKind.i64.wrap (M - x) = M - x := IntWalk.i64_in _ (by omega)
        refine wpAnyH_take (i := 9) (v := .int .i64 (M - x)) rfl (by kernel_rfl) (by kernel_rfl) (by kernel_rfl) (fun _ _ _ h => h) (Or.inl ⟨rfl, fun w' hS => by (unfold execOp; go_simp)⟩) hS0 ?_
        simp only [Act.put, List.getElem_toArray, List.getElem_cons_zero, List.getElem_cons_succ, List.setIfInBounds_toArray, List.set_cons_zero, List.set_cons_succ]
        refine wpAnyH_take (i := 12) (v := .pointer (some ⟨w.heap.size, 2, none⟩)) rfl (by kernel_rfl) (by kernel_rfl) (by kernel_rfl) (fun _ _ _ h => h) (Or.inl ⟨rfl, fun w' hS => by (unfold execOp; go_simp)⟩) hS0 ?_
        simp only [Act.put, List.getElem_toArray, List.getElem_cons_zero, List.getElem_cons_succ, List.setIfInBounds_toArray, List.set_cons_zero, List.set_cons_succ]
        refine wpAnyH_take (i := 13) (v := .slice B decls.length b) rfl (by kernel_rfl) (by kernel_rfl) (by kernel_rfl) (fun _ _ _ h => h) (Or.inl ⟨rfl, fun w' hS => by (have yu := (hS.cell (p := ⟨w.heap.size, 2, none⟩) cl).trans c2'; have yl := Nat.lt_of_lt_of_le cl hS.size; unfold execOp; go_simp)⟩) hS0 ?_
        simp only [Act.put, List.getElem_toArray, List.getElem_cons_zero, List.getElem_cons_succ, List.setIfInBounds_toArray, List.set_cons_zero, List.set_cons_succ]
        refine wpAnyH_take (i := 14) (v := .int .i64 j) rfl (by kernel_rfl) (by kernel_rfl) (by kernel_rfl) (fun _ _ _ h => h) (Or.inl ⟨rfl, fun w' hS => by (unfold execOp; go_simp)⟩) hS0 ?_
        simp only [Act.put, List.getElem_toArray, List.getElem_cons_zero, List.getElem_cons_succ, List.setIfInBounds_toArray, List.set_cons_zero, List.set_cons_succ]
        refine wpAnyH_take (i := 15) (v := .pointer (some ⟨q, o + j * 10, none⟩)) rfl (by kernel_rfl) (by kernel_rfl) (by kernel_rfl) (fun _ _ _ h => h) (Or.inl ⟨rfl, fun w' hS => by (have zb := HBQ.out; unfold execOp; go_simp)⟩) hS0 ?_
        simp only [Act.put, List.getElem_toArray, List.getElem_cons_zero, List.getElem_cons_succ, List.setIfInBounds_toArray, List.set_cons_zero, List.set_cons_succ]
        refine wpAnyH_take (i := 16) (v := .pointer (some ⟨q, o + j * 10 + 9, none⟩)) rfl (by kernel_rfl) (by kernel_rfl) (by kernel_rfl) (fun _ _ _ h => h) (Or.inl ⟨rfl, fun w' hS => by (unfold execOp; go_simp)⟩) hS0 ?_
        simp only [Act.put, List.getElem_toArray, List.getElem_cons_zero, List.getElem_cons_succ, List.setIfInBounds_toArray, List.set_cons_zero, List.set_cons_succ]
        refine wpAnyH_take (i := 17) (v := .slice Af fs.length cf) rfl (by kernel_rfl) (by kernel_rfl) (by kernel_rfl) (fun _ _ _ h => h) (Or.inl ⟨rfl, fun w' hS => by (have y9 := (hS.cell (p := ⟨q, _, none⟩) hgl).trans q9; unfold execOp; go_simp)⟩) hS0 ?_
        simp only [Act.put, List.getElem_toArray, List.getElem_cons_zero, List.getElem_cons_succ, List.setIfInBounds_toArray, List.set_cons_zero, List.set_cons_succ]
        refine wpAnyH_take (i := 18) (v := .int .i64 (fs.length : Int)) rfl (by kernel_rfl) (by kernel_rfl) (by kernel_rfl) (fun _ _ _ h => h) (Or.inl ⟨rfl, fun w' hS => by (unfold execOp; go_simp)⟩) hS0 ?_
        simp only [Act.put, List.getElem_toArray, List.getElem_cons_zero, List.getElem_cons_succ, List.setIfInBounds_toArray, List.set_cons_zero, List.set_cons_succ]
        refine wpAnyH_one (i := 10) (by kernel_rfl) rfl rfl (op_call (args := #[.agg #[.int .i64 kt, .string pt, .string nt, .slice A1 m1 c1, .slice B1 l1 e1], .int .i64 (M - x)]) (f := 21) (by unfold execOp; go_simp) ((HCN.out _ hS0 (M - x) (by omega) (by omega)).mono ?_))
        rintro e w5 ⟨rfl, hb5⟩
        have hS5 : Below wr.heap.size wr w5 := hS0.trans (hb5.mono hS0.size)
        refine And.intro hS5 ?_
        obtain ⟨rc, hrc⟩ : ∃ r : Int, min (dt.count : Int) (M - x + 1) = r := ⟨_, rfl⟩
        rw [hrc]
        have rc0 : 0 ≤ rc := by omega
        have rc1 : rc ≤ M - x + 1 := by omega
        have HRC := Lib.hid hrc
        clear hrc
        have ea : IntKind.i64.wrap (x + rc) = x + rc := IntWalk.i64_in _ (by omega)
        have eb : IntKind.i64.wrap (x + rc + (fs.length : Int)) = x + rc + (fs.length : Int) := IntWalk.i64_in _ (by omega)
        simp only [Act.put, List.getElem_toArray, List.getElem_cons_zero, List.getElem_cons_succ, List.setIfInBounds_toArray, List.set_cons_zero, List.set_cons_succ]
        refine wpAnyH_take (i := 11) (v := .int .i64 (x + rc)) rfl (by kernel_rfl) (by kernel_rfl) (by kernel_rfl) (fun _ _ _ h => h) (Or.inl ⟨rfl, fun w' hS => by (unfold execOp; go_simp)⟩) hS5 ?_
        simp only [Act.put, List.getElem_toArray, List.getElem_cons_zero, List.getElem_cons_succ, List.setIfInBounds_toArray, List.set_cons_zero, List.set_cons_succ]
        refine wpAnyH_take (i := 19) (v := .int .i64 (x + rc + (fs.length : Int))) rfl (by kernel_rfl) (by kernel_rfl) (by kernel_rfl) (fun _ _ _ h => h) (Or.inl ⟨rfl, fun w' hS => by (unfold execOp; go_simp)⟩) hS5 ?_
        simp only [Act.put, List.getElem_toArray, List.getElem_cons_zero, List.getElem_cons_succ, List.setIfInBounds_toArray, List.set_cons_zero, List.set_cons_succ]
        refine wpAnyH_take (i := 20) (v := .int .i64 (x + rc + (fs.length : Int))) rfl (by kernel_rfl) (by kernel_rfl) (by kernel_rfl) (fun _ _ _ h => h) (Or.inl ⟨rfl, fun w' hS => by (unfold execOp; go_simp)⟩) hS5 ?_
        simp only [Act.put, List.getElem_toArray, List.getElem_cons_zero, List.getElem_cons_succ, List.setIfInBounds_toArray, List.set_cons_zero, List.set_cons_succ]
        refine wpAnyH_done (by kernel_rfl) ?_ _
        have HB5 := Lib.hid (HB.out.trans (hS5.mono HB.out.size))
        have HK5 := Lib.hid (HK.out.bel2 hS5)
        have HS5 := Lib.hid hS5
        have q9' := (hS5.cell (p := ⟨q, _, none⟩) hgl).trans q9
        obtain ⟨X, hXe⟩ : ∃ X : Int, x + rc + (fs.length : Int) = X := ⟨_, rfl⟩
        have HXE := Lib.hid hXe
        have X0 : 0 ≤ X := by omega
        have X1 : X ≤ 1125899906842624 := by omega
        have hxX : x ≤ X := by omega
        rw [hXe]
        clear hXe es ea eb hS0 hS5 hb5 q4 q5 q6 q7 q8 q9 c1' c2' c3' cl
        go_wp2
        go_loopg [5, 7] fs.length (fun gk v5 v7 wr => ∃ (k : Nat) (y : Int), k + gk = fs.length ∧ v7 = .int .i64 k ∧ v5 = .int .i64 y ∧ X ≤ y ∧ y ≤ 1125899906842624 ∧ (y ≤ M → y = X + sumL (fun f => f.ty.count) (fs.take k)) ∧ Below w5.heap.size w5 wr)
        case atStart => exact ⟨0, X, by simp, rfl, rfl, by omega, X1, fun _ => by simp [sumL], Below.refl _ _⟩
        case round =>
          obtain ⟨k, y, hkk, rfl, rfl, y0, y1, hy, hbs⟩ := hrel
          have HY := Lib.hid hy
          have HBS := Lib.hid hbs
          have c2' := (HK5.out.bel2 hbs).cell 2
          have cl := (HK5.out.bel2 hbs).lt
          have q9'' := (hbs.cell (p := ⟨q, _, none⟩) (Nat.lt_of_lt_of_le hgl HS5.out.size)).trans q9'
          have hgl2 : q < wr.heap.size := Nat.lt_of_lt_of_le hgl (Nat.le_trans HS5.out.size hbs.size)
          have y00 : 0 ≤ y := by omega
          have zb := HBQ.out
          subst zb
          clear hy
          cases gk with
          | zero =>
            obtain rfl : k = fs.length := by omega
            have hY := HY.out
            rw [List.take_length] at hY
            have HY2 := Lib.hid hY
            clear hY hkk hbs
            by_cases hg2 : y ≤ M
            all_goals
              go_wp2
              go_roundg f
              case measure => omega
              case rel => exact ⟨j + 1, y, by omega, by go_num, rfl, by omega, y1, fun h => by
                have h1 := HY2.out h
                have h2 := HX.out hg
                have h3 := HCT.out
                have h4 := HXE.out
                have h5 := HRC.out
                have h6 : Dl.cnt ⟨dk, dn, dof, dv, dt, fs⟩ = dt.count + fs.length + sumL (fun f => f.ty.count) fs := rfl
                rw [h6] at h3
                omega, HB5.out.trans (HBS.out.mono HB5.out.size), HK5.out.bel2 HBS.out⟩
          | succ f2 =>
            have hkl : k < fs.length := by omega
            obtain ⟨fi, hfi⟩ : ∃ u, fs[k]? = some u := ⟨_, List.getElem?_eq_getElem hkl⟩
            have hct2 := sumL_take (fun f : Fi => f.ty.count) fs k fi hfi
            have k1 : (k : Int) < (fs.length : Int) := by omega
            have k0 : (0 : Int) ≤ (k : Int) := by omega
            have k2 : (k : Int) ≤ 140737488355328 := by omega
            obtain ⟨qq, oo, vv, hAf, hFq2, hgl3, hrep2, hat2⟩ := ((HFS.out.bel RFi_keeps HS5.out).bel RFi_keeps hbs).at_ RFi_sized hfi
            obtain ⟨fnm, fty⟩ := fi
            obtain ⟨tv2, rfl, hrt2⟩ := hrep2
            dsimp only at hrt2 hct2
            by_cases hg2 : y ≤ M
            · have hgd2 : decide (y ≤ M) = true := decide_eq_true hg2
              have HC2 := Lib.hid (count_any fty.count fty (Nat.le_refl _) wr F tv2 (M - y) hrt2 (by omega) (by omega))
              obtain ⟨k9, p9, n9, A9, m9, c9, B9, l9, d9, rfl⟩ := hrt2.shape
              simp only [tyC] at HC2
              have s1 := hat2 1 _ rfl
              have s2 := hat2 2 _ rfl
              have s3 := hat2 3 _ rfl
              have s4 := hat2 4 _ rfl
              have s5 := hat2 5 _ rfl
              have HCT2 := Lib.hid hct2
              subst hAf
              clear hat2 hct2 hfi hrt2 hbs
              obtain ⟨rd, hrd⟩ : ∃ r : Int, min (fty.count : Int) (M - y + 1) = r := ⟨_, rfl⟩
              rw [hrd] at HC2
              have rd0 : 0 ≤ rd := by omega
              have rd1 : rd ≤ M - y + 1 := by omega
              have HRD := Lib.hid hrd
              clear hrd
              go_wp2_with (go_at_call 21; refine HC2.out.mono ?_; rintro e w6 ⟨rfl, hb6⟩; have HB6 := Lib.hid hb6; clear hb6)
              go_roundg f2
              case measure => omega
              case rel => exact ⟨k + 1, y + rd, by omega, by go_num, rfl, by omega, by omega, fun h => by have h1 := HY.out hg2; have h2 := HRD.out; have h3 := HCT2.out; omega, HBS.out.trans (HB6.out.mono HBS.out.size)⟩
            · have hgd2 : decide (y ≤ M) = false := decide_eq_false hg2
              clear hat2 hct2 hfi hrt2 hbs hAf
              go_wp2
              go_roundg f
              case measure => omega
              case rel => exact ⟨j + 1, y, by omega, by go_num, rfl, by omega, y1, fun h => by omega, HB5.out.trans (HBS.out.mono HB5.out.size), HK5.out.bel2 HBS.out⟩
      · have hgd : decide (x ≤ M) = false := decide_eq_false hg
        clear hat hct hdc hb hk hfs hrt o1 o2 o3 o4 o5 hBq HCN HFS
        go_wp2
        clear c1' c2' c3' cl
        obtain ⟨wo, hwo⟩ : ∃ wo : World, wo = wr := ⟨_, rfl⟩
        rw [← hwo] at HB HK ⊢
        clear hwo
        go_loopg [5, 8] funs.length (fun gk v5 v8 wr => v8 = .int .i64 0 ∧ v5 = .int .i64 x ∧ wr = wo)
        case atStart => exact ⟨rfl, rfl, rfl⟩
        case round =>
          obtain ⟨rfl, rfl, hwr⟩ := hrel
          subst hwr
          have c3' := HK.out.cell 3
          have cl := HK.out.lt
          by_cases hf0 : 0 < funs.length
          · have hf1 : (0 : Int) < (funs.length : Int) := by omega
            have hf2 : decide (0 < funs.length) = true := decide_eq_true hf0
            go_wp2
            go_ret
            exact ⟨x, rfl, x0, x1, fun h => by omega, HB.out⟩
          · have hf1 : ¬ (0 : Int) < (funs.length : Int) := by omega
            have hf2 : decide (0 < funs.length) = false := decide_eq_false hf0
            go_wp2
            go_ret
            exact ⟨x, rfl, x0, x1, fun h => by omega, HB.out⟩
end Go.Proofs.Ytcfgjfahjaimiaa
