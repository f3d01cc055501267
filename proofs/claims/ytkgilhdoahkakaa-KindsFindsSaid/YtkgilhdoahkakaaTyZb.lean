/-
  The document's Put and Copy: walks.
-/
import Derived.Test.YtkgilhdoahkakaaTyZ
namespace Go.Proofs.Ytkgilhdoahkakaa
open Go.RowKit
set_option linter.unusedVariables false
set_option linter.unusedSimpArgs false

def RPutC (nl : List ByteArray) (ts : List Ty) (N : Nat) : Prop := ∀ t : Ty, t.count ≤ N → ∀ (w : World) (F F' F'' : Nat → Prop) (C : Option Addr) (cc : Nat) (D : Option Addr) (f : Nat) (vs : List Value), SlS w F' C nl → SlT w F'' D ts → RT w F t vs → Calls Try.prog 32 #[.agg vs.toArray, .slice C nl.length cc, .slice D ts.length f] w (NewP (putT nl ts t) w)
def RCopies (ts : List Ty) : Prop := ∀ u ∈ ts, ∀ (w : World) (F : Nat → Prop) (us : List Value), RT w F u us → Calls Try.prog 30 #[.agg us.toArray] w (NewP u w)
set_option maxRecDepth 100000 in
set_option maxHeartbeats 8000000 in
theorem rput_step (nl : List ByteArray) (ts : List Ty) (hnl : nl.length ≤ 100000) (hcp : RCopies ts) (N : Nat) (ih : RPutC nl ts N) (hN : N ≤ 2000000) : RPutC nl ts (N + 1) := by
  rintro ⟨k, p, n, la, lr⟩ hct w F F' F'' C cc D f vs hs ht hr
  rw [putT_mk]
  rw [count_mk] at hct
  obtain ⟨A, c, B, d, rfl, ha, hb⟩ := hr.openL
  have HA := Lib.hid ha
  have HB := Lib.hid hb
  have HPL := Lib.hid (fun w' (h' : Below w.heap.size w w') => rplace_any w' F' C cc nl n (hs.bel h') hnl)
  show Calls Try.prog 32 #[.agg #[.int .i64 k, .string p, .string n, .slice A la.length c, .slice B lr.length d], .slice C nl.length cc, .slice D ts.length f] w _
  have hla := len_countL la
  have hlr := len_countL lr
  have n0 : (0 : Int) ≤ (la.length : Int) := by omega
  have n1 : (la.length : Int) ≤ 2000000 := by omega
  have m0 : (0 : Int) ≤ (lr.length : Int) := by omega
  have m1 : (lr.length : Int) ≤ 2000000 := by omega
  have hS1 : Below w.heap.size w ((w.alloc (.cells #[.int .i64 k, .string p, .string n, .slice A la.length c, .slice B lr.length d] 24)).alloc (.cells #[.int .i64 0, .string ⟨#[]⟩, .string ⟨#[]⟩, .slice none 0 0, .slice none 0 0] 24)) := ((Below.refl _ w).alloc (Nat.le_refl _) _).alloc (by simp) _
  have HS1 := Lib.hid hS1
  have hR1 : Blk ((w.alloc (.cells #[.int .i64 k, .string p, .string n, .slice A la.length c, .slice B lr.length d] 24)).alloc (.cells #[.int .i64 0, .string ⟨#[]⟩, .string ⟨#[]⟩, .slice none 0 0, .slice none 0 0] 24)) (w.heap.size + 1) 24 #[.int .i64 0, .string ⟨#[]⟩, .string ⟨#[]⟩, .slice none 0 0, .slice none 0 0] := Blk.new_at (by simp)
  have HR1 := Lib.hid hR1
  clear hr ha hb hS1 hR1
  by_cases hk : k = 9
  · subst hk
    cases hp : place nl n with
    | none =>
      have e : hitT nl ts 9 n = none := by simp [hitT, hp]
      have hpi : plI nl n = -1 := by simp [plI, hp]
      rw [e, Option.getD_none]
      rw [hpi] at HPL
      clear hp e hpi
      have hL0 : LU w ((((w.alloc (.cells #[.int .i64 9, .string p, .string n, .slice A la.length c, .slice B lr.length d] 24)).alloc (.cells #[.int .i64 0, .string ⟨#[]⟩, .string ⟨#[]⟩, .slice none 0 0, .slice none 0 0] 24)).alloc (.cells #[.int .i64 9, .string p, .string n, .slice none 0 0, .slice none 0 0] 24))) #[.int .i64 9, .string p, .string n, .slice A la.length c, .slice B lr.length d] #[.int .i64 9, .string p, .string n, .slice none 0 0, .slice none 0 0] none 0 ((la.take 0).map (putT nl ts)) :=
        ⟨(((Below.refl _ w).alloc (Nat.le_refl _) _).alloc (by simp) _).alloc (by simp; omega) _, ((Blk.new _ _ _).alloc _).alloc _, (Blk.new_at (by simp)).alloc _, Blk.new_at (by simp), OwnT.nil_ _ _⟩
      go_enter Try.func32, Try.ntmps32
      go_wp2_with (go_at_call 57; ((with_reducible refine (HPL.out _ HS1.out).mono ?_); rintro e w1 ⟨rfl, rfl⟩))
      go_loopg [9] la.length (fun gk v9 wr => ∃ (j : Nat) (A3 : Option Addr) (c3 : Nat), j + gk = la.length ∧ v9 = .int .i64 j ∧ LU w wr #[.int .i64 9, .string p, .string n, .slice A la.length c, .slice B lr.length d] #[.int .i64 9, .string p, .string n, .slice A3 j c3, .slice none 0 0] A3 c3 ((la.take j).map (putT nl ts)))
      case atStart => exact ⟨0, none, 0, by simp, rfl, hL0⟩
      case round =>
        obtain ⟨j, A3, c3, hj, rfl, hlu⟩ := hrel
        have HLU := Lib.hid hlu
        have b0 := hlu.box.cell 0
        have b1 := hlu.box.cell 1
        have b2 := hlu.box.cell 2
        have b3 := hlu.box.cell 3
        have b4 := hlu.box.cell 4
        have bl := hlu.box.lt
        have hlj : ((la.take j).map (putT nl ts)).length = j := by simp; omega
        cases gk with
        | zero =>
          obtain rfl : j = la.length := by omega
          have u0 := hlu.u.cell 0
          have u1 := hlu.u.cell 1
          have u2 := hlu.u.cell 2
          have u3 := hlu.u.cell 3
          have u4 := hlu.u.cell 4
          have ul := hlu.u.lt
          have r0 := hlu.res.cell 0
          have r1 := hlu.res.cell 1
          have r2 := hlu.res.cell 2
          have r3 := hlu.res.cell 3
          have r4 := hlu.res.cell 4
          have f0 := hlu.res.frozen 0
          have f1 := hlu.res.frozen 1
          have f2 := hlu.res.frozen 2
          have f3 := hlu.res.frozen 3
          have f4 := hlu.res.frozen 4
          clear hj hlj hlu
          have hl1 : SlT wr (fun q => w.heap.size + 1 + 1 + 1 ≤ q ∧ (Value.slice none 0 0).ownBlock ≠ some q) A3 (putL nl ts la) ∧ LU w wr #[.int .i64 9, .string p, .string n, .slice A la.length c, .slice B lr.length d] #[.int .i64 9, .string p, .string n, .slice A3 la.length c3, .slice none 0 0] none 0 ((lr.take 0).map (putT nl ts)) := by
            have h2 := HLU.out.own.sl
            rw [List.take_length, ← putL_map] at h2
            exact ⟨h2.keep (fun _ _ _ => rfl) (Nat.le_refl _) (fun _ _ h => ⟨h, by simp [Value.ownBlock]⟩), ⟨HLU.out.bel, HLU.out.box, HLU.out.res, HLU.out.u, OwnT.nil_ _ _⟩⟩
          have HL1 := Lib.hid hl1
          clear hl1 HLU r0 r1 r2 r3 r4 f0 f1 f2 f3 f4 u0 u1 u2 u3 u4 b0 b1 b2 b4 ul bl
          go_wp2
          clear b3
          go_loopg [10] lr.length (fun gk v10 wr => ∃ (j : Nat) (A4 : Option Addr) (c4 : Nat), j + gk = lr.length ∧ v10 = .int .i64 j ∧ LU w wr #[.int .i64 9, .string p, .string n, .slice A la.length c, .slice B lr.length d] #[.int .i64 9, .string p, .string n, .slice A3 la.length c3, .slice A4 j c4] A4 c4 ((lr.take j).map (putT nl ts)) ∧ SlT wr (fun q => w.heap.size + 1 + 1 + 1 ≤ q ∧ (Value.slice A4 j c4).ownBlock ≠ some q) A3 (putL nl ts la))
          case atStart => exact ⟨0, none, 0, by simp, rfl, HL1.out.2, HL1.out.1⟩
          case round =>
            obtain ⟨j, A4, c4, hj, rfl, hlu, hsl⟩ := hrel
            have HLU := Lib.hid hlu
            have HSL := Lib.hid hsl
            have b0 := hlu.box.cell 0
            have b1 := hlu.box.cell 1
            have b2 := hlu.box.cell 2
            have b3 := hlu.box.cell 3
            have b4 := hlu.box.cell 4
            have bl := hlu.box.lt
            have hlj : ((lr.take j).map (putT nl ts)).length = j := by simp; omega
            cases gk with
            | zero =>
              obtain rfl : j = lr.length := by omega
              have u0 := hlu.u.cell 0
              have u1 := hlu.u.cell 1
              have u2 := hlu.u.cell 2
              have u3 := hlu.u.cell 3
              have u4 := hlu.u.cell 4
              have ul := hlu.u.lt
              have r0 := hlu.res.cell 0
              have r1 := hlu.res.cell 1
              have r2 := hlu.res.cell 2
              have r3 := hlu.res.cell 3
              have r4 := hlu.res.cell 4
              have f0 := hlu.res.frozen 0
              have f1 := hlu.res.frozen 1
              have f2 := hlu.res.frozen 2
              have f3 := hlu.res.frozen 3
              have f4 := hlu.res.frozen 4
              clear hj hlj hlu hsl
              have HR1 := Lib.hid HLU.out.res
              have hss : SlT wr (fun q => w.heap.size + 1 + 1 + 1 ≤ q) A4 (putL nl ts lr) := by
                have := HLU.out.own.sl
                rw [List.take_length, ← putL_map] at this
                exact this
              have hrt : RT wr (fun q => w.heap.size + 1 + 1 + 1 ≤ q) (.mk 9 p n (putL nl ts la) (putL nl ts lr)) [.int .i64 9, .string p, .string n, .slice A3 la.length c3, .slice A4 lr.length c4] := by
                have := RT.mk_ (k := 9) (p := p) (n := n) (c := c3) (c' := c4) (HSL.out.keep (F' := fun q => w.heap.size + 1 + 1 + 1 ≤ q) (fun _ _ _ => rfl) (Nat.le_refl _) (fun _ _ h => h.1)) hss
                rw [putL_len, putL_len] at this
                exact this
              have HRT := Lib.hid hrt
              clear hss hrt b0 b1 b2 b3
              go_wp2
              have hV := put5_blk HR1.out (.int .i64 9) (.string p) (.string n) (.slice A3 la.length c3) (.slice A4 lr.length c4)
              have HV5 := Lib.hid (put5_bel HLU.out.bel (show w.heap.size ≤ w.heap.size + 1 by omega) (.int .i64 9) (.string p) (.string n) (.slice A3 la.length c3) (.slice A4 lr.length c4))
              have HVR := Lib.hid ((HRT.out.gr (put5_gr wr (w.heap.size + 1) (.int .i64 9) (.string p) (.string n) (.slice A3 la.length c3) (.slice A4 lr.length c4)) (fun h => by simp at h; omega)).more (F' := fun q => w.heap.size ≤ q) (fun q hq => by have : w.heap.size + 1 + 1 + 1 ≤ q := hq; show w.heap.size ≤ q; omega))
              have y0 := hV.cell 0
              have y1 := hV.cell 1
              have y2 := hV.cell 2
              have y3 := hV.cell 3
              have y4 := hV.cell 4
              clear hV r0 r1 r2 r3 r4 f0 f1 f2 f3 f4 u0 u1 u2 u3 u4
              show bodyPost _ _ _ _ _ (put5 wr (w.heap.size + 1) (.int .i64 9) (.string p) (.string n) (.slice A3 la.length c3) (.slice A4 lr.length c4))
              generalize put5 wr (w.heap.size + 1) (.int .i64 9) (.string p) (.string n) (.slice A3 la.length c3) (.slice A4 lr.length c4) = V at HV5 HVR y0 y1 y2 y3 y4 ⊢
              exact bodyPost_ret (v := .agg #[.int .i64 9, .string p, .string n, .slice A3 la.length c3, .slice A4 lr.length c4]) (by simp [results, Try.results32, go_sem, y0, y1, y2, y3, y4]) rfl ⟨_, _, _, _, _, _, _, _, _, rfl, HVR.out, HV5.out⟩
            | succ gg =>
              have hjl : j < lr.length := by omega
              obtain ⟨u, hu⟩ : ∃ u, lr[j]? = some u := ⟨_, List.getElem?_eq_getElem hjl⟩
              obtain ⟨q, o, vs, rfl, hFq, hgl, hrep, hat⟩ := HB.out.at_ hu
              have hck := count_kid lr j u hu
              have HI := Lib.hid (fun w' (h' : Below w.heap.size w w') => ih u (by omega) w' F F' F'' C cc D f vs (hs.bel h') (ht.bel h') (hrep.bel h'))
              obtain ⟨k1, p1, n1', A1, m1', c1, B1, l1, d1, rfl⟩ := hrep.shape
              have q0 := hat 0 _ rfl
              have q1 := hat 1 _ rfl
              have q2 := hat 2 _ rfl
              have q3 := hat 3 _ rfl
              have q4 := hat 4 _ rfl
              have j1 : (j : Int) < (lr.length : Int) := by omega
              have j2 : (j : Int) ≤ 2000000 := by omega
              simp only [Nat.add_zero] at q0
              have HU := Lib.hid hu
              have u4 := hlu.u.cell 4
              have ul := hlu.u.lt
              obtain ⟨xs, hown, hrts⟩ := hlu.own
              have hblk : ∀ q, (Value.slice A4 j c4).ownBlock = some q → w.heap.size + 1 + 1 + 1 ≤ q ∧ q < wr.heap.size := fun q hq => hlu.own.lo (by rw [hlj]; exact hq)
              rw [hlj] at hown
              clear hat hrep hu hlu hsl
              go_wp2
              refine wp_region_split (S := fun V => Gr (fun x => (Value.slice A4 j c4).ownBlock = some x) wr V ∧ Below w.heap.size w V) 12 (by kernel_rfl) (by kernel_rfl) ⟨(Gr.refl wr).drew, HLU.out.bel.drew⟩ (fun hS0 => ?_)
              simp only [List.take_succ_cons, List.take_zero]
              refine wpAnyH_take (i := 0) (v := .pointer (some ⟨w.heap.size + 1 + 1, 4, none⟩)) rfl (by kernel_rfl) (by kernel_rfl) (by kernel_rfl) (fun _ _ _ h => h) (Or.inl ⟨rfl, fun w' hS => by (unfold execOp; go_simp)⟩) hS0 ?_
              simp only [Act.put, List.getElem_toArray, List.getElem_cons_zero, List.getElem_cons_succ, List.setIfInBounds_toArray, List.set_cons_zero, List.set_cons_succ]
              refine wpAnyH_take (i := 1) (v := .slice A4 j c4) rfl (by kernel_rfl) (by kernel_rfl) (by kernel_rfl) (fun _ _ _ h => h) (Or.inl ⟨rfl, fun w' hS => by (have yu := (hS.1.cell (p := ⟨w.heap.size + 1 + 1, 4, none⟩) ul (fun e => by have h1 : w.heap.size + 1 + 1 + 1 ≤ w.heap.size + 1 + 1 := (hblk _ e).1; omega)).trans u4; have yl := Nat.lt_of_lt_of_le ul hS.1.size; unfold execOp; go_simp)⟩) hS0 ?_
              simp only [Act.put, List.getElem_toArray, List.getElem_cons_zero, List.getElem_cons_succ, List.setIfInBounds_toArray, List.set_cons_zero, List.set_cons_succ]
              refine wpAnyH_take (i := 2) (v := .pointer (some ⟨w.heap.size, 4, none⟩)) rfl (by kernel_rfl) (by kernel_rfl) (by kernel_rfl) (fun _ _ _ h => h) (Or.inl ⟨rfl, fun w' hS => by (unfold execOp; go_simp)⟩) hS0 ?_
              simp only [Act.put, List.getElem_toArray, List.getElem_cons_zero, List.getElem_cons_succ, List.setIfInBounds_toArray, List.set_cons_zero, List.set_cons_succ]
              refine wpAnyH_take (i := 3) (v := .slice (some ⟨q, o, none⟩) lr.length d) rfl (by kernel_rfl) (by kernel_rfl) (by kernel_rfl) (fun _ _ _ h => h) (Or.inl ⟨rfl, fun w' hS => by (have yb := (hS.1.cell (p := ⟨w.heap.size, 4, none⟩) bl (fun e => by have h1 : w.heap.size + 1 + 1 + 1 ≤ w.heap.size := (hblk _ e).1; omega)).trans b4; have yl := Nat.lt_of_lt_of_le bl hS.1.size; unfold execOp; go_simp)⟩) hS0 ?_
              simp only [Act.put, List.getElem_toArray, List.getElem_cons_zero, List.getElem_cons_succ, List.setIfInBounds_toArray, List.set_cons_zero, List.set_cons_succ]
              refine wpAnyH_take (i := 4) (v := .int .i64 j) rfl (by kernel_rfl) (by kernel_rfl) (by kernel_rfl) (fun _ _ _ h => h) (Or.inl ⟨rfl, fun w' hS => by (unfold execOp; go_simp)⟩) hS0 ?_
              simp only [Act.put, List.getElem_toArray, List.getElem_cons_zero, List.getElem_cons_succ, List.setIfInBounds_toArray, List.set_cons_zero, List.set_cons_succ]
              refine wpAnyH_take (i := 5) (v := .pointer (some ⟨q, o + j * 5, none⟩)) rfl (by kernel_rfl) (by kernel_rfl) (by kernel_rfl) (fun _ _ _ h => h) (Or.inl ⟨rfl, fun w' hS => by (unfold execOp; go_simp)⟩) hS0 ?_
              simp only [Act.put, List.getElem_toArray, List.getElem_cons_zero, List.getElem_cons_succ, List.setIfInBounds_toArray, List.set_cons_zero, List.set_cons_succ]
              refine wpAnyH_take (i := 6) (v := .agg #[.int .i64 k1, .string p1, .string n1', .slice A1 m1' c1, .slice B1 l1 d1]) rfl (by kernel_rfl) (by kernel_rfl) (by kernel_rfl) (fun _ _ _ h => h) (Or.inl ⟨rfl, fun w' hS => by (have y0 := (hS.2.cell (p := ⟨q, _, none⟩) hgl).trans q0; have y1 := (hS.2.cell (p := ⟨q, _, none⟩) hgl).trans q1; have y2 := (hS.2.cell (p := ⟨q, _, none⟩) hgl).trans q2; have y3 := (hS.2.cell (p := ⟨q, _, none⟩) hgl).trans q3; have y4 := (hS.2.cell (p := ⟨q, _, none⟩) hgl).trans q4; unfold execOp; go_simp)⟩) hS0 ?_
              simp only [Act.put, List.getElem_toArray, List.getElem_cons_zero, List.getElem_cons_succ, List.setIfInBounds_toArray, List.set_cons_zero, List.set_cons_succ]
              refine wpAnyH_take (i := 7) (v := .slice C nl.length cc) rfl (by kernel_rfl) (by kernel_rfl) (by kernel_rfl) (fun _ _ _ h => h) (Or.inl ⟨rfl, fun w' hS => by (unfold execOp; go_simp)⟩) hS0 ?_
              simp only [Act.put, List.getElem_toArray, List.getElem_cons_zero, List.getElem_cons_succ, List.setIfInBounds_toArray, List.set_cons_zero, List.set_cons_succ]
              refine wpAnyH_take (i := 8) (v := .slice D ts.length f) rfl (by kernel_rfl) (by kernel_rfl) (by kernel_rfl) (fun _ _ _ h => h) (Or.inl ⟨rfl, fun w' hS => by (unfold execOp; go_simp)⟩) hS0 ?_
              simp only [Act.put, List.getElem_toArray, List.getElem_cons_zero, List.getElem_cons_succ, List.setIfInBounds_toArray, List.set_cons_zero, List.set_cons_succ]
              refine wpAnyH_one (i := 9) (by kernel_rfl) rfl rfl (op_call (args := #[.agg #[.int .i64 k1, .string p1, .string n1', .slice A1 m1' c1, .slice B1 l1 d1], .slice C nl.length cc, .slice D ts.length f]) (f := 32) (by unfold execOp; go_simp) ((HI.out _ hS0.2).mono ?_))
              rintro e w5 ⟨k2, p2, n2, A2, m2, c2, B2, l2, d2, rfl, hr5, hb5⟩
              have hd5 : Below wr.heap.size wr w5 := (Below.refl _ wr).drew.trans (hb5.mono (Nat.le_refl _))
              have hS5 : Gr (fun x => (Value.slice A4 j c4).ownBlock = some x) wr w5 ∧ Below w.heap.size w w5 := ⟨Gr.of_below hd5, HLU.out.bel.trans (hd5.mono HLU.out.bel.size)⟩
              refine And.intro hS5 ?_
              simp only [Act.put, List.getElem_toArray, List.getElem_cons_zero, List.getElem_cons_succ, List.setIfInBounds_toArray, List.set_cons_zero, List.set_cons_succ]
              have hb6 : Below w5.heap.size w5 (w5.alloc (.cells #[.int .i64 k2, .string p2, .string n2, .slice A2 m2 c2, .slice B2 l2 d2] 24)) := (Below.refl _ _).alloc (Nat.le_refl _) _
              have hd6 := hd5.trans (hb6.mono hd5.size)
              have hS6 : Gr (fun x => (Value.slice A4 j c4).ownBlock = some x) wr (w5.alloc (.cells #[.int .i64 k2, .string p2, .string n2, .slice A2 m2 c2, .slice B2 l2 d2] 24)) ∧ Below w.heap.size w (w5.alloc (.cells #[.int .i64 k2, .string p2, .string n2, .slice A2 m2 c2, .slice B2 l2 d2] 24)) := ⟨Gr.of_below hd6, HLU.out.bel.trans (hd6.mono HLU.out.bel.size)⟩
              refine wpAnyH_one (i := 10) (by kernel_rfl) rfl rfl (op_val (v := .slice (some ⟨w5.heap.size, 0, none⟩) 1 1) (w' := w5.alloc (.cells #[.int .i64 k2, .string p2, .string n2, .slice A2 m2 c2, .slice B2 l2 d2] 24)) (by unfold execOp; go_simp) (And.intro hS6 ?_))
              simp only [Act.put, List.getElem_toArray, List.getElem_cons_zero, List.getElem_cons_succ, List.setIfInBounds_toArray, List.set_cons_zero, List.set_cons_succ]
              have hlu6 := HLU.out.bel2 hd6
              obtain ⟨xs6, hown6, hrts6⟩ := hlu6.own
              rw [hlj] at hown6
              have hzz : w.heap.size + 1 + 1 + 1 ≤ wr.heap.size := by omega
              refine wpAnyH_one (i := 11) (by kernel_rfl) rfl rfl (op_append5 (.tmp 66) (.tmp 75) rfl rfl (w.heap.size + 1 + 1 + 1) A4 c4 ((lr.take j).map (putT nl ts)) (by rw [hlj]; rfl) xs6 (by rw [hlj]; exact hown6) (by have := hd6.size; omega) (by rw [hlj]; omega) w5.heap.size k2 p2 n2 A2 B2 m2 c2 l2 d2 rfl (Blk.new _ _ _) ?_)
              rw [hlj]
              rintro A' c' w7 ho7 hg7 hn7
              have hblk6 : ∀ q, (Value.slice A4 j c4).ownBlock = some q → q < wr.drew.heap.size := fun q hq => (hblk q hq).2
              have hlu7 : LU w w7 _ #[.int .i64 9, .string p, .string n, .slice A3 la.length c3, .slice A4 j c4] A' c' (((lr.take j).map (putT nl ts)) ++ [putT nl ts u]) := hlu6.grow (B := wr.drew.heap.size) hzz hrts6 (hr5.bel hb6) (by rw [hlj]; exact hblk6) (by rw [hlj]; exact ho7) (by rw [hlj]; exact hg7) (by rw [hlj]; exact hn7)
              have hg17 : Gr (fun x => (Value.slice A4 j c4).ownBlock = some x) wr w7 := ⟨hg7.os.trans hS6.1.os, hg7.tape.trans hS6.1.tape, hg7.output.trans hS6.1.output, Nat.le_trans hS6.1.size hg7.size, fun b hb hS => (hg7.block b (Nat.lt_of_lt_of_le hb hS6.1.size) (fun e => hS e.symm)).trans (hS6.1.block b hb hS)⟩
              refine And.intro ⟨hg17, hlu7.bel⟩ ?_
              simp only [Act.put, List.getElem_toArray, List.getElem_cons_zero, List.getElem_cons_succ, List.setIfInBounds_toArray, List.set_cons_zero, List.set_cons_succ]
              have hsl7 := ((HSL.out.bel hd6)).beside (A' := A') (n' := j + 1) (c' := c') hg7 hn7
              refine wpAnyH_done (by kernel_rfl) ?_ _
              have v4 := hlu7.u.cell 4
              have vl := hlu7.u.lt
              have vf := hlu7.u.frozen 4
              refine wpAny_one (i := 12) (by kernel_rfl) rfl rfl (op_val (v := .pointer (some ⟨w.heap.size + 1 + 1, 4, none⟩)) (w' := w7) (by unfold execOp; go_simp) ?_)
              simp only [Act.put, List.getElem_toArray, List.getElem_cons_zero, List.getElem_cons_succ, List.setIfInBounds_toArray, List.set_cons_zero, List.set_cons_succ]
              refine wpAny_one (i := 13) (by kernel_rfl) rfl rfl (op_skip (w' := w7.setCell ⟨w.heap.size + 1 + 1, 4, none⟩ (.slice A' (j + 1) c')) (by unfold execOp; go_simp) ?_)
              simp only [Act.put, List.getElem_toArray, List.getElem_cons_zero, List.getElem_cons_succ, List.setIfInBounds_toArray, List.set_cons_zero, List.set_cons_succ]
              refine wpAny_done (by kernel_rfl) ?_ _
              have HV := Lib.hid (hlu7.put 4 (.slice A' (j + 1) c'))
              have HSV := Lib.hid (hsl7.keep (w' := w7.setCell ⟨w.heap.size + 1 + 1, 4, none⟩ (.slice A' (j + 1) c')) (F' := fun q => w.heap.size + 1 + 1 + 1 ≤ q ∧ (Value.slice A' (j + 1) c').ownBlock ≠ some q) (fun k hk hlt => ((Gr.refl (S := fun x => x = w.heap.size + 1 + 1) w7).in_ 4 _).block k hlt (fun e => by have : k = w.heap.size + 1 + 1 := e; have := hk.1; omega)) ((Gr.refl (S := fun x => x = w.heap.size + 1 + 1) w7).in_ 4 _).size (fun _ _ h => h))
              have htk : (lr.take (j + 1)).map (putT nl ts) = (lr.take j).map (putT nl ts) ++ [putT nl ts u] := by rw [List.take_add_one, HU.out]; simp
              have HTK := Lib.hid htk
              clear hlu7 hg17 hn7 hg7 ho7 hown6 hrts6 hlu6 hS6 hd6 hb6 hS5 hd5 hr5 hb5 hS0 hown hrts htk v4 vf vl u4 b0 b1 b2 b3 b4 hlj hsl7
              generalize w7.setCell ⟨w.heap.size + 1 + 1, 4, none⟩ (.slice A' (j + 1) c') = V at HV HSV ⊢
              go_wp2
              go_roundg gg
              case measure => omega
              case rel => exact ⟨j + 1, A', c', by omega, by go_num, by rw [HTK.out]; exact HV.out, HSV.out⟩
        | succ gg =>
          have hjl : j < la.length := by omega
          obtain ⟨u, hu⟩ : ∃ u, la[j]? = some u := ⟨_, List.getElem?_eq_getElem hjl⟩
          obtain ⟨q, o, vs, rfl, hFq, hgl, hrep, hat⟩ := HA.out.at_ hu
          have hck := count_kid la j u hu
          have HI := Lib.hid (fun w' (h' : Below w.heap.size w w') => ih u (by omega) w' F F' F'' C cc D f vs (hs.bel h') (ht.bel h') (hrep.bel h'))
          obtain ⟨k1, p1, n1', A1, m1', c1, B1, l1, d1, rfl⟩ := hrep.shape
          have q0 := hat 0 _ rfl
          have q1 := hat 1 _ rfl
          have q2 := hat 2 _ rfl
          have q3 := hat 3 _ rfl
          have q4 := hat 4 _ rfl
          have j1 : (j : Int) < (la.length : Int) := by omega
          have j2 : (j : Int) ≤ 2000000 := by omega
          simp only [Nat.add_zero] at q0
          have HU := Lib.hid hu
          have u3 := hlu.u.cell 3
          have ul := hlu.u.lt
          obtain ⟨xs, hown, hrts⟩ := hlu.own
          have hblk : ∀ q, (Value.slice A3 j c3).ownBlock = some q → w.heap.size + 1 + 1 + 1 ≤ q ∧ q < wr.heap.size := fun q hq => hlu.own.lo (by rw [hlj]; exact hq)
          rw [hlj] at hown
          clear hat hrep hu hlu
          go_wp2
          refine wp_region_split (S := fun V => Gr (fun x => (Value.slice A3 j c3).ownBlock = some x) wr V ∧ Below w.heap.size w V) 12 (by kernel_rfl) (by kernel_rfl) ⟨(Gr.refl wr).drew, HLU.out.bel.drew⟩ (fun hS0 => ?_)
          simp only [List.take_succ_cons, List.take_zero]
          refine wpAnyH_take (i := 0) (v := .pointer (some ⟨w.heap.size + 1 + 1, 3, none⟩)) rfl (by kernel_rfl) (by kernel_rfl) (by kernel_rfl) (fun _ _ _ h => h) (Or.inl ⟨rfl, fun w' hS => by (unfold execOp; go_simp)⟩) hS0 ?_
          simp only [Act.put, List.getElem_toArray, List.getElem_cons_zero, List.getElem_cons_succ, List.setIfInBounds_toArray, List.set_cons_zero, List.set_cons_succ]
          refine wpAnyH_take (i := 1) (v := .slice A3 j c3) rfl (by kernel_rfl) (by kernel_rfl) (by kernel_rfl) (fun _ _ _ h => h) (Or.inl ⟨rfl, fun w' hS => by (have yu := (hS.1.cell (p := ⟨w.heap.size + 1 + 1, 3, none⟩) ul (fun e => by have h1 : w.heap.size + 1 + 1 + 1 ≤ w.heap.size + 1 + 1 := (hblk _ e).1; omega)).trans u3; have yl := Nat.lt_of_lt_of_le ul hS.1.size; unfold execOp; go_simp)⟩) hS0 ?_
          simp only [Act.put, List.getElem_toArray, List.getElem_cons_zero, List.getElem_cons_succ, List.setIfInBounds_toArray, List.set_cons_zero, List.set_cons_succ]
          refine wpAnyH_take (i := 2) (v := .pointer (some ⟨w.heap.size, 3, none⟩)) rfl (by kernel_rfl) (by kernel_rfl) (by kernel_rfl) (fun _ _ _ h => h) (Or.inl ⟨rfl, fun w' hS => by (unfold execOp; go_simp)⟩) hS0 ?_
          simp only [Act.put, List.getElem_toArray, List.getElem_cons_zero, List.getElem_cons_succ, List.setIfInBounds_toArray, List.set_cons_zero, List.set_cons_succ]
          refine wpAnyH_take (i := 3) (v := .slice (some ⟨q, o, none⟩) la.length c) rfl (by kernel_rfl) (by kernel_rfl) (by kernel_rfl) (fun _ _ _ h => h) (Or.inl ⟨rfl, fun w' hS => by (have yb := (hS.1.cell (p := ⟨w.heap.size, 3, none⟩) bl (fun e => by have h1 : w.heap.size + 1 + 1 + 1 ≤ w.heap.size := (hblk _ e).1; omega)).trans b3; have yl := Nat.lt_of_lt_of_le bl hS.1.size; unfold execOp; go_simp)⟩) hS0 ?_
          simp only [Act.put, List.getElem_toArray, List.getElem_cons_zero, List.getElem_cons_succ, List.setIfInBounds_toArray, List.set_cons_zero, List.set_cons_succ]
          refine wpAnyH_take (i := 4) (v := .int .i64 j) rfl (by kernel_rfl) (by kernel_rfl) (by kernel_rfl) (fun _ _ _ h => h) (Or.inl ⟨rfl, fun w' hS => by (unfold execOp; go_simp)⟩) hS0 ?_
          simp only [Act.put, List.getElem_toArray, List.getElem_cons_zero, List.getElem_cons_succ, List.setIfInBounds_toArray, List.set_cons_zero, List.set_cons_succ]
          refine wpAnyH_take (i := 5) (v := .pointer (some ⟨q, o + j * 5, none⟩)) rfl (by kernel_rfl) (by kernel_rfl) (by kernel_rfl) (fun _ _ _ h => h) (Or.inl ⟨rfl, fun w' hS => by (unfold execOp; go_simp)⟩) hS0 ?_
          simp only [Act.put, List.getElem_toArray, List.getElem_cons_zero, List.getElem_cons_succ, List.setIfInBounds_toArray, List.set_cons_zero, List.set_cons_succ]
          refine wpAnyH_take (i := 6) (v := .agg #[.int .i64 k1, .string p1, .string n1', .slice A1 m1' c1, .slice B1 l1 d1]) rfl (by kernel_rfl) (by kernel_rfl) (by kernel_rfl) (fun _ _ _ h => h) (Or.inl ⟨rfl, fun w' hS => by (have y0 := (hS.2.cell (p := ⟨q, _, none⟩) hgl).trans q0; have y1 := (hS.2.cell (p := ⟨q, _, none⟩) hgl).trans q1; have y2 := (hS.2.cell (p := ⟨q, _, none⟩) hgl).trans q2; have y3 := (hS.2.cell (p := ⟨q, _, none⟩) hgl).trans q3; have y4 := (hS.2.cell (p := ⟨q, _, none⟩) hgl).trans q4; unfold execOp; go_simp)⟩) hS0 ?_
          simp only [Act.put, List.getElem_toArray, List.getElem_cons_zero, List.getElem_cons_succ, List.setIfInBounds_toArray, List.set_cons_zero, List.set_cons_succ]
          refine wpAnyH_take (i := 7) (v := .slice C nl.length cc) rfl (by kernel_rfl) (by kernel_rfl) (by kernel_rfl) (fun _ _ _ h => h) (Or.inl ⟨rfl, fun w' hS => by (unfold execOp; go_simp)⟩) hS0 ?_
          simp only [Act.put, List.getElem_toArray, List.getElem_cons_zero, List.getElem_cons_succ, List.setIfInBounds_toArray, List.set_cons_zero, List.set_cons_succ]
          refine wpAnyH_take (i := 8) (v := .slice D ts.length f) rfl (by kernel_rfl) (by kernel_rfl) (by kernel_rfl) (fun _ _ _ h => h) (Or.inl ⟨rfl, fun w' hS => by (unfold execOp; go_simp)⟩) hS0 ?_
          simp only [Act.put, List.getElem_toArray, List.getElem_cons_zero, List.getElem_cons_succ, List.setIfInBounds_toArray, List.set_cons_zero, List.set_cons_succ]
          refine wpAnyH_one (i := 9) (by kernel_rfl) rfl rfl (op_call (args := #[.agg #[.int .i64 k1, .string p1, .string n1', .slice A1 m1' c1, .slice B1 l1 d1], .slice C nl.length cc, .slice D ts.length f]) (f := 32) (by unfold execOp; go_simp) ((HI.out _ hS0.2).mono ?_))
          rintro e w5 ⟨k2, p2, n2, A2, m2, c2, B2, l2, d2, rfl, hr5, hb5⟩
          have hd5 : Below wr.heap.size wr w5 := (Below.refl _ wr).drew.trans (hb5.mono (Nat.le_refl _))
          have hS5 : Gr (fun x => (Value.slice A3 j c3).ownBlock = some x) wr w5 ∧ Below w.heap.size w w5 := ⟨Gr.of_below hd5, HLU.out.bel.trans (hd5.mono HLU.out.bel.size)⟩
          refine And.intro hS5 ?_
          simp only [Act.put, List.getElem_toArray, List.getElem_cons_zero, List.getElem_cons_succ, List.setIfInBounds_toArray, List.set_cons_zero, List.set_cons_succ]
          have hb6 : Below w5.heap.size w5 (w5.alloc (.cells #[.int .i64 k2, .string p2, .string n2, .slice A2 m2 c2, .slice B2 l2 d2] 24)) := (Below.refl _ _).alloc (Nat.le_refl _) _
          have hd6 := hd5.trans (hb6.mono hd5.size)
          have hS6 : Gr (fun x => (Value.slice A3 j c3).ownBlock = some x) wr (w5.alloc (.cells #[.int .i64 k2, .string p2, .string n2, .slice A2 m2 c2, .slice B2 l2 d2] 24)) ∧ Below w.heap.size w (w5.alloc (.cells #[.int .i64 k2, .string p2, .string n2, .slice A2 m2 c2, .slice B2 l2 d2] 24)) := ⟨Gr.of_below hd6, HLU.out.bel.trans (hd6.mono HLU.out.bel.size)⟩
          refine wpAnyH_one (i := 10) (by kernel_rfl) rfl rfl (op_val (v := .slice (some ⟨w5.heap.size, 0, none⟩) 1 1) (w' := w5.alloc (.cells #[.int .i64 k2, .string p2, .string n2, .slice A2 m2 c2, .slice B2 l2 d2] 24)) (by unfold execOp; go_simp) (And.intro hS6 ?_))
          simp only [Act.put, List.getElem_toArray, List.getElem_cons_zero, List.getElem_cons_succ, List.setIfInBounds_toArray, List.set_cons_zero, List.set_cons_succ]
          have hlu6 := HLU.out.bel2 hd6
          obtain ⟨xs6, hown6, hrts6⟩ := hlu6.own
          rw [hlj] at hown6
          have hzz : w.heap.size + 1 + 1 + 1 ≤ wr.heap.size := by omega
          refine wpAnyH_one (i := 11) (by kernel_rfl) rfl rfl (op_append5 (.tmp 46) (.tmp 55) rfl rfl (w.heap.size + 1 + 1 + 1) A3 c3 ((la.take j).map (putT nl ts)) (by rw [hlj]; rfl) xs6 (by rw [hlj]; exact hown6) (by have := hd6.size; omega) (by rw [hlj]; omega) w5.heap.size k2 p2 n2 A2 B2 m2 c2 l2 d2 rfl (Blk.new _ _ _) ?_)
          rw [hlj]
          rintro A' c' w7 ho7 hg7 hn7
          have hblk6 : ∀ q, (Value.slice A3 j c3).ownBlock = some q → q < wr.drew.heap.size := fun q hq => (hblk q hq).2
          have hlu7 : LU w w7 _ #[.int .i64 9, .string p, .string n, .slice A3 j c3, .slice none 0 0] A' c' (((la.take j).map (putT nl ts)) ++ [putT nl ts u]) := hlu6.grow (B := wr.drew.heap.size) hzz hrts6 (hr5.bel hb6) (by rw [hlj]; exact hblk6) (by rw [hlj]; exact ho7) (by rw [hlj]; exact hg7) (by rw [hlj]; exact hn7)
          have hg17 : Gr (fun x => (Value.slice A3 j c3).ownBlock = some x) wr w7 := ⟨hg7.os.trans hS6.1.os, hg7.tape.trans hS6.1.tape, hg7.output.trans hS6.1.output, Nat.le_trans hS6.1.size hg7.size, fun b hb hS => (hg7.block b (Nat.lt_of_lt_of_le hb hS6.1.size) (fun e => hS e.symm)).trans (hS6.1.block b hb hS)⟩
          refine And.intro ⟨hg17, hlu7.bel⟩ ?_
          simp only [Act.put, List.getElem_toArray, List.getElem_cons_zero, List.getElem_cons_succ, List.setIfInBounds_toArray, List.set_cons_zero, List.set_cons_succ]
          refine wpAnyH_done (by kernel_rfl) ?_ _
          have v3 := hlu7.u.cell 3
          have vl := hlu7.u.lt
          have vf := hlu7.u.frozen 3
          refine wpAny_one (i := 12) (by kernel_rfl) rfl rfl (op_val (v := .pointer (some ⟨w.heap.size + 1 + 1, 3, none⟩)) (w' := w7) (by unfold execOp; go_simp) ?_)
          simp only [Act.put, List.getElem_toArray, List.getElem_cons_zero, List.getElem_cons_succ, List.setIfInBounds_toArray, List.set_cons_zero, List.set_cons_succ]
          refine wpAny_one (i := 13) (by kernel_rfl) rfl rfl (op_skip (w' := w7.setCell ⟨w.heap.size + 1 + 1, 3, none⟩ (.slice A' (j + 1) c')) (by unfold execOp; go_simp) ?_)
          simp only [Act.put, List.getElem_toArray, List.getElem_cons_zero, List.getElem_cons_succ, List.setIfInBounds_toArray, List.set_cons_zero, List.set_cons_succ]
          refine wpAny_done (by kernel_rfl) ?_ _
          have HV := Lib.hid (hlu7.put 3 (.slice A' (j + 1) c'))
          have htk : (la.take (j + 1)).map (putT nl ts) = (la.take j).map (putT nl ts) ++ [putT nl ts u] := by rw [List.take_add_one, HU.out]; simp
          have HTK := Lib.hid htk
          clear hlu7 hg17 hn7 hg7 ho7 hown6 hrts6 hlu6 hS6 hd6 hb6 hS5 hd5 hr5 hb5 hS0 hown hrts htk v3 vf vl u3 b0 b1 b2 b3 b4 hlj
          generalize w7.setCell ⟨w.heap.size + 1 + 1, 3, none⟩ (.slice A' (j + 1) c') = V at HV ⊢
          go_wp2
          go_roundg gg
          case measure => omega
          case rel => exact ⟨j + 1, A', c', by omega, by go_num, by rw [HTK.out]; exact HV.out⟩
    | some i =>
      have i0 : (0 : Int) ≤ (i : Int) := by omega
      have hpi : plI nl n = (i : Int) := by simp [plI, hp]
      rw [hpi] at HPL
      by_cases hi : i < ts.length
      · obtain ⟨u, hu⟩ : ∃ u, ts[i]? = some u := ⟨_, List.getElem?_eq_getElem hi⟩
        have e : hitT nl ts 9 n = some u := by simp [hitT, hp, hu]
        rw [e, Option.getD_some]
        obtain ⟨q, o, us, rfl, hFq, hgl, hru, hat⟩ := ht.at_ hu
        have HC := Lib.hid (fun w' (h : Below w.heap.size w w') => hcp u (List.mem_of_getElem? hu) w' F'' us (hru.bel h))
        obtain ⟨k1, p1, n1, A1, m1, c1, B1, l1, d1, rfl⟩ := hru.shape
        have q0 := hat 0 _ rfl
        have q1 := hat 1 _ rfl
        have q2 := hat 2 _ rfl
        have q3 := hat 3 _ rfl
        have q4 := hat 4 _ rfl
        rw [Nat.add_zero] at q0
        have i1 : (i : Int) < (ts.length : Int) := by omega
        have i2 : decide ((i : Int) < (ts.length : Int)) = true := decide_eq_true (by omega)
        have i3 : decide (i < ts.length) = true := decide_eq_true hi
        simp only [tyC] at HC
        clear hp e hu hat hru hpi ih hs ht hcp
        go_enter Try.func32, Try.ntmps32
        go_wp2_with (first | (go_at_call 57; ((with_reducible refine (HPL.out _ HS1.out).mono ?_); rintro e w1 ⟨rfl, rfl⟩)) | (go_at_call 30; ((with_reducible refine (HC.out _ HS1.out).mono ?_); rintro e w5 ⟨k2, p2, n2, A2, m2, c2, B2, l2, d2, rfl, hr5, hb5⟩; have hR5 := HR1.out.below hb5 HR1.out.lt; have x0 := hR5.cell 0; have x1 := hR5.cell 1; have x2 := hR5.cell 2; have x3 := hR5.cell 3; have x4 := hR5.cell 4; have xl := hR5.lt; have f0 := hR5.frozen 0; have f1 := hR5.frozen 1; have f2 := hR5.frozen 2; have f3 := hR5.frozen 3; have f4 := hR5.frozen 4; have HRR := Lib.hid hr5; have HBB := Lib.hid hb5; have HR5 := Lib.hid hR5; clear hr5 hb5 hR5)))
        have hV := put5_blk (show Blk w5 (w.heap.size + 1) 24 z5 from HR5.out) (.int .i64 k2) (.string p2) (.string n2) (.slice A2 m2 c2) (.slice B2 l2 d2)
        have HV5 := Lib.hid (put5_bel ((HS1.out.trans (HBB.out.mono HS1.out.size))) (show w.heap.size ≤ w.heap.size + 1 by omega) (.int .i64 k2) (.string p2) (.string n2) (.slice A2 m2 c2) (.slice B2 l2 d2))
        have HVR := Lib.hid ((HRR.out.gr (put5_gr w5 (w.heap.size + 1) (.int .i64 k2) (.string p2) (.string n2) (.slice A2 m2 c2) (.slice B2 l2 d2)) (fun h => by simp at h; omega)).more (F' := fun q => w.heap.size ≤ q) (fun q hq => by simp at hq; show w.heap.size ≤ q; omega))
        have y0 := hV.cell 0
        have y1 := hV.cell 1
        have y2 := hV.cell 2
        have y3 := hV.cell 3
        have y4 := hV.cell 4
        clear hV x0 x1 x2 x3 x4 f0 f1 f2 f3 f4
        show bodyPost _ _ _ _ _ (put5 w5 (w.heap.size + 1) (.int .i64 k2) (.string p2) (.string n2) (.slice A2 m2 c2) (.slice B2 l2 d2))
        generalize put5 w5 (w.heap.size + 1) (.int .i64 k2) (.string p2) (.string n2) (.slice A2 m2 c2) (.slice B2 l2 d2) = V at HV5 HVR y0 y1 y2 y3 y4 ⊢
        exact bodyPost_ret (v := .agg #[.int .i64 k2, .string p2, .string n2, .slice A2 m2 c2, .slice B2 l2 d2]) (by simp [results, Try.results32, go_sem, y0, y1, y2, y3, y4]) rfl ⟨_, _, _, _, _, _, _, _, _, rfl, HVR.out, HV5.out⟩
      · have hu : ts[i]? = none := List.getElem?_eq_none (by omega)
        have e : hitT nl ts 9 n = none := by simp [hitT, hp, hu]
        rw [e, Option.getD_none]
        have i2 : decide ((i : Int) < (ts.length : Int)) = false := decide_eq_false (by omega)
        have i3 : decide (i < ts.length) = false := decide_eq_false hi
        clear hp e hu hi hpi
        have hL0 : LU w ((((w.alloc (.cells #[.int .i64 9, .string p, .string n, .slice A la.length c, .slice B lr.length d] 24)).alloc (.cells #[.int .i64 0, .string ⟨#[]⟩, .string ⟨#[]⟩, .slice none 0 0, .slice none 0 0] 24)).alloc (.cells #[.int .i64 9, .string p, .string n, .slice none 0 0, .slice none 0 0] 24))) #[.int .i64 9, .string p, .string n, .slice A la.length c, .slice B lr.length d] #[.int .i64 9, .string p, .string n, .slice none 0 0, .slice none 0 0] none 0 ((la.take 0).map (putT nl ts)) :=
          ⟨(((Below.refl _ w).alloc (Nat.le_refl _) _).alloc (by simp) _).alloc (by simp; omega) _, ((Blk.new _ _ _).alloc _).alloc _, (Blk.new_at (by simp)).alloc _, Blk.new_at (by simp), OwnT.nil_ _ _⟩
        go_enter Try.func32, Try.ntmps32
        go_wp2_with (go_at_call 57; ((with_reducible refine (HPL.out _ HS1.out).mono ?_); rintro e w1 ⟨rfl, rfl⟩))
        go_loopg [9] la.length (fun gk v9 wr => ∃ (j : Nat) (A3 : Option Addr) (c3 : Nat), j + gk = la.length ∧ v9 = .int .i64 j ∧ LU w wr #[.int .i64 9, .string p, .string n, .slice A la.length c, .slice B lr.length d] #[.int .i64 9, .string p, .string n, .slice A3 j c3, .slice none 0 0] A3 c3 ((la.take j).map (putT nl ts)))
        case atStart => exact ⟨0, none, 0, by simp, rfl, hL0⟩
        case round =>
          obtain ⟨j, A3, c3, hj, rfl, hlu⟩ := hrel
          have HLU := Lib.hid hlu
          have b0 := hlu.box.cell 0
          have b1 := hlu.box.cell 1
          have b2 := hlu.box.cell 2
          have b3 := hlu.box.cell 3
          have b4 := hlu.box.cell 4
          have bl := hlu.box.lt
          have hlj : ((la.take j).map (putT nl ts)).length = j := by simp; omega
          cases gk with
          | zero =>
            obtain rfl : j = la.length := by omega
            have u0 := hlu.u.cell 0
            have u1 := hlu.u.cell 1
            have u2 := hlu.u.cell 2
            have u3 := hlu.u.cell 3
            have u4 := hlu.u.cell 4
            have ul := hlu.u.lt
            have r0 := hlu.res.cell 0
            have r1 := hlu.res.cell 1
            have r2 := hlu.res.cell 2
            have r3 := hlu.res.cell 3
            have r4 := hlu.res.cell 4
            have f0 := hlu.res.frozen 0
            have f1 := hlu.res.frozen 1
            have f2 := hlu.res.frozen 2
            have f3 := hlu.res.frozen 3
            have f4 := hlu.res.frozen 4
            clear hj hlj hlu
            have hl1 : SlT wr (fun q => w.heap.size + 1 + 1 + 1 ≤ q ∧ (Value.slice none 0 0).ownBlock ≠ some q) A3 (putL nl ts la) ∧ LU w wr #[.int .i64 9, .string p, .string n, .slice A la.length c, .slice B lr.length d] #[.int .i64 9, .string p, .string n, .slice A3 la.length c3, .slice none 0 0] none 0 ((lr.take 0).map (putT nl ts)) := by
              have h2 := HLU.out.own.sl
              rw [List.take_length, ← putL_map] at h2
              exact ⟨h2.keep (fun _ _ _ => rfl) (Nat.le_refl _) (fun _ _ h => ⟨h, by simp [Value.ownBlock]⟩), ⟨HLU.out.bel, HLU.out.box, HLU.out.res, HLU.out.u, OwnT.nil_ _ _⟩⟩
            have HL1 := Lib.hid hl1
            clear hl1 HLU r0 r1 r2 r3 r4 f0 f1 f2 f3 f4 u0 u1 u2 u3 u4 b0 b1 b2 b4 ul bl
            go_wp2
            clear b3
            go_loopg [10] lr.length (fun gk v10 wr => ∃ (j : Nat) (A4 : Option Addr) (c4 : Nat), j + gk = lr.length ∧ v10 = .int .i64 j ∧ LU w wr #[.int .i64 9, .string p, .string n, .slice A la.length c, .slice B lr.length d] #[.int .i64 9, .string p, .string n, .slice A3 la.length c3, .slice A4 j c4] A4 c4 ((lr.take j).map (putT nl ts)) ∧ SlT wr (fun q => w.heap.size + 1 + 1 + 1 ≤ q ∧ (Value.slice A4 j c4).ownBlock ≠ some q) A3 (putL nl ts la))
            case atStart => exact ⟨0, none, 0, by simp, rfl, HL1.out.2, HL1.out.1⟩
            case round =>
              obtain ⟨j, A4, c4, hj, rfl, hlu, hsl⟩ := hrel
              have HLU := Lib.hid hlu
              have HSL := Lib.hid hsl
              have b0 := hlu.box.cell 0
              have b1 := hlu.box.cell 1
              have b2 := hlu.box.cell 2
              have b3 := hlu.box.cell 3
              have b4 := hlu.box.cell 4
              have bl := hlu.box.lt
              have hlj : ((lr.take j).map (putT nl ts)).length = j := by simp; omega
              cases gk with
              | zero =>
                obtain rfl : j = lr.length := by omega
                have u0 := hlu.u.cell 0
                have u1 := hlu.u.cell 1
                have u2 := hlu.u.cell 2
                have u3 := hlu.u.cell 3
                have u4 := hlu.u.cell 4
                have ul := hlu.u.lt
                have r0 := hlu.res.cell 0
                have r1 := hlu.res.cell 1
                have r2 := hlu.res.cell 2
                have r3 := hlu.res.cell 3
                have r4 := hlu.res.cell 4
                have f0 := hlu.res.frozen 0
                have f1 := hlu.res.frozen 1
                have f2 := hlu.res.frozen 2
                have f3 := hlu.res.frozen 3
                have f4 := hlu.res.frozen 4
                clear hj hlj hlu hsl
                have HR1 := Lib.hid HLU.out.res
                have hss : SlT wr (fun q => w.heap.size + 1 + 1 + 1 ≤ q) A4 (putL nl ts lr) := by
                  have := HLU.out.own.sl
                  rw [List.take_length, ← putL_map] at this
                  exact this
                have hrt : RT wr (fun q => w.heap.size + 1 + 1 + 1 ≤ q) (.mk 9 p n (putL nl ts la) (putL nl ts lr)) [.int .i64 9, .string p, .string n, .slice A3 la.length c3, .slice A4 lr.length c4] := by
                  have := RT.mk_ (k := 9) (p := p) (n := n) (c := c3) (c' := c4) (HSL.out.keep (F' := fun q => w.heap.size + 1 + 1 + 1 ≤ q) (fun _ _ _ => rfl) (Nat.le_refl _) (fun _ _ h => h.1)) hss
                  rw [putL_len, putL_len] at this
                  exact this
                have HRT := Lib.hid hrt
                clear hss hrt b0 b1 b2 b3
                go_wp2
                have hV := put5_blk HR1.out (.int .i64 9) (.string p) (.string n) (.slice A3 la.length c3) (.slice A4 lr.length c4)
                have HV5 := Lib.hid (put5_bel HLU.out.bel (show w.heap.size ≤ w.heap.size + 1 by omega) (.int .i64 9) (.string p) (.string n) (.slice A3 la.length c3) (.slice A4 lr.length c4))
                have HVR := Lib.hid ((HRT.out.gr (put5_gr wr (w.heap.size + 1) (.int .i64 9) (.string p) (.string n) (.slice A3 la.length c3) (.slice A4 lr.length c4)) (fun h => by simp at h; omega)).more (F' := fun q => w.heap.size ≤ q) (fun q hq => by have : w.heap.size + 1 + 1 + 1 ≤ q := hq; show w.heap.size ≤ q; omega))
                have y0 := hV.cell 0
                have y1 := hV.cell 1
                have y2 := hV.cell 2
                have y3 := hV.cell 3
                have y4 := hV.cell 4
                clear hV r0 r1 r2 r3 r4 f0 f1 f2 f3 f4 u0 u1 u2 u3 u4
                show bodyPost _ _ _ _ _ (put5 wr (w.heap.size + 1) (.int .i64 9) (.string p) (.string n) (.slice A3 la.length c3) (.slice A4 lr.length c4))
                generalize put5 wr (w.heap.size + 1) (.int .i64 9) (.string p) (.string n) (.slice A3 la.length c3) (.slice A4 lr.length c4) = V at HV5 HVR y0 y1 y2 y3 y4 ⊢
                exact bodyPost_ret (v := .agg #[.int .i64 9, .string p, .string n, .slice A3 la.length c3, .slice A4 lr.length c4]) (by simp [results, Try.results32, go_sem, y0, y1, y2, y3, y4]) rfl ⟨_, _, _, _, _, _, _, _, _, rfl, HVR.out, HV5.out⟩
              | succ gg =>
                have hjl : j < lr.length := by omega
                obtain ⟨u, hu⟩ : ∃ u, lr[j]? = some u := ⟨_, List.getElem?_eq_getElem hjl⟩
                obtain ⟨q, o, vs, rfl, hFq, hgl, hrep, hat⟩ := HB.out.at_ hu
                have hck := count_kid lr j u hu
                have HI := Lib.hid (fun w' (h' : Below w.heap.size w w') => ih u (by omega) w' F F' F'' C cc D f vs (hs.bel h') (ht.bel h') (hrep.bel h'))
                obtain ⟨k1, p1, n1', A1, m1', c1, B1, l1, d1, rfl⟩ := hrep.shape
                have q0 := hat 0 _ rfl
                have q1 := hat 1 _ rfl
                have q2 := hat 2 _ rfl
                have q3 := hat 3 _ rfl
                have q4 := hat 4 _ rfl
                have j1 : (j : Int) < (lr.length : Int) := by omega
                have j2 : (j : Int) ≤ 2000000 := by omega
                simp only [Nat.add_zero] at q0
                have HU := Lib.hid hu
                have u4 := hlu.u.cell 4
                have ul := hlu.u.lt
                obtain ⟨xs, hown, hrts⟩ := hlu.own
                have hblk : ∀ q, (Value.slice A4 j c4).ownBlock = some q → w.heap.size + 1 + 1 + 1 ≤ q ∧ q < wr.heap.size := fun q hq => hlu.own.lo (by rw [hlj]; exact hq)
                rw [hlj] at hown
                clear hat hrep hu hlu hsl
                go_wp2
                refine wp_region_split (S := fun V => Gr (fun x => (Value.slice A4 j c4).ownBlock = some x) wr V ∧ Below w.heap.size w V) 12 (by kernel_rfl) (by kernel_rfl) ⟨(Gr.refl wr).drew, HLU.out.bel.drew⟩ (fun hS0 => ?_)
                simp only [List.take_succ_cons, List.take_zero]
                refine wpAnyH_take (i := 0) (v := .pointer (some ⟨w.heap.size + 1 + 1, 4, none⟩)) rfl (by kernel_rfl) (by kernel_rfl) (by kernel_rfl) (fun _ _ _ h => h) (Or.inl ⟨rfl, fun w' hS => by (unfold execOp; go_simp)⟩) hS0 ?_
                simp only [Act.put, List.getElem_toArray, List.getElem_cons_zero, List.getElem_cons_succ, List.setIfInBounds_toArray, List.set_cons_zero, List.set_cons_succ]
                refine wpAnyH_take (i := 1) (v := .slice A4 j c4) rfl (by kernel_rfl) (by kernel_rfl) (by kernel_rfl) (fun _ _ _ h => h) (Or.inl ⟨rfl, fun w' hS => by (have yu := (hS.1.cell (p := ⟨w.heap.size + 1 + 1, 4, none⟩) ul (fun e => by have h1 : w.heap.size + 1 + 1 + 1 ≤ w.heap.size + 1 + 1 := (hblk _ e).1; omega)).trans u4; have yl := Nat.lt_of_lt_of_le ul hS.1.size; unfold execOp; go_simp)⟩) hS0 ?_
                simp only [Act.put, List.getElem_toArray, List.getElem_cons_zero, List.getElem_cons_succ, List.setIfInBounds_toArray, List.set_cons_zero, List.set_cons_succ]
                refine wpAnyH_take (i := 2) (v := .pointer (some ⟨w.heap.size, 4, none⟩)) rfl (by kernel_rfl) (by kernel_rfl) (by kernel_rfl) (fun _ _ _ h => h) (Or.inl ⟨rfl, fun w' hS => by (unfold execOp; go_simp)⟩) hS0 ?_
                simp only [Act.put, List.getElem_toArray, List.getElem_cons_zero, List.getElem_cons_succ, List.setIfInBounds_toArray, List.set_cons_zero, List.set_cons_succ]
                refine wpAnyH_take (i := 3) (v := .slice (some ⟨q, o, none⟩) lr.length d) rfl (by kernel_rfl) (by kernel_rfl) (by kernel_rfl) (fun _ _ _ h => h) (Or.inl ⟨rfl, fun w' hS => by (have yb := (hS.1.cell (p := ⟨w.heap.size, 4, none⟩) bl (fun e => by have h1 : w.heap.size + 1 + 1 + 1 ≤ w.heap.size := (hblk _ e).1; omega)).trans b4; have yl := Nat.lt_of_lt_of_le bl hS.1.size; unfold execOp; go_simp)⟩) hS0 ?_
                simp only [Act.put, List.getElem_toArray, List.getElem_cons_zero, List.getElem_cons_succ, List.setIfInBounds_toArray, List.set_cons_zero, List.set_cons_succ]
                refine wpAnyH_take (i := 4) (v := .int .i64 j) rfl (by kernel_rfl) (by kernel_rfl) (by kernel_rfl) (fun _ _ _ h => h) (Or.inl ⟨rfl, fun w' hS => by (unfold execOp; go_simp)⟩) hS0 ?_
                simp only [Act.put, List.getElem_toArray, List.getElem_cons_zero, List.getElem_cons_succ, List.setIfInBounds_toArray, List.set_cons_zero, List.set_cons_succ]
                refine wpAnyH_take (i := 5) (v := .pointer (some ⟨q, o + j * 5, none⟩)) rfl (by kernel_rfl) (by kernel_rfl) (by kernel_rfl) (fun _ _ _ h => h) (Or.inl ⟨rfl, fun w' hS => by (unfold execOp; go_simp)⟩) hS0 ?_
                simp only [Act.put, List.getElem_toArray, List.getElem_cons_zero, List.getElem_cons_succ, List.setIfInBounds_toArray, List.set_cons_zero, List.set_cons_succ]
                refine wpAnyH_take (i := 6) (v := .agg #[.int .i64 k1, .string p1, .string n1', .slice A1 m1' c1, .slice B1 l1 d1]) rfl (by kernel_rfl) (by kernel_rfl) (by kernel_rfl) (fun _ _ _ h => h) (Or.inl ⟨rfl, fun w' hS => by (have y0 := (hS.2.cell (p := ⟨q, _, none⟩) hgl).trans q0; have y1 := (hS.2.cell (p := ⟨q, _, none⟩) hgl).trans q1; have y2 := (hS.2.cell (p := ⟨q, _, none⟩) hgl).trans q2; have y3 := (hS.2.cell (p := ⟨q, _, none⟩) hgl).trans q3; have y4 := (hS.2.cell (p := ⟨q, _, none⟩) hgl).trans q4; unfold execOp; go_simp)⟩) hS0 ?_
                simp only [Act.put, List.getElem_toArray, List.getElem_cons_zero, List.getElem_cons_succ, List.setIfInBounds_toArray, List.set_cons_zero, List.set_cons_succ]
                refine wpAnyH_take (i := 7) (v := .slice C nl.length cc) rfl (by kernel_rfl) (by kernel_rfl) (by kernel_rfl) (fun _ _ _ h => h) (Or.inl ⟨rfl, fun w' hS => by (unfold execOp; go_simp)⟩) hS0 ?_
                simp only [Act.put, List.getElem_toArray, List.getElem_cons_zero, List.getElem_cons_succ, List.setIfInBounds_toArray, List.set_cons_zero, List.set_cons_succ]
                refine wpAnyH_take (i := 8) (v := .slice D ts.length f) rfl (by kernel_rfl) (by kernel_rfl) (by kernel_rfl) (fun _ _ _ h => h) (Or.inl ⟨rfl, fun w' hS => by (unfold execOp; go_simp)⟩) hS0 ?_
                simp only [Act.put, List.getElem_toArray, List.getElem_cons_zero, List.getElem_cons_succ, List.setIfInBounds_toArray, List.set_cons_zero, List.set_cons_succ]
                refine wpAnyH_one (i := 9) (by kernel_rfl) rfl rfl (op_call (args := #[.agg #[.int .i64 k1, .string p1, .string n1', .slice A1 m1' c1, .slice B1 l1 d1], .slice C nl.length cc, .slice D ts.length f]) (f := 32) (by unfold execOp; go_simp) ((HI.out _ hS0.2).mono ?_))
                rintro e w5 ⟨k2, p2, n2, A2, m2, c2, B2, l2, d2, rfl, hr5, hb5⟩
                have hd5 : Below wr.heap.size wr w5 := (Below.refl _ wr).drew.trans (hb5.mono (Nat.le_refl _))
                have hS5 : Gr (fun x => (Value.slice A4 j c4).ownBlock = some x) wr w5 ∧ Below w.heap.size w w5 := ⟨Gr.of_below hd5, HLU.out.bel.trans (hd5.mono HLU.out.bel.size)⟩
                refine And.intro hS5 ?_
                simp only [Act.put, List.getElem_toArray, List.getElem_cons_zero, List.getElem_cons_succ, List.setIfInBounds_toArray, List.set_cons_zero, List.set_cons_succ]
                have hb6 : Below w5.heap.size w5 (w5.alloc (.cells #[.int .i64 k2, .string p2, .string n2, .slice A2 m2 c2, .slice B2 l2 d2] 24)) := (Below.refl _ _).alloc (Nat.le_refl _) _
                have hd6 := hd5.trans (hb6.mono hd5.size)
                have hS6 : Gr (fun x => (Value.slice A4 j c4).ownBlock = some x) wr (w5.alloc (.cells #[.int .i64 k2, .string p2, .string n2, .slice A2 m2 c2, .slice B2 l2 d2] 24)) ∧ Below w.heap.size w (w5.alloc (.cells #[.int .i64 k2, .string p2, .string n2, .slice A2 m2 c2, .slice B2 l2 d2] 24)) := ⟨Gr.of_below hd6, HLU.out.bel.trans (hd6.mono HLU.out.bel.size)⟩
                refine wpAnyH_one (i := 10) (by kernel_rfl) rfl rfl (op_val (v := .slice (some ⟨w5.heap.size, 0, none⟩) 1 1) (w' := w5.alloc (.cells #[.int .i64 k2, .string p2, .string n2, .slice A2 m2 c2, .slice B2 l2 d2] 24)) (by unfold execOp; go_simp) (And.intro hS6 ?_))
                simp only [Act.put, List.getElem_toArray, List.getElem_cons_zero, List.getElem_cons_succ, List.setIfInBounds_toArray, List.set_cons_zero, List.set_cons_succ]
                have hlu6 := HLU.out.bel2 hd6
                obtain ⟨xs6, hown6, hrts6⟩ := hlu6.own
                rw [hlj] at hown6
                have hzz : w.heap.size + 1 + 1 + 1 ≤ wr.heap.size := by omega
                refine wpAnyH_one (i := 11) (by kernel_rfl) rfl rfl (op_append5 (.tmp 66) (.tmp 75) rfl rfl (w.heap.size + 1 + 1 + 1) A4 c4 ((lr.take j).map (putT nl ts)) (by rw [hlj]; rfl) xs6 (by rw [hlj]; exact hown6) (by have := hd6.size; omega) (by rw [hlj]; omega) w5.heap.size k2 p2 n2 A2 B2 m2 c2 l2 d2 rfl (Blk.new _ _ _) ?_)
                rw [hlj]
                rintro A' c' w7 ho7 hg7 hn7
                have hblk6 : ∀ q, (Value.slice A4 j c4).ownBlock = some q → q < wr.drew.heap.size := fun q hq => (hblk q hq).2
                have hlu7 : LU w w7 _ #[.int .i64 9, .string p, .string n, .slice A3 la.length c3, .slice A4 j c4] A' c' (((lr.take j).map (putT nl ts)) ++ [putT nl ts u]) := hlu6.grow (B := wr.drew.heap.size) hzz hrts6 (hr5.bel hb6) (by rw [hlj]; exact hblk6) (by rw [hlj]; exact ho7) (by rw [hlj]; exact hg7) (by rw [hlj]; exact hn7)
                have hg17 : Gr (fun x => (Value.slice A4 j c4).ownBlock = some x) wr w7 := ⟨hg7.os.trans hS6.1.os, hg7.tape.trans hS6.1.tape, hg7.output.trans hS6.1.output, Nat.le_trans hS6.1.size hg7.size, fun b hb hS => (hg7.block b (Nat.lt_of_lt_of_le hb hS6.1.size) (fun e => hS e.symm)).trans (hS6.1.block b hb hS)⟩
                refine And.intro ⟨hg17, hlu7.bel⟩ ?_
                simp only [Act.put, List.getElem_toArray, List.getElem_cons_zero, List.getElem_cons_succ, List.setIfInBounds_toArray, List.set_cons_zero, List.set_cons_succ]
                have hsl7 := ((HSL.out.bel hd6)).beside (A' := A') (n' := j + 1) (c' := c') hg7 hn7
                refine wpAnyH_done (by kernel_rfl) ?_ _
                have v4 := hlu7.u.cell 4
                have vl := hlu7.u.lt
                have vf := hlu7.u.frozen 4
                refine wpAny_one (i := 12) (by kernel_rfl) rfl rfl (op_val (v := .pointer (some ⟨w.heap.size + 1 + 1, 4, none⟩)) (w' := w7) (by unfold execOp; go_simp) ?_)
                simp only [Act.put, List.getElem_toArray, List.getElem_cons_zero, List.getElem_cons_succ, List.setIfInBounds_toArray, List.set_cons_zero, List.set_cons_succ]
                refine wpAny_one (i := 13) (by kernel_rfl) rfl rfl (op_skip (w' := w7.setCell ⟨w.heap.size + 1 + 1, 4, none⟩ (.slice A' (j + 1) c')) (by unfold execOp; go_simp) ?_)
                simp only [Act.put, List.getElem_toArray, List.getElem_cons_zero, List.getElem_cons_succ, List.setIfInBounds_toArray, List.set_cons_zero, List.set_cons_succ]
                refine wpAny_done (by kernel_rfl) ?_ _
                have HV := Lib.hid (hlu7.put 4 (.slice A' (j + 1) c'))
                have HSV := Lib.hid (hsl7.keep (w' := w7.setCell ⟨w.heap.size + 1 + 1, 4, none⟩ (.slice A' (j + 1) c')) (F' := fun q => w.heap.size + 1 + 1 + 1 ≤ q ∧ (Value.slice A' (j + 1) c').ownBlock ≠ some q) (fun k hk hlt => ((Gr.refl (S := fun x => x = w.heap.size + 1 + 1) w7).in_ 4 _).block k hlt (fun e => by have : k = w.heap.size + 1 + 1 := e; have := hk.1; omega)) ((Gr.refl (S := fun x => x = w.heap.size + 1 + 1) w7).in_ 4 _).size (fun _ _ h => h))
                have htk : (lr.take (j + 1)).map (putT nl ts) = (lr.take j).map (putT nl ts) ++ [putT nl ts u] := by rw [List.take_add_one, HU.out]; simp
                have HTK := Lib.hid htk
                clear hlu7 hg17 hn7 hg7 ho7 hown6 hrts6 hlu6 hS6 hd6 hb6 hS5 hd5 hr5 hb5 hS0 hown hrts htk v4 vf vl u4 b0 b1 b2 b3 b4 hlj hsl7
                generalize w7.setCell ⟨w.heap.size + 1 + 1, 4, none⟩ (.slice A' (j + 1) c') = V at HV HSV ⊢
                go_wp2
                go_roundg gg
                case measure => omega
                case rel => exact ⟨j + 1, A', c', by omega, by go_num, by rw [HTK.out]; exact HV.out, HSV.out⟩
          | succ gg =>
            have hjl : j < la.length := by omega
            obtain ⟨u, hu⟩ : ∃ u, la[j]? = some u := ⟨_, List.getElem?_eq_getElem hjl⟩
            obtain ⟨q, o, vs, rfl, hFq, hgl, hrep, hat⟩ := HA.out.at_ hu
            have hck := count_kid la j u hu
            have HI := Lib.hid (fun w' (h' : Below w.heap.size w w') => ih u (by omega) w' F F' F'' C cc D f vs (hs.bel h') (ht.bel h') (hrep.bel h'))
            obtain ⟨k1, p1, n1', A1, m1', c1, B1, l1, d1, rfl⟩ := hrep.shape
            have q0 := hat 0 _ rfl
            have q1 := hat 1 _ rfl
            have q2 := hat 2 _ rfl
            have q3 := hat 3 _ rfl
            have q4 := hat 4 _ rfl
            have j1 : (j : Int) < (la.length : Int) := by omega
            have j2 : (j : Int) ≤ 2000000 := by omega
            simp only [Nat.add_zero] at q0
            have HU := Lib.hid hu
            have u3 := hlu.u.cell 3
            have ul := hlu.u.lt
            obtain ⟨xs, hown, hrts⟩ := hlu.own
            have hblk : ∀ q, (Value.slice A3 j c3).ownBlock = some q → w.heap.size + 1 + 1 + 1 ≤ q ∧ q < wr.heap.size := fun q hq => hlu.own.lo (by rw [hlj]; exact hq)
            rw [hlj] at hown
            clear hat hrep hu hlu
            go_wp2
            refine wp_region_split (S := fun V => Gr (fun x => (Value.slice A3 j c3).ownBlock = some x) wr V ∧ Below w.heap.size w V) 12 (by kernel_rfl) (by kernel_rfl) ⟨(Gr.refl wr).drew, HLU.out.bel.drew⟩ (fun hS0 => ?_)
            simp only [List.take_succ_cons, List.take_zero]
            refine wpAnyH_take (i := 0) (v := .pointer (some ⟨w.heap.size + 1 + 1, 3, none⟩)) rfl (by kernel_rfl) (by kernel_rfl) (by kernel_rfl) (fun _ _ _ h => h) (Or.inl ⟨rfl, fun w' hS => by (unfold execOp; go_simp)⟩) hS0 ?_
            simp only [Act.put, List.getElem_toArray, List.getElem_cons_zero, List.getElem_cons_succ, List.setIfInBounds_toArray, List.set_cons_zero, List.set_cons_succ]
            refine wpAnyH_take (i := 1) (v := .slice A3 j c3) rfl (by kernel_rfl) (by kernel_rfl) (by kernel_rfl) (fun _ _ _ h => h) (Or.inl ⟨rfl, fun w' hS => by (have yu := (hS.1.cell (p := ⟨w.heap.size + 1 + 1, 3, none⟩) ul (fun e => by have h1 : w.heap.size + 1 + 1 + 1 ≤ w.heap.size + 1 + 1 := (hblk _ e).1; omega)).trans u3; have yl := Nat.lt_of_lt_of_le ul hS.1.size; unfold execOp; go_simp)⟩) hS0 ?_
            simp only [Act.put, List.getElem_toArray, List.getElem_cons_zero, List.getElem_cons_succ, List.setIfInBounds_toArray, List.set_cons_zero, List.set_cons_succ]
            refine wpAnyH_take (i := 2) (v := .pointer (some ⟨w.heap.size, 3, none⟩)) rfl (by kernel_rfl) (by kernel_rfl) (by kernel_rfl) (fun _ _ _ h => h) (Or.inl ⟨rfl, fun w' hS => by (unfold execOp; go_simp)⟩) hS0 ?_
            simp only [Act.put, List.getElem_toArray, List.getElem_cons_zero, List.getElem_cons_succ, List.setIfInBounds_toArray, List.set_cons_zero, List.set_cons_succ]
            refine wpAnyH_take (i := 3) (v := .slice (some ⟨q, o, none⟩) la.length c) rfl (by kernel_rfl) (by kernel_rfl) (by kernel_rfl) (fun _ _ _ h => h) (Or.inl ⟨rfl, fun w' hS => by (have yb := (hS.1.cell (p := ⟨w.heap.size, 3, none⟩) bl (fun e => by have h1 : w.heap.size + 1 + 1 + 1 ≤ w.heap.size := (hblk _ e).1; omega)).trans b3; have yl := Nat.lt_of_lt_of_le bl hS.1.size; unfold execOp; go_simp)⟩) hS0 ?_
            simp only [Act.put, List.getElem_toArray, List.getElem_cons_zero, List.getElem_cons_succ, List.setIfInBounds_toArray, List.set_cons_zero, List.set_cons_succ]
            refine wpAnyH_take (i := 4) (v := .int .i64 j) rfl (by kernel_rfl) (by kernel_rfl) (by kernel_rfl) (fun _ _ _ h => h) (Or.inl ⟨rfl, fun w' hS => by (unfold execOp; go_simp)⟩) hS0 ?_
            simp only [Act.put, List.getElem_toArray, List.getElem_cons_zero, List.getElem_cons_succ, List.setIfInBounds_toArray, List.set_cons_zero, List.set_cons_succ]
            refine wpAnyH_take (i := 5) (v := .pointer (some ⟨q, o + j * 5, none⟩)) rfl (by kernel_rfl) (by kernel_rfl) (by kernel_rfl) (fun _ _ _ h => h) (Or.inl ⟨rfl, fun w' hS => by (unfold execOp; go_simp)⟩) hS0 ?_
            simp only [Act.put, List.getElem_toArray, List.getElem_cons_zero, List.getElem_cons_succ, List.setIfInBounds_toArray, List.set_cons_zero, List.set_cons_succ]
            refine wpAnyH_take (i := 6) (v := .agg #[.int .i64 k1, .string p1, .string n1', .slice A1 m1' c1, .slice B1 l1 d1]) rfl (by kernel_rfl) (by kernel_rfl) (by kernel_rfl) (fun _ _ _ h => h) (Or.inl ⟨rfl, fun w' hS => by (have y0 := (hS.2.cell (p := ⟨q, _, none⟩) hgl).trans q0; have y1 := (hS.2.cell (p := ⟨q, _, none⟩) hgl).trans q1; have y2 := (hS.2.cell (p := ⟨q, _, none⟩) hgl).trans q2; have y3 := (hS.2.cell (p := ⟨q, _, none⟩) hgl).trans q3; have y4 := (hS.2.cell (p := ⟨q, _, none⟩) hgl).trans q4; unfold execOp; go_simp)⟩) hS0 ?_
            simp only [Act.put, List.getElem_toArray, List.getElem_cons_zero, List.getElem_cons_succ, List.setIfInBounds_toArray, List.set_cons_zero, List.set_cons_succ]
            refine wpAnyH_take (i := 7) (v := .slice C nl.length cc) rfl (by kernel_rfl) (by kernel_rfl) (by kernel_rfl) (fun _ _ _ h => h) (Or.inl ⟨rfl, fun w' hS => by (unfold execOp; go_simp)⟩) hS0 ?_
            simp only [Act.put, List.getElem_toArray, List.getElem_cons_zero, List.getElem_cons_succ, List.setIfInBounds_toArray, List.set_cons_zero, List.set_cons_succ]
            refine wpAnyH_take (i := 8) (v := .slice D ts.length f) rfl (by kernel_rfl) (by kernel_rfl) (by kernel_rfl) (fun _ _ _ h => h) (Or.inl ⟨rfl, fun w' hS => by (unfold execOp; go_simp)⟩) hS0 ?_
            simp only [Act.put, List.getElem_toArray, List.getElem_cons_zero, List.getElem_cons_succ, List.setIfInBounds_toArray, List.set_cons_zero, List.set_cons_succ]
            refine wpAnyH_one (i := 9) (by kernel_rfl) rfl rfl (op_call (args := #[.agg #[.int .i64 k1, .string p1, .string n1', .slice A1 m1' c1, .slice B1 l1 d1], .slice C nl.length cc, .slice D ts.length f]) (f := 32) (by unfold execOp; go_simp) ((HI.out _ hS0.2).mono ?_))
            rintro e w5 ⟨k2, p2, n2, A2, m2, c2, B2, l2, d2, rfl, hr5, hb5⟩
            have hd5 : Below wr.heap.size wr w5 := (Below.refl _ wr).drew.trans (hb5.mono (Nat.le_refl _))
            have hS5 : Gr (fun x => (Value.slice A3 j c3).ownBlock = some x) wr w5 ∧ Below w.heap.size w w5 := ⟨Gr.of_below hd5, HLU.out.bel.trans (hd5.mono HLU.out.bel.size)⟩
            refine And.intro hS5 ?_
            simp only [Act.put, List.getElem_toArray, List.getElem_cons_zero, List.getElem_cons_succ, List.setIfInBounds_toArray, List.set_cons_zero, List.set_cons_succ]
            have hb6 : Below w5.heap.size w5 (w5.alloc (.cells #[.int .i64 k2, .string p2, .string n2, .slice A2 m2 c2, .slice B2 l2 d2] 24)) := (Below.refl _ _).alloc (Nat.le_refl _) _
            have hd6 := hd5.trans (hb6.mono hd5.size)
            have hS6 : Gr (fun x => (Value.slice A3 j c3).ownBlock = some x) wr (w5.alloc (.cells #[.int .i64 k2, .string p2, .string n2, .slice A2 m2 c2, .slice B2 l2 d2] 24)) ∧ Below w.heap.size w (w5.alloc (.cells #[.int .i64 k2, .string p2, .string n2, .slice A2 m2 c2, .slice B2 l2 d2] 24)) := ⟨Gr.of_below hd6, HLU.out.bel.trans (hd6.mono HLU.out.bel.size)⟩
            refine wpAnyH_one (i := 10) (by kernel_rfl) rfl rfl (op_val (v := .slice (some ⟨w5.heap.size, 0, none⟩) 1 1) (w' := w5.alloc (.cells #[.int .i64 k2, .string p2, .string n2, .slice A2 m2 c2, .slice B2 l2 d2] 24)) (by unfold execOp; go_simp) (And.intro hS6 ?_))
            simp only [Act.put, List.getElem_toArray, List.getElem_cons_zero, List.getElem_cons_succ, List.setIfInBounds_toArray, List.set_cons_zero, List.set_cons_succ]
            have hlu6 := HLU.out.bel2 hd6
            obtain ⟨xs6, hown6, hrts6⟩ := hlu6.own
            rw [hlj] at hown6
            have hzz : w.heap.size + 1 + 1 + 1 ≤ wr.heap.size := by omega
            refine wpAnyH_one (i := 11) (by kernel_rfl) rfl rfl (op_append5 (.tmp 46) (.tmp 55) rfl rfl (w.heap.size + 1 + 1 + 1) A3 c3 ((la.take j).map (putT nl ts)) (by rw [hlj]; rfl) xs6 (by rw [hlj]; exact hown6) (by have := hd6.size; omega) (by rw [hlj]; omega) w5.heap.size k2 p2 n2 A2 B2 m2 c2 l2 d2 rfl (Blk.new _ _ _) ?_)
            rw [hlj]
            rintro A' c' w7 ho7 hg7 hn7
            have hblk6 : ∀ q, (Value.slice A3 j c3).ownBlock = some q → q < wr.drew.heap.size := fun q hq => (hblk q hq).2
            have hlu7 : LU w w7 _ #[.int .i64 9, .string p, .string n, .slice A3 j c3, .slice none 0 0] A' c' (((la.take j).map (putT nl ts)) ++ [putT nl ts u]) := hlu6.grow (B := wr.drew.heap.size) hzz hrts6 (hr5.bel hb6) (by rw [hlj]; exact hblk6) (by rw [hlj]; exact ho7) (by rw [hlj]; exact hg7) (by rw [hlj]; exact hn7)
            have hg17 : Gr (fun x => (Value.slice A3 j c3).ownBlock = some x) wr w7 := ⟨hg7.os.trans hS6.1.os, hg7.tape.trans hS6.1.tape, hg7.output.trans hS6.1.output, Nat.le_trans hS6.1.size hg7.size, fun b hb hS => (hg7.block b (Nat.lt_of_lt_of_le hb hS6.1.size) (fun e => hS e.symm)).trans (hS6.1.block b hb hS)⟩
            refine And.intro ⟨hg17, hlu7.bel⟩ ?_
            simp only [Act.put, List.getElem_toArray, List.getElem_cons_zero, List.getElem_cons_succ, List.setIfInBounds_toArray, List.set_cons_zero, List.set_cons_succ]
            refine wpAnyH_done (by kernel_rfl) ?_ _
            have v3 := hlu7.u.cell 3
            have vl := hlu7.u.lt
            have vf := hlu7.u.frozen 3
            refine wpAny_one (i := 12) (by kernel_rfl) rfl rfl (op_val (v := .pointer (some ⟨w.heap.size + 1 + 1, 3, none⟩)) (w' := w7) (by unfold execOp; go_simp) ?_)
            simp only [Act.put, List.getElem_toArray, List.getElem_cons_zero, List.getElem_cons_succ, List.setIfInBounds_toArray, List.set_cons_zero, List.set_cons_succ]
            refine wpAny_one (i := 13) (by kernel_rfl) rfl rfl (op_skip (w' := w7.setCell ⟨w.heap.size + 1 + 1, 3, none⟩ (.slice A' (j + 1) c')) (by unfold execOp; go_simp) ?_)
            simp only [Act.put, List.getElem_toArray, List.getElem_cons_zero, List.getElem_cons_succ, List.setIfInBounds_toArray, List.set_cons_zero, List.set_cons_succ]
            refine wpAny_done (by kernel_rfl) ?_ _
            have HV := Lib.hid (hlu7.put 3 (.slice A' (j + 1) c'))
            have htk : (la.take (j + 1)).map (putT nl ts) = (la.take j).map (putT nl ts) ++ [putT nl ts u] := by rw [List.take_add_one, HU.out]; simp
            have HTK := Lib.hid htk
            clear hlu7 hg17 hn7 hg7 ho7 hown6 hrts6 hlu6 hS6 hd6 hb6 hS5 hd5 hr5 hb5 hS0 hown hrts htk v3 vf vl u3 b0 b1 b2 b3 b4 hlj
            generalize w7.setCell ⟨w.heap.size + 1 + 1, 3, none⟩ (.slice A' (j + 1) c') = V at HV ⊢
            go_wp2
            go_roundg gg
            case measure => omega
            case rel => exact ⟨j + 1, A', c', by omega, by go_num, by rw [HTK.out]; exact HV.out⟩
  · have e : hitT nl ts k n = none := by simp [hitT, hk]
    rw [e, Option.getD_none]
    have hkb : (k == 9) = false := by simpa using hk
    clear e hk HPL
    have hL0 : LU w ((((w.alloc (.cells #[.int .i64 k, .string p, .string n, .slice A la.length c, .slice B lr.length d] 24)).alloc (.cells #[.int .i64 0, .string ⟨#[]⟩, .string ⟨#[]⟩, .slice none 0 0, .slice none 0 0] 24)).alloc (.cells #[.int .i64 k, .string p, .string n, .slice none 0 0, .slice none 0 0] 24))) #[.int .i64 k, .string p, .string n, .slice A la.length c, .slice B lr.length d] #[.int .i64 k, .string p, .string n, .slice none 0 0, .slice none 0 0] none 0 ((la.take 0).map (putT nl ts)) :=
      ⟨(((Below.refl _ w).alloc (Nat.le_refl _) _).alloc (by simp) _).alloc (by simp; omega) _, ((Blk.new _ _ _).alloc _).alloc _, (Blk.new_at (by simp)).alloc _, Blk.new_at (by simp), OwnT.nil_ _ _⟩
    go_enter Try.func32, Try.ntmps32
    go_wp2
    go_loopg [9] la.length (fun gk v9 wr => ∃ (j : Nat) (A3 : Option Addr) (c3 : Nat), j + gk = la.length ∧ v9 = .int .i64 j ∧ LU w wr #[.int .i64 k, .string p, .string n, .slice A la.length c, .slice B lr.length d] #[.int .i64 k, .string p, .string n, .slice A3 j c3, .slice none 0 0] A3 c3 ((la.take j).map (putT nl ts)))
    case atStart => exact ⟨0, none, 0, by simp, rfl, hL0⟩
    case round =>
      obtain ⟨j, A3, c3, hj, rfl, hlu⟩ := hrel
      have HLU := Lib.hid hlu
      have b0 := hlu.box.cell 0
      have b1 := hlu.box.cell 1
      have b2 := hlu.box.cell 2
      have b3 := hlu.box.cell 3
      have b4 := hlu.box.cell 4
      have bl := hlu.box.lt
      have hlj : ((la.take j).map (putT nl ts)).length = j := by simp; omega
      cases gk with
      | zero =>
        obtain rfl : j = la.length := by omega
        have u0 := hlu.u.cell 0
        have u1 := hlu.u.cell 1
        have u2 := hlu.u.cell 2
        have u3 := hlu.u.cell 3
        have u4 := hlu.u.cell 4
        have ul := hlu.u.lt
        have r0 := hlu.res.cell 0
        have r1 := hlu.res.cell 1
        have r2 := hlu.res.cell 2
        have r3 := hlu.res.cell 3
        have r4 := hlu.res.cell 4
        have f0 := hlu.res.frozen 0
        have f1 := hlu.res.frozen 1
        have f2 := hlu.res.frozen 2
        have f3 := hlu.res.frozen 3
        have f4 := hlu.res.frozen 4
        clear hj hlj hlu
        have hl1 : SlT wr (fun q => w.heap.size + 1 + 1 + 1 ≤ q ∧ (Value.slice none 0 0).ownBlock ≠ some q) A3 (putL nl ts la) ∧ LU w wr #[.int .i64 k, .string p, .string n, .slice A la.length c, .slice B lr.length d] #[.int .i64 k, .string p, .string n, .slice A3 la.length c3, .slice none 0 0] none 0 ((lr.take 0).map (putT nl ts)) := by
          have h2 := HLU.out.own.sl
          rw [List.take_length, ← putL_map] at h2
          exact ⟨h2.keep (fun _ _ _ => rfl) (Nat.le_refl _) (fun _ _ h => ⟨h, by simp [Value.ownBlock]⟩), ⟨HLU.out.bel, HLU.out.box, HLU.out.res, HLU.out.u, OwnT.nil_ _ _⟩⟩
        have HL1 := Lib.hid hl1
        clear hl1 HLU r0 r1 r2 r3 r4 f0 f1 f2 f3 f4 u0 u1 u2 u3 u4 b0 b1 b2 b4 ul bl
        go_wp2
        clear b3
        go_loopg [10] lr.length (fun gk v10 wr => ∃ (j : Nat) (A4 : Option Addr) (c4 : Nat), j + gk = lr.length ∧ v10 = .int .i64 j ∧ LU w wr #[.int .i64 k, .string p, .string n, .slice A la.length c, .slice B lr.length d] #[.int .i64 k, .string p, .string n, .slice A3 la.length c3, .slice A4 j c4] A4 c4 ((lr.take j).map (putT nl ts)) ∧ SlT wr (fun q => w.heap.size + 1 + 1 + 1 ≤ q ∧ (Value.slice A4 j c4).ownBlock ≠ some q) A3 (putL nl ts la))
        case atStart => exact ⟨0, none, 0, by simp, rfl, HL1.out.2, HL1.out.1⟩
        case round =>
          obtain ⟨j, A4, c4, hj, rfl, hlu, hsl⟩ := hrel
          have HLU := Lib.hid hlu
          have HSL := Lib.hid hsl
          have b0 := hlu.box.cell 0
          have b1 := hlu.box.cell 1
          have b2 := hlu.box.cell 2
          have b3 := hlu.box.cell 3
          have b4 := hlu.box.cell 4
          have bl := hlu.box.lt
          have hlj : ((lr.take j).map (putT nl ts)).length = j := by simp; omega
          cases gk with
          | zero =>
            obtain rfl : j = lr.length := by omega
            have u0 := hlu.u.cell 0
            have u1 := hlu.u.cell 1
            have u2 := hlu.u.cell 2
            have u3 := hlu.u.cell 3
            have u4 := hlu.u.cell 4
            have ul := hlu.u.lt
            have r0 := hlu.res.cell 0
            have r1 := hlu.res.cell 1
            have r2 := hlu.res.cell 2
            have r3 := hlu.res.cell 3
            have r4 := hlu.res.cell 4
            have f0 := hlu.res.frozen 0
            have f1 := hlu.res.frozen 1
            have f2 := hlu.res.frozen 2
            have f3 := hlu.res.frozen 3
            have f4 := hlu.res.frozen 4
            clear hj hlj hlu hsl
            have HR1 := Lib.hid HLU.out.res
            have hss : SlT wr (fun q => w.heap.size + 1 + 1 + 1 ≤ q) A4 (putL nl ts lr) := by
              have := HLU.out.own.sl
              rw [List.take_length, ← putL_map] at this
              exact this
            have hrt : RT wr (fun q => w.heap.size + 1 + 1 + 1 ≤ q) (.mk k p n (putL nl ts la) (putL nl ts lr)) [.int .i64 k, .string p, .string n, .slice A3 la.length c3, .slice A4 lr.length c4] := by
              have := RT.mk_ (k := k) (p := p) (n := n) (c := c3) (c' := c4) (HSL.out.keep (F' := fun q => w.heap.size + 1 + 1 + 1 ≤ q) (fun _ _ _ => rfl) (Nat.le_refl _) (fun _ _ h => h.1)) hss
              rw [putL_len, putL_len] at this
              exact this
            have HRT := Lib.hid hrt
            clear hss hrt b0 b1 b2 b3
            go_wp2
            have hV := put5_blk HR1.out (.int .i64 k) (.string p) (.string n) (.slice A3 la.length c3) (.slice A4 lr.length c4)
            have HV5 := Lib.hid (put5_bel HLU.out.bel (show w.heap.size ≤ w.heap.size + 1 by omega) (.int .i64 k) (.string p) (.string n) (.slice A3 la.length c3) (.slice A4 lr.length c4))
            have HVR := Lib.hid ((HRT.out.gr (put5_gr wr (w.heap.size + 1) (.int .i64 k) (.string p) (.string n) (.slice A3 la.length c3) (.slice A4 lr.length c4)) (fun h => by simp at h; omega)).more (F' := fun q => w.heap.size ≤ q) (fun q hq => by have : w.heap.size + 1 + 1 + 1 ≤ q := hq; show w.heap.size ≤ q; omega))
            have y0 := hV.cell 0
            have y1 := hV.cell 1
            have y2 := hV.cell 2
            have y3 := hV.cell 3
            have y4 := hV.cell 4
            clear hV r0 r1 r2 r3 r4 f0 f1 f2 f3 f4 u0 u1 u2 u3 u4
            show bodyPost _ _ _ _ _ (put5 wr (w.heap.size + 1) (.int .i64 k) (.string p) (.string n) (.slice A3 la.length c3) (.slice A4 lr.length c4))
            generalize put5 wr (w.heap.size + 1) (.int .i64 k) (.string p) (.string n) (.slice A3 la.length c3) (.slice A4 lr.length c4) = V at HV5 HVR y0 y1 y2 y3 y4 ⊢
            exact bodyPost_ret (v := .agg #[.int .i64 k, .string p, .string n, .slice A3 la.length c3, .slice A4 lr.length c4]) (by simp [results, Try.results32, go_sem, y0, y1, y2, y3, y4]) rfl ⟨_, _, _, _, _, _, _, _, _, rfl, HVR.out, HV5.out⟩
          | succ gg =>
            have hjl : j < lr.length := by omega
            obtain ⟨u, hu⟩ : ∃ u, lr[j]? = some u := ⟨_, List.getElem?_eq_getElem hjl⟩
            obtain ⟨q, o, vs, rfl, hFq, hgl, hrep, hat⟩ := HB.out.at_ hu
            have hck := count_kid lr j u hu
            have HI := Lib.hid (fun w' (h' : Below w.heap.size w w') => ih u (by omega) w' F F' F'' C cc D f vs (hs.bel h') (ht.bel h') (hrep.bel h'))
            obtain ⟨k1, p1, n1', A1, m1', c1, B1, l1, d1, rfl⟩ := hrep.shape
            have q0 := hat 0 _ rfl
            have q1 := hat 1 _ rfl
            have q2 := hat 2 _ rfl
            have q3 := hat 3 _ rfl
            have q4 := hat 4 _ rfl
            have j1 : (j : Int) < (lr.length : Int) := by omega
            have j2 : (j : Int) ≤ 2000000 := by omega
            simp only [Nat.add_zero] at q0
            have HU := Lib.hid hu
            have u4 := hlu.u.cell 4
            have ul := hlu.u.lt
            obtain ⟨xs, hown, hrts⟩ := hlu.own
            have hblk : ∀ q, (Value.slice A4 j c4).ownBlock = some q → w.heap.size + 1 + 1 + 1 ≤ q ∧ q < wr.heap.size := fun q hq => hlu.own.lo (by rw [hlj]; exact hq)
            rw [hlj] at hown
            clear hat hrep hu hlu hsl
            go_wp2
            refine wp_region_split (S := fun V => Gr (fun x => (Value.slice A4 j c4).ownBlock = some x) wr V ∧ Below w.heap.size w V) 12 (by kernel_rfl) (by kernel_rfl) ⟨(Gr.refl wr).drew, HLU.out.bel.drew⟩ (fun hS0 => ?_)
            simp only [List.take_succ_cons, List.take_zero]
            refine wpAnyH_take (i := 0) (v := .pointer (some ⟨w.heap.size + 1 + 1, 4, none⟩)) rfl (by kernel_rfl) (by kernel_rfl) (by kernel_rfl) (fun _ _ _ h => h) (Or.inl ⟨rfl, fun w' hS => by (unfold execOp; go_simp)⟩) hS0 ?_
            simp only [Act.put, List.getElem_toArray, List.getElem_cons_zero, List.getElem_cons_succ, List.setIfInBounds_toArray, List.set_cons_zero, List.set_cons_succ]
            refine wpAnyH_take (i := 1) (v := .slice A4 j c4) rfl (by kernel_rfl) (by kernel_rfl) (by kernel_rfl) (fun _ _ _ h => h) (Or.inl ⟨rfl, fun w' hS => by (have yu := (hS.1.cell (p := ⟨w.heap.size + 1 + 1, 4, none⟩) ul (fun e => by have h1 : w.heap.size + 1 + 1 + 1 ≤ w.heap.size + 1 + 1 := (hblk _ e).1; omega)).trans u4; have yl := Nat.lt_of_lt_of_le ul hS.1.size; unfold execOp; go_simp)⟩) hS0 ?_
            simp only [Act.put, List.getElem_toArray, List.getElem_cons_zero, List.getElem_cons_succ, List.setIfInBounds_toArray, List.set_cons_zero, List.set_cons_succ]
            refine wpAnyH_take (i := 2) (v := .pointer (some ⟨w.heap.size, 4, none⟩)) rfl (by kernel_rfl) (by kernel_rfl) (by kernel_rfl) (fun _ _ _ h => h) (Or.inl ⟨rfl, fun w' hS => by (unfold execOp; go_simp)⟩) hS0 ?_
            simp only [Act.put, List.getElem_toArray, List.getElem_cons_zero, List.getElem_cons_succ, List.setIfInBounds_toArray, List.set_cons_zero, List.set_cons_succ]
            refine wpAnyH_take (i := 3) (v := .slice (some ⟨q, o, none⟩) lr.length d) rfl (by kernel_rfl) (by kernel_rfl) (by kernel_rfl) (fun _ _ _ h => h) (Or.inl ⟨rfl, fun w' hS => by (have yb := (hS.1.cell (p := ⟨w.heap.size, 4, none⟩) bl (fun e => by have h1 : w.heap.size + 1 + 1 + 1 ≤ w.heap.size := (hblk _ e).1; omega)).trans b4; have yl := Nat.lt_of_lt_of_le bl hS.1.size; unfold execOp; go_simp)⟩) hS0 ?_
            simp only [Act.put, List.getElem_toArray, List.getElem_cons_zero, List.getElem_cons_succ, List.setIfInBounds_toArray, List.set_cons_zero, List.set_cons_succ]
            refine wpAnyH_take (i := 4) (v := .int .i64 j) rfl (by kernel_rfl) (by kernel_rfl) (by kernel_rfl) (fun _ _ _ h => h) (Or.inl ⟨rfl, fun w' hS => by (unfold execOp; go_simp)⟩) hS0 ?_
            simp only [Act.put, List.getElem_toArray, List.getElem_cons_zero, List.getElem_cons_succ, List.setIfInBounds_toArray, List.set_cons_zero, List.set_cons_succ]
            refine wpAnyH_take (i := 5) (v := .pointer (some ⟨q, o + j * 5, none⟩)) rfl (by kernel_rfl) (by kernel_rfl) (by kernel_rfl) (fun _ _ _ h => h) (Or.inl ⟨rfl, fun w' hS => by (unfold execOp; go_simp)⟩) hS0 ?_
            simp only [Act.put, List.getElem_toArray, List.getElem_cons_zero, List.getElem_cons_succ, List.setIfInBounds_toArray, List.set_cons_zero, List.set_cons_succ]
            refine wpAnyH_take (i := 6) (v := .agg #[.int .i64 k1, .string p1, .string n1', .slice A1 m1' c1, .slice B1 l1 d1]) rfl (by kernel_rfl) (by kernel_rfl) (by kernel_rfl) (fun _ _ _ h => h) (Or.inl ⟨rfl, fun w' hS => by (have y0 := (hS.2.cell (p := ⟨q, _, none⟩) hgl).trans q0; have y1 := (hS.2.cell (p := ⟨q, _, none⟩) hgl).trans q1; have y2 := (hS.2.cell (p := ⟨q, _, none⟩) hgl).trans q2; have y3 := (hS.2.cell (p := ⟨q, _, none⟩) hgl).trans q3; have y4 := (hS.2.cell (p := ⟨q, _, none⟩) hgl).trans q4; unfold execOp; go_simp)⟩) hS0 ?_
            simp only [Act.put, List.getElem_toArray, List.getElem_cons_zero, List.getElem_cons_succ, List.setIfInBounds_toArray, List.set_cons_zero, List.set_cons_succ]
            refine wpAnyH_take (i := 7) (v := .slice C nl.length cc) rfl (by kernel_rfl) (by kernel_rfl) (by kernel_rfl) (fun _ _ _ h => h) (Or.inl ⟨rfl, fun w' hS => by (unfold execOp; go_simp)⟩) hS0 ?_
            simp only [Act.put, List.getElem_toArray, List.getElem_cons_zero, List.getElem_cons_succ, List.setIfInBounds_toArray, List.set_cons_zero, List.set_cons_succ]
            refine wpAnyH_take (i := 8) (v := .slice D ts.length f) rfl (by kernel_rfl) (by kernel_rfl) (by kernel_rfl) (fun _ _ _ h => h) (Or.inl ⟨rfl, fun w' hS => by (unfold execOp; go_simp)⟩) hS0 ?_
            simp only [Act.put, List.getElem_toArray, List.getElem_cons_zero, List.getElem_cons_succ, List.setIfInBounds_toArray, List.set_cons_zero, List.set_cons_succ]
            refine wpAnyH_one (i := 9) (by kernel_rfl) rfl rfl (op_call (args := #[.agg #[.int .i64 k1, .string p1, .string n1', .slice A1 m1' c1, .slice B1 l1 d1], .slice C nl.length cc, .slice D ts.length f]) (f := 32) (by unfold execOp; go_simp) ((HI.out _ hS0.2).mono ?_))
            rintro e w5 ⟨k2, p2, n2, A2, m2, c2, B2, l2, d2, rfl, hr5, hb5⟩
            have hd5 : Below wr.heap.size wr w5 := (Below.refl _ wr).drew.trans (hb5.mono (Nat.le_refl _))
            have hS5 : Gr (fun x => (Value.slice A4 j c4).ownBlock = some x) wr w5 ∧ Below w.heap.size w w5 := ⟨Gr.of_below hd5, HLU.out.bel.trans (hd5.mono HLU.out.bel.size)⟩
            refine And.intro hS5 ?_
            simp only [Act.put, List.getElem_toArray, List.getElem_cons_zero, List.getElem_cons_succ, List.setIfInBounds_toArray, List.set_cons_zero, List.set_cons_succ]
            have hb6 : Below w5.heap.size w5 (w5.alloc (.cells #[.int .i64 k2, .string p2, .string n2, .slice A2 m2 c2, .slice B2 l2 d2] 24)) := (Below.refl _ _).alloc (Nat.le_refl _) _
            have hd6 := hd5.trans (hb6.mono hd5.size)
            have hS6 : Gr (fun x => (Value.slice A4 j c4).ownBlock = some x) wr (w5.alloc (.cells #[.int .i64 k2, .string p2, .string n2, .slice A2 m2 c2, .slice B2 l2 d2] 24)) ∧ Below w.heap.size w (w5.alloc (.cells #[.int .i64 k2, .string p2, .string n2, .slice A2 m2 c2, .slice B2 l2 d2] 24)) := ⟨Gr.of_below hd6, HLU.out.bel.trans (hd6.mono HLU.out.bel.size)⟩
            refine wpAnyH_one (i := 10) (by kernel_rfl) rfl rfl (op_val (v := .slice (some ⟨w5.heap.size, 0, none⟩) 1 1) (w' := w5.alloc (.cells #[.int .i64 k2, .string p2, .string n2, .slice A2 m2 c2, .slice B2 l2 d2] 24)) (by unfold execOp; go_simp) (And.intro hS6 ?_))
            simp only [Act.put, List.getElem_toArray, List.getElem_cons_zero, List.getElem_cons_succ, List.setIfInBounds_toArray, List.set_cons_zero, List.set_cons_succ]
            have hlu6 := HLU.out.bel2 hd6
            obtain ⟨xs6, hown6, hrts6⟩ := hlu6.own
            rw [hlj] at hown6
            have hzz : w.heap.size + 1 + 1 + 1 ≤ wr.heap.size := by omega
            refine wpAnyH_one (i := 11) (by kernel_rfl) rfl rfl (op_append5 (.tmp 66) (.tmp 75) rfl rfl (w.heap.size + 1 + 1 + 1) A4 c4 ((lr.take j).map (putT nl ts)) (by rw [hlj]; rfl) xs6 (by rw [hlj]; exact hown6) (by have := hd6.size; omega) (by rw [hlj]; omega) w5.heap.size k2 p2 n2 A2 B2 m2 c2 l2 d2 rfl (Blk.new _ _ _) ?_)
            rw [hlj]
            rintro A' c' w7 ho7 hg7 hn7
            have hblk6 : ∀ q, (Value.slice A4 j c4).ownBlock = some q → q < wr.drew.heap.size := fun q hq => (hblk q hq).2
            have hlu7 : LU w w7 _ #[.int .i64 k, .string p, .string n, .slice A3 la.length c3, .slice A4 j c4] A' c' (((lr.take j).map (putT nl ts)) ++ [putT nl ts u]) := hlu6.grow (B := wr.drew.heap.size) hzz hrts6 (hr5.bel hb6) (by rw [hlj]; exact hblk6) (by rw [hlj]; exact ho7) (by rw [hlj]; exact hg7) (by rw [hlj]; exact hn7)
            have hg17 : Gr (fun x => (Value.slice A4 j c4).ownBlock = some x) wr w7 := ⟨hg7.os.trans hS6.1.os, hg7.tape.trans hS6.1.tape, hg7.output.trans hS6.1.output, Nat.le_trans hS6.1.size hg7.size, fun b hb hS => (hg7.block b (Nat.lt_of_lt_of_le hb hS6.1.size) (fun e => hS e.symm)).trans (hS6.1.block b hb hS)⟩
            refine And.intro ⟨hg17, hlu7.bel⟩ ?_
            simp only [Act.put, List.getElem_toArray, List.getElem_cons_zero, List.getElem_cons_succ, List.setIfInBounds_toArray, List.set_cons_zero, List.set_cons_succ]
            have hsl7 := ((HSL.out.bel hd6)).beside (A' := A') (n' := j + 1) (c' := c') hg7 hn7
            refine wpAnyH_done (by kernel_rfl) ?_ _
            have v4 := hlu7.u.cell 4
            have vl := hlu7.u.lt
            have vf := hlu7.u.frozen 4
            refine wpAny_one (i := 12) (by kernel_rfl) rfl rfl (op_val (v := .pointer (some ⟨w.heap.size + 1 + 1, 4, none⟩)) (w' := w7) (by unfold execOp; go_simp) ?_)
            simp only [Act.put, List.getElem_toArray, List.getElem_cons_zero, List.getElem_cons_succ, List.setIfInBounds_toArray, List.set_cons_zero, List.set_cons_succ]
            refine wpAny_one (i := 13) (by kernel_rfl) rfl rfl (op_skip (w' := w7.setCell ⟨w.heap.size + 1 + 1, 4, none⟩ (.slice A' (j + 1) c')) (by unfold execOp; go_simp) ?_)
            simp only [Act.put, List.getElem_toArray, List.getElem_cons_zero, List.getElem_cons_succ, List.setIfInBounds_toArray, List.set_cons_zero, List.set_cons_succ]
            refine wpAny_done (by kernel_rfl) ?_ _
            have HV := Lib.hid (hlu7.put 4 (.slice A' (j + 1) c'))
            have HSV := Lib.hid (hsl7.keep (w' := w7.setCell ⟨w.heap.size + 1 + 1, 4, none⟩ (.slice A' (j + 1) c')) (F' := fun q => w.heap.size + 1 + 1 + 1 ≤ q ∧ (Value.slice A' (j + 1) c').ownBlock ≠ some q) (fun k hk hlt => ((Gr.refl (S := fun x => x = w.heap.size + 1 + 1) w7).in_ 4 _).block k hlt (fun e => by have : k = w.heap.size + 1 + 1 := e; have := hk.1; omega)) ((Gr.refl (S := fun x => x = w.heap.size + 1 + 1) w7).in_ 4 _).size (fun _ _ h => h))
            have htk : (lr.take (j + 1)).map (putT nl ts) = (lr.take j).map (putT nl ts) ++ [putT nl ts u] := by rw [List.take_add_one, HU.out]; simp
            have HTK := Lib.hid htk
            clear hlu7 hg17 hn7 hg7 ho7 hown6 hrts6 hlu6 hS6 hd6 hb6 hS5 hd5 hr5 hb5 hS0 hown hrts htk v4 vf vl u4 b0 b1 b2 b3 b4 hlj hsl7
            generalize w7.setCell ⟨w.heap.size + 1 + 1, 4, none⟩ (.slice A' (j + 1) c') = V at HV HSV ⊢
            go_wp2
            go_roundg gg
            case measure => omega
            case rel => exact ⟨j + 1, A', c', by omega, by go_num, by rw [HTK.out]; exact HV.out, HSV.out⟩
      | succ gg =>
        have hjl : j < la.length := by omega
        obtain ⟨u, hu⟩ : ∃ u, la[j]? = some u := ⟨_, List.getElem?_eq_getElem hjl⟩
        obtain ⟨q, o, vs, rfl, hFq, hgl, hrep, hat⟩ := HA.out.at_ hu
        have hck := count_kid la j u hu
        have HI := Lib.hid (fun w' (h' : Below w.heap.size w w') => ih u (by omega) w' F F' F'' C cc D f vs (hs.bel h') (ht.bel h') (hrep.bel h'))
        obtain ⟨k1, p1, n1', A1, m1', c1, B1, l1, d1, rfl⟩ := hrep.shape
        have q0 := hat 0 _ rfl
        have q1 := hat 1 _ rfl
        have q2 := hat 2 _ rfl
        have q3 := hat 3 _ rfl
        have q4 := hat 4 _ rfl
        have j1 : (j : Int) < (la.length : Int) := by omega
        have j2 : (j : Int) ≤ 2000000 := by omega
        simp only [Nat.add_zero] at q0
        have HU := Lib.hid hu
        have u3 := hlu.u.cell 3
        have ul := hlu.u.lt
        obtain ⟨xs, hown, hrts⟩ := hlu.own
        have hblk : ∀ q, (Value.slice A3 j c3).ownBlock = some q → w.heap.size + 1 + 1 + 1 ≤ q ∧ q < wr.heap.size := fun q hq => hlu.own.lo (by rw [hlj]; exact hq)
        rw [hlj] at hown
        clear hat hrep hu hlu
        go_wp2
        refine wp_region_split (S := fun V => Gr (fun x => (Value.slice A3 j c3).ownBlock = some x) wr V ∧ Below w.heap.size w V) 12 (by kernel_rfl) (by kernel_rfl) ⟨(Gr.refl wr).drew, HLU.out.bel.drew⟩ (fun hS0 => ?_)
        simp only [List.take_succ_cons, List.take_zero]
        refine wpAnyH_take (i := 0) (v := .pointer (some ⟨w.heap.size + 1 + 1, 3, none⟩)) rfl (by kernel_rfl) (by kernel_rfl) (by kernel_rfl) (fun _ _ _ h => h) (Or.inl ⟨rfl, fun w' hS => by (unfold execOp; go_simp)⟩) hS0 ?_
        simp only [Act.put, List.getElem_toArray, List.getElem_cons_zero, List.getElem_cons_succ, List.setIfInBounds_toArray, List.set_cons_zero, List.set_cons_succ]
        refine wpAnyH_take (i := 1) (v := .slice A3 j c3) rfl (by kernel_rfl) (by kernel_rfl) (by kernel_rfl) (fun _ _ _ h => h) (Or.inl ⟨rfl, fun w' hS => by (have yu := (hS.1.cell (p := ⟨w.heap.size + 1 + 1, 3, none⟩) ul (fun e => by have h1 : w.heap.size + 1 + 1 + 1 ≤ w.heap.size + 1 + 1 := (hblk _ e).1; omega)).trans u3; have yl := Nat.lt_of_lt_of_le ul hS.1.size; unfold execOp; go_simp)⟩) hS0 ?_
        simp only [Act.put, List.getElem_toArray, List.getElem_cons_zero, List.getElem_cons_succ, List.setIfInBounds_toArray, List.set_cons_zero, List.set_cons_succ]
        refine wpAnyH_take (i := 2) (v := .pointer (some ⟨w.heap.size, 3, none⟩)) rfl (by kernel_rfl) (by kernel_rfl) (by kernel_rfl) (fun _ _ _ h => h) (Or.inl ⟨rfl, fun w' hS => by (unfold execOp; go_simp)⟩) hS0 ?_
        simp only [Act.put, List.getElem_toArray, List.getElem_cons_zero, List.getElem_cons_succ, List.setIfInBounds_toArray, List.set_cons_zero, List.set_cons_succ]
        refine wpAnyH_take (i := 3) (v := .slice (some ⟨q, o, none⟩) la.length c) rfl (by kernel_rfl) (by kernel_rfl) (by kernel_rfl) (fun _ _ _ h => h) (Or.inl ⟨rfl, fun w' hS => by (have yb := (hS.1.cell (p := ⟨w.heap.size, 3, none⟩) bl (fun e => by have h1 : w.heap.size + 1 + 1 + 1 ≤ w.heap.size := (hblk _ e).1; omega)).trans b3; have yl := Nat.lt_of_lt_of_le bl hS.1.size; unfold execOp; go_simp)⟩) hS0 ?_
        simp only [Act.put, List.getElem_toArray, List.getElem_cons_zero, List.getElem_cons_succ, List.setIfInBounds_toArray, List.set_cons_zero, List.set_cons_succ]
        refine wpAnyH_take (i := 4) (v := .int .i64 j) rfl (by kernel_rfl) (by kernel_rfl) (by kernel_rfl) (fun _ _ _ h => h) (Or.inl ⟨rfl, fun w' hS => by (unfold execOp; go_simp)⟩) hS0 ?_
        simp only [Act.put, List.getElem_toArray, List.getElem_cons_zero, List.getElem_cons_succ, List.setIfInBounds_toArray, List.set_cons_zero, List.set_cons_succ]
        refine wpAnyH_take (i := 5) (v := .pointer (some ⟨q, o + j * 5, none⟩)) rfl (by kernel_rfl) (by kernel_rfl) (by kernel_rfl) (fun _ _ _ h => h) (Or.inl ⟨rfl, fun w' hS => by (unfold execOp; go_simp)⟩) hS0 ?_
        simp only [Act.put, List.getElem_toArray, List.getElem_cons_zero, List.getElem_cons_succ, List.setIfInBounds_toArray, List.set_cons_zero, List.set_cons_succ]
        refine wpAnyH_take (i := 6) (v := .agg #[.int .i64 k1, .string p1, .string n1', .slice A1 m1' c1, .slice B1 l1 d1]) rfl (by kernel_rfl) (by kernel_rfl) (by kernel_rfl) (fun _ _ _ h => h) (Or.inl ⟨rfl, fun w' hS => by (have y0 := (hS.2.cell (p := ⟨q, _, none⟩) hgl).trans q0; have y1 := (hS.2.cell (p := ⟨q, _, none⟩) hgl).trans q1; have y2 := (hS.2.cell (p := ⟨q, _, none⟩) hgl).trans q2; have y3 := (hS.2.cell (p := ⟨q, _, none⟩) hgl).trans q3; have y4 := (hS.2.cell (p := ⟨q, _, none⟩) hgl).trans q4; unfold execOp; go_simp)⟩) hS0 ?_
        simp only [Act.put, List.getElem_toArray, List.getElem_cons_zero, List.getElem_cons_succ, List.setIfInBounds_toArray, List.set_cons_zero, List.set_cons_succ]
        refine wpAnyH_take (i := 7) (v := .slice C nl.length cc) rfl (by kernel_rfl) (by kernel_rfl) (by kernel_rfl) (fun _ _ _ h => h) (Or.inl ⟨rfl, fun w' hS => by (unfold execOp; go_simp)⟩) hS0 ?_
        simp only [Act.put, List.getElem_toArray, List.getElem_cons_zero, List.getElem_cons_succ, List.setIfInBounds_toArray, List.set_cons_zero, List.set_cons_succ]
        refine wpAnyH_take (i := 8) (v := .slice D ts.length f) rfl (by kernel_rfl) (by kernel_rfl) (by kernel_rfl) (fun _ _ _ h => h) (Or.inl ⟨rfl, fun w' hS => by (unfold execOp; go_simp)⟩) hS0 ?_
        simp only [Act.put, List.getElem_toArray, List.getElem_cons_zero, List.getElem_cons_succ, List.setIfInBounds_toArray, List.set_cons_zero, List.set_cons_succ]
        refine wpAnyH_one (i := 9) (by kernel_rfl) rfl rfl (op_call (args := #[.agg #[.int .i64 k1, .string p1, .string n1', .slice A1 m1' c1, .slice B1 l1 d1], .slice C nl.length cc, .slice D ts.length f]) (f := 32) (by unfold execOp; go_simp) ((HI.out _ hS0.2).mono ?_))
        rintro e w5 ⟨k2, p2, n2, A2, m2, c2, B2, l2, d2, rfl, hr5, hb5⟩
        have hd5 : Below wr.heap.size wr w5 := (Below.refl _ wr).drew.trans (hb5.mono (Nat.le_refl _))
        have hS5 : Gr (fun x => (Value.slice A3 j c3).ownBlock = some x) wr w5 ∧ Below w.heap.size w w5 := ⟨Gr.of_below hd5, HLU.out.bel.trans (hd5.mono HLU.out.bel.size)⟩
        refine And.intro hS5 ?_
        simp only [Act.put, List.getElem_toArray, List.getElem_cons_zero, List.getElem_cons_succ, List.setIfInBounds_toArray, List.set_cons_zero, List.set_cons_succ]
        have hb6 : Below w5.heap.size w5 (w5.alloc (.cells #[.int .i64 k2, .string p2, .string n2, .slice A2 m2 c2, .slice B2 l2 d2] 24)) := (Below.refl _ _).alloc (Nat.le_refl _) _
        have hd6 := hd5.trans (hb6.mono hd5.size)
        have hS6 : Gr (fun x => (Value.slice A3 j c3).ownBlock = some x) wr (w5.alloc (.cells #[.int .i64 k2, .string p2, .string n2, .slice A2 m2 c2, .slice B2 l2 d2] 24)) ∧ Below w.heap.size w (w5.alloc (.cells #[.int .i64 k2, .string p2, .string n2, .slice A2 m2 c2, .slice B2 l2 d2] 24)) := ⟨Gr.of_below hd6, HLU.out.bel.trans (hd6.mono HLU.out.bel.size)⟩
        refine wpAnyH_one (i := 10) (by kernel_rfl) rfl rfl (op_val (v := .slice (some ⟨w5.heap.size, 0, none⟩) 1 1) (w' := w5.alloc (.cells #[.int .i64 k2, .string p2, .string n2, .slice A2 m2 c2, .slice B2 l2 d2] 24)) (by unfold execOp; go_simp) (And.intro hS6 ?_))
        simp only [Act.put, List.getElem_toArray, List.getElem_cons_zero, List.getElem_cons_succ, List.setIfInBounds_toArray, List.set_cons_zero, List.set_cons_succ]
        have hlu6 := HLU.out.bel2 hd6
        obtain ⟨xs6, hown6, hrts6⟩ := hlu6.own
        rw [hlj] at hown6
        have hzz : w.heap.size + 1 + 1 + 1 ≤ wr.heap.size := by omega
        refine wpAnyH_one (i := 11) (by kernel_rfl) rfl rfl (op_append5 (.tmp 46) (.tmp 55) rfl rfl (w.heap.size + 1 + 1 + 1) A3 c3 ((la.take j).map (putT nl ts)) (by rw [hlj]; rfl) xs6 (by rw [hlj]; exact hown6) (by have := hd6.size; omega) (by rw [hlj]; omega) w5.heap.size k2 p2 n2 A2 B2 m2 c2 l2 d2 rfl (Blk.new _ _ _) ?_)
        rw [hlj]
        rintro A' c' w7 ho7 hg7 hn7
        have hblk6 : ∀ q, (Value.slice A3 j c3).ownBlock = some q → q < wr.drew.heap.size := fun q hq => (hblk q hq).2
        have hlu7 : LU w w7 _ #[.int .i64 k, .string p, .string n, .slice A3 j c3, .slice none 0 0] A' c' (((la.take j).map (putT nl ts)) ++ [putT nl ts u]) := hlu6.grow (B := wr.drew.heap.size) hzz hrts6 (hr5.bel hb6) (by rw [hlj]; exact hblk6) (by rw [hlj]; exact ho7) (by rw [hlj]; exact hg7) (by rw [hlj]; exact hn7)
        have hg17 : Gr (fun x => (Value.slice A3 j c3).ownBlock = some x) wr w7 := ⟨hg7.os.trans hS6.1.os, hg7.tape.trans hS6.1.tape, hg7.output.trans hS6.1.output, Nat.le_trans hS6.1.size hg7.size, fun b hb hS => (hg7.block b (Nat.lt_of_lt_of_le hb hS6.1.size) (fun e => hS e.symm)).trans (hS6.1.block b hb hS)⟩
        refine And.intro ⟨hg17, hlu7.bel⟩ ?_
        simp only [Act.put, List.getElem_toArray, List.getElem_cons_zero, List.getElem_cons_succ, List.setIfInBounds_toArray, List.set_cons_zero, List.set_cons_succ]
        refine wpAnyH_done (by kernel_rfl) ?_ _
        have v3 := hlu7.u.cell 3
        have vl := hlu7.u.lt
        have vf := hlu7.u.frozen 3
        refine wpAny_one (i := 12) (by kernel_rfl) rfl rfl (op_val (v := .pointer (some ⟨w.heap.size + 1 + 1, 3, none⟩)) (w' := w7) (by unfold execOp; go_simp) ?_)
        simp only [Act.put, List.getElem_toArray, List.getElem_cons_zero, List.getElem_cons_succ, List.setIfInBounds_toArray, List.set_cons_zero, List.set_cons_succ]
        refine wpAny_one (i := 13) (by kernel_rfl) rfl rfl (op_skip (w' := w7.setCell ⟨w.heap.size + 1 + 1, 3, none⟩ (.slice A' (j + 1) c')) (by unfold execOp; go_simp) ?_)
        simp only [Act.put, List.getElem_toArray, List.getElem_cons_zero, List.getElem_cons_succ, List.setIfInBounds_toArray, List.set_cons_zero, List.set_cons_succ]
        refine wpAny_done (by kernel_rfl) ?_ _
        have HV := Lib.hid (hlu7.put 3 (.slice A' (j + 1) c'))
        have htk : (la.take (j + 1)).map (putT nl ts) = (la.take j).map (putT nl ts) ++ [putT nl ts u] := by rw [List.take_add_one, HU.out]; simp
        have HTK := Lib.hid htk
        clear hlu7 hg17 hn7 hg7 ho7 hown6 hrts6 hlu6 hS6 hd6 hb6 hS5 hd5 hr5 hb5 hS0 hown hrts htk v3 vf vl u3 b0 b1 b2 b3 b4 hlj
        generalize w7.setCell ⟨w.heap.size + 1 + 1, 3, none⟩ (.slice A' (j + 1) c') = V at HV ⊢
        go_wp2
        go_roundg gg
        case measure => omega
        case rel => exact ⟨j + 1, A', c', by omega, by go_num, by rw [HTK.out]; exact HV.out⟩
end Go.Proofs.Ytkgilhdoahkakaa
