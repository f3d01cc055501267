/-
  The document's walk over a pair of types: a walk.
-/
import Derived.Test.YtkgilhdoahkakaaRwA
namespace Go.Proofs.Ytkgilhdoahkakaa
open Go.RowKit
set_option linter.unusedVariables false
set_option linter.unusedSimpArgs false

def Ng (g h : Nat) : Nat → Prop := fun q => q ≠ g ∧ q ≠ h
def Bl (w : World) (h : Nat) (hs : List Bool) : Prop := Blk w h 4 (hs.map Value.bool).toArray
/-- What is found and where something is, in memory. -/
structure Sd (w : World) (g h : Nat) (st : WSt) : Prop where
  fd : Fd w (Ng g h) g st.1
  hb : Bl w h st.2
  ne : g ≠ h
def WalkP (g h : Nat) (st : WSt) (w : World) (e : Ending) (w' : World) : Prop := (∃ v, e = .returned v) ∧ Sd w' g h st ∧ Gr (fun x => x = g ∨ x = h) w w'
theorem RT.grN {w w' : World} {g h : Nat} {t : Ty} {vs : List Value} (hr : RT w (Ng g h) t vs) (hg : Gr (fun x => x = g ∨ x = h) w w') : RT w' (Ng g h) t vs :=
  RT.keep (fun k hk hl => hg.block k hl (fun e => by rcases e with e | e; exact hk.1 e; exact hk.2 e)) hg.size (fun _ _ h => h) _ _ hr
theorem SlT.grN {w w' : World} {g h : Nat} {A : Option Addr} {t : List Ty} (hr : SlT w (Ng g h) A t) (hg : Gr (fun x => x = g ∨ x = h) w w') : SlT w' (Ng g h) A t :=
  hr.keep (fun k hk hl => hg.block k hl (fun e => by rcases e with e | e; exact hk.1 e; exact hk.2 e)) hg.size (fun _ _ h => h)
theorem SlS.grN {w w' : World} {g h : Nat} {A : Option Addr} {t : List ByteArray} (hr : SlS w (Ng g h) A t) (hg : Gr (fun x => x = g ∨ x = h) w w') : SlS w' (Ng g h) A t :=
  hr.keep (fun k hk hl => hg.block k hl (fun e => by rcases e with e | e; exact hk.1 e; exact hk.2 e)) hg.size (fun _ _ h => h)
theorem Sd.bel {w w' : World} {g h : Nat} {st : WSt} (hs : Sd w g h st) (hb : Below w.heap.size w w') : Sd w' g h st := ⟨hs.fd.bel hb, Blk.bel2 hs.hb hb, hs.ne⟩
theorem Gr.oldN {w w' : World} {g h k : Nat} (hg : Gr (fun x => x = g ∨ x = h) w w') (hk : Ng g h k) (hl : k < w.heap.size) (o : Nat) : w'.cell? ⟨k, o, none⟩ = w.cell? ⟨k, o, none⟩ :=
  hg.cell (p := ⟨k, o, none⟩) hl (fun e => by rcases e with e | e; exact hk.1 e; exact hk.2 e)
def WkC (l : List ByteArray) (N : Nat) : Prop := ∀ a b : Ty, a.count ≤ N → b.count ≤ 2000000 → ∀ (w : World) (g h cc ch : Nat) (C : Option Addr) (c0 : Nat) (st : WSt) (vs us : List Value), SlS w (Ng g h) C l → Sd w g h st → st.1.length = l.length → st.2.length = l.length → RT w (Ng g h) a vs → RT w (Ng g h) b us →
  Calls Try.prog 64 #[.slice C l.length c0, .slice (some ⟨g, 0, none⟩) l.length cc, .slice (some ⟨h, 0, none⟩) l.length ch, .agg vs.toArray, .agg us.toArray] w (WalkP g h (walkT l a b st) w)
set_option maxRecDepth 100000 in
set_option maxHeartbeats 8000000 in
theorem walk_step (l : List ByteArray) (hll : l.length ≤ 100000) (N : Nat) (ih : WkC l N) (hN : N ≤ 2000000) : WkC l (N + 1) := by
  rintro ⟨k, p, n, la, lr⟩ ⟨k', p', n', la', lr'⟩ hct hct2 w g h cc ch C c0 st vs us hss hsd hl1 hl2 hr hr'
  rw [count_mk] at hct
  have HT := Lib.hid hr'
  have HC := Lib.hid (fun V (hv : Gr (fun x => x = g ∨ x = h) w V) => copy_any (.mk k' p' n' la' lr') hct2 V (Ng g h) us (hr'.grN hv))
  rw [count_mk] at hct2
  rw [walkT_mk]
  obtain ⟨A, c, B, d, rfl, ha, hb⟩ := hr.openL
  obtain ⟨A', c', B', d', rfl, ha', hb'⟩ := hr'.openL
  simp only [tyC] at HC HT
  have HXa := Lib.hid ha
  have HXb := Lib.hid hb
  have HYa := Lib.hid ha'
  have HYb := Lib.hid hb'
  have HSS := Lib.hid hss
  have hgl := hsd.fd.lt
  have hhl := Blk.lt hsd.hb
  have HGH := Lib.hid (show g < w.heap.size ∧ h < w.heap.size from ⟨hgl, hhl⟩)
  have hla := len_countL la
  have hlr := len_countL lr
  have hla' := len_countL la'
  have hlr' := len_countL lr'
  have n0 : (0 : Int) ≤ (la.length : Int) := by omega
  have n1 : (la.length : Int) ≤ 2000000 := by omega
  have m0 : (0 : Int) ≤ (lr.length : Int) := by omega
  have m1 : (lr.length : Int) ≤ 2000000 := by omega
  have n0' : (0 : Int) ≤ (la'.length : Int) := by omega
  have n1' : (la'.length : Int) ≤ 2000000 := by omega
  have m0' : (0 : Int) ≤ (lr'.length : Int) := by omega
  have m1' : (lr'.length : Int) ≤ 2000000 := by omega
  have hS1 : Below w.heap.size w ((w.alloc (.cells #[.int .i64 k, .string p, .string n, .slice A la.length c, .slice B lr.length d] 24)).alloc (.cells #[.int .i64 k', .string p', .string n', .slice A' la'.length c', .slice B' lr'.length d'] 24)) := ((Below.refl _ w).alloc (Nat.le_refl _) _).alloc (by simp) _
  have HS1 := Lib.hid hS1
  have HPL := Lib.hid (rplace_any ((w.alloc (.cells #[.int .i64 k, .string p, .string n, .slice A la.length c, .slice B lr.length d] 24)).alloc (.cells #[.int .i64 k', .string p', .string n', .slice A' la'.length c', .slice B' lr'.length d'] 24)) (Ng g h) C c0 l n (hss.bel hS1) hll)
  have HG0 := Lib.hid (show Gr (fun x => x = g ∨ x = h) w ((w.alloc (.cells #[.int .i64 k, .string p, .string n, .slice A la.length c, .slice B lr.length d] 24)).alloc (.cells #[.int .i64 k', .string p', .string n', .slice A' la'.length c', .slice B' lr'.length d'] 24)) from Gr.of_below hS1)
  have HK0 := Lib.hid (show Blk ((w.alloc (.cells #[.int .i64 k, .string p, .string n, .slice A la.length c, .slice B lr.length d] 24)).alloc (.cells #[.int .i64 k', .string p', .string n', .slice A' la'.length c', .slice B' lr'.length d'] 24)) w.heap.size 24 #[.int .i64 k, .string p, .string n, .slice A la.length c, .slice B lr.length d] ∧ Blk ((w.alloc (.cells #[.int .i64 k, .string p, .string n, .slice A la.length c, .slice B lr.length d] 24)).alloc (.cells #[.int .i64 k', .string p', .string n', .slice A' la'.length c', .slice B' lr'.length d'] 24)) (w.heap.size + 1) 24 #[.int .i64 k', .string p', .string n', .slice A' la'.length c', .slice B' lr'.length d'] from ⟨(Blk.new _ _ _).alloc _, Blk.new_at (by simp)⟩)
  have HS0 := Lib.hid (show Sd ((w.alloc (.cells #[.int .i64 k, .string p, .string n, .slice A la.length c, .slice B lr.length d] 24)).alloc (.cells #[.int .i64 k', .string p', .string n', .slice A' la'.length c', .slice B' lr'.length d'] 24)) g h st ∧ st.1.length = l.length ∧ st.2.length = l.length from ⟨hsd.bel hS1, hl1, hl2⟩)
  have HSDW := Lib.hid hsd
  clear hr hr' ha hb ha' hb' hS1 hss hsd
  show Calls Try.prog 64 #[.slice C l.length c0, .slice (some ⟨g, 0, none⟩) l.length cc, .slice (some ⟨h, 0, none⟩) l.length ch, .agg #[.int .i64 k, .string p, .string n, .slice A la.length c, .slice B lr.length d], .agg #[.int .i64 k', .string p', .string n', .slice A' la'.length c', .slice B' lr'.length d']] w _
  by_cases hk : k = 9
  · subst hk
    rw [if_pos rfl]
    cases hp : place l n with
    | none =>
      have hpi : plI l n = -1 := by simp [plI, hp]
      rw [hpi] at HPL
      have hst : stepW l st n (.mk k' p' n' la' lr') = st := by simp [stepW, hp]
      rw [hst]
      clear hst hp hpi hl1 hl2
      by_cases hk2 : 9 = k'
      · subst hk2
        go_enter Try.func64, Try.ntmps64
        go_wp2_with (go_at_call 57; ((with_reducible refine HPL.out.mono ?_); rintro e w1 ⟨rfl, rfl⟩))
        refine bodyPost_ret (results_none rfl _ _ _) rfl ?_
        exact ⟨⟨_, rfl⟩, HS0.out.1, HG0.out⟩
      · have hkb : ((9 : Int) != k') = true := by simpa using hk2
        clear hk2
        go_enter Try.func64, Try.ntmps64
        go_wp2_with (go_at_call 57; ((with_reducible refine HPL.out.mono ?_); rintro e w1 ⟨rfl, rfl⟩))
        refine bodyPost_ret (results_none rfl _ _ _) rfl ?_
        exact ⟨⟨_, rfl⟩, HS0.out.1, HG0.out⟩
    | some i =>
      have hil := place_lt hp
      have i0 : (0 : Int) ≤ (i : Int) := by omega
      have i1 : (i : Int) < (l.length : Int) := by omega
      have hpi : plI l n = (i : Int) := by simp [plI, hp]
      rw [hpi] at HPL
      obtain ⟨b, hb⟩ : ∃ b, st.2[i]? = some b := ⟨_, List.getElem?_eq_getElem (by omega)⟩
      have hcb : ((w.alloc (.cells #[.int .i64 9, .string p, .string n, .slice A la.length c, .slice B lr.length d] 24)).alloc (.cells #[.int .i64 k', .string p', .string n', .slice A' la'.length c', .slice B' lr'.length d'] 24)).cell? ⟨h, i, none⟩ = some (.bool b) := by
        rw [Blk.cell HS0.out.1.hb]
        simp [hb]
      cases b with
      | true =>
        have hst : stepW l st n (.mk k' p' n' la' lr') = st := by simp [stepW, hp, hb]
        rw [hst]
        clear hst hp hpi hb hl1 hl2
        go_enter Try.func64, Try.ntmps64
        go_wp2_with (go_at_call 57; ((with_reducible refine HPL.out.mono ?_); rintro e w1 ⟨rfl, rfl⟩))
        refine bodyPost_ret (results_none rfl _ _ _) rfl ?_
        exact ⟨⟨_, rfl⟩, HS0.out.1, HG0.out⟩
      | false =>
        have hst : stepW l st n (.mk k' p' n' la' lr') = (st.1.set i (.mk k' p' n' la' lr'), st.2.set i true) := by simp [stepW, hp, hb]
        rw [hst]
        have hfz : ((w.alloc (.cells #[.int .i64 9, .string p, .string n, .slice A la.length c, .slice B lr.length d] 24)).alloc (.cells #[.int .i64 k', .string p', .string n', .slice A' la'.length c', .slice B' lr'.length d'] 24)).frozen? ⟨h, i, none⟩ = false := Blk.frozen HS0.out.1.hb i
        have hne := HS0.out.1.ne
        obtain ⟨fi, hfi⟩ : ∃ u, st.1[i]? = some u := ⟨_, List.getElem?_eq_getElem (by omega)⟩
        have hg3 : Gr (fun x => x = g ∨ x = h) w (((w.setCell ⟨h, i, none⟩ (.bool true)).alloc (.cells #[.int .i64 9, .string p, .string n, .slice A la.length c, .slice B lr.length d] 24)).alloc (.cells #[.int .i64 k', .string p', .string n', .slice A' la'.length c', .slice B' lr'.length d'] 24)) := ((((Gr.refl w).setCell (p := ⟨h, i, none⟩) (Or.inr (Or.inr rfl)) _)).alloc _).alloc _
        have hsz3 : (((w.setCell ⟨h, i, none⟩ (.bool true)).alloc (.cells #[.int .i64 9, .string p, .string n, .slice A la.length c, .slice B lr.length d] 24)).alloc (.cells #[.int .i64 k', .string p', .string n', .slice A' la'.length c', .slice B' lr'.length d'] 24)).heap.size = w.heap.size + 1 + 1 := by simp
        have hgs : Gr (fun x => x = h) w (((w.setCell ⟨h, i, none⟩ (.bool true)).alloc (.cells #[.int .i64 9, .string p, .string n, .slice A la.length c, .slice B lr.length d] 24)).alloc (.cells #[.int .i64 k', .string p', .string n', .slice A' la'.length c', .slice B' lr'.length d'] 24)) := (((Gr.refl (S := fun x => x = h) w).in_ (g := h) i (.bool true)).alloc _).alloc _
        have hfd3 : Fd (((w.setCell ⟨h, i, none⟩ (.bool true)).alloc (.cells #[.int .i64 9, .string p, .string n, .slice A la.length c, .slice B lr.length d] 24)).alloc (.cells #[.int .i64 k', .string p', .string n', .slice A' la'.length c', .slice B' lr'.length d'] 24)) (Ng g h) g st.1 := by
          obtain ⟨cs, f1, f2, f3⟩ := HSDW.out.fd
          exact ⟨cs, hgs.blk f1 hne, f2, RTs.keep (fun q hq hl => hgs.block q hl (fun e => hq.2 e)) hgs.size (fun _ _ h => h) _ _ f3⟩
        have hbl3 : Bl (((w.setCell ⟨h, i, none⟩ (.bool true)).alloc (.cells #[.int .i64 9, .string p, .string n, .slice A la.length c, .slice B lr.length d] 24)).alloc (.cells #[.int .i64 k', .string p', .string n', .slice A' la'.length c', .slice B' lr'.length d'] 24)) h (st.2.set i true) := by
          have := ((Blk.set_ HSDW.out.hb i (.bool true)).alloc (.cells #[.int .i64 9, .string p, .string n, .slice A la.length c, .slice B lr.length d] 24)).alloc (.cells #[.int .i64 k', .string p', .string n', .slice A' la'.length c', .slice B' lr'.length d'] 24)
          unfold Bl
          rw [List.map_set, ← List.setIfInBounds_toArray]
          exact this
        have hk3 : Blk (((w.setCell ⟨h, i, none⟩ (.bool true)).alloc (.cells #[.int .i64 9, .string p, .string n, .slice A la.length c, .slice B lr.length d] 24)).alloc (.cells #[.int .i64 k', .string p', .string n', .slice A' la'.length c', .slice B' lr'.length d'] 24)) (w.heap.size + 1) 24 #[.int .i64 k', .string p', .string n', .slice A' la'.length c', .slice B' lr'.length d'] := Blk.new_at (by simp)
        have HFD3 := Lib.hid hfd3
        have HBL3 := Lib.hid hbl3
        have HG3 := Lib.hid hg3
        have HSZ3 := Lib.hid hsz3
        have z0 := hk3.cell 0
        have z1 := hk3.cell 1
        have z2 := hk3.cell 2
        have z3 := hk3.cell 3
        have z4 := hk3.cell 4
        have zl := hk3.lt
        have HFI := Lib.hid hfi
        have HL1 := Lib.hid hl1
        have HNE := Lib.hid hne
        clear hst hp hpi hb hl1 hl2 hg3 hsz3 hfd3 hbl3 hk3 hfi hgs
        go_enter Try.func64, Try.ntmps64
        go_wp2_with (first | (go_at_call 57; ((with_reducible refine HPL.out.mono ?_); rintro e w1 ⟨rfl, rfl⟩)) | (go_at_call 30; ((with_reducible refine (HC.out _ HG3.out).mono ?_); rintro e w5 ⟨k2, p2, n2, A2, m2, c2, B2, l2, d2, rfl, hr5, hb5⟩); have hF5 := HFD3.out.bel hb5; have hB5 := Blk.bel2 HBL3.out hb5; have HG5 := Lib.hid (HG3.out.trans (Gr.of_below hb5)); obtain ⟨zz, hzr, hat5⟩ := hF5.at_ HFI.out; obtain ⟨k3, p3, n3, A3, m3, c3, B3, l3, d3, rfl⟩ := hzr.shape; have x0 := hat5 0 _ rfl; have x1 := hat5 1 _ rfl; have x2 := hat5 2 _ rfl; have x3 := hat5 3 _ rfl; have x4 := hat5 4 _ rfl; rw [Nat.add_zero] at x0; have f0 := hF5.thaw (i * 5); have f1 := hF5.thaw (i * 5 + 1); have f2 := hF5.thaw (i * 5 + 2); have f3 := hF5.thaw (i * 5 + 3); have f4 := hF5.thaw (i * 5 + 4); have HR5 := Lib.hid hr5; have HF5 := Lib.hid hF5; have HB5 := Lib.hid hB5; clear hr5 hF5 hB5 hat5 hb5))
        have hP := HF5.out.put (i := i) (by rw [HL1.out]; exact hil) (HR5.out.more (F' := Ng g h) (fun q hq => by have h1 := HGH.out; have h2 := HSZ3.out; rw [h2] at hq; show q ≠ g ∧ q ≠ h; omega))
        refine bodyPost_ret (results_none rfl _ _ _) rfl ?_
        exact ⟨⟨_, rfl⟩, ⟨hP.1, hP.2.blk HB5.out (fun e => HNE.out (show g = h from (show h = g from e).symm)), HNE.out⟩, HG5.out.trans (hP.2.mono (fun q _ e => Or.inl e))⟩
  · rw [if_neg hk]
    have hk9 : (k == 9) = false := by simpa using hk
    by_cases hkk : k = k'
    · subst hkk
      by_cases h6 : k = 6
      · subst h6
        rw [if_pos ⟨rfl, Or.inl rfl⟩]
        clear hk hk9 hl1 hl2
        go_enter Try.func64, Try.ntmps64
        go_wp2
        obtain ⟨M, hMe⟩ : ∃ M, min la.length la'.length = M := ⟨_, rfl⟩
        have HME := Lib.hid hMe
        clear hMe
        go_loopg [11] M (fun gk v11 wr => ∃ (j : Nat) (sj : WSt), j + gk = M ∧ v11 = .int .i64 j ∧ Gr (fun x => x = g ∨ x = h) w wr ∧ Blk wr w.heap.size 24 #[.int .i64 6, .string p, .string n, .slice A la.length c, .slice B lr.length d] ∧ Blk wr (w.heap.size + 1) 24 #[.int .i64 6, .string p', .string n', .slice A' la'.length c', .slice B' lr'.length d'] ∧ Sd wr g h sj ∧ sj.1.length = l.length ∧ sj.2.length = l.length ∧ walkL l la la' st = walkL l (la.drop j) (la'.drop j) sj)
        case atStart => exact ⟨0, st, by simp, rfl, HG0.out, HK0.out.1, HK0.out.2, HS0.out.1, HS0.out.2.1, HS0.out.2.2, by simp⟩
        case round =>
          obtain ⟨j, sj, hj, rfl, hgr, hka, hkb, hsd, hl1, hl2, heq⟩ := hrel
          have HEQ := Lib.hid heq
          have HGR := Lib.hid hgr
          have HKA := Lib.hid hka
          have HKB := Lib.hid hkb
          have hM := HME.out
          have a3 := hka.cell 3
          have b3 := hkb.cell 3
          have al := hka.lt
          have bl := hkb.lt
          clear heq
          cases gk with
          | zero =>
            obtain rfl : j = M := by omega
            have hE := HEQ.out
            rw [walkL_end (by omega)] at hE
            have HSD := Lib.hid (show Sd wr g h (walkL l la la' st) ∧ (walkL l la la' st).1.length = l.length ∧ (walkL l la la' st).2.length = l.length by rw [hE]; exact ⟨hsd, hl1, hl2⟩)
            have hcase : la.length ≤ j ∨ (j < la.length ∧ la'.length ≤ j) := by omega
            clear hE hj hsd hl1 hl2 hgr hka hkb hM
            rcases hcase with hc1 | ⟨hc1, hc2⟩
            · have e1 : ¬ ((j : Int) < (la.length : Int)) := by omega
              have e2 : decide (j < la.length) = false := decide_eq_false (by omega)
              have e3 : decide ((j : Int) < (la.length : Int)) = false := decide_eq_false e1
              clear hc1
              go_wp2
              clear e1 e2 e3 a3 b3 al bl
              obtain ⟨M, hMe⟩ : ∃ M, min lr.length lr'.length = M := ⟨_, rfl⟩
              have HME := Lib.hid hMe
              clear hMe
              go_loopg [12] M (fun gk v12 wr => ∃ (j : Nat) (sj : WSt), j + gk = M ∧ v12 = .int .i64 j ∧ Gr (fun x => x = g ∨ x = h) w wr ∧ Blk wr w.heap.size 24 #[.int .i64 6, .string p, .string n, .slice A la.length c, .slice B lr.length d] ∧ Blk wr (w.heap.size + 1) 24 #[.int .i64 6, .string p', .string n', .slice A' la'.length c', .slice B' lr'.length d'] ∧ Sd wr g h sj ∧ sj.1.length = l.length ∧ sj.2.length = l.length ∧ walkL l lr lr' (walkL l la la' st) = walkL l (lr.drop j) (lr'.drop j) sj)
              case atStart => exact ⟨0, (walkL l la la' st), by simp, rfl, HGR.out, HKA.out, HKB.out, HSD.out.1, HSD.out.2.1, HSD.out.2.2, by simp⟩
              case round =>
                obtain ⟨j, sj, hj, rfl, hgr, hka, hkb, hsd, hl1, hl2, heq⟩ := hrel
                have HEQ := Lib.hid heq
                have HGR := Lib.hid hgr
                have HKA := Lib.hid hka
                have HKB := Lib.hid hkb
                have hM := HME.out
                have a3 := hka.cell 4
                have b3 := hkb.cell 4
                have al := hka.lt
                have bl := hkb.lt
                clear heq
                cases gk with
                | zero =>
                  obtain rfl : j = M := by omega
                  have hE := HEQ.out
                  rw [walkL_end (by omega)] at hE
                  have HSD := Lib.hid (show Sd wr g h (walkL l lr lr' (walkL l la la' st)) ∧ (walkL l lr lr' (walkL l la la' st)).1.length = l.length ∧ (walkL l lr lr' (walkL l la la' st)).2.length = l.length by rw [hE]; exact ⟨hsd, hl1, hl2⟩)
                  have hcase : lr.length ≤ j ∨ (j < lr.length ∧ lr'.length ≤ j) := by omega
                  clear hE hj hsd hl1 hl2 hgr hka hkb hM
                  rcases hcase with hc1 | ⟨hc1, hc2⟩
                  · have e1 : ¬ ((j : Int) < (lr.length : Int)) := by omega
                    have e2 : decide (j < lr.length) = false := decide_eq_false (by omega)
                    have e3 : decide ((j : Int) < (lr.length : Int)) = false := decide_eq_false e1
                    clear hc1
                    go_wp2
                    refine bodyPost_end (results_none rfl _ _ _) rfl ?_
                    exact ⟨⟨_, rfl⟩, HSD.out.1, HGR.out⟩
                  · have e1 : (j : Int) < (lr.length : Int) := by omega
                    have e2 : decide (j < lr.length) = true := decide_eq_true (by omega)
                    have e3 : decide ((j : Int) < (lr.length : Int)) = true := decide_eq_true e1
                    have e4 : ¬ ((j : Int) < (lr'.length : Int)) := by omega
                    have e5 : decide (j < lr'.length) = false := decide_eq_false (by omega)
                    have e6 : decide ((j : Int) < (lr'.length : Int)) = false := decide_eq_false e4
                    clear hc1 hc2
                    go_wp2
                    refine bodyPost_end (results_none rfl _ _ _) rfl ?_
                    exact ⟨⟨_, rfl⟩, HSD.out.1, HGR.out⟩
                | succ gg =>
                  have hjl : j < lr.length := by omega
                  have hjl2 : j < lr'.length := by omega
                  obtain ⟨u, hu⟩ : ∃ u, lr[j]? = some u := ⟨_, List.getElem?_eq_getElem hjl⟩
                  obtain ⟨v, hv⟩ : ∃ v, lr'[j]? = some v := ⟨_, List.getElem?_eq_getElem hjl2⟩
                  obtain ⟨q, o, vs, hAq, hFq, hgl, hrep, hat⟩ := (HXb.out.grN hgr).at_ hu
                  obtain ⟨q', o', us, hAq', hFq', hgl', hrep', hat'⟩ := (HYb.out.grN hgr).at_ hv
                  have hck := count_kid lr j u hu
                  have hcv := count_kid lr' j v hv
                  have HEQ2 := Lib.hid (HEQ.out.trans (walkL_drop hu hv))
                  have HI := Lib.hid (fun w' (hb' : Below wr.heap.size wr w') => ih u v (by omega) (by omega) w' g h cc ch C c0 sj vs us ((HSS.out.grN hgr).bel hb') (hsd.bel hb') hl1 hl2 (hrep.bel hb') (hrep'.bel hb'))
                  have HLL := Lib.hid (walkT_len l u v sj)
                  have HL1 := Lib.hid hl1
                  have HL2 := Lib.hid hl2
                  obtain ⟨k1, p1, n1, A1, m1, c1, B1, l1, d1, rfl⟩ := hrep.shape
                  obtain ⟨k2, p2, n2, A2, m2, c2, B2, l2, d2, rfl⟩ := hrep'.shape
                  have q0 := hat 0 _ rfl
                  have q1 := hat 1 _ rfl
                  have q2 := hat 2 _ rfl
                  have q3 := hat 3 _ rfl
                  have q4 := hat 4 _ rfl
                  have r0 := hat' 0 _ rfl
                  have r1 := hat' 1 _ rfl
                  have r2 := hat' 2 _ rfl
                  have r3 := hat' 3 _ rfl
                  have r4 := hat' 4 _ rfl
                  have e1 : (j : Int) < (lr.length : Int) := by omega
                  have e2 : decide (j < lr.length) = true := decide_eq_true (by omega)
                  have e3 : decide ((j : Int) < (lr.length : Int)) = true := decide_eq_true e1
                  have e4 : (j : Int) < (lr'.length : Int) := by omega
                  have e5 : decide (j < lr'.length) = true := decide_eq_true (by omega)
                  have e6 : decide ((j : Int) < (lr'.length : Int)) = true := decide_eq_true e4
                  have j2 : (j : Int) ≤ 2000000 := by omega
                  simp only [Nat.add_zero] at q0 r0
                  have hb0 : ¬ (fun x => x = g ∨ x = h) w.heap.size := by have := HGH.out; show ¬ (w.heap.size = g ∨ w.heap.size = h); omega
                  have hb1 : ¬ (fun x => x = g ∨ x = h) (w.heap.size + 1) := by have := HGH.out; show ¬ (w.heap.size + 1 = g ∨ w.heap.size + 1 = h); omega
                  have HAq := Lib.hid hAq
                  have HAq' := Lib.hid hAq'
                  clear hu hv hat hat' hrep hrep' HEQ hM hgr hka hkb hsd hl1 hl2 hAq hAq'
                  obtain ⟨ts, hts⟩ : ∃ ts, walkT l u v sj = ts := ⟨_, rfl⟩
                  rw [hts] at HEQ2 HI HLL
                  clear hts
                  go_wp2
                  refine wp_region_held_drew (S := fun W => Gr (fun x => x = g ∨ x = h) wr W) (by kernel_rfl) (Gr.refl wr).drew (fun hS0 => ?_)
                  refine wpAnyH_take (i := 0) (v := .slice C l.length c0) rfl (by kernel_rfl) (by kernel_rfl) (by kernel_rfl) (fun _ _ _ h => h) (Or.inl ⟨rfl, fun w' hS => by (unfold execOp; go_simp)⟩) hS0 ?_
                  simp only [Act.put, List.getElem_toArray, List.getElem_cons_zero, List.getElem_cons_succ, List.setIfInBounds_toArray, List.set_cons_zero, List.set_cons_succ]
                  refine wpAnyH_take (i := 1) (v := .slice (some ⟨g, 0, none⟩) l.length cc) rfl (by kernel_rfl) (by kernel_rfl) (by kernel_rfl) (fun _ _ _ h => h) (Or.inl ⟨rfl, fun w' hS => by (unfold execOp; go_simp)⟩) hS0 ?_
                  simp only [Act.put, List.getElem_toArray, List.getElem_cons_zero, List.getElem_cons_succ, List.setIfInBounds_toArray, List.set_cons_zero, List.set_cons_succ]
                  refine wpAnyH_take (i := 2) (v := .slice (some ⟨h, 0, none⟩) l.length ch) rfl (by kernel_rfl) (by kernel_rfl) (by kernel_rfl) (fun _ _ _ h => h) (Or.inl ⟨rfl, fun w' hS => by (unfold execOp; go_simp)⟩) hS0 ?_
                  simp only [Act.put, List.getElem_toArray, List.getElem_cons_zero, List.getElem_cons_succ, List.setIfInBounds_toArray, List.set_cons_zero, List.set_cons_succ]
                  refine wpAnyH_take (i := 3) (v := .pointer (some ⟨w.heap.size, 4, none⟩)) rfl (by kernel_rfl) (by kernel_rfl) (by kernel_rfl) (fun _ _ _ h => h) (Or.inl ⟨rfl, fun w' hS => by (unfold execOp; go_simp)⟩) hS0 ?_
                  simp only [Act.put, List.getElem_toArray, List.getElem_cons_zero, List.getElem_cons_succ, List.setIfInBounds_toArray, List.set_cons_zero, List.set_cons_succ]
                  refine wpAnyH_take (i := 4) (v := .slice B lr.length d) rfl (by kernel_rfl) (by kernel_rfl) (by kernel_rfl) (fun _ _ _ h => h) (Or.inl ⟨rfl, fun w' hS => by (have ya := (hS.cell (p := ⟨w.heap.size, 4, none⟩) al hb0).trans a3; have yl := Nat.lt_of_lt_of_le al hS.size; unfold execOp; go_simp)⟩) hS0 ?_
                  simp only [Act.put, List.getElem_toArray, List.getElem_cons_zero, List.getElem_cons_succ, List.setIfInBounds_toArray, List.set_cons_zero, List.set_cons_succ]
                  refine wpAnyH_take (i := 5) (v := .int .i64 j) rfl (by kernel_rfl) (by kernel_rfl) (by kernel_rfl) (fun _ _ _ h => h) (Or.inl ⟨rfl, fun w' hS => by (unfold execOp; go_simp)⟩) hS0 ?_
                  simp only [Act.put, List.getElem_toArray, List.getElem_cons_zero, List.getElem_cons_succ, List.setIfInBounds_toArray, List.set_cons_zero, List.set_cons_succ]
                  refine wpAnyH_take (i := 6) (v := .pointer (some ⟨q, o + j * 5, none⟩)) rfl (by kernel_rfl) (by kernel_rfl) (by kernel_rfl) (fun _ _ _ h => h) (Or.inl ⟨rfl, fun w' hS => by (have za := HAq.out; unfold execOp; go_simp)⟩) hS0 ?_
                  simp only [Act.put, List.getElem_toArray, List.getElem_cons_zero, List.getElem_cons_succ, List.setIfInBounds_toArray, List.set_cons_zero, List.set_cons_succ]
                  refine wpAnyH_take (i := 7) (v := .agg #[.int .i64 k1, .string p1, .string n1, .slice A1 m1 c1, .slice B1 l1 d1]) rfl (by kernel_rfl) (by kernel_rfl) (by kernel_rfl) (fun _ _ _ h => h) (Or.inl ⟨rfl, fun w' hS => by (have y0 := (hS.oldN hFq hgl _).trans q0; have y1 := (hS.oldN hFq hgl _).trans q1; have y2 := (hS.oldN hFq hgl _).trans q2; have y3 := (hS.oldN hFq hgl _).trans q3; have y4 := (hS.oldN hFq hgl _).trans q4; unfold execOp; go_simp)⟩) hS0 ?_
                  simp only [Act.put, List.getElem_toArray, List.getElem_cons_zero, List.getElem_cons_succ, List.setIfInBounds_toArray, List.set_cons_zero, List.set_cons_succ]
                  refine wpAnyH_take (i := 8) (v := .pointer (some ⟨w.heap.size + 1, 4, none⟩)) rfl (by kernel_rfl) (by kernel_rfl) (by kernel_rfl) (fun _ _ _ h => h) (Or.inl ⟨rfl, fun w' hS => by (unfold execOp; go_simp)⟩) hS0 ?_
                  simp only [Act.put, List.getElem_toArray, List.getElem_cons_zero, List.getElem_cons_succ, List.setIfInBounds_toArray, List.set_cons_zero, List.set_cons_succ]
                  refine wpAnyH_take (i := 9) (v := .slice B' lr'.length d') rfl (by kernel_rfl) (by kernel_rfl) (by kernel_rfl) (fun _ _ _ h => h) (Or.inl ⟨rfl, fun w' hS => by (have ya := (hS.cell (p := ⟨w.heap.size + 1, 4, none⟩) bl hb1).trans b3; have yl := Nat.lt_of_lt_of_le bl hS.size; unfold execOp; go_simp)⟩) hS0 ?_
                  simp only [Act.put, List.getElem_toArray, List.getElem_cons_zero, List.getElem_cons_succ, List.setIfInBounds_toArray, List.set_cons_zero, List.set_cons_succ]
                  refine wpAnyH_take (i := 10) (v := .int .i64 j) rfl (by kernel_rfl) (by kernel_rfl) (by kernel_rfl) (fun _ _ _ h => h) (Or.inl ⟨rfl, fun w' hS => by (unfold execOp; go_simp)⟩) hS0 ?_
                  simp only [Act.put, List.getElem_toArray, List.getElem_cons_zero, List.getElem_cons_succ, List.setIfInBounds_toArray, List.set_cons_zero, List.set_cons_succ]
                  refine wpAnyH_take (i := 11) (v := .pointer (some ⟨q', o' + j * 5, none⟩)) rfl (by kernel_rfl) (by kernel_rfl) (by kernel_rfl) (fun _ _ _ h => h) (Or.inl ⟨rfl, fun w' hS => by (have za := HAq'.out; unfold execOp; go_simp)⟩) hS0 ?_
                  simp only [Act.put, List.getElem_toArray, List.getElem_cons_zero, List.getElem_cons_succ, List.setIfInBounds_toArray, List.set_cons_zero, List.set_cons_succ]
                  refine wpAnyH_take (i := 12) (v := .agg #[.int .i64 k2, .string p2, .string n2, .slice A2 m2 c2, .slice B2 l2 d2]) rfl (by kernel_rfl) (by kernel_rfl) (by kernel_rfl) (fun _ _ _ h => h) (Or.inl ⟨rfl, fun w' hS => by (have y0 := (hS.oldN hFq' hgl' _).trans r0; have y1 := (hS.oldN hFq' hgl' _).trans r1; have y2 := (hS.oldN hFq' hgl' _).trans r2; have y3 := (hS.oldN hFq' hgl' _).trans r3; have y4 := (hS.oldN hFq' hgl' _).trans r4; unfold execOp; go_simp)⟩) hS0 ?_
                  simp only [Act.put, List.getElem_toArray, List.getElem_cons_zero, List.getElem_cons_succ, List.setIfInBounds_toArray, List.set_cons_zero, List.set_cons_succ]
                  refine wpAnyH_one (i := 13) (by kernel_rfl) rfl rfl (op_call (args := #[.slice C l.length c0, .slice (some ⟨g, 0, none⟩) l.length cc, .slice (some ⟨h, 0, none⟩) l.length ch, .agg #[.int .i64 k1, .string p1, .string n1, .slice A1 m1 c1, .slice B1 l1 d1], .agg #[.int .i64 k2, .string p2, .string n2, .slice A2 m2 c2, .slice B2 l2 d2]]) (f := 64) (by unfold execOp; go_simp) ((HI.out _ (Below.refl _ wr).drew).mono ?_))
                  rintro e w5 ⟨⟨vv, rfl⟩, hs5, hg5⟩
                  have hG5 : Gr (fun x => x = g ∨ x = h) wr w5 := hS0.trans hg5
                  refine And.intro hG5 ?_
                  simp only [Act.put, List.getElem_toArray, List.getElem_cons_zero, List.getElem_cons_succ, List.setIfInBounds_toArray, List.set_cons_zero, List.set_cons_succ]
                  refine wpAnyH_done (by kernel_rfl) ?_ _
                  have HF := Lib.hid (show Gr (fun x => x = g ∨ x = h) w w5 ∧ Blk w5 w.heap.size 24 #[.int .i64 6, .string p, .string n, .slice A la.length c, .slice B lr.length d] ∧ Blk w5 (w.heap.size + 1) 24 #[.int .i64 6, .string p', .string n', .slice A' la'.length c', .slice B' lr'.length d'] ∧ Sd w5 g h ts ∧ ts.1.length = l.length ∧ ts.2.length = l.length from ⟨HGR.out.trans hG5, hG5.blk HKA.out hb0, hG5.blk HKB.out hb1, hs5, HLL.out.1.trans HL1.out, HLL.out.2.trans HL2.out⟩)
                  clear hS0 hG5 hs5 hg5 a3 b3
                  go_wp2
                  go_roundg gg
                  case measure => omega
                  case rel => exact ⟨j + 1, ts, by omega, by go_num, HF.out.1, HF.out.2.1, HF.out.2.2.1, HF.out.2.2.2.1, HF.out.2.2.2.2.1, HF.out.2.2.2.2.2, HEQ2.out⟩
            · have e1 : (j : Int) < (la.length : Int) := by omega
              have e2 : decide (j < la.length) = true := decide_eq_true (by omega)
              have e3 : decide ((j : Int) < (la.length : Int)) = true := decide_eq_true e1
              have e4 : ¬ ((j : Int) < (la'.length : Int)) := by omega
              have e5 : decide (j < la'.length) = false := decide_eq_false (by omega)
              have e6 : decide ((j : Int) < (la'.length : Int)) = false := decide_eq_false e4
              clear hc1 hc2
              go_wp2
              clear e1 e2 e3 a3 b3 al bl
              obtain ⟨M, hMe⟩ : ∃ M, min lr.length lr'.length = M := ⟨_, rfl⟩
              have HME := Lib.hid hMe
              clear hMe
              go_loopg [12] M (fun gk v12 wr => ∃ (j : Nat) (sj : WSt), j + gk = M ∧ v12 = .int .i64 j ∧ Gr (fun x => x = g ∨ x = h) w wr ∧ Blk wr w.heap.size 24 #[.int .i64 6, .string p, .string n, .slice A la.length c, .slice B lr.length d] ∧ Blk wr (w.heap.size + 1) 24 #[.int .i64 6, .string p', .string n', .slice A' la'.length c', .slice B' lr'.length d'] ∧ Sd wr g h sj ∧ sj.1.length = l.length ∧ sj.2.length = l.length ∧ walkL l lr lr' (walkL l la la' st) = walkL l (lr.drop j) (lr'.drop j) sj)
              case atStart => exact ⟨0, (walkL l la la' st), by simp, rfl, HGR.out, HKA.out, HKB.out, HSD.out.1, HSD.out.2.1, HSD.out.2.2, by simp⟩
              case round =>
                obtain ⟨j, sj, hj, rfl, hgr, hka, hkb, hsd, hl1, hl2, heq⟩ := hrel
                have HEQ := Lib.hid heq
                have HGR := Lib.hid hgr
                have HKA := Lib.hid hka
                have HKB := Lib.hid hkb
                have hM := HME.out
                have a3 := hka.cell 4
                have b3 := hkb.cell 4
                have al := hka.lt
                have bl := hkb.lt
                clear heq
                cases gk with
                | zero =>
                  obtain rfl : j = M := by omega
                  have hE := HEQ.out
                  rw [walkL_end (by omega)] at hE
                  have HSD := Lib.hid (show Sd wr g h (walkL l lr lr' (walkL l la la' st)) ∧ (walkL l lr lr' (walkL l la la' st)).1.length = l.length ∧ (walkL l lr lr' (walkL l la la' st)).2.length = l.length by rw [hE]; exact ⟨hsd, hl1, hl2⟩)
                  have hcase : lr.length ≤ j ∨ (j < lr.length ∧ lr'.length ≤ j) := by omega
                  clear hE hj hsd hl1 hl2 hgr hka hkb hM
                  rcases hcase with hc1 | ⟨hc1, hc2⟩
                  · have e1 : ¬ ((j : Int) < (lr.length : Int)) := by omega
                    have e2 : decide (j < lr.length) = false := decide_eq_false (by omega)
                    have e3 : decide ((j : Int) < (lr.length : Int)) = false := decide_eq_false e1
                    clear hc1
                    go_wp2
                    refine bodyPost_end (results_none rfl _ _ _) rfl ?_
                    exact ⟨⟨_, rfl⟩, HSD.out.1, HGR.out⟩
                  · have e1 : (j : Int) < (lr.length : Int) := by omega
                    have e2 : decide (j < lr.length) = true := decide_eq_true (by omega)
                    have e3 : decide ((j : Int) < (lr.length : Int)) = true := decide_eq_true e1
                    have e4 : ¬ ((j : Int) < (lr'.length : Int)) := by omega
                    have e5 : decide (j < lr'.length) = false := decide_eq_false (by omega)
                    have e6 : decide ((j : Int) < (lr'.length : Int)) = false := decide_eq_false e4
                    clear hc1 hc2
                    go_wp2
                    refine bodyPost_end (results_none rfl _ _ _) rfl ?_
                    exact ⟨⟨_, rfl⟩, HSD.out.1, HGR.out⟩
                | succ gg =>
                  have hjl : j < lr.length := by omega
                  have hjl2 : j < lr'.length := by omega
                  obtain ⟨u, hu⟩ : ∃ u, lr[j]? = some u := ⟨_, List.getElem?_eq_getElem hjl⟩
                  obtain ⟨v, hv⟩ : ∃ v, lr'[j]? = some v := ⟨_, List.getElem?_eq_getElem hjl2⟩
                  obtain ⟨q, o, vs, hAq, hFq, hgl, hrep, hat⟩ := (HXb.out.grN hgr).at_ hu
                  obtain ⟨q', o', us, hAq', hFq', hgl', hrep', hat'⟩ := (HYb.out.grN hgr).at_ hv
                  have hck := count_kid lr j u hu
                  have hcv := count_kid lr' j v hv
                  have HEQ2 := Lib.hid (HEQ.out.trans (walkL_drop hu hv))
                  have HI := Lib.hid (fun w' (hb' : Below wr.heap.size wr w') => ih u v (by omega) (by omega) w' g h cc ch C c0 sj vs us ((HSS.out.grN hgr).bel hb') (hsd.bel hb') hl1 hl2 (hrep.bel hb') (hrep'.bel hb'))
                  have HLL := Lib.hid (walkT_len l u v sj)
                  have HL1 := Lib.hid hl1
                  have HL2 := Lib.hid hl2
                  obtain ⟨k1, p1, n1, A1, m1, c1, B1, l1, d1, rfl⟩ := hrep.shape
                  obtain ⟨k2, p2, n2, A2, m2, c2, B2, l2, d2, rfl⟩ := hrep'.shape
                  have q0 := hat 0 _ rfl
                  have q1 := hat 1 _ rfl
                  have q2 := hat 2 _ rfl
                  have q3 := hat 3 _ rfl
                  have q4 := hat 4 _ rfl
                  have r0 := hat' 0 _ rfl
                  have r1 := hat' 1 _ rfl
                  have r2 := hat' 2 _ rfl
                  have r3 := hat' 3 _ rfl
                  have r4 := hat' 4 _ rfl
                  have e1 : (j : Int) < (lr.length : Int) := by omega
                  have e2 : decide (j < lr.length) = true := decide_eq_true (by omega)
                  have e3 : decide ((j : Int) < (lr.length : Int)) = true := decide_eq_true e1
                  have e4 : (j : Int) < (lr'.length : Int) := by omega
                  have e5 : decide (j < lr'.length) = true := decide_eq_true (by omega)
                  have e6 : decide ((j : Int) < (lr'.length : Int)) = true := decide_eq_true e4
                  have j2 : (j : Int) ≤ 2000000 := by omega
                  simp only [Nat.add_zero] at q0 r0
                  have hb0 : ¬ (fun x => x = g ∨ x = h) w.heap.size := by have := HGH.out; show ¬ (w.heap.size = g ∨ w.heap.size = h); omega
                  have hb1 : ¬ (fun x => x = g ∨ x = h) (w.heap.size + 1) := by have := HGH.out; show ¬ (w.heap.size + 1 = g ∨ w.heap.size + 1 = h); omega
                  have HAq := Lib.hid hAq
                  have HAq' := Lib.hid hAq'
                  clear hu hv hat hat' hrep hrep' HEQ hM hgr hka hkb hsd hl1 hl2 hAq hAq'
                  obtain ⟨ts, hts⟩ : ∃ ts, walkT l u v sj = ts := ⟨_, rfl⟩
                  rw [hts] at HEQ2 HI HLL
                  clear hts
                  go_wp2
                  refine wp_region_held_drew (S := fun W => Gr (fun x => x = g ∨ x = h) wr W) (by kernel_rfl) (Gr.refl wr).drew (fun hS0 => ?_)
                  refine wpAnyH_take (i := 0) (v := .slice C l.length c0) rfl (by kernel_rfl) (by kernel_rfl) (by kernel_rfl) (fun _ _ _ h => h) (Or.inl ⟨rfl, fun w' hS => by (unfold execOp; go_simp)⟩) hS0 ?_
                  simp only [Act.put, List.getElem_toArray, List.getElem_cons_zero, List.getElem_cons_succ, List.setIfInBounds_toArray, List.set_cons_zero, List.set_cons_succ]
                  refine wpAnyH_take (i := 1) (v := .slice (some ⟨g, 0, none⟩) l.length cc) rfl (by kernel_rfl) (by kernel_rfl) (by kernel_rfl) (fun _ _ _ h => h) (Or.inl ⟨rfl, fun w' hS => by (unfold execOp; go_simp)⟩) hS0 ?_
                  simp only [Act.put, List.getElem_toArray, List.getElem_cons_zero, List.getElem_cons_succ, List.setIfInBounds_toArray, List.set_cons_zero, List.set_cons_succ]
                  refine wpAnyH_take (i := 2) (v := .slice (some ⟨h, 0, none⟩) l.length ch) rfl (by kernel_rfl) (by kernel_rfl) (by kernel_rfl) (fun _ _ _ h => h) (Or.inl ⟨rfl, fun w' hS => by (unfold execOp; go_simp)⟩) hS0 ?_
                  simp only [Act.put, List.getElem_toArray, List.getElem_cons_zero, List.getElem_cons_succ, List.setIfInBounds_toArray, List.set_cons_zero, List.set_cons_succ]
                  refine wpAnyH_take (i := 3) (v := .pointer (some ⟨w.heap.size, 4, none⟩)) rfl (by kernel_rfl) (by kernel_rfl) (by kernel_rfl) (fun _ _ _ h => h) (Or.inl ⟨rfl, fun w' hS => by (unfold execOp; go_simp)⟩) hS0 ?_
                  simp only [Act.put, List.getElem_toArray, List.getElem_cons_zero, List.getElem_cons_succ, List.setIfInBounds_toArray, List.set_cons_zero, List.set_cons_succ]
                  refine wpAnyH_take (i := 4) (v := .slice B lr.length d) rfl (by kernel_rfl) (by kernel_rfl) (by kernel_rfl) (fun _ _ _ h => h) (Or.inl ⟨rfl, fun w' hS => by (have ya := (hS.cell (p := ⟨w.heap.size, 4, none⟩) al hb0).trans a3; have yl := Nat.lt_of_lt_of_le al hS.size; unfold execOp; go_simp)⟩) hS0 ?_
                  simp only [Act.put, List.getElem_toArray, List.getElem_cons_zero, List.getElem_cons_succ, List.setIfInBounds_toArray, List.set_cons_zero, List.set_cons_succ]
                  refine wpAnyH_take (i := 5) (v := .int .i64 j) rfl (by kernel_rfl) (by kernel_rfl) (by kernel_rfl) (fun _ _ _ h => h) (Or.inl ⟨rfl, fun w' hS => by (unfold execOp; go_simp)⟩) hS0 ?_
                  simp only [Act.put, List.getElem_toArray, List.getElem_cons_zero, List.getElem_cons_succ, List.setIfInBounds_toArray, List.set_cons_zero, List.set_cons_succ]
                  refine wpAnyH_take (i := 6) (v := .pointer (some ⟨q, o + j * 5, none⟩)) rfl (by kernel_rfl) (by kernel_rfl) (by kernel_rfl) (fun _ _ _ h => h) (Or.inl ⟨rfl, fun w' hS => by (have za := HAq.out; unfold execOp; go_simp)⟩) hS0 ?_
                  simp only [Act.put, List.getElem_toArray, List.getElem_cons_zero, List.getElem_cons_succ, List.setIfInBounds_toArray, List.set_cons_zero, List.set_cons_succ]
                  refine wpAnyH_take (i := 7) (v := .agg #[.int .i64 k1, .string p1, .string n1, .slice A1 m1 c1, .slice B1 l1 d1]) rfl (by kernel_rfl) (by kernel_rfl) (by kernel_rfl) (fun _ _ _ h => h) (Or.inl ⟨rfl, fun w' hS => by (have y0 := (hS.oldN hFq hgl _).trans q0; have y1 := (hS.oldN hFq hgl _).trans q1; have y2 := (hS.oldN hFq hgl _).trans q2; have y3 := (hS.oldN hFq hgl _).trans q3; have y4 := (hS.oldN hFq hgl _).trans q4; unfold execOp; go_simp)⟩) hS0 ?_
                  simp only [Act.put, List.getElem_toArray, List.getElem_cons_zero, List.getElem_cons_succ, List.setIfInBounds_toArray, List.set_cons_zero, List.set_cons_succ]
                  refine wpAnyH_take (i := 8) (v := .pointer (some ⟨w.heap.size + 1, 4, none⟩)) rfl (by kernel_rfl) (by kernel_rfl) (by kernel_rfl) (fun _ _ _ h => h) (Or.inl ⟨rfl, fun w' hS => by (unfold execOp; go_simp)⟩) hS0 ?_
                  simp only [Act.put, List.getElem_toArray, List.getElem_cons_zero, List.getElem_cons_succ, List.setIfInBounds_toArray, List.set_cons_zero, List.set_cons_succ]
                  refine wpAnyH_take (i := 9) (v := .slice B' lr'.length d') rfl (by kernel_rfl) (by kernel_rfl) (by kernel_rfl) (fun _ _ _ h => h) (Or.inl ⟨rfl, fun w' hS => by (have ya := (hS.cell (p := ⟨w.heap.size + 1, 4, none⟩) bl hb1).trans b3; have yl := Nat.lt_of_lt_of_le bl hS.size; unfold execOp; go_simp)⟩) hS0 ?_
                  simp only [Act.put, List.getElem_toArray, List.getElem_cons_zero, List.getElem_cons_succ, List.setIfInBounds_toArray, List.set_cons_zero, List.set_cons_succ]
                  refine wpAnyH_take (i := 10) (v := .int .i64 j) rfl (by kernel_rfl) (by kernel_rfl) (by kernel_rfl) (fun _ _ _ h => h) (Or.inl ⟨rfl, fun w' hS => by (unfold execOp; go_simp)⟩) hS0 ?_
                  simp only [Act.put, List.getElem_toArray, List.getElem_cons_zero, List.getElem_cons_succ, List.setIfInBounds_toArray, List.set_cons_zero, List.set_cons_succ]
                  refine wpAnyH_take (i := 11) (v := .pointer (some ⟨q', o' + j * 5, none⟩)) rfl (by kernel_rfl) (by kernel_rfl) (by kernel_rfl) (fun _ _ _ h => h) (Or.inl ⟨rfl, fun w' hS => by (have za := HAq'.out; unfold execOp; go_simp)⟩) hS0 ?_
                  simp only [Act.put, List.getElem_toArray, List.getElem_cons_zero, List.getElem_cons_succ, List.setIfInBounds_toArray, List.set_cons_zero, List.set_cons_succ]
                  refine wpAnyH_take (i := 12) (v := .agg #[.int .i64 k2, .string p2, .string n2, .slice A2 m2 c2, .slice B2 l2 d2]) rfl (by kernel_rfl) (by kernel_rfl) (by kernel_rfl) (fun _ _ _ h => h) (Or.inl ⟨rfl, fun w' hS => by (have y0 := (hS.oldN hFq' hgl' _).trans r0; have y1 := (hS.oldN hFq' hgl' _).trans r1; have y2 := (hS.oldN hFq' hgl' _).trans r2; have y3 := (hS.oldN hFq' hgl' _).trans r3; have y4 := (hS.oldN hFq' hgl' _).trans r4; unfold execOp; go_simp)⟩) hS0 ?_
                  simp only [Act.put, List.getElem_toArray, List.getElem_cons_zero, List.getElem_cons_succ, List.setIfInBounds_toArray, List.set_cons_zero, List.set_cons_succ]
                  refine wpAnyH_one (i := 13) (by kernel_rfl) rfl rfl (op_call (args := #[.slice C l.length c0, .slice (some ⟨g, 0, none⟩) l.length cc, .slice (some ⟨h, 0, none⟩) l.length ch, .agg #[.int .i64 k1, .string p1, .string n1, .slice A1 m1 c1, .slice B1 l1 d1], .agg #[.int .i64 k2, .string p2, .string n2, .slice A2 m2 c2, .slice B2 l2 d2]]) (f := 64) (by unfold execOp; go_simp) ((HI.out _ (Below.refl _ wr).drew).mono ?_))
                  rintro e w5 ⟨⟨vv, rfl⟩, hs5, hg5⟩
                  have hG5 : Gr (fun x => x = g ∨ x = h) wr w5 := hS0.trans hg5
                  refine And.intro hG5 ?_
                  simp only [Act.put, List.getElem_toArray, List.getElem_cons_zero, List.getElem_cons_succ, List.setIfInBounds_toArray, List.set_cons_zero, List.set_cons_succ]
                  refine wpAnyH_done (by kernel_rfl) ?_ _
                  have HF := Lib.hid (show Gr (fun x => x = g ∨ x = h) w w5 ∧ Blk w5 w.heap.size 24 #[.int .i64 6, .string p, .string n, .slice A la.length c, .slice B lr.length d] ∧ Blk w5 (w.heap.size + 1) 24 #[.int .i64 6, .string p', .string n', .slice A' la'.length c', .slice B' lr'.length d'] ∧ Sd w5 g h ts ∧ ts.1.length = l.length ∧ ts.2.length = l.length from ⟨HGR.out.trans hG5, hG5.blk HKA.out hb0, hG5.blk HKB.out hb1, hs5, HLL.out.1.trans HL1.out, HLL.out.2.trans HL2.out⟩)
                  clear hS0 hG5 hs5 hg5 a3 b3
                  go_wp2
                  go_roundg gg
                  case measure => omega
                  case rel => exact ⟨j + 1, ts, by omega, by go_num, HF.out.1, HF.out.2.1, HF.out.2.2.1, HF.out.2.2.2.1, HF.out.2.2.2.2.1, HF.out.2.2.2.2.2, HEQ2.out⟩
          | succ gg =>
            have hjl : j < la.length := by omega
            have hjl2 : j < la'.length := by omega
            obtain ⟨u, hu⟩ : ∃ u, la[j]? = some u := ⟨_, List.getElem?_eq_getElem hjl⟩
            obtain ⟨v, hv⟩ : ∃ v, la'[j]? = some v := ⟨_, List.getElem?_eq_getElem hjl2⟩
            obtain ⟨q, o, vs, hAq, hFq, hgl, hrep, hat⟩ := (HXa.out.grN hgr).at_ hu
            obtain ⟨q', o', us, hAq', hFq', hgl', hrep', hat'⟩ := (HYa.out.grN hgr).at_ hv
            have hck := count_kid la j u hu
            have hcv := count_kid la' j v hv
            have HEQ2 := Lib.hid (HEQ.out.trans (walkL_drop hu hv))
            have HI := Lib.hid (fun w' (hb' : Below wr.heap.size wr w') => ih u v (by omega) (by omega) w' g h cc ch C c0 sj vs us ((HSS.out.grN hgr).bel hb') (hsd.bel hb') hl1 hl2 (hrep.bel hb') (hrep'.bel hb'))
            have HLL := Lib.hid (walkT_len l u v sj)
            have HL1 := Lib.hid hl1
            have HL2 := Lib.hid hl2
            obtain ⟨k1, p1, n1, A1, m1, c1, B1, l1, d1, rfl⟩ := hrep.shape
            obtain ⟨k2, p2, n2, A2, m2, c2, B2, l2, d2, rfl⟩ := hrep'.shape
            have q0 := hat 0 _ rfl
            have q1 := hat 1 _ rfl
            have q2 := hat 2 _ rfl
            have q3 := hat 3 _ rfl
            have q4 := hat 4 _ rfl
            have r0 := hat' 0 _ rfl
            have r1 := hat' 1 _ rfl
            have r2 := hat' 2 _ rfl
            have r3 := hat' 3 _ rfl
            have r4 := hat' 4 _ rfl
            have e1 : (j : Int) < (la.length : Int) := by omega
            have e2 : decide (j < la.length) = true := decide_eq_true (by omega)
            have e3 : decide ((j : Int) < (la.length : Int)) = true := decide_eq_true e1
            have e4 : (j : Int) < (la'.length : Int) := by omega
            have e5 : decide (j < la'.length) = true := decide_eq_true (by omega)
            have e6 : decide ((j : Int) < (la'.length : Int)) = true := decide_eq_true e4
            have j2 : (j : Int) ≤ 2000000 := by omega
            simp only [Nat.add_zero] at q0 r0
            have hb0 : ¬ (fun x => x = g ∨ x = h) w.heap.size := by have := HGH.out; show ¬ (w.heap.size = g ∨ w.heap.size = h); omega
            have hb1 : ¬ (fun x => x = g ∨ x = h) (w.heap.size + 1) := by have := HGH.out; show ¬ (w.heap.size + 1 = g ∨ w.heap.size + 1 = h); omega
            have HAq := Lib.hid hAq
            have HAq' := Lib.hid hAq'
            clear hu hv hat hat' hrep hrep' HEQ hM hgr hka hkb hsd hl1 hl2 hAq hAq'
            obtain ⟨ts, hts⟩ : ∃ ts, walkT l u v sj = ts := ⟨_, rfl⟩
            rw [hts] at HEQ2 HI HLL
            clear hts
            go_wp2
            refine wp_region_held_drew (S := fun W => Gr (fun x => x = g ∨ x = h) wr W) (by kernel_rfl) (Gr.refl wr).drew (fun hS0 => ?_)
            refine wpAnyH_take (i := 0) (v := .slice C l.length c0) rfl (by kernel_rfl) (by kernel_rfl) (by kernel_rfl) (fun _ _ _ h => h) (Or.inl ⟨rfl, fun w' hS => by (unfold execOp; go_simp)⟩) hS0 ?_
            simp only [Act.put, List.getElem_toArray, List.getElem_cons_zero, List.getElem_cons_succ, List.setIfInBounds_toArray, List.set_cons_zero, List.set_cons_succ]
            refine wpAnyH_take (i := 1) (v := .slice (some ⟨g, 0, none⟩) l.length cc) rfl (by kernel_rfl) (by kernel_rfl) (by kernel_rfl) (fun _ _ _ h => h) (Or.inl ⟨rfl, fun w' hS => by (unfold execOp; go_simp)⟩) hS0 ?_
            simp only [Act.put, List.getElem_toArray, List.getElem_cons_zero, List.getElem_cons_succ, List.setIfInBounds_toArray, List.set_cons_zero, List.set_cons_succ]
            refine wpAnyH_take (i := 2) (v := .slice (some ⟨h, 0, none⟩) l.length ch) rfl (by kernel_rfl) (by kernel_rfl) (by kernel_rfl) (fun _ _ _ h => h) (Or.inl ⟨rfl, fun w' hS => by (unfold execOp; go_simp)⟩) hS0 ?_
            simp only [Act.put, List.getElem_toArray, List.getElem_cons_zero, List.getElem_cons_succ, List.setIfInBounds_toArray, List.set_cons_zero, List.set_cons_succ]
            refine wpAnyH_take (i := 3) (v := .pointer (some ⟨w.heap.size, 3, none⟩)) rfl (by kernel_rfl) (by kernel_rfl) (by kernel_rfl) (fun _ _ _ h => h) (Or.inl ⟨rfl, fun w' hS => by (unfold execOp; go_simp)⟩) hS0 ?_
            simp only [Act.put, List.getElem_toArray, List.getElem_cons_zero, List.getElem_cons_succ, List.setIfInBounds_toArray, List.set_cons_zero, List.set_cons_succ]
            refine wpAnyH_take (i := 4) (v := .slice A la.length c) rfl (by kernel_rfl) (by kernel_rfl) (by kernel_rfl) (fun _ _ _ h => h) (Or.inl ⟨rfl, fun w' hS => by (have ya := (hS.cell (p := ⟨w.heap.size, 3, none⟩) al hb0).trans a3; have yl := Nat.lt_of_lt_of_le al hS.size; unfold execOp; go_simp)⟩) hS0 ?_
            simp only [Act.put, List.getElem_toArray, List.getElem_cons_zero, List.getElem_cons_succ, List.setIfInBounds_toArray, List.set_cons_zero, List.set_cons_succ]
            refine wpAnyH_take (i := 5) (v := .int .i64 j) rfl (by kernel_rfl) (by kernel_rfl) (by kernel_rfl) (fun _ _ _ h => h) (Or.inl ⟨rfl, fun w' hS => by (unfold execOp; go_simp)⟩) hS0 ?_
            simp only [Act.put, List.getElem_toArray, List.getElem_cons_zero, List.getElem_cons_succ, List.setIfInBounds_toArray, List.set_cons_zero, List.set_cons_succ]
            refine wpAnyH_take (i := 6) (v := .pointer (some ⟨q, o + j * 5, none⟩)) rfl (by kernel_rfl) (by kernel_rfl) (by kernel_rfl) (fun _ _ _ h => h) (Or.inl ⟨rfl, fun w' hS => by (have za := HAq.out; unfold execOp; go_simp)⟩) hS0 ?_
            simp only [Act.put, List.getElem_toArray, List.getElem_cons_zero, List.getElem_cons_succ, List.setIfInBounds_toArray, List.set_cons_zero, List.set_cons_succ]
            refine wpAnyH_take (i := 7) (v := .agg #[.int .i64 k1, .string p1, .string n1, .slice A1 m1 c1, .slice B1 l1 d1]) rfl (by kernel_rfl) (by kernel_rfl) (by kernel_rfl) (fun _ _ _ h => h) (Or.inl ⟨rfl, fun w' hS => by (have y0 := (hS.oldN hFq hgl _).trans q0; have y1 := (hS.oldN hFq hgl _).trans q1; have y2 := (hS.oldN hFq hgl _).trans q2; have y3 := (hS.oldN hFq hgl _).trans q3; have y4 := (hS.oldN hFq hgl _).trans q4; unfold execOp; go_simp)⟩) hS0 ?_
            simp only [Act.put, List.getElem_toArray, List.getElem_cons_zero, List.getElem_cons_succ, List.setIfInBounds_toArray, List.set_cons_zero, List.set_cons_succ]
            refine wpAnyH_take (i := 8) (v := .pointer (some ⟨w.heap.size + 1, 3, none⟩)) rfl (by kernel_rfl) (by kernel_rfl) (by kernel_rfl) (fun _ _ _ h => h) (Or.inl ⟨rfl, fun w' hS => by (unfold execOp; go_simp)⟩) hS0 ?_
            simp only [Act.put, List.getElem_toArray, List.getElem_cons_zero, List.getElem_cons_succ, List.setIfInBounds_toArray, List.set_cons_zero, List.set_cons_succ]
            refine wpAnyH_take (i := 9) (v := .slice A' la'.length c') rfl (by kernel_rfl) (by kernel_rfl) (by kernel_rfl) (fun _ _ _ h => h) (Or.inl ⟨rfl, fun w' hS => by (have ya := (hS.cell (p := ⟨w.heap.size + 1, 3, none⟩) bl hb1).trans b3; have yl := Nat.lt_of_lt_of_le bl hS.size; unfold execOp; go_simp)⟩) hS0 ?_
            simp only [Act.put, List.getElem_toArray, List.getElem_cons_zero, List.getElem_cons_succ, List.setIfInBounds_toArray, List.set_cons_zero, List.set_cons_succ]
            refine wpAnyH_take (i := 10) (v := .int .i64 j) rfl (by kernel_rfl) (by kernel_rfl) (by kernel_rfl) (fun _ _ _ h => h) (Or.inl ⟨rfl, fun w' hS => by (unfold execOp; go_simp)⟩) hS0 ?_
            simp only [Act.put, List.getElem_toArray, List.getElem_cons_zero, List.getElem_cons_succ, List.setIfInBounds_toArray, List.set_cons_zero, List.set_cons_succ]
            refine wpAnyH_take (i := 11) (v := .pointer (some ⟨q', o' + j * 5, none⟩)) rfl (by kernel_rfl) (by kernel_rfl) (by kernel_rfl) (fun _ _ _ h => h) (Or.inl ⟨rfl, fun w' hS => by (have za := HAq'.out; unfold execOp; go_simp)⟩) hS0 ?_
            simp only [Act.put, List.getElem_toArray, List.getElem_cons_zero, List.getElem_cons_succ, List.setIfInBounds_toArray, List.set_cons_zero, List.set_cons_succ]
            refine wpAnyH_take (i := 12) (v := .agg #[.int .i64 k2, .string p2, .string n2, .slice A2 m2 c2, .slice B2 l2 d2]) rfl (by kernel_rfl) (by kernel_rfl) (by kernel_rfl) (fun _ _ _ h => h) (Or.inl ⟨rfl, fun w' hS => by (have y0 := (hS.oldN hFq' hgl' _).trans r0; have y1 := (hS.oldN hFq' hgl' _).trans r1; have y2 := (hS.oldN hFq' hgl' _).trans r2; have y3 := (hS.oldN hFq' hgl' _).trans r3; have y4 := (hS.oldN hFq' hgl' _).trans r4; unfold execOp; go_simp)⟩) hS0 ?_
            simp only [Act.put, List.getElem_toArray, List.getElem_cons_zero, List.getElem_cons_succ, List.setIfInBounds_toArray, List.set_cons_zero, List.set_cons_succ]
            refine wpAnyH_one (i := 13) (by kernel_rfl) rfl rfl (op_call (args := #[.slice C l.length c0, .slice (some ⟨g, 0, none⟩) l.length cc, .slice (some ⟨h, 0, none⟩) l.length ch, .agg #[.int .i64 k1, .string p1, .string n1, .slice A1 m1 c1, .slice B1 l1 d1], .agg #[.int .i64 k2, .string p2, .string n2, .slice A2 m2 c2, .slice B2 l2 d2]]) (f := 64) (by unfold execOp; go_simp) ((HI.out _ (Below.refl _ wr).drew).mono ?_))
            rintro e w5 ⟨⟨vv, rfl⟩, hs5, hg5⟩
            have hG5 : Gr (fun x => x = g ∨ x = h) wr w5 := hS0.trans hg5
            refine And.intro hG5 ?_
            simp only [Act.put, List.getElem_toArray, List.getElem_cons_zero, List.getElem_cons_succ, List.setIfInBounds_toArray, List.set_cons_zero, List.set_cons_succ]
            refine wpAnyH_done (by kernel_rfl) ?_ _
            have HF := Lib.hid (show Gr (fun x => x = g ∨ x = h) w w5 ∧ Blk w5 w.heap.size 24 #[.int .i64 6, .string p, .string n, .slice A la.length c, .slice B lr.length d] ∧ Blk w5 (w.heap.size + 1) 24 #[.int .i64 6, .string p', .string n', .slice A' la'.length c', .slice B' lr'.length d'] ∧ Sd w5 g h ts ∧ ts.1.length = l.length ∧ ts.2.length = l.length from ⟨HGR.out.trans hG5, hG5.blk HKA.out hb0, hG5.blk HKB.out hb1, hs5, HLL.out.1.trans HL1.out, HLL.out.2.trans HL2.out⟩)
            clear hS0 hG5 hs5 hg5 a3 b3
            go_wp2
            go_roundg gg
            case measure => omega
            case rel => exact ⟨j + 1, ts, by omega, by go_num, HF.out.1, HF.out.2.1, HF.out.2.2.1, HF.out.2.2.2.1, HF.out.2.2.2.2.1, HF.out.2.2.2.2.2, HEQ2.out⟩
      · by_cases h7 : k = 7
        · subst h7
          rw [if_pos ⟨rfl, Or.inr rfl⟩]
          clear hk hk9 h6 hl1 hl2
          go_enter Try.func64, Try.ntmps64
          go_wp2
          obtain ⟨M, hMe⟩ : ∃ M, min la.length la'.length = M := ⟨_, rfl⟩
          have HME := Lib.hid hMe
          clear hMe
          go_loopg [11] M (fun gk v11 wr => ∃ (j : Nat) (sj : WSt), j + gk = M ∧ v11 = .int .i64 j ∧ Gr (fun x => x = g ∨ x = h) w wr ∧ Blk wr w.heap.size 24 #[.int .i64 7, .string p, .string n, .slice A la.length c, .slice B lr.length d] ∧ Blk wr (w.heap.size + 1) 24 #[.int .i64 7, .string p', .string n', .slice A' la'.length c', .slice B' lr'.length d'] ∧ Sd wr g h sj ∧ sj.1.length = l.length ∧ sj.2.length = l.length ∧ walkL l la la' st = walkL l (la.drop j) (la'.drop j) sj)
          case atStart => exact ⟨0, st, by simp, rfl, HG0.out, HK0.out.1, HK0.out.2, HS0.out.1, HS0.out.2.1, HS0.out.2.2, by simp⟩
          case round =>
            obtain ⟨j, sj, hj, rfl, hgr, hka, hkb, hsd, hl1, hl2, heq⟩ := hrel
            have HEQ := Lib.hid heq
            have HGR := Lib.hid hgr
            have HKA := Lib.hid hka
            have HKB := Lib.hid hkb
            have hM := HME.out
            have a3 := hka.cell 3
            have b3 := hkb.cell 3
            have al := hka.lt
            have bl := hkb.lt
            clear heq
            cases gk with
            | zero =>
              obtain rfl : j = M := by omega
              have hE := HEQ.out
              rw [walkL_end (by omega)] at hE
              have HSD := Lib.hid (show Sd wr g h (walkL l la la' st) ∧ (walkL l la la' st).1.length = l.length ∧ (walkL l la la' st).2.length = l.length by rw [hE]; exact ⟨hsd, hl1, hl2⟩)
              have hcase : la.length ≤ j ∨ (j < la.length ∧ la'.length ≤ j) := by omega
              clear hE hj hsd hl1 hl2 hgr hka hkb hM
              rcases hcase with hc1 | ⟨hc1, hc2⟩
              · have e1 : ¬ ((j : Int) < (la.length : Int)) := by omega
                have e2 : decide (j < la.length) = false := decide_eq_false (by omega)
                have e3 : decide ((j : Int) < (la.length : Int)) = false := decide_eq_false e1
                clear hc1
                go_wp2
                clear e1 e2 e3 a3 b3 al bl
                obtain ⟨M, hMe⟩ : ∃ M, min lr.length lr'.length = M := ⟨_, rfl⟩
                have HME := Lib.hid hMe
                clear hMe
                go_loopg [12] M (fun gk v12 wr => ∃ (j : Nat) (sj : WSt), j + gk = M ∧ v12 = .int .i64 j ∧ Gr (fun x => x = g ∨ x = h) w wr ∧ Blk wr w.heap.size 24 #[.int .i64 7, .string p, .string n, .slice A la.length c, .slice B lr.length d] ∧ Blk wr (w.heap.size + 1) 24 #[.int .i64 7, .string p', .string n', .slice A' la'.length c', .slice B' lr'.length d'] ∧ Sd wr g h sj ∧ sj.1.length = l.length ∧ sj.2.length = l.length ∧ walkL l lr lr' (walkL l la la' st) = walkL l (lr.drop j) (lr'.drop j) sj)
                case atStart => exact ⟨0, (walkL l la la' st), by simp, rfl, HGR.out, HKA.out, HKB.out, HSD.out.1, HSD.out.2.1, HSD.out.2.2, by simp⟩
                case round =>
                  obtain ⟨j, sj, hj, rfl, hgr, hka, hkb, hsd, hl1, hl2, heq⟩ := hrel
                  have HEQ := Lib.hid heq
                  have HGR := Lib.hid hgr
                  have HKA := Lib.hid hka
                  have HKB := Lib.hid hkb
                  have hM := HME.out
                  have a3 := hka.cell 4
                  have b3 := hkb.cell 4
                  have al := hka.lt
                  have bl := hkb.lt
                  clear heq
                  cases gk with
                  | zero =>
                    obtain rfl : j = M := by omega
                    have hE := HEQ.out
                    rw [walkL_end (by omega)] at hE
                    have HSD := Lib.hid (show Sd wr g h (walkL l lr lr' (walkL l la la' st)) ∧ (walkL l lr lr' (walkL l la la' st)).1.length = l.length ∧ (walkL l lr lr' (walkL l la la' st)).2.length = l.length by rw [hE]; exact ⟨hsd, hl1, hl2⟩)
                    have hcase : lr.length ≤ j ∨ (j < lr.length ∧ lr'.length ≤ j) := by omega
                    clear hE hj hsd hl1 hl2 hgr hka hkb hM
                    rcases hcase with hc1 | ⟨hc1, hc2⟩
                    · have e1 : ¬ ((j : Int) < (lr.length : Int)) := by omega
                      have e2 : decide (j < lr.length) = false := decide_eq_false (by omega)
                      have e3 : decide ((j : Int) < (lr.length : Int)) = false := decide_eq_false e1
                      clear hc1
                      go_wp2
                      refine bodyPost_end (results_none rfl _ _ _) rfl ?_
                      exact ⟨⟨_, rfl⟩, HSD.out.1, HGR.out⟩
                    · have e1 : (j : Int) < (lr.length : Int) := by omega
                      have e2 : decide (j < lr.length) = true := decide_eq_true (by omega)
                      have e3 : decide ((j : Int) < (lr.length : Int)) = true := decide_eq_true e1
                      have e4 : ¬ ((j : Int) < (lr'.length : Int)) := by omega
                      have e5 : decide (j < lr'.length) = false := decide_eq_false (by omega)
                      have e6 : decide ((j : Int) < (lr'.length : Int)) = false := decide_eq_false e4
                      clear hc1 hc2
                      go_wp2
                      refine bodyPost_end (results_none rfl _ _ _) rfl ?_
                      exact ⟨⟨_, rfl⟩, HSD.out.1, HGR.out⟩
                  | succ gg =>
                    have hjl : j < lr.length := by omega
                    have hjl2 : j < lr'.length := by omega
                    obtain ⟨u, hu⟩ : ∃ u, lr[j]? = some u := ⟨_, List.getElem?_eq_getElem hjl⟩
                    obtain ⟨v, hv⟩ : ∃ v, lr'[j]? = some v := ⟨_, List.getElem?_eq_getElem hjl2⟩
                    obtain ⟨q, o, vs, hAq, hFq, hgl, hrep, hat⟩ := (HXb.out.grN hgr).at_ hu
                    obtain ⟨q', o', us, hAq', hFq', hgl', hrep', hat'⟩ := (HYb.out.grN hgr).at_ hv
                    have hck := count_kid lr j u hu
                    have hcv := count_kid lr' j v hv
                    have HEQ2 := Lib.hid (HEQ.out.trans (walkL_drop hu hv))
                    have HI := Lib.hid (fun w' (hb' : Below wr.heap.size wr w') => ih u v (by omega) (by omega) w' g h cc ch C c0 sj vs us ((HSS.out.grN hgr).bel hb') (hsd.bel hb') hl1 hl2 (hrep.bel hb') (hrep'.bel hb'))
                    have HLL := Lib.hid (walkT_len l u v sj)
                    have HL1 := Lib.hid hl1
                    have HL2 := Lib.hid hl2
                    obtain ⟨k1, p1, n1, A1, m1, c1, B1, l1, d1, rfl⟩ := hrep.shape
                    obtain ⟨k2, p2, n2, A2, m2, c2, B2, l2, d2, rfl⟩ := hrep'.shape
                    have q0 := hat 0 _ rfl
                    have q1 := hat 1 _ rfl
                    have q2 := hat 2 _ rfl
                    have q3 := hat 3 _ rfl
                    have q4 := hat 4 _ rfl
                    have r0 := hat' 0 _ rfl
                    have r1 := hat' 1 _ rfl
                    have r2 := hat' 2 _ rfl
                    have r3 := hat' 3 _ rfl
                    have r4 := hat' 4 _ rfl
                    have e1 : (j : Int) < (lr.length : Int) := by omega
                    have e2 : decide (j < lr.length) = true := decide_eq_true (by omega)
                    have e3 : decide ((j : Int) < (lr.length : Int)) = true := decide_eq_true e1
                    have e4 : (j : Int) < (lr'.length : Int) := by omega
                    have e5 : decide (j < lr'.length) = true := decide_eq_true (by omega)
                    have e6 : decide ((j : Int) < (lr'.length : Int)) = true := decide_eq_true e4
                    have j2 : (j : Int) ≤ 2000000 := by omega
                    simp only [Nat.add_zero] at q0 r0
                    have hb0 : ¬ (fun x => x = g ∨ x = h) w.heap.size := by have := HGH.out; show ¬ (w.heap.size = g ∨ w.heap.size = h); omega
                    have hb1 : ¬ (fun x => x = g ∨ x = h) (w.heap.size + 1) := by have := HGH.out; show ¬ (w.heap.size + 1 = g ∨ w.heap.size + 1 = h); omega
                    have HAq := Lib.hid hAq
                    have HAq' := Lib.hid hAq'
                    clear hu hv hat hat' hrep hrep' HEQ hM hgr hka hkb hsd hl1 hl2 hAq hAq'
                    obtain ⟨ts, hts⟩ : ∃ ts, walkT l u v sj = ts := ⟨_, rfl⟩
                    rw [hts] at HEQ2 HI HLL
                    clear hts
                    go_wp2
                    refine wp_region_held_drew (S := fun W => Gr (fun x => x = g ∨ x = h) wr W) (by kernel_rfl) (Gr.refl wr).drew (fun hS0 => ?_)
                    refine wpAnyH_take (i := 0) (v := .slice C l.length c0) rfl (by kernel_rfl) (by kernel_rfl) (by kernel_rfl) (fun _ _ _ h => h) (Or.inl ⟨rfl, fun w' hS => by (unfold execOp; go_simp)⟩) hS0 ?_
                    simp only [Act.put, List.getElem_toArray, List.getElem_cons_zero, List.getElem_cons_succ, List.setIfInBounds_toArray, List.set_cons_zero, List.set_cons_succ]
                    refine wpAnyH_take (i := 1) (v := .slice (some ⟨g, 0, none⟩) l.length cc) rfl (by kernel_rfl) (by kernel_rfl) (by kernel_rfl) (fun _ _ _ h => h) (Or.inl ⟨rfl, fun w' hS => by (unfold execOp; go_simp)⟩) hS0 ?_
                    simp only [Act.put, List.getElem_toArray, List.getElem_cons_zero, List.getElem_cons_succ, List.setIfInBounds_toArray, List.set_cons_zero, List.set_cons_succ]
                    refine wpAnyH_take (i := 2) (v := .slice (some ⟨h, 0, none⟩) l.length ch) rfl (by kernel_rfl) (by kernel_rfl) (by kernel_rfl) (fun _ _ _ h => h) (Or.inl ⟨rfl, fun w' hS => by (unfold execOp; go_simp)⟩) hS0 ?_
                    simp only [Act.put, List.getElem_toArray, List.getElem_cons_zero, List.getElem_cons_succ, List.setIfInBounds_toArray, List.set_cons_zero, List.set_cons_succ]
                    refine wpAnyH_take (i := 3) (v := .pointer (some ⟨w.heap.size, 4, none⟩)) rfl (by kernel_rfl) (by kernel_rfl) (by kernel_rfl) (fun _ _ _ h => h) (Or.inl ⟨rfl, fun w' hS => by (unfold execOp; go_simp)⟩) hS0 ?_
                    simp only [Act.put, List.getElem_toArray, List.getElem_cons_zero, List.getElem_cons_succ, List.setIfInBounds_toArray, List.set_cons_zero, List.set_cons_succ]
                    refine wpAnyH_take (i := 4) (v := .slice B lr.length d) rfl (by kernel_rfl) (by kernel_rfl) (by kernel_rfl) (fun _ _ _ h => h) (Or.inl ⟨rfl, fun w' hS => by (have ya := (hS.cell (p := ⟨w.heap.size, 4, none⟩) al hb0).trans a3; have yl := Nat.lt_of_lt_of_le al hS.size; unfold execOp; go_simp)⟩) hS0 ?_
                    simp only [Act.put, List.getElem_toArray, List.getElem_cons_zero, List.getElem_cons_succ, List.setIfInBounds_toArray, List.set_cons_zero, List.set_cons_succ]
                    refine wpAnyH_take (i := 5) (v := .int .i64 j) rfl (by kernel_rfl) (by kernel_rfl) (by kernel_rfl) (fun _ _ _ h => h) (Or.inl ⟨rfl, fun w' hS => by (unfold execOp; go_simp)⟩) hS0 ?_
                    simp only [Act.put, List.getElem_toArray, List.getElem_cons_zero, List.getElem_cons_succ, List.setIfInBounds_toArray, List.set_cons_zero, List.set_cons_succ]
                    refine wpAnyH_take (i := 6) (v := .pointer (some ⟨q, o + j * 5, none⟩)) rfl (by kernel_rfl) (by kernel_rfl) (by kernel_rfl) (fun _ _ _ h => h) (Or.inl ⟨rfl, fun w' hS => by (have za := HAq.out; unfold execOp; go_simp)⟩) hS0 ?_
                    simp only [Act.put, List.getElem_toArray, List.getElem_cons_zero, List.getElem_cons_succ, List.setIfInBounds_toArray, List.set_cons_zero, List.set_cons_succ]
                    refine wpAnyH_take (i := 7) (v := .agg #[.int .i64 k1, .string p1, .string n1, .slice A1 m1 c1, .slice B1 l1 d1]) rfl (by kernel_rfl) (by kernel_rfl) (by kernel_rfl) (fun _ _ _ h => h) (Or.inl ⟨rfl, fun w' hS => by (have y0 := (hS.oldN hFq hgl _).trans q0; have y1 := (hS.oldN hFq hgl _).trans q1; have y2 := (hS.oldN hFq hgl _).trans q2; have y3 := (hS.oldN hFq hgl _).trans q3; have y4 := (hS.oldN hFq hgl _).trans q4; unfold execOp; go_simp)⟩) hS0 ?_
                    simp only [Act.put, List.getElem_toArray, List.getElem_cons_zero, List.getElem_cons_succ, List.setIfInBounds_toArray, List.set_cons_zero, List.set_cons_succ]
                    refine wpAnyH_take (i := 8) (v := .pointer (some ⟨w.heap.size + 1, 4, none⟩)) rfl (by kernel_rfl) (by kernel_rfl) (by kernel_rfl) (fun _ _ _ h => h) (Or.inl ⟨rfl, fun w' hS => by (unfold execOp; go_simp)⟩) hS0 ?_
                    simp only [Act.put, List.getElem_toArray, List.getElem_cons_zero, List.getElem_cons_succ, List.setIfInBounds_toArray, List.set_cons_zero, List.set_cons_succ]
                    refine wpAnyH_take (i := 9) (v := .slice B' lr'.length d') rfl (by kernel_rfl) (by kernel_rfl) (by kernel_rfl) (fun _ _ _ h => h) (Or.inl ⟨rfl, fun w' hS => by (have ya := (hS.cell (p := ⟨w.heap.size + 1, 4, none⟩) bl hb1).trans b3; have yl := Nat.lt_of_lt_of_le bl hS.size; unfold execOp; go_simp)⟩) hS0 ?_
                    simp only [Act.put, List.getElem_toArray, List.getElem_cons_zero, List.getElem_cons_succ, List.setIfInBounds_toArray, List.set_cons_zero, List.set_cons_succ]
                    refine wpAnyH_take (i := 10) (v := .int .i64 j) rfl (by kernel_rfl) (by kernel_rfl) (by kernel_rfl) (fun _ _ _ h => h) (Or.inl ⟨rfl, fun w' hS => by (unfold execOp; go_simp)⟩) hS0 ?_
                    simp only [Act.put, List.getElem_toArray, List.getElem_cons_zero, List.getElem_cons_succ, List.setIfInBounds_toArray, List.set_cons_zero, List.set_cons_succ]
                    refine wpAnyH_take (i := 11) (v := .pointer (some ⟨q', o' + j * 5, none⟩)) rfl (by kernel_rfl) (by kernel_rfl) (by kernel_rfl) (fun _ _ _ h => h) (Or.inl ⟨rfl, fun w' hS => by (have za := HAq'.out; unfold execOp; go_simp)⟩) hS0 ?_
                    simp only [Act.put, List.getElem_toArray, List.getElem_cons_zero, List.getElem_cons_succ, List.setIfInBounds_toArray, List.set_cons_zero, List.set_cons_succ]
                    refine wpAnyH_take (i := 12) (v := .agg #[.int .i64 k2, .string p2, .string n2, .slice A2 m2 c2, .slice B2 l2 d2]) rfl (by kernel_rfl) (by kernel_rfl) (by kernel_rfl) (fun _ _ _ h => h) (Or.inl ⟨rfl, fun w' hS => by (have y0 := (hS.oldN hFq' hgl' _).trans r0; have y1 := (hS.oldN hFq' hgl' _).trans r1; have y2 := (hS.oldN hFq' hgl' _).trans r2; have y3 := (hS.oldN hFq' hgl' _).trans r3; have y4 := (hS.oldN hFq' hgl' _).trans r4; unfold execOp; go_simp)⟩) hS0 ?_
                    simp only [Act.put, List.getElem_toArray, List.getElem_cons_zero, List.getElem_cons_succ, List.setIfInBounds_toArray, List.set_cons_zero, List.set_cons_succ]
                    refine wpAnyH_one (i := 13) (by kernel_rfl) rfl rfl (op_call (args := #[.slice C l.length c0, .slice (some ⟨g, 0, none⟩) l.length cc, .slice (some ⟨h, 0, none⟩) l.length ch, .agg #[.int .i64 k1, .string p1, .string n1, .slice A1 m1 c1, .slice B1 l1 d1], .agg #[.int .i64 k2, .string p2, .string n2, .slice A2 m2 c2, .slice B2 l2 d2]]) (f := 64) (by unfold execOp; go_simp) ((HI.out _ (Below.refl _ wr).drew).mono ?_))
                    rintro e w5 ⟨⟨vv, rfl⟩, hs5, hg5⟩
                    have hG5 : Gr (fun x => x = g ∨ x = h) wr w5 := hS0.trans hg5
                    refine And.intro hG5 ?_
                    simp only [Act.put, List.getElem_toArray, List.getElem_cons_zero, List.getElem_cons_succ, List.setIfInBounds_toArray, List.set_cons_zero, List.set_cons_succ]
                    refine wpAnyH_done (by kernel_rfl) ?_ _
                    have HF := Lib.hid (show Gr (fun x => x = g ∨ x = h) w w5 ∧ Blk w5 w.heap.size 24 #[.int .i64 7, .string p, .string n, .slice A la.length c, .slice B lr.length d] ∧ Blk w5 (w.heap.size + 1) 24 #[.int .i64 7, .string p', .string n', .slice A' la'.length c', .slice B' lr'.length d'] ∧ Sd w5 g h ts ∧ ts.1.length = l.length ∧ ts.2.length = l.length from ⟨HGR.out.trans hG5, hG5.blk HKA.out hb0, hG5.blk HKB.out hb1, hs5, HLL.out.1.trans HL1.out, HLL.out.2.trans HL2.out⟩)
                    clear hS0 hG5 hs5 hg5 a3 b3
                    go_wp2
                    go_roundg gg
                    case measure => omega
                    case rel => exact ⟨j + 1, ts, by omega, by go_num, HF.out.1, HF.out.2.1, HF.out.2.2.1, HF.out.2.2.2.1, HF.out.2.2.2.2.1, HF.out.2.2.2.2.2, HEQ2.out⟩
              · have e1 : (j : Int) < (la.length : Int) := by omega
                have e2 : decide (j < la.length) = true := decide_eq_true (by omega)
                have e3 : decide ((j : Int) < (la.length : Int)) = true := decide_eq_true e1
                have e4 : ¬ ((j : Int) < (la'.length : Int)) := by omega
                have e5 : decide (j < la'.length) = false := decide_eq_false (by omega)
                have e6 : decide ((j : Int) < (la'.length : Int)) = false := decide_eq_false e4
                clear hc1 hc2
                go_wp2
                clear e1 e2 e3 a3 b3 al bl
                obtain ⟨M, hMe⟩ : ∃ M, min lr.length lr'.length = M := ⟨_, rfl⟩
                have HME := Lib.hid hMe
                clear hMe
                go_loopg [12] M (fun gk v12 wr => ∃ (j : Nat) (sj : WSt), j + gk = M ∧ v12 = .int .i64 j ∧ Gr (fun x => x = g ∨ x = h) w wr ∧ Blk wr w.heap.size 24 #[.int .i64 7, .string p, .string n, .slice A la.length c, .slice B lr.length d] ∧ Blk wr (w.heap.size + 1) 24 #[.int .i64 7, .string p', .string n', .slice A' la'.length c', .slice B' lr'.length d'] ∧ Sd wr g h sj ∧ sj.1.length = l.length ∧ sj.2.length = l.length ∧ walkL l lr lr' (walkL l la la' st) = walkL l (lr.drop j) (lr'.drop j) sj)
                case atStart => exact ⟨0, (walkL l la la' st), by simp, rfl, HGR.out, HKA.out, HKB.out, HSD.out.1, HSD.out.2.1, HSD.out.2.2, by simp⟩
                case round =>
                  obtain ⟨j, sj, hj, rfl, hgr, hka, hkb, hsd, hl1, hl2, heq⟩ := hrel
                  have HEQ := Lib.hid heq
                  have HGR := Lib.hid hgr
                  have HKA := Lib.hid hka
                  have HKB := Lib.hid hkb
                  have hM := HME.out
                  have a3 := hka.cell 4
                  have b3 := hkb.cell 4
                  have al := hka.lt
                  have bl := hkb.lt
                  clear heq
                  cases gk with
                  | zero =>
                    obtain rfl : j = M := by omega
                    have hE := HEQ.out
                    rw [walkL_end (by omega)] at hE
                    have HSD := Lib.hid (show Sd wr g h (walkL l lr lr' (walkL l la la' st)) ∧ (walkL l lr lr' (walkL l la la' st)).1.length = l.length ∧ (walkL l lr lr' (walkL l la la' st)).2.length = l.length by rw [hE]; exact ⟨hsd, hl1, hl2⟩)
                    have hcase : lr.length ≤ j ∨ (j < lr.length ∧ lr'.length ≤ j) := by omega
                    clear hE hj hsd hl1 hl2 hgr hka hkb hM
                    rcases hcase with hc1 | ⟨hc1, hc2⟩
                    · have e1 : ¬ ((j : Int) < (lr.length : Int)) := by omega
                      have e2 : decide (j < lr.length) = false := decide_eq_false (by omega)
                      have e3 : decide ((j : Int) < (lr.length : Int)) = false := decide_eq_false e1
                      clear hc1
                      go_wp2
                      refine bodyPost_end (results_none rfl _ _ _) rfl ?_
                      exact ⟨⟨_, rfl⟩, HSD.out.1, HGR.out⟩
                    · have e1 : (j : Int) < (lr.length : Int) := by omega
                      have e2 : decide (j < lr.length) = true := decide_eq_true (by omega)
                      have e3 : decide ((j : Int) < (lr.length : Int)) = true := decide_eq_true e1
                      have e4 : ¬ ((j : Int) < (lr'.length : Int)) := by omega
                      have e5 : decide (j < lr'.length) = false := decide_eq_false (by omega)
                      have e6 : decide ((j : Int) < (lr'.length : Int)) = false := decide_eq_false e4
                      clear hc1 hc2
                      go_wp2
                      refine bodyPost_end (results_none rfl _ _ _) rfl ?_
                      exact ⟨⟨_, rfl⟩, HSD.out.1, HGR.out⟩
                  | succ gg =>
                    have hjl : j < lr.length := by omega
                    have hjl2 : j < lr'.length := by omega
                    obtain ⟨u, hu⟩ : ∃ u, lr[j]? = some u := ⟨_, List.getElem?_eq_getElem hjl⟩
                    obtain ⟨v, hv⟩ : ∃ v, lr'[j]? = some v := ⟨_, List.getElem?_eq_getElem hjl2⟩
                    obtain ⟨q, o, vs, hAq, hFq, hgl, hrep, hat⟩ := (HXb.out.grN hgr).at_ hu
                    obtain ⟨q', o', us, hAq', hFq', hgl', hrep', hat'⟩ := (HYb.out.grN hgr).at_ hv
                    have hck := count_kid lr j u hu
                    have hcv := count_kid lr' j v hv
                    have HEQ2 := Lib.hid (HEQ.out.trans (walkL_drop hu hv))
                    have HI := Lib.hid (fun w' (hb' : Below wr.heap.size wr w') => ih u v (by omega) (by omega) w' g h cc ch C c0 sj vs us ((HSS.out.grN hgr).bel hb') (hsd.bel hb') hl1 hl2 (hrep.bel hb') (hrep'.bel hb'))
                    have HLL := Lib.hid (walkT_len l u v sj)
                    have HL1 := Lib.hid hl1
                    have HL2 := Lib.hid hl2
                    obtain ⟨k1, p1, n1, A1, m1, c1, B1, l1, d1, rfl⟩ := hrep.shape
                    obtain ⟨k2, p2, n2, A2, m2, c2, B2, l2, d2, rfl⟩ := hrep'.shape
                    have q0 := hat 0 _ rfl
                    have q1 := hat 1 _ rfl
                    have q2 := hat 2 _ rfl
                    have q3 := hat 3 _ rfl
                    have q4 := hat 4 _ rfl
                    have r0 := hat' 0 _ rfl
                    have r1 := hat' 1 _ rfl
                    have r2 := hat' 2 _ rfl
                    have r3 := hat' 3 _ rfl
                    have r4 := hat' 4 _ rfl
                    have e1 : (j : Int) < (lr.length : Int) := by omega
                    have e2 : decide (j < lr.length) = true := decide_eq_true (by omega)
                    have e3 : decide ((j : Int) < (lr.length : Int)) = true := decide_eq_true e1
                    have e4 : (j : Int) < (lr'.length : Int) := by omega
                    have e5 : decide (j < lr'.length) = true := decide_eq_true (by omega)
                    have e6 : decide ((j : Int) < (lr'.length : Int)) = true := decide_eq_true e4
                    have j2 : (j : Int) ≤ 2000000 := by omega
                    simp only [Nat.add_zero] at q0 r0
                    have hb0 : ¬ (fun x => x = g ∨ x = h) w.heap.size := by have := HGH.out; show ¬ (w.heap.size = g ∨ w.heap.size = h); omega
                    have hb1 : ¬ (fun x => x = g ∨ x = h) (w.heap.size + 1) := by have := HGH.out; show ¬ (w.heap.size + 1 = g ∨ w.heap.size + 1 = h); omega
                    have HAq := Lib.hid hAq
                    have HAq' := Lib.hid hAq'
                    clear hu hv hat hat' hrep hrep' HEQ hM hgr hka hkb hsd hl1 hl2 hAq hAq'
                    obtain ⟨ts, hts⟩ : ∃ ts, walkT l u v sj = ts := ⟨_, rfl⟩
                    rw [hts] at HEQ2 HI HLL
                    clear hts
                    go_wp2
                    refine wp_region_held_drew (S := fun W => Gr (fun x => x = g ∨ x = h) wr W) (by kernel_rfl) (Gr.refl wr).drew (fun hS0 => ?_)
                    refine wpAnyH_take (i := 0) (v := .slice C l.length c0) rfl (by kernel_rfl) (by kernel_rfl) (by kernel_rfl) (fun _ _ _ h => h) (Or.inl ⟨rfl, fun w' hS => by (unfold execOp; go_simp)⟩) hS0 ?_
                    simp only [Act.put, List.getElem_toArray, List.getElem_cons_zero, List.getElem_cons_succ, List.setIfInBounds_toArray, List.set_cons_zero, List.set_cons_succ]
                    refine wpAnyH_take (i := 1) (v := .slice (some ⟨g, 0, none⟩) l.length cc) rfl (by kernel_rfl) (by kernel_rfl) (by kernel_rfl) (fun _ _ _ h => h) (Or.inl ⟨rfl, fun w' hS => by (unfold execOp; go_simp)⟩) hS0 ?_
                    simp only [Act.put, List.getElem_toArray, List.getElem_cons_zero, List.getElem_cons_succ, List.setIfInBounds_toArray, List.set_cons_zero, List.set_cons_succ]
                    refine wpAnyH_take (i := 2) (v := .slice (some ⟨h, 0, none⟩) l.length ch) rfl (by kernel_rfl) (by kernel_rfl) (by kernel_rfl) (fun _ _ _ h => h) (Or.inl ⟨rfl, fun w' hS => by (unfold execOp; go_simp)⟩) hS0 ?_
                    simp only [Act.put, List.getElem_toArray, List.getElem_cons_zero, List.getElem_cons_succ, List.setIfInBounds_toArray, List.set_cons_zero, List.set_cons_succ]
                    refine wpAnyH_take (i := 3) (v := .pointer (some ⟨w.heap.size, 4, none⟩)) rfl (by kernel_rfl) (by kernel_rfl) (by kernel_rfl) (fun _ _ _ h => h) (Or.inl ⟨rfl, fun w' hS => by (unfold execOp; go_simp)⟩) hS0 ?_
                    simp only [Act.put, List.getElem_toArray, List.getElem_cons_zero, List.getElem_cons_succ, List.setIfInBounds_toArray, List.set_cons_zero, List.set_cons_succ]
                    refine wpAnyH_take (i := 4) (v := .slice B lr.length d) rfl (by kernel_rfl) (by kernel_rfl) (by kernel_rfl) (fun _ _ _ h => h) (Or.inl ⟨rfl, fun w' hS => by (have ya := (hS.cell (p := ⟨w.heap.size, 4, none⟩) al hb0).trans a3; have yl := Nat.lt_of_lt_of_le al hS.size; unfold execOp; go_simp)⟩) hS0 ?_
                    simp only [Act.put, List.getElem_toArray, List.getElem_cons_zero, List.getElem_cons_succ, List.setIfInBounds_toArray, List.set_cons_zero, List.set_cons_succ]
                    refine wpAnyH_take (i := 5) (v := .int .i64 j) rfl (by kernel_rfl) (by kernel_rfl) (by kernel_rfl) (fun _ _ _ h => h) (Or.inl ⟨rfl, fun w' hS => by (unfold execOp; go_simp)⟩) hS0 ?_
                    simp only [Act.put, List.getElem_toArray, List.getElem_cons_zero, List.getElem_cons_succ, List.setIfInBounds_toArray, List.set_cons_zero, List.set_cons_succ]
                    refine wpAnyH_take (i := 6) (v := .pointer (some ⟨q, o + j * 5, none⟩)) rfl (by kernel_rfl) (by kernel_rfl) (by kernel_rfl) (fun _ _ _ h => h) (Or.inl ⟨rfl, fun w' hS => by (have za := HAq.out; unfold execOp; go_simp)⟩) hS0 ?_
                    simp only [Act.put, List.getElem_toArray, List.getElem_cons_zero, List.getElem_cons_succ, List.setIfInBounds_toArray, List.set_cons_zero, List.set_cons_succ]
                    refine wpAnyH_take (i := 7) (v := .agg #[.int .i64 k1, .string p1, .string n1, .slice A1 m1 c1, .slice B1 l1 d1]) rfl (by kernel_rfl) (by kernel_rfl) (by kernel_rfl) (fun _ _ _ h => h) (Or.inl ⟨rfl, fun w' hS => by (have y0 := (hS.oldN hFq hgl _).trans q0; have y1 := (hS.oldN hFq hgl _).trans q1; have y2 := (hS.oldN hFq hgl _).trans q2; have y3 := (hS.oldN hFq hgl _).trans q3; have y4 := (hS.oldN hFq hgl _).trans q4; unfold execOp; go_simp)⟩) hS0 ?_
                    simp only [Act.put, List.getElem_toArray, List.getElem_cons_zero, List.getElem_cons_succ, List.setIfInBounds_toArray, List.set_cons_zero, List.set_cons_succ]
                    refine wpAnyH_take (i := 8) (v := .pointer (some ⟨w.heap.size + 1, 4, none⟩)) rfl (by kernel_rfl) (by kernel_rfl) (by kernel_rfl) (fun _ _ _ h => h) (Or.inl ⟨rfl, fun w' hS => by (unfold execOp; go_simp)⟩) hS0 ?_
                    simp only [Act.put, List.getElem_toArray, List.getElem_cons_zero, List.getElem_cons_succ, List.setIfInBounds_toArray, List.set_cons_zero, List.set_cons_succ]
                    refine wpAnyH_take (i := 9) (v := .slice B' lr'.length d') rfl (by kernel_rfl) (by kernel_rfl) (by kernel_rfl) (fun _ _ _ h => h) (Or.inl ⟨rfl, fun w' hS => by (have ya := (hS.cell (p := ⟨w.heap.size + 1, 4, none⟩) bl hb1).trans b3; have yl := Nat.lt_of_lt_of_le bl hS.size; unfold execOp; go_simp)⟩) hS0 ?_
                    simp only [Act.put, List.getElem_toArray, List.getElem_cons_zero, List.getElem_cons_succ, List.setIfInBounds_toArray, List.set_cons_zero, List.set_cons_succ]
                    refine wpAnyH_take (i := 10) (v := .int .i64 j) rfl (by kernel_rfl) (by kernel_rfl) (by kernel_rfl) (fun _ _ _ h => h) (Or.inl ⟨rfl, fun w' hS => by (unfold execOp; go_simp)⟩) hS0 ?_
                    simp only [Act.put, List.getElem_toArray, List.getElem_cons_zero, List.getElem_cons_succ, List.setIfInBounds_toArray, List.set_cons_zero, List.set_cons_succ]
                    refine wpAnyH_take (i := 11) (v := .pointer (some ⟨q', o' + j * 5, none⟩)) rfl (by kernel_rfl) (by kernel_rfl) (by kernel_rfl) (fun _ _ _ h => h) (Or.inl ⟨rfl, fun w' hS => by (have za := HAq'.out; unfold execOp; go_simp)⟩) hS0 ?_
                    simp only [Act.put, List.getElem_toArray, List.getElem_cons_zero, List.getElem_cons_succ, List.setIfInBounds_toArray, List.set_cons_zero, List.set_cons_succ]
                    refine wpAnyH_take (i := 12) (v := .agg #[.int .i64 k2, .string p2, .string n2, .slice A2 m2 c2, .slice B2 l2 d2]) rfl (by kernel_rfl) (by kernel_rfl) (by kernel_rfl) (fun _ _ _ h => h) (Or.inl ⟨rfl, fun w' hS => by (have y0 := (hS.oldN hFq' hgl' _).trans r0; have y1 := (hS.oldN hFq' hgl' _).trans r1; have y2 := (hS.oldN hFq' hgl' _).trans r2; have y3 := (hS.oldN hFq' hgl' _).trans r3; have y4 := (hS.oldN hFq' hgl' _).trans r4; unfold execOp; go_simp)⟩) hS0 ?_
                    simp only [Act.put, List.getElem_toArray, List.getElem_cons_zero, List.getElem_cons_succ, List.setIfInBounds_toArray, List.set_cons_zero, List.set_cons_succ]
                    refine wpAnyH_one (i := 13) (by kernel_rfl) rfl rfl (op_call (args := #[.slice C l.length c0, .slice (some ⟨g, 0, none⟩) l.length cc, .slice (some ⟨h, 0, none⟩) l.length ch, .agg #[.int .i64 k1, .string p1, .string n1, .slice A1 m1 c1, .slice B1 l1 d1], .agg #[.int .i64 k2, .string p2, .string n2, .slice A2 m2 c2, .slice B2 l2 d2]]) (f := 64) (by unfold execOp; go_simp) ((HI.out _ (Below.refl _ wr).drew).mono ?_))
                    rintro e w5 ⟨⟨vv, rfl⟩, hs5, hg5⟩
                    have hG5 : Gr (fun x => x = g ∨ x = h) wr w5 := hS0.trans hg5
                    refine And.intro hG5 ?_
                    simp only [Act.put, List.getElem_toArray, List.getElem_cons_zero, List.getElem_cons_succ, List.setIfInBounds_toArray, List.set_cons_zero, List.set_cons_succ]
                    refine wpAnyH_done (by kernel_rfl) ?_ _
                    have HF := Lib.hid (show Gr (fun x => x = g ∨ x = h) w w5 ∧ Blk w5 w.heap.size 24 #[.int .i64 7, .string p, .string n, .slice A la.length c, .slice B lr.length d] ∧ Blk w5 (w.heap.size + 1) 24 #[.int .i64 7, .string p', .string n', .slice A' la'.length c', .slice B' lr'.length d'] ∧ Sd w5 g h ts ∧ ts.1.length = l.length ∧ ts.2.length = l.length from ⟨HGR.out.trans hG5, hG5.blk HKA.out hb0, hG5.blk HKB.out hb1, hs5, HLL.out.1.trans HL1.out, HLL.out.2.trans HL2.out⟩)
                    clear hS0 hG5 hs5 hg5 a3 b3
                    go_wp2
                    go_roundg gg
                    case measure => omega
                    case rel => exact ⟨j + 1, ts, by omega, by go_num, HF.out.1, HF.out.2.1, HF.out.2.2.1, HF.out.2.2.2.1, HF.out.2.2.2.2.1, HF.out.2.2.2.2.2, HEQ2.out⟩
            | succ gg =>
              have hjl : j < la.length := by omega
              have hjl2 : j < la'.length := by omega
              obtain ⟨u, hu⟩ : ∃ u, la[j]? = some u := ⟨_, List.getElem?_eq_getElem hjl⟩
              obtain ⟨v, hv⟩ : ∃ v, la'[j]? = some v := ⟨_, List.getElem?_eq_getElem hjl2⟩
              obtain ⟨q, o, vs, hAq, hFq, hgl, hrep, hat⟩ := (HXa.out.grN hgr).at_ hu
              obtain ⟨q', o', us, hAq', hFq', hgl', hrep', hat'⟩ := (HYa.out.grN hgr).at_ hv
              have hck := count_kid la j u hu
              have hcv := count_kid la' j v hv
              have HEQ2 := Lib.hid (HEQ.out.trans (walkL_drop hu hv))
              have HI := Lib.hid (fun w' (hb' : Below wr.heap.size wr w') => ih u v (by omega) (by omega) w' g h cc ch C c0 sj vs us ((HSS.out.grN hgr).bel hb') (hsd.bel hb') hl1 hl2 (hrep.bel hb') (hrep'.bel hb'))
              have HLL := Lib.hid (walkT_len l u v sj)
              have HL1 := Lib.hid hl1
              have HL2 := Lib.hid hl2
              obtain ⟨k1, p1, n1, A1, m1, c1, B1, l1, d1, rfl⟩ := hrep.shape
              obtain ⟨k2, p2, n2, A2, m2, c2, B2, l2, d2, rfl⟩ := hrep'.shape
              have q0 := hat 0 _ rfl
              have q1 := hat 1 _ rfl
              have q2 := hat 2 _ rfl
              have q3 := hat 3 _ rfl
              have q4 := hat 4 _ rfl
              have r0 := hat' 0 _ rfl
              have r1 := hat' 1 _ rfl
              have r2 := hat' 2 _ rfl
              have r3 := hat' 3 _ rfl
              have r4 := hat' 4 _ rfl
              have e1 : (j : Int) < (la.length : Int) := by omega
              have e2 : decide (j < la.length) = true := decide_eq_true (by omega)
              have e3 : decide ((j : Int) < (la.length : Int)) = true := decide_eq_true e1
              have e4 : (j : Int) < (la'.length : Int) := by omega
              have e5 : decide (j < la'.length) = true := decide_eq_true (by omega)
              have e6 : decide ((j : Int) < (la'.length : Int)) = true := decide_eq_true e4
              have j2 : (j : Int) ≤ 2000000 := by omega
              simp only [Nat.add_zero] at q0 r0
              have hb0 : ¬ (fun x => x = g ∨ x = h) w.heap.size := by have := HGH.out; show ¬ (w.heap.size = g ∨ w.heap.size = h); omega
              have hb1 : ¬ (fun x => x = g ∨ x = h) (w.heap.size + 1) := by have := HGH.out; show ¬ (w.heap.size + 1 = g ∨ w.heap.size + 1 = h); omega
              have HAq := Lib.hid hAq
              have HAq' := Lib.hid hAq'
              clear hu hv hat hat' hrep hrep' HEQ hM hgr hka hkb hsd hl1 hl2 hAq hAq'
              obtain ⟨ts, hts⟩ : ∃ ts, walkT l u v sj = ts := ⟨_, rfl⟩
              rw [hts] at HEQ2 HI HLL
              clear hts
              go_wp2
              refine wp_region_held_drew (S := fun W => Gr (fun x => x = g ∨ x = h) wr W) (by kernel_rfl) (Gr.refl wr).drew (fun hS0 => ?_)
              refine wpAnyH_take (i := 0) (v := .slice C l.length c0) rfl (by kernel_rfl) (by kernel_rfl) (by kernel_rfl) (fun _ _ _ h => h) (Or.inl ⟨rfl, fun w' hS => by (unfold execOp; go_simp)⟩) hS0 ?_
              simp only [Act.put, List.getElem_toArray, List.getElem_cons_zero, List.getElem_cons_succ, List.setIfInBounds_toArray, List.set_cons_zero, List.set_cons_succ]
              refine wpAnyH_take (i := 1) (v := .slice (some ⟨g, 0, none⟩) l.length cc) rfl (by kernel_rfl) (by kernel_rfl) (by kernel_rfl) (fun _ _ _ h => h) (Or.inl ⟨rfl, fun w' hS => by (unfold execOp; go_simp)⟩) hS0 ?_
              simp only [Act.put, List.getElem_toArray, List.getElem_cons_zero, List.getElem_cons_succ, List.setIfInBounds_toArray, List.set_cons_zero, List.set_cons_succ]
              refine wpAnyH_take (i := 2) (v := .slice (some ⟨h, 0, none⟩) l.length ch) rfl (by kernel_rfl) (by kernel_rfl) (by kernel_rfl) (fun _ _ _ h => h) (Or.inl ⟨rfl, fun w' hS => by (unfold execOp; go_simp)⟩) hS0 ?_
              simp only [Act.put, List.getElem_toArray, List.getElem_cons_zero, List.getElem_cons_succ, List.setIfInBounds_toArray, List.set_cons_zero, List.set_cons_succ]
              refine wpAnyH_take (i := 3) (v := .pointer (some ⟨w.heap.size, 3, none⟩)) rfl (by kernel_rfl) (by kernel_rfl) (by kernel_rfl) (fun _ _ _ h => h) (Or.inl ⟨rfl, fun w' hS => by (unfold execOp; go_simp)⟩) hS0 ?_
              simp only [Act.put, List.getElem_toArray, List.getElem_cons_zero, List.getElem_cons_succ, List.setIfInBounds_toArray, List.set_cons_zero, List.set_cons_succ]
              refine wpAnyH_take (i := 4) (v := .slice A la.length c) rfl (by kernel_rfl) (by kernel_rfl) (by kernel_rfl) (fun _ _ _ h => h) (Or.inl ⟨rfl, fun w' hS => by (have ya := (hS.cell (p := ⟨w.heap.size, 3, none⟩) al hb0).trans a3; have yl := Nat.lt_of_lt_of_le al hS.size; unfold execOp; go_simp)⟩) hS0 ?_
              simp only [Act.put, List.getElem_toArray, List.getElem_cons_zero, List.getElem_cons_succ, List.setIfInBounds_toArray, List.set_cons_zero, List.set_cons_succ]
              refine wpAnyH_take (i := 5) (v := .int .i64 j) rfl (by kernel_rfl) (by kernel_rfl) (by kernel_rfl) (fun _ _ _ h => h) (Or.inl ⟨rfl, fun w' hS => by (unfold execOp; go_simp)⟩) hS0 ?_
              simp only [Act.put, List.getElem_toArray, List.getElem_cons_zero, List.getElem_cons_succ, List.setIfInBounds_toArray, List.set_cons_zero, List.set_cons_succ]
              refine wpAnyH_take (i := 6) (v := .pointer (some ⟨q, o + j * 5, none⟩)) rfl (by kernel_rfl) (by kernel_rfl) (by kernel_rfl) (fun _ _ _ h => h) (Or.inl ⟨rfl, fun w' hS => by (have za := HAq.out; unfold execOp; go_simp)⟩) hS0 ?_
              simp only [Act.put, List.getElem_toArray, List.getElem_cons_zero, List.getElem_cons_succ, List.setIfInBounds_toArray, List.set_cons_zero, List.set_cons_succ]
              refine wpAnyH_take (i := 7) (v := .agg #[.int .i64 k1, .string p1, .string n1, .slice A1 m1 c1, .slice B1 l1 d1]) rfl (by kernel_rfl) (by kernel_rfl) (by kernel_rfl) (fun _ _ _ h => h) (Or.inl ⟨rfl, fun w' hS => by (have y0 := (hS.oldN hFq hgl _).trans q0; have y1 := (hS.oldN hFq hgl _).trans q1; have y2 := (hS.oldN hFq hgl _).trans q2; have y3 := (hS.oldN hFq hgl _).trans q3; have y4 := (hS.oldN hFq hgl _).trans q4; unfold execOp; go_simp)⟩) hS0 ?_
              simp only [Act.put, List.getElem_toArray, List.getElem_cons_zero, List.getElem_cons_succ, List.setIfInBounds_toArray, List.set_cons_zero, List.set_cons_succ]
              refine wpAnyH_take (i := 8) (v := .pointer (some ⟨w.heap.size + 1, 3, none⟩)) rfl (by kernel_rfl) (by kernel_rfl) (by kernel_rfl) (fun _ _ _ h => h) (Or.inl ⟨rfl, fun w' hS => by (unfold execOp; go_simp)⟩) hS0 ?_
              simp only [Act.put, List.getElem_toArray, List.getElem_cons_zero, List.getElem_cons_succ, List.setIfInBounds_toArray, List.set_cons_zero, List.set_cons_succ]
              refine wpAnyH_take (i := 9) (v := .slice A' la'.length c') rfl (by kernel_rfl) (by kernel_rfl) (by kernel_rfl) (fun _ _ _ h => h) (Or.inl ⟨rfl, fun w' hS => by (have ya := (hS.cell (p := ⟨w.heap.size + 1, 3, none⟩) bl hb1).trans b3; have yl := Nat.lt_of_lt_of_le bl hS.size; unfold execOp; go_simp)⟩) hS0 ?_
              simp only [Act.put, List.getElem_toArray, List.getElem_cons_zero, List.getElem_cons_succ, List.setIfInBounds_toArray, List.set_cons_zero, List.set_cons_succ]
              refine wpAnyH_take (i := 10) (v := .int .i64 j) rfl (by kernel_rfl) (by kernel_rfl) (by kernel_rfl) (fun _ _ _ h => h) (Or.inl ⟨rfl, fun w' hS => by (unfold execOp; go_simp)⟩) hS0 ?_
              simp only [Act.put, List.getElem_toArray, List.getElem_cons_zero, List.getElem_cons_succ, List.setIfInBounds_toArray, List.set_cons_zero, List.set_cons_succ]
              refine wpAnyH_take (i := 11) (v := .pointer (some ⟨q', o' + j * 5, none⟩)) rfl (by kernel_rfl) (by kernel_rfl) (by kernel_rfl) (fun _ _ _ h => h) (Or.inl ⟨rfl, fun w' hS => by (have za := HAq'.out; unfold execOp; go_simp)⟩) hS0 ?_
              simp only [Act.put, List.getElem_toArray, List.getElem_cons_zero, List.getElem_cons_succ, List.setIfInBounds_toArray, List.set_cons_zero, List.set_cons_succ]
              refine wpAnyH_take (i := 12) (v := .agg #[.int .i64 k2, .string p2, .string n2, .slice A2 m2 c2, .slice B2 l2 d2]) rfl (by kernel_rfl) (by kernel_rfl) (by kernel_rfl) (fun _ _ _ h => h) (Or.inl ⟨rfl, fun w' hS => by (have y0 := (hS.oldN hFq' hgl' _).trans r0; have y1 := (hS.oldN hFq' hgl' _).trans r1; have y2 := (hS.oldN hFq' hgl' _).trans r2; have y3 := (hS.oldN hFq' hgl' _).trans r3; have y4 := (hS.oldN hFq' hgl' _).trans r4; unfold execOp; go_simp)⟩) hS0 ?_
              simp only [Act.put, List.getElem_toArray, List.getElem_cons_zero, List.getElem_cons_succ, List.setIfInBounds_toArray, List.set_cons_zero, List.set_cons_succ]
              refine wpAnyH_one (i := 13) (by kernel_rfl) rfl rfl (op_call (args := #[.slice C l.length c0, .slice (some ⟨g, 0, none⟩) l.length cc, .slice (some ⟨h, 0, none⟩) l.length ch, .agg #[.int .i64 k1, .string p1, .string n1, .slice A1 m1 c1, .slice B1 l1 d1], .agg #[.int .i64 k2, .string p2, .string n2, .slice A2 m2 c2, .slice B2 l2 d2]]) (f := 64) (by unfold execOp; go_simp) ((HI.out _ (Below.refl _ wr).drew).mono ?_))
              rintro e w5 ⟨⟨vv, rfl⟩, hs5, hg5⟩
              have hG5 : Gr (fun x => x = g ∨ x = h) wr w5 := hS0.trans hg5
              refine And.intro hG5 ?_
              simp only [Act.put, List.getElem_toArray, List.getElem_cons_zero, List.getElem_cons_succ, List.setIfInBounds_toArray, List.set_cons_zero, List.set_cons_succ]
              refine wpAnyH_done (by kernel_rfl) ?_ _
              have HF := Lib.hid (show Gr (fun x => x = g ∨ x = h) w w5 ∧ Blk w5 w.heap.size 24 #[.int .i64 7, .string p, .string n, .slice A la.length c, .slice B lr.length d] ∧ Blk w5 (w.heap.size + 1) 24 #[.int .i64 7, .string p', .string n', .slice A' la'.length c', .slice B' lr'.length d'] ∧ Sd w5 g h ts ∧ ts.1.length = l.length ∧ ts.2.length = l.length from ⟨HGR.out.trans hG5, hG5.blk HKA.out hb0, hG5.blk HKB.out hb1, hs5, HLL.out.1.trans HL1.out, HLL.out.2.trans HL2.out⟩)
              clear hS0 hG5 hs5 hg5 a3 b3
              go_wp2
              go_roundg gg
              case measure => omega
              case rel => exact ⟨j + 1, ts, by omega, by go_num, HF.out.1, HF.out.2.1, HF.out.2.2.1, HF.out.2.2.2.1, HF.out.2.2.2.2.1, HF.out.2.2.2.2.2, HEQ2.out⟩
        · rw [if_neg (fun e => by rcases e.2 with e | e; exact h6 e; exact h7 e)]
          have b6 : (k != 6) = true := by simpa using h6
          have b7 : (k != 7) = true := by simpa using h7
          clear hk h6 h7 hl1 hl2
          go_enter Try.func64, Try.ntmps64
          go_wp2
          refine bodyPost_ret (results_none rfl _ _ _) rfl ?_
          exact ⟨⟨_, rfl⟩, HS0.out.1, HG0.out⟩
    · rw [if_neg (fun e => hkk e.1)]
      have hkb : (k != k') = true := by simpa using hkk
      clear hk hkk hl1 hl2
      go_enter Try.func64, Try.ntmps64
      go_wp2
      refine bodyPost_ret (results_none rfl _ _ _) rfl ?_
      exact ⟨⟨_, rfl⟩, HS0.out.1, HG0.out⟩
theorem walk_all (l : List ByteArray) (hll : l.length ≤ 100000) : ∀ N : Nat, N ≤ 2000000 → WkC l N
  | 0, _ => fun t _ h => by have := count_pos t; omega
  | N + 1, h => walk_step l hll N (walk_all l hll N (by omega)) (by omega)
end Go.Proofs.Ytkgilhdoahkakaa
