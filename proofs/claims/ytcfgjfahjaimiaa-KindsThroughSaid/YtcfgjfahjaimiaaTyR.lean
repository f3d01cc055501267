/-
  Names' types, anew: walks.
-/
import Derived.Test.YtcfgjfahjaimiaaTyQ
namespace Go.Proofs.Ytcfgjfahjaimiaa
open Go.RowKit
set_option linter.unusedVariables false
set_option linter.unusedSimpArgs false

def Small (fd : List Ty) : Prop := ∀ u ∈ fd, u.count ≤ 2000000 ∧ u.mx ≤ 140737488355328
set_option maxRecDepth 100000 in
set_option maxHeartbeats 2000000 in
theorem typeOf_any (w : World) (F : Nat → Prop) (m g cc : Nat) (l : List ByteArray) (fd : List Ty) (s : ByteArray) (hsc : Sc w F m g l fd) (hm : s ∈ l) (hs : s.size ≤ maxLen) (hll : l.length ≤ 100000) (hsm : Small fd) :
    Calls Try.prog 46 #[.agg #[.map (some m), .slice (some ⟨g, 0, none⟩) l.length cc], .string s] w (NewP (foundOf l fd s) w) := by
  obtain ⟨i, hp⟩ := place_some hm
  have hil := place_lt hp
  have hfl := hsc.2.2.1
  obtain ⟨u, hu⟩ : ∃ u, fd[i]? = some u := ⟨_, List.getElem?_eq_getElem (by omega)⟩
  rw [foundOf_eq hp hu]
  have hsmu := hsm u (List.mem_of_getElem? hu)
  obtain ⟨uu, hru, hat⟩ := hsc.2.2.2.at_ hu
  have HI := Lib.hid (fun w' (h : Below w.heap.size w w') => copied_all 2000000 (Nat.le_refl _) u hsmu.1 hsmu.2 w' F uu (hru.bel h))
  obtain ⟨k1, p1, n1, A1, m1, c1, B1, l1, d1, rfl⟩ := hru.shape
  have q0 := hat 0 _ rfl
  have q1 := hat 1 _ rfl
  have q2 := hat 2 _ rfl
  have q3 := hat 3 _ rfl
  have q4 := hat 4 _ rfl
  rw [Nat.add_zero] at q0
  have hgl := hsc.2.2.2.lt
  have i0 : (0 : Int) ≤ (i : Int) := by omega
  have i1 : (i : Int) < (l.length : Int) := by omega
  have hlk2 := fun o o' : Obj => (hsc.1.keep (w' := (w.alloc o).alloc o') ((Below.heap_alloc _ o' m (by have := hsc.1.lt; simp; omega)).trans (Below.heap_alloc w o m hsc.1.lt))).find s hs hp
  have hS1 : Below w.heap.size w ((w.alloc (.cells #[.map (some m), .slice (some ⟨g, 0, none⟩) l.length cc] 72)).alloc (.cells z5 26)) := ((Below.refl _ w).alloc (Nat.le_refl _) _).alloc (by simp) _
  have HS1 := Lib.hid hS1
  have hR1 : Blk ((w.alloc (.cells #[.map (some m), .slice (some ⟨g, 0, none⟩) l.length cc] 72)).alloc (.cells z5 26)) (w.heap.size + 1) 26 z5 := Blk.new_at (by simp)
  have HR1 := Lib.hid hR1
  clear hp hu hat hru hsc hS1 hR1 hsm hsmu
  go_enter Try.func46, Try.ntmps46
  go_wp2_with (go_at_call 53; refine (HI.out _ HS1.out).mono ?_; rintro e w5 ⟨k2, p2, n2, A2, m2, c2, B2, l2, d2, rfl, hr5, hb5⟩; have hR5 := HR1.out.below hb5 HR1.out.lt; have x0 := hR5.cell 0; have x1 := hR5.cell 1; have x2 := hR5.cell 2; have x3 := hR5.cell 3; have x4 := hR5.cell 4; simp only [z5] at x0 x1 x2 x3 x4; have xl := hR5.lt; have f0 := hR5.frozen 0; have f1 := hR5.frozen 1; have f2 := hR5.frozen 2; have f3 := hR5.frozen 3; have f4 := hR5.frozen 4; have HRR := Lib.hid hr5; have HBB := Lib.hid hb5; have HR5 := Lib.hid hR5; clear hr5 hb5 hR5)
  have hV := put5_blk HR5.out (.int .i64 k2) (.string p2) (.string n2) (.slice A2 m2 c2) (.slice B2 l2 d2)
  have HV5 := Lib.hid (put5_bel ((HS1.out.trans (HBB.out.mono HS1.out.size))) (show w.heap.size ≤ w.heap.size + 1 by omega) (.int .i64 k2) (.string p2) (.string n2) (.slice A2 m2 c2) (.slice B2 l2 d2))
  have HVR := Lib.hid ((HRR.out.gr (put5_gr w5 (w.heap.size + 1) (.int .i64 k2) (.string p2) (.string n2) (.slice A2 m2 c2) (.slice B2 l2 d2)) (fun h => by simp at h; omega)).more (F' := fun q => w.heap.size ≤ q) (fun q hq => by simp at hq; show w.heap.size ≤ q; omega))
  have y0 := hV.cell 0
  have y1 := hV.cell 1
  have y2 := hV.cell 2
  have y3 := hV.cell 3
  have y4 := hV.cell 4
  clear hV x0 x1 x2 x3 x4 f0 f1 f2 f3 f4
  show bodyPost _ _ _ _ _ (put5 w5 (w.heap.size + 1) (.int .i64 k2) (.string p2) (.string n2) (.slice A2 m2 c2) (.slice B2 l2 d2))
  generalize put5 w5 (w.heap.size + 1) (.int .i64 k2) (.string p2) (.string n2) (.slice A2 m2 c2) (.slice B2 l2 d2) = V at HV5 HVR y0 y1 y2 y3 y4 ⊢
  exact bodyPost_ret (v := .agg #[.int .i64 k2, .string p2, .string n2, .slice A2 m2 c2, .slice B2 l2 d2]) (by simp [results, Try.results46, go_sem, y0, y1, y2, y3, y4]) rfl ⟨_, _, _, _, _, _, _, _, _, rfl, HVR.out, HV5.out⟩
theorem set_zeroM (l : List ByteArray) (φ : ByteArray → Ty) (j f : Nat) (u : ByteArray) (h : l[j]? = some u) : ((l.take j).map φ ++ List.replicate (f + 1) tyZ).set j (φ u) = (l.take (j + 1)).map φ ++ List.replicate f tyZ := by
  have hj := (List.getElem?_eq_some_iff.1 h).1
  have hl : ((l.take j).map φ).length = j := by simp; omega
  rw [List.set_append_right _ _ (by omega), hl, Nat.sub_self, List.replicate_succ, List.set_cons_zero, List.take_add_one, h, Option.toList_some, List.map_append, List.append_assoc]
  rfl
theorem at_zeroM (l : List ByteArray) (φ : ByteArray → Ty) (j f : Nat) (h : j < l.length) : ((l.take j).map φ ++ List.replicate (f + 1) tyZ)[j]? = some tyZ := by
  have hl : ((l.take j).map φ).length = j := by simp; omega
  rw [List.getElem?_append_right (by omega), hl, Nat.sub_self, List.replicate_succ]
  rfl
set_option maxRecDepth 100000 in
set_option maxHeartbeats 2000000 in
theorem each_typeOf (w : World) (F F' : Nat → Prop) (A : Option Addr) (c m g cc : Nat) (l : List ByteArray) (fd : List Ty) (hsc : Sc w F m g l fd) (hs : SlS w F' A l) (hll : l.length ≤ 100000) (hsm : Small fd) :
    Calls Try.prog 45 #[.slice A l.length c, .func (Fn.func 46) #[.agg #[.map (some m), .slice (some ⟨g, 0, none⟩) l.length cc]] #[]] w (NewsP (l.map (foundOf l fd)) w) := by
  have HS := Lib.hid hs
  have HSC := Lib.hid hsc
  have HSM := Lib.hid hsm
  have n0 : (0 : Int) ≤ (l.length : Int) := by omega
  have n1 : (l.length : Int) ≤ 100000 := by omega
  by_cases hl0 : l.length = 0
  · obtain rfl : l = [] := List.length_eq_zero_iff.1 hl0
    clear hs hsc hsm hl0 HS HSC HSM n0 n1
    go_enter Try.func45, Try.ntmps45
    go_wp2
    go_loopg [16] 0 (fun gk v16 wr => v16 = .int .i64 0 ∧ wr = w)
    case atStart => exact ⟨rfl, rfl⟩
    case round =>
      obtain ⟨rfl, rfl⟩ := hrel
      go_wp2
      go_ret
      exact ⟨_, _, rfl, SlT.none_ _ _, Below.refl _ _⟩
  · have n2 : (0 : Int) < (l.length : Int) := by omega
    have n3 : decide (0 < l.length) = true := decide_eq_true (by omega)
    have hmk := fun W => run_mk l.length (by omega) W
    clear hs hsc hsm hl0
    go_enter Try.func45, Try.ntmps45
    go_wp2
    go_loopg [16] l.length (fun gk v16 wr => ∃ j : Nat, j + gk = l.length ∧ v16 = .int .i64 j ∧ Below w.heap.size w wr ∧ Fd wr (fun k => w.heap.size < k) w.heap.size ((l.take j).map (foundOf l fd) ++ List.replicate gk tyZ))
    case atStart => exact ⟨0, by simp, rfl, (Below.refl _ w).alloc (Nat.le_refl _) _, by simpa using Fd.made w (fun k => w.heap.size < k) l.length (by simp)⟩
    case round =>
      obtain ⟨j, hj, rfl, hb, hfd⟩ := hrel
      have HB := Lib.hid hb
      have HF := Lib.hid hfd
      cases gk with
      | zero =>
        obtain rfl : j = l.length := by omega
        clear hj hfd hb
        go_wp2
        go_ret
        refine ⟨some ⟨w.heap.size, 0, none⟩, l.length, by rw [List.length_map]; rfl, ?_, HB.out⟩
        have := HF.out
        rw [List.take_length, List.replicate_zero, List.append_nil] at this
        exact this.slice (fun k hk => Nat.le_of_lt hk) (Nat.le_refl _)
      | succ f =>
        have hjl : j < l.length := by omega
        obtain ⟨s, hs⟩ : ∃ s, l[j]? = some s := ⟨_, List.getElem?_eq_getElem hjl⟩
        have hmem := List.mem_of_getElem? hs
        have hss := HS.out.1 s hmem
        obtain ⟨q, o, rfl, hFq, hgl, hat⟩ := HS.out.2 (by omega)
        have q0 := (hb.cell (p := ⟨q, o + j, none⟩) hgl).trans (hat j s hs)
        have HI := Lib.hid (typeOf_any wr F m g cc l fd s (HSC.out.bel hb) hmem hss hll HSM.out)
        have j1 : (j : Int) < (l.length : Int) := by omega
        have HU := Lib.hid hs
        clear hat hb hfd hs hmem hss
        go_wp2_with (go_at_call 46; refine HI.out.mono ?_; rintro e w5 ⟨k2, p2, n2, A2, m2, c2, B2, l2, d2, rfl, hr5, hB5⟩; have hF5 := HF.out.bel hB5; obtain ⟨zz, hzr, hat5⟩ := hF5.at_ (at_zeroM l (foundOf l fd) j f hjl); obtain ⟨k3, p3, n3', A3, m3, c3, B3, l3, d3, rfl⟩ := hzr.shape; have x0 := hat5 0 _ rfl; have x1 := hat5 1 _ rfl; have x2 := hat5 2 _ rfl; have x3 := hat5 3 _ rfl; have x4 := hat5 4 _ rfl; rw [Nat.add_zero] at x0; have f0 := hF5.thaw (j * 5); have f1 := hF5.thaw (j * 5 + 1); have f2 := hF5.thaw (j * 5 + 2); have f3 := hF5.thaw (j * 5 + 3); have f4 := hF5.thaw (j * 5 + 4); have HR5 := Lib.hid hr5; have HF5 := Lib.hid hF5; have HB5 := Lib.hid hB5; clear hr5 hF5 hB5 hat5)
        go_roundg f
        case measure => omega
        case rel =>
          have hBl := HB.out.size
          have hFl := HF.out.lt
          have hP := HF5.out.put (i := j) (by simp; omega) (HR5.out.more (fun k hk => by have : wr.heap.size ≤ k := hk; show w.heap.size < k; omega))
          rw [set_zeroM l (foundOf l fd) j f s HU.out] at hP
          exact ⟨j + 1, by omega, by go_num, five_bel (HB.out.trans (HB5.out.mono hBl)) (Nat.le_refl _) _ _ _ _ _ _, hP.1⟩
end Go.Proofs.Ytcfgjfahjaimiaa
