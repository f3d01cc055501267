/-
  Put, whole: a walk. The document's place.
-/
import Derived.Test.YtkgilhdoahkakaaTyYb
namespace Go.Proofs.Ytkgilhdoahkakaa
open Go.RowKit
set_option linter.unusedVariables false
set_option linter.unusedSimpArgs false

theorem Small.of {ts : List Ty} (hc : countL ts ≤ 2000000) (hz : mxL ts ≤ 140737488355328) : Small ts := by
  intro u hu
  obtain ⟨i, hi⟩ := List.mem_iff_getElem?.1 hu
  have := count_kid ts i u hi
  have := mx_kid ts i u hi
  exact ⟨by omega, by omega⟩
set_option maxRecDepth 100000 in
set_option maxHeartbeats 4000000 in
theorem put_any (t : Ty) (nl : List ByteArray) (ts : List Ty) (hc : t.count ≤ 2000000) (hz : t.mx ≤ 140737488355328) (hnl : nl.length ≤ 100000) (hsm : Small ts) (w : World) (F F' F'' : Nat → Prop) (vs : List Value) (C D : Option Addr) (cc f : Nat) (hr : RT w F t vs) (hs : SlS w F' C nl) (ht : SlT w F'' D ts) :
    Calls Try.prog 31 #[.agg vs.toArray, .slice C nl.length cc, .slice D ts.length f] w (NewP (putT nl ts t) w) := by
  have HP := Lib.hid (fun w' (h : Below w.heap.size w w') => places_any w' F' C cc nl (hs.bel h) hnl)
  have HI := Lib.hid (fun w1 V m (hm : PlMap w1 m nl) (h1 : Below w.heap.size w w1) (h2 : Below w1.heap.size w1 V) => put_all nl ts hnl hsm 2000000 (Nat.le_refl _) t hc hz V F F'' m D f vs ⟨hm.bel h2, (ht.bel h1).bel h2⟩ ((hr.bel h1).bel h2))
  obtain ⟨k, p, n, la, lr⟩ := t
  obtain ⟨A, c, B, d, rfl, ha, hb⟩ := hr.openL
  show Calls Try.prog 31 #[.agg #[.int .i64 k, .string p, .string n, .slice A la.length c, .slice B lr.length d], .slice C nl.length cc, .slice D ts.length f] w _
  generalize hT : putT nl ts (.mk k p n la lr) = T at HI ⊢
  simp only [tyC] at HI
  have hS1 : Below w.heap.size w ((w.alloc (.cells #[.int .i64 k, .string p, .string n, .slice A la.length c, .slice B lr.length d] 24)).alloc (.cells #[.int .i64 0, .string ⟨#[]⟩, .string ⟨#[]⟩, .slice none 0 0, .slice none 0 0] 24)) := ((Below.refl _ w).alloc (Nat.le_refl _) _).alloc (by simp) _
  have HS1 := Lib.hid hS1
  have hR1 : Blk ((w.alloc (.cells #[.int .i64 k, .string p, .string n, .slice A la.length c, .slice B lr.length d] 24)).alloc (.cells #[.int .i64 0, .string ⟨#[]⟩, .string ⟨#[]⟩, .slice none 0 0, .slice none 0 0] 24)) (w.heap.size + 1) 24 #[.int .i64 0, .string ⟨#[]⟩, .string ⟨#[]⟩, .slice none 0 0, .slice none 0 0] := Blk.new_at (by simp)
  have hK1 : Blk ((w.alloc (.cells #[.int .i64 k, .string p, .string n, .slice A la.length c, .slice B lr.length d] 24)).alloc (.cells #[.int .i64 0, .string ⟨#[]⟩, .string ⟨#[]⟩, .slice none 0 0, .slice none 0 0] 24)) w.heap.size 24 #[.int .i64 k, .string p, .string n, .slice A la.length c, .slice B lr.length d] := (Blk.new _ _ _).alloc _
  have HR1 := Lib.hid hR1
  have HK1 := Lib.hid hK1
  clear hr ha hb hs ht hc hz hsm hS1 hR1 hK1 hT
  go_enter Try.func31, Try.ntmps31
  go_wp2_with (first
    | (go_at_call 55; ((with_reducible refine (HP.out _ HS1.out).mono ?_); rintro e w1 ⟨rfl, hm1, hb1⟩); have HB1 := Lib.hid (HS1.out.trans (hb1.mono HS1.out.size)); have HM1 := Lib.hid (show PlMap w1 (w.heap.size + 1 + 1) nl by simpa using hm1); have hK2 := HK1.out.below hb1 HK1.out.lt; have k0 := hK2.cell 0; have k1 := hK2.cell 1; have k2 := hK2.cell 2; have k3 := hK2.cell 3; have k4 := hK2.cell 4; have kl := hK2.lt; have HK2 := Lib.hid hK2; have HR2 := Lib.hid (HR1.out.below hb1 HR1.out.lt); clear hm1 hb1 hK2)
    | (go_at_call 56; ((with_reducible refine (HI.out _ _ _ HM1.out HB1.out ?_).mono ?_); (exact (Below.refl _ _).alloc (Nat.le_refl _) _); rintro e w5 ⟨k2, p2, n2, A2, m2, c2, B2, l2, d2, rfl, hr5, hb5⟩; have hR5 := (HR2.out.alloc _).below hb5 (by have := HR2.out.lt; simp; omega); have x0 := hR5.cell 0; have x1 := hR5.cell 1; have x2 := hR5.cell 2; have x3 := hR5.cell 3; have x4 := hR5.cell 4; have xl := hR5.lt; have f0 := hR5.frozen 0; have f1 := hR5.frozen 1; have f2 := hR5.frozen 2; have f3 := hR5.frozen 3; have f4 := hR5.frozen 4; have HRR := Lib.hid hr5; have HBB := Lib.hid ((HB1.out.alloc HB1.out.size _).trans (hb5.mono (by have := HB1.out.size; simp; omega))); have HL1 := Lib.hid HB1.out.size; have HR5 := Lib.hid hR5; clear hr5 hb5 hR5)))
  have hV := put5_blk (show Blk w5 (w.heap.size + 1) 24 z5 from HR5.out) (.int .i64 k2) (.string p2) (.string n2) (.slice A2 m2 c2) (.slice B2 l2 d2)
  have HV5 := Lib.hid (put5_bel HBB.out (show w.heap.size ≤ w.heap.size + 1 by omega) (.int .i64 k2) (.string p2) (.string n2) (.slice A2 m2 c2) (.slice B2 l2 d2))
  have HL := HR2.out.lt
  have HVR := Lib.hid ((HRR.out.gr (put5_gr w5 (w.heap.size + 1) (.int .i64 k2) (.string p2) (.string n2) (.slice A2 m2 c2) (.slice B2 l2 d2)) (fun h => by simp at h; omega)).more (F' := fun q => w.heap.size ≤ q) (fun q hq => by have := HL1.out; simp at hq; show w.heap.size ≤ q; omega))
  have y0 := hV.cell 0
  have y1 := hV.cell 1
  have y2 := hV.cell 2
  have y3 := hV.cell 3
  have y4 := hV.cell 4
  clear hV x0 x1 x2 x3 x4 f0 f1 f2 f3 f4
  show bodyPost _ _ _ _ _ (put5 w5 (w.heap.size + 1) (.int .i64 k2) (.string p2) (.string n2) (.slice A2 m2 c2) (.slice B2 l2 d2))
  generalize put5 w5 (w.heap.size + 1) (.int .i64 k2) (.string p2) (.string n2) (.slice A2 m2 c2) (.slice B2 l2 d2) = V at HV5 HVR y0 y1 y2 y3 y4 ⊢
  exact bodyPost_ret (v := .agg #[.int .i64 k2, .string p2, .string n2, .slice A2 m2 c2, .slice B2 l2 d2]) (by simp [results, Try.results31, go_sem, y0, y1, y2, y3, y4]) rfl ⟨_, _, _, _, _, _, _, _, _, rfl, HVR.out, HV5.out⟩
def plI (l : List ByteArray) (s : ByteArray) : Int := match place l s with | some i => (i : Int) | none => -1
theorem place_drop {l : List ByteArray} {s a : ByteArray} {j : Nat} (h : l[j]? = some a) : place (l.drop j) s = if a = s then some 0 else (place (l.drop (j + 1)) s).map (· + 1) := by
  obtain ⟨h1, h2⟩ := List.getElem?_eq_some_iff.1 h
  rw [List.drop_eq_getElem_cons h1, h2, place]
set_option maxRecDepth 100000 in
set_option maxHeartbeats 2000000 in
theorem rplace_any (w : World) (F : Nat → Prop) (A : Option Addr) (c : Nat) (l : List ByteArray) (s : ByteArray) (hs : SlS w F A l) (hl : l.length ≤ 100000) :
    Calls Try.prog 57 #[.slice A l.length c, .string s] w fun e w' => e = .returned (.int .i64 (plI l s)) ∧ w = w' := by
  have HS := Lib.hid hs
  have n0 : (0 : Int) ≤ (l.length : Int) := by omega
  have n1 : (l.length : Int) ≤ 100000 := by omega
  obtain ⟨res, hres⟩ : ∃ r, plI l s = r := ⟨_, rfl⟩
  have HR := Lib.hid hres
  rw [hres]
  clear hs hres
  go_enter Try.func57, Try.ntmps57
  go_wp2
  go_loopg [5] l.length (fun gk v5 wr => ∃ j : Nat, j + gk = l.length ∧ v5 = .int .i64 j ∧ wr = w ∧ place l s = (place (l.drop j) s).map (· + j))
  case atStart => exact ⟨0, by simp, rfl, rfl, by simp⟩
  case round =>
    obtain ⟨j, hj, rfl, rfl, hsm⟩ := hrel
    cases gk with
    | zero =>
      obtain rfl : j = l.length := by omega
      have HE := Lib.hid (show res = -1 by rw [← HR.out, plI, hsm]; simp [place])
      clear hj hsm
      go_wp2
      go_ret
      exact ⟨by rw [HE.out]; rfl, rfl⟩
    | succ f =>
      have hjl : j < l.length := by omega
      obtain ⟨a, ha⟩ : ∃ a, l[j]? = some a := ⟨_, List.getElem?_eq_getElem hjl⟩
      obtain ⟨q, o, rfl, hF, hgl, hat⟩ := HS.out.2 (by omega)
      have q0 := hat j a ha
      have j1 : (j : Int) < (l.length : Int) := by omega
      rw [place_drop ha] at hsm
      by_cases e : a = s
      · subst e
        have HE := Lib.hid (show res = (j : Int) by rw [← HR.out, plI, hsm]; simp)
        clear hsm ha hat
        go_wp2
        go_ret
        exact ⟨by rw [HE.out]; rfl, rfl⟩
      · have eb : (a.toList == s.toList) = false := by simpa [toList_inj] using e
        rw [if_neg e] at hsm
        have HSM := Lib.hid hsm
        clear hsm ha hat e
        go_wp2
        go_roundg f
        case measure => omega
        case rel => exact ⟨j + 1, by omega, by go_num, rfl, by rw [HSM.out, Option.map_map]; congr 1; funext x; simp only [Function.comp]; omega⟩
end Go.Proofs.Ytkgilhdoahkakaa
