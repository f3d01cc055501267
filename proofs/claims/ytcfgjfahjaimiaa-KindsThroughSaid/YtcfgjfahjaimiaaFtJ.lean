/-
  What may stand where another is wanted: the document's Has.
-/
import Derived.Test.YtcfgjfahjaimiaaFtF
import Derived.Test.YtcfgjfahjaimiaaSrQ
namespace Go.Proofs.Ytcfgjfahjaimiaa
open Go.RowKit
set_option linter.unusedVariables false
set_option linter.unusedSimpArgs false

def MlP (l : List Fi) (w : World) (e : Ending) (w' : World) : Prop := (∃ A c, e = .returned (.slice A l.length c) ∧ SlG 6 RFi w' (fun _ => True) A l) ∧ Below w.heap.size w w'
theorem hasP_snoc (l : List Fi) (m f : Fi) : hasP (l ++ [m]) f = (hasP l f || (decide (m.name = f.name) && same m.ty f.ty)) := by
  unfold hasP
  rw [List.any_append]
  simp
theorem take_snoc {l : List Fi} {k : Nat} {m : Fi} (h : l[k]? = some m) : l.take (k + 1) = l.take k ++ [m] := by
  rw [List.take_add_one, h]; rfl
set_option maxRecDepth 100000 in
set_option maxHeartbeats 8000000 in
theorem rhas_core (w : World) (k0 k1 : Int) (p0 n0 p1 n1 : ByteArray) (A0 B0 A1 B1 A V : Option Addr) (m0 c0 l0 d0 m1 c1 l1 d1 c cv nv nu : Nat) (H L : List Fi) (hH : H.length ≤ 2000) (hL : L.length ≤ 2000) (hct : ∀ m ∈ H, m.ty.count ≤ 2000000)
   (HM : ∀ w' : World, Below w.heap.size w w' → Calls Try.prog 13 #[.slice A nu c, .slice V nv cv, .agg #[.int .i64 k0, .string p0, .string n0, .slice A0 m0 c0, .slice B0 l0 d0]] w' (MlP H w'))
   (HN : ∀ w' : World, Below w.heap.size w w' → Calls Try.prog 13 #[.slice A nu c, .slice V nv cv, .agg #[.int .i64 k1, .string p1, .string n1, .slice A1 m1 c1, .slice B1 l1 d1]] w' (MlP L w')) :
    Calls Try.prog 36 #[.slice A nu c, .slice V nv cv, .agg #[.int .i64 k0, .string p0, .string n0, .slice A0 m0 c0, .slice B0 l0 d0], .agg #[.int .i64 k1, .string p1, .string n1, .slice A1 m1 c1, .slice B1 l1 d1]] w (TruthP w (L.all (hasP H))) := by
  replace HM := Lib.hid HM
  replace HN := Lib.hid HN
  have HCT := Lib.hid hct
  have HHL := Lib.hid hH
  have HLL := Lib.hid hL
  have hb1 := ((Below.refl _ w).alloc (Nat.le_refl _) (.cells #[.int .i64 k0, .string p0, .string n0, .slice A0 m0 c0, .slice B0 l0 d0] 26))
  have hb2 := hb1.alloc hb1.size (.cells #[.int .i64 k1, .string p1, .string n1, .slice A1 m1 c1, .slice B1 l1 d1] 26)
  have HW2 := Lib.hid hb2
  have hkb := Blk.new (w.alloc (.cells #[.int .i64 k0, .string p0, .string n0, .slice A0 m0 c0, .slice B0 l0 d0] 26)) 26 #[.int .i64 k1, .string p1, .string n1, .slice A1 m1 c1, .slice B1 l1 d1]
  rw [show (w.alloc (.cells #[.int .i64 k0, .string p0, .string n0, .slice A0 m0 c0, .slice B0 l0 d0] 26)).heap.size = w.heap.size + 1 from by simp] at hkb
  have HKB2 := Lib.hid hkb
  have n0' : (0 : Int) ≤ (H.length : Int) := by omega
  have n1' : (H.length : Int) ≤ 2000 := by omega
  have n2' : (0 : Int) ≤ (L.length : Int) := by omega
  have n3' : (L.length : Int) ≤ 2000 := by omega
  clear hb1 hb2 hkb hct hH hL
  obtain ⟨R, hR⟩ : ∃ R, L.all (hasP H) = R := ⟨_, rfl⟩
  have HR := Lib.hid hR
  rw [hR]
  clear hR
  go_enter Try.func36, Try.ntmps36
  go_wp2_with (first
    | (go_at_call 13; have _g := HW4; refine (HN.out _ HW4.out).mono ?_; rintro e w5 ⟨⟨A5, c5, rfl, hs5⟩, hb5⟩; have HW5 := Lib.hid (HW4.out.trans (hb5.mono HW4.out.size)); have HS45 := Lib.hid (HS4.out.bel RFi_keeps hb5); have HS5 := Lib.hid hs5; clear hs5 hb5)
    | (go_at_call 13; refine (HM.out _ HW2.out).mono ?_; rintro e w4 ⟨⟨A4, c4, rfl, hs4⟩, hb4⟩; have HW4 := Lib.hid (HW2.out.trans (hb4.mono HW2.out.size)); have HS4 := Lib.hid hs4; have hkb := HKB2.out.bel2 hb4; have mb0 := hkb.cell 0; have mb1 := hkb.cell 1; have mb2 := hkb.cell 2; have mb3 := hkb.cell 3; have mb4 := hkb.cell 4; have mbl := hkb.lt; clear hkb hs4 hb4))
  go_loopg [11] L.length (fun gk v11 wr => ∃ j : Nat, j + gk = L.length ∧ v11 = .int .i64 j ∧ (L.take j).all (hasP H) = true ∧ Below w5.heap.size w5 wr)
  case atStart => exact ⟨0, by simp, rfl, rfl, Below.refl _ _⟩
  case round =>
    obtain ⟨j, hj, rfl, hall, hb⟩ := hrel
    have HB := Lib.hid hb
    have HALL := Lib.hid hall
    have HW := Lib.hid (HW5.out.trans (hb.mono HW5.out.size))
    clear hall hb
    cases gk with
    | zero =>
      obtain rfl : j = L.length := by omega
      have HT := Lib.hid (show R = true from by have h := HALL.out; rw [List.take_length] at h; rw [← HR.out]; exact h)
      clear hj
      go_wp2
      go_ret
      exact ⟨by rw [HT.out]; rfl, HW.out⟩
    | succ f =>
      have hjl : j < L.length := by omega
      obtain ⟨u, hu⟩ : ∃ u, L[j]? = some u := ⟨_, List.getElem?_eq_getElem hjl⟩
      have HU := Lib.hid hu
      have j1 : (j : Int) < (L.length : Int) := by omega
      have jd : decide (j < L.length) = true := decide_eq_true hjl
      have j0 : (0 : Int) ≤ (j : Int) := by omega
      have j2 : (j : Int) ≤ 2000 := by omega
      clear hu
      go_wp2
      obtain ⟨wo, hwo⟩ : ∃ wo : World, wo = wr := ⟨_, rfl⟩
      rw [← hwo] at HB HW ⊢
      clear hwo
      go_loopg [12, 13] H.length (fun gk v12 v13 wr => ∃ (k : Nat) (b : Bool), k + gk = H.length ∧ v13 = .int .i64 k ∧ v12 = .bool b ∧ hasP (H.take k) u = b ∧ Below wo.heap.size wo wr)
      case atStart => exact ⟨0, false, by simp, rfl, rfl, rfl, Below.refl _ _⟩
      case round =>
        obtain ⟨k, b, hk, rfl, rfl, hbk, hb2⟩ := hrel
        have HB2 := Lib.hid hb2
        have HBK := Lib.hid hbk
        clear hbk
        cases gk with
        | zero =>
          obtain rfl : k = H.length := by omega
          have hwz := HW.out.trans (hb2.mono HW.out.size)
          have HWZ := Lib.hid hwz
          cases b with
          | false =>
            have HT := Lib.hid (show R = false from by
              have h := HBK.out
              rw [List.take_length] at h
              rw [← HR.out, List.all_eq_false]
              exact ⟨u, List.mem_of_getElem? HU.out, by rw [h]; decide⟩)
            clear hk hb2 hwz hj hjl
            go_wp2
            go_ret
            exact ⟨by rw [HT.out]; rfl, HWZ.out⟩
          | true =>
            have HNA := Lib.hid (show (L.take (j + 1)).all (hasP H) = true from by
              have h := HBK.out
              rw [List.take_length] at h
              rw [take_snoc HU.out, List.all_append, HALL.out]
              simp [h])
            have HBX := Lib.hid (HB.out.trans (hb2.mono HB.out.size))
            clear hk hb2 hwz
            go_wp2
            go_roundg f
            case measure => omega
            case rel => exact ⟨j + 1, by omega, by go_num, HNA.out, HBX.out⟩
        | succ q =>
          have hkl : k < H.length := by omega
          obtain ⟨m, hm⟩ : ∃ m, H[k]? = some m := ⟨_, List.getElem?_eq_getElem hkl⟩
          have k1' : (k : Int) < (H.length : Int) := by omega
          have kd : decide (k < H.length) = true := decide_eq_true hkl
          have k0' : (0 : Int) ≤ (k : Int) := by omega
          have k2' : (k : Int) ≤ 2000 := by omega
          have HSA := Lib.hid ((HS45.out.bel RFi_keeps HB.out).bel RFi_keeps hb2)
          have HSB := Lib.hid ((HS5.out.bel RFi_keeps HB.out).bel RFi_keeps hb2)
          obtain ⟨g, o, us, eA, _, hgl, hrep, hat⟩ := HSA.out.at_ RFi_sized hm
          obtain ⟨g', o', us', eB, _, hgl', hrep', hat'⟩ := HSB.out.at_ RFi_sized HU.out
          subst eA
          subst eB
          obtain ⟨tv, rfl, hrt⟩ := hrep
          obtain ⟨tv', rfl, hrt'⟩ := hrep'
          have HNX0 := Lib.hid (show hasP (H.take (k + 1)) u = (b || (decide (m.name = u.name) && same m.ty u.ty)) from by rw [take_snoc hm, hasP_snoc, HBK.out])
          have HSM0 := Lib.hid (fun w' (h : Below wr.heap.size wr w') => rsame_all 2000000 (Nat.le_refl _) m.ty u.ty (HCT.out m (List.mem_of_getElem? hm)) w' (fun _ => True) (fun _ => True) tv tv' (hrt.bel h) (hrt'.bel h))
          obtain ⟨h1, h2, h3, h4, h5, h6, h7, h8, h9, rfl⟩ := hrt.shape
          obtain ⟨v1, v2, v3, v4, v5, v6, v7, v8, v9, rfl⟩ := hrt'.shape
          obtain ⟨hn, hhn⟩ : ∃ z, m.name = z := ⟨_, rfl⟩
          obtain ⟨wn, hwn⟩ : ∃ z, u.name = z := ⟨_, rfl⟩
          simp only [tyC, hhn, hwn] at hat hat' HNX0 HSM0
          have q0 := hat 0 _ rfl
          have q1 := hat 1 _ rfl
          have q2 := hat 2 _ rfl
          have q3 := hat 3 _ rfl
          have q4 := hat 4 _ rfl
          have q5 := hat 5 _ rfl
          have r0 := hat' 0 _ rfl
          have r1 := hat' 1 _ rfl
          have r2 := hat' 2 _ rfl
          have r3 := hat' 3 _ rfl
          have r4 := hat' 4 _ rfl
          have r5 := hat' 5 _ rfl
          rw [Nat.add_zero] at q0 r0
          clear hat hat' hrt hrt' hm hb2 hhn hwn
          cases b with
          | true =>
            have HNX := Lib.hid (show hasP (H.take (k + 1)) u = true from by rw [HNX0.out]; rfl)
            clear HNX0 HSM0
            go_wp2
            refine wp_region_held_drew (S := fun V => Below wr.heap.size wr V) (by kernel_rfl) (Below.refl _ wr).drew (fun hS0 => ?_)
            refine wpAnyH_take (i := 0) (v := .bool true) rfl (by kernel_rfl) (by kernel_rfl) (by kernel_rfl) (fun _ _ _ h => h) (Or.inl ⟨rfl, fun w' hS => by (unfold execOp; go_simp)⟩) hS0 ?_
            simp only [Act.put, List.getElem_toArray, List.getElem_cons_zero, List.getElem_cons_succ, List.setIfInBounds_toArray, List.set_cons_zero, List.set_cons_succ]
            refine wpAnyH_take (i := 1) (v := .bool true) rfl (by kernel_rfl) (by kernel_rfl) (by kernel_rfl) (fun _ _ _ h => h) (Or.inl ⟨rfl, fun w' hS => by (unfold execOp; go_simp)⟩) hS0 ?_
            simp only [Act.put, List.getElem_toArray, List.getElem_cons_zero, List.getElem_cons_succ, List.setIfInBounds_toArray, List.set_cons_zero, List.set_cons_succ]
            refine wpAnyH_take (i := 2) (v := undef) rfl (by kernel_rfl) (by kernel_rfl) (by kernel_rfl) (fun _ _ _ h => h) (Or.inr ⟨by kernel_rfl, rfl⟩) hS0 ?_
            simp only [Act.put, List.getElem_toArray, List.getElem_cons_zero, List.getElem_cons_succ, List.setIfInBounds_toArray, List.set_cons_zero, List.set_cons_succ]
            refine wpAnyH_take (i := 3) (v := undef) rfl (by kernel_rfl) (by kernel_rfl) (by kernel_rfl) (fun _ _ _ h => h) (Or.inr ⟨by kernel_rfl, rfl⟩) hS0 ?_
            simp only [Act.put, List.getElem_toArray, List.getElem_cons_zero, List.getElem_cons_succ, List.setIfInBounds_toArray, List.set_cons_zero, List.set_cons_succ]
            refine wpAnyH_take (i := 4) (v := undef) rfl (by kernel_rfl) (by kernel_rfl) (by kernel_rfl) (fun _ _ _ h => h) (Or.inr ⟨by kernel_rfl, rfl⟩) hS0 ?_
            simp only [Act.put, List.getElem_toArray, List.getElem_cons_zero, List.getElem_cons_succ, List.setIfInBounds_toArray, List.set_cons_zero, List.set_cons_succ]
            refine wpAnyH_take (i := 5) (v := undef) rfl (by kernel_rfl) (by kernel_rfl) (by kernel_rfl) (fun _ _ _ h => h) (Or.inr ⟨by kernel_rfl, rfl⟩) hS0 ?_
            simp only [Act.put, List.getElem_toArray, List.getElem_cons_zero, List.getElem_cons_succ, List.setIfInBounds_toArray, List.set_cons_zero, List.set_cons_succ]
            refine wpAnyH_take (i := 6) (v := undef) rfl (by kernel_rfl) (by kernel_rfl) (by kernel_rfl) (fun _ _ _ h => h) (Or.inr ⟨by kernel_rfl, rfl⟩) hS0 ?_
            simp only [Act.put, List.getElem_toArray, List.getElem_cons_zero, List.getElem_cons_succ, List.setIfInBounds_toArray, List.set_cons_zero, List.set_cons_succ]
            refine wpAnyH_take (i := 7) (v := undef) rfl (by kernel_rfl) (by kernel_rfl) (by kernel_rfl) (fun _ _ _ h => h) (Or.inr ⟨by kernel_rfl, rfl⟩) hS0 ?_
            simp only [Act.put, List.getElem_toArray, List.getElem_cons_zero, List.getElem_cons_succ, List.setIfInBounds_toArray, List.set_cons_zero, List.set_cons_succ]
            refine wpAnyH_take (i := 8) (v := undef) rfl (by kernel_rfl) (by kernel_rfl) (by kernel_rfl) (fun _ _ _ h => h) (Or.inr ⟨by kernel_rfl, rfl⟩) hS0 ?_
            simp only [Act.put, List.getElem_toArray, List.getElem_cons_zero, List.getElem_cons_succ, List.setIfInBounds_toArray, List.set_cons_zero, List.set_cons_succ]
            refine wpAnyH_take (i := 9) (v := undef) rfl (by kernel_rfl) (by kernel_rfl) (by kernel_rfl) (fun _ _ _ h => h) (Or.inr ⟨by kernel_rfl, rfl⟩) hS0 ?_
            simp only [Act.put, List.getElem_toArray, List.getElem_cons_zero, List.getElem_cons_succ, List.setIfInBounds_toArray, List.set_cons_zero, List.set_cons_succ]
            refine wpAnyH_take (i := 10) (v := undef) rfl (by kernel_rfl) (by kernel_rfl) (by kernel_rfl) (fun _ _ _ h => h) (Or.inr ⟨by kernel_rfl, rfl⟩) hS0 ?_
            simp only [Act.put, List.getElem_toArray, List.getElem_cons_zero, List.getElem_cons_succ, List.setIfInBounds_toArray, List.set_cons_zero, List.set_cons_succ]
            refine wpAnyH_take (i := 11) (v := undef) rfl (by kernel_rfl) (by kernel_rfl) (by kernel_rfl) (fun _ _ _ h => h) (Or.inr ⟨by kernel_rfl, rfl⟩) hS0 ?_
            simp only [Act.put, List.getElem_toArray, List.getElem_cons_zero, List.getElem_cons_succ, List.setIfInBounds_toArray, List.set_cons_zero, List.set_cons_succ]
            refine wpAnyH_take (i := 12) (v := undef) rfl (by kernel_rfl) (by kernel_rfl) (by kernel_rfl) (fun _ _ _ h => h) (Or.inr ⟨by kernel_rfl, rfl⟩) hS0 ?_
            simp only [Act.put, List.getElem_toArray, List.getElem_cons_zero, List.getElem_cons_succ, List.setIfInBounds_toArray, List.set_cons_zero, List.set_cons_succ]
            refine wpAnyH_take (i := 13) (v := undef) rfl (by kernel_rfl) (by kernel_rfl) (by kernel_rfl) (fun _ _ _ h => h) (Or.inr ⟨by kernel_rfl, rfl⟩) hS0 ?_
            simp only [Act.put, List.getElem_toArray, List.getElem_cons_zero, List.getElem_cons_succ, List.setIfInBounds_toArray, List.set_cons_zero, List.set_cons_succ]
            refine wpAnyH_take (i := 14) (v := undef) rfl (by kernel_rfl) (by kernel_rfl) (by kernel_rfl) (fun _ _ _ h => h) (Or.inr ⟨by kernel_rfl, rfl⟩) hS0 ?_
            simp only [Act.put, List.getElem_toArray, List.getElem_cons_zero, List.getElem_cons_succ, List.setIfInBounds_toArray, List.set_cons_zero, List.set_cons_succ]
            refine wpAnyH_take (i := 15) (v := undef) rfl (by kernel_rfl) (by kernel_rfl) (by kernel_rfl) (fun _ _ _ h => h) (Or.inr ⟨by kernel_rfl, rfl⟩) hS0 ?_
            simp only [Act.put, List.getElem_toArray, List.getElem_cons_zero, List.getElem_cons_succ, List.setIfInBounds_toArray, List.set_cons_zero, List.set_cons_succ]
            refine wpAnyH_take (i := 16) (v := undef) rfl (by kernel_rfl) (by kernel_rfl) (by kernel_rfl) (fun _ _ _ h => h) (Or.inr ⟨by kernel_rfl, rfl⟩) hS0 ?_
            simp only [Act.put, List.getElem_toArray, List.getElem_cons_zero, List.getElem_cons_succ, List.setIfInBounds_toArray, List.set_cons_zero, List.set_cons_succ]
            refine wpAnyH_take (i := 17) (v := undef) rfl (by kernel_rfl) (by kernel_rfl) (by kernel_rfl) (fun _ _ _ h => h) (Or.inr ⟨by kernel_rfl, rfl⟩) hS0 ?_
            simp only [Act.put, List.getElem_toArray, List.getElem_cons_zero, List.getElem_cons_succ, List.setIfInBounds_toArray, List.set_cons_zero, List.set_cons_succ]
            refine wpAnyH_take (i := 18) (v := undef) rfl (by kernel_rfl) (by kernel_rfl) (by kernel_rfl) (fun _ _ _ h => h) (Or.inr ⟨by kernel_rfl, rfl⟩) hS0 ?_
            simp only [Act.put, List.getElem_toArray, List.getElem_cons_zero, List.getElem_cons_succ, List.setIfInBounds_toArray, List.set_cons_zero, List.set_cons_succ]
            refine wpAnyH_take (i := 19) (v := undef) rfl (by kernel_rfl) (by kernel_rfl) (by kernel_rfl) (fun _ _ _ h => h) (Or.inr ⟨by kernel_rfl, rfl⟩) hS0 ?_
            simp only [Act.put, List.getElem_toArray, List.getElem_cons_zero, List.getElem_cons_succ, List.setIfInBounds_toArray, List.set_cons_zero, List.set_cons_succ]
            refine wpAnyH_take (i := 20) (v := undef) rfl (by kernel_rfl) (by kernel_rfl) (by kernel_rfl) (fun _ _ _ h => h) (Or.inr ⟨by kernel_rfl, rfl⟩) hS0 ?_
            simp only [Act.put, List.getElem_toArray, List.getElem_cons_zero, List.getElem_cons_succ, List.setIfInBounds_toArray, List.set_cons_zero, List.set_cons_succ]
            refine wpAnyH_take (i := 21) (v := undef) rfl (by kernel_rfl) (by kernel_rfl) (by kernel_rfl) (fun _ _ _ h => h) (Or.inr ⟨by kernel_rfl, rfl⟩) hS0 ?_
            simp only [Act.put, List.getElem_toArray, List.getElem_cons_zero, List.getElem_cons_succ, List.setIfInBounds_toArray, List.set_cons_zero, List.set_cons_succ]
            refine wpAnyH_take (i := 22) (v := undef) rfl (by kernel_rfl) (by kernel_rfl) (by kernel_rfl) (fun _ _ _ h => h) (Or.inr ⟨by kernel_rfl, rfl⟩) hS0 ?_
            simp only [Act.put, List.getElem_toArray, List.getElem_cons_zero, List.getElem_cons_succ, List.setIfInBounds_toArray, List.set_cons_zero, List.set_cons_succ]
            refine wpAnyH_take (i := 23) (v := undef) rfl (by kernel_rfl) (by kernel_rfl) (by kernel_rfl) (fun _ _ _ h => h) (Or.inr ⟨by kernel_rfl, rfl⟩) hS0 ?_
            simp only [Act.put, List.getElem_toArray, List.getElem_cons_zero, List.getElem_cons_succ, List.setIfInBounds_toArray, List.set_cons_zero, List.set_cons_succ]
            refine wpAnyH_take (i := 24) (v := undef) rfl (by kernel_rfl) (by kernel_rfl) (by kernel_rfl) (fun _ _ _ h => h) (Or.inr ⟨by kernel_rfl, rfl⟩) hS0 ?_
            simp only [Act.put, List.getElem_toArray, List.getElem_cons_zero, List.getElem_cons_succ, List.setIfInBounds_toArray, List.set_cons_zero, List.set_cons_succ]
            refine wpAnyH_take (i := 25) (v := undef) rfl (by kernel_rfl) (by kernel_rfl) (by kernel_rfl) (fun _ _ _ h => h) (Or.inr ⟨by kernel_rfl, rfl⟩) hS0 ?_
            simp only [Act.put, List.getElem_toArray, List.getElem_cons_zero, List.getElem_cons_succ, List.setIfInBounds_toArray, List.set_cons_zero, List.set_cons_succ]
            refine wpAnyH_take (i := 26) (v := .bool true) rfl (by kernel_rfl) (by kernel_rfl) (by kernel_rfl) (fun _ _ _ h => h) (Or.inl ⟨rfl, fun w' hS => by (unfold execOp; go_simp)⟩) hS0 ?_
            simp only [Act.put, List.getElem_toArray, List.getElem_cons_zero, List.getElem_cons_succ, List.setIfInBounds_toArray, List.set_cons_zero, List.set_cons_succ]
            refine wpAnyH_take (i := 27) (v := .bool true) rfl (by kernel_rfl) (by kernel_rfl) (by kernel_rfl) (fun _ _ _ h => h) (Or.inl ⟨rfl, fun w' hS => by (unfold execOp; go_simp)⟩) hS0 ?_
            simp only [Act.put, List.getElem_toArray, List.getElem_cons_zero, List.getElem_cons_succ, List.setIfInBounds_toArray, List.set_cons_zero, List.set_cons_succ]
            refine wpAnyH_done (by kernel_rfl) ?_ _
            have HX := Lib.hid (HB2.out.trans (hS0.mono HB2.out.size))
            clear hS0
            go_wp2
            go_roundg q
            case measure => omega
            case rel => exact ⟨k + 1, true, by omega, by go_num, rfl, HNX.out, HX.out⟩
          | false =>
            by_cases hne : hn = wn
            · subst hne
              cases hs : same m.ty u.ty with
              | true =>
                have HNX := Lib.hid (show hasP (H.take (k + 1)) u = true from by rw [HNX0.out, hs]; simp)
                rw [hs] at HSM0
                have HSM := HSM0
                clear HNX0 HSM0 hs
                go_wp2
                refine wp_region_held_drew (S := fun V => Below wr.heap.size wr V) (by kernel_rfl) (Below.refl _ wr).drew (fun hS0 => ?_)
                refine wpAnyH_take (i := 0) (v := .bool false) rfl (by kernel_rfl) (by kernel_rfl) (by kernel_rfl) (fun _ _ _ h => h) (Or.inl ⟨rfl, fun w' hS => by (unfold execOp; go_simp)⟩) hS0 ?_
                simp only [Act.put, List.getElem_toArray, List.getElem_cons_zero, List.getElem_cons_succ, List.setIfInBounds_toArray, List.set_cons_zero, List.set_cons_succ]
                refine wpAnyH_take (i := 1) (v := .bool false) rfl (by kernel_rfl) (by kernel_rfl) (by kernel_rfl) (fun _ _ _ h => h) (Or.inl ⟨rfl, fun w' hS => by (unfold execOp; go_simp)⟩) hS0 ?_
                simp only [Act.put, List.getElem_toArray, List.getElem_cons_zero, List.getElem_cons_succ, List.setIfInBounds_toArray, List.set_cons_zero, List.set_cons_succ]
                refine wpAnyH_take (i := 2) (v := (.slice (some ⟨g, o, none⟩) H.length c4)) rfl (by kernel_rfl) (by kernel_rfl) (by kernel_rfl) (fun _ _ _ h => h) (Or.inl ⟨by kernel_rfl, fun w' hS => by (unfold execOp; go_simp)⟩) hS0 ?_
                simp only [Act.put, List.getElem_toArray, List.getElem_cons_zero, List.getElem_cons_succ, List.setIfInBounds_toArray, List.set_cons_zero, List.set_cons_succ]
                refine wpAnyH_take (i := 3) (v := .int .i64 k) rfl (by kernel_rfl) (by kernel_rfl) (by kernel_rfl) (fun _ _ _ h => h) (Or.inl ⟨by kernel_rfl, fun w' hS => by (unfold execOp; go_simp)⟩) hS0 ?_
                simp only [Act.put, List.getElem_toArray, List.getElem_cons_zero, List.getElem_cons_succ, List.setIfInBounds_toArray, List.set_cons_zero, List.set_cons_succ]
                refine wpAnyH_take (i := 4) (v := (.pointer (some ⟨g, o + k * 6, none⟩))) rfl (by kernel_rfl) (by kernel_rfl) (by kernel_rfl) (fun _ _ _ h => h) (Or.inl ⟨by kernel_rfl, fun w' hS => by (unfold execOp; go_simp)⟩) hS0 ?_
                simp only [Act.put, List.getElem_toArray, List.getElem_cons_zero, List.getElem_cons_succ, List.setIfInBounds_toArray, List.set_cons_zero, List.set_cons_succ]
                refine wpAnyH_take (i := 5) (v := (.pointer (some ⟨g, o + k * 6, none⟩))) rfl (by kernel_rfl) (by kernel_rfl) (by kernel_rfl) (fun _ _ _ h => h) (Or.inl ⟨by kernel_rfl, fun w' hS => by (unfold execOp; go_simp)⟩) hS0 ?_
                simp only [Act.put, List.getElem_toArray, List.getElem_cons_zero, List.getElem_cons_succ, List.setIfInBounds_toArray, List.set_cons_zero, List.set_cons_succ]
                refine wpAnyH_take (i := 6) (v := .string hn) rfl (by kernel_rfl) (by kernel_rfl) (by kernel_rfl) (fun _ _ _ h => h) (Or.inl ⟨by kernel_rfl, fun w' hS => by (have z0 := (hS.cell (p := ⟨g, _, none⟩) hgl).trans q0; unfold execOp; go_simp)⟩) hS0 ?_
                simp only [Act.put, List.getElem_toArray, List.getElem_cons_zero, List.getElem_cons_succ, List.setIfInBounds_toArray, List.set_cons_zero, List.set_cons_succ]
                refine wpAnyH_take (i := 7) (v := ((.slice (some ⟨g', o', none⟩) L.length c5))) rfl (by kernel_rfl) (by kernel_rfl) (by kernel_rfl) (fun _ _ _ h => h) (Or.inl ⟨by kernel_rfl, fun w' hS => by (unfold execOp; go_simp)⟩) hS0 ?_
                simp only [Act.put, List.getElem_toArray, List.getElem_cons_zero, List.getElem_cons_succ, List.setIfInBounds_toArray, List.set_cons_zero, List.set_cons_succ]
                refine wpAnyH_take (i := 8) (v := .int .i64 j) rfl (by kernel_rfl) (by kernel_rfl) (by kernel_rfl) (fun _ _ _ h => h) (Or.inl ⟨by kernel_rfl, fun w' hS => by (unfold execOp; go_simp)⟩) hS0 ?_
                simp only [Act.put, List.getElem_toArray, List.getElem_cons_zero, List.getElem_cons_succ, List.setIfInBounds_toArray, List.set_cons_zero, List.set_cons_succ]
                refine wpAnyH_take (i := 9) (v := (.pointer (some ⟨g', o' + j * 6, none⟩))) rfl (by kernel_rfl) (by kernel_rfl) (by kernel_rfl) (fun _ _ _ h => h) (Or.inl ⟨by kernel_rfl, fun w' hS => by (unfold execOp; go_simp)⟩) hS0 ?_
                simp only [Act.put, List.getElem_toArray, List.getElem_cons_zero, List.getElem_cons_succ, List.setIfInBounds_toArray, List.set_cons_zero, List.set_cons_succ]
                refine wpAnyH_take (i := 10) (v := (.pointer (some ⟨g', o' + j * 6, none⟩))) rfl (by kernel_rfl) (by kernel_rfl) (by kernel_rfl) (fun _ _ _ h => h) (Or.inl ⟨by kernel_rfl, fun w' hS => by (unfold execOp; go_simp)⟩) hS0 ?_
                simp only [Act.put, List.getElem_toArray, List.getElem_cons_zero, List.getElem_cons_succ, List.setIfInBounds_toArray, List.set_cons_zero, List.set_cons_succ]
                refine wpAnyH_take (i := 11) (v := .string hn) rfl (by kernel_rfl) (by kernel_rfl) (by kernel_rfl) (fun _ _ _ h => h) (Or.inl ⟨by kernel_rfl, fun w' hS => by (have z0 := (hS.cell (p := ⟨g', _, none⟩) hgl').trans r0; unfold execOp; go_simp)⟩) hS0 ?_
                simp only [Act.put, List.getElem_toArray, List.getElem_cons_zero, List.getElem_cons_succ, List.setIfInBounds_toArray, List.set_cons_zero, List.set_cons_succ]
                refine wpAnyH_take (i := 12) (v := .bool true) rfl (by kernel_rfl) (by kernel_rfl) (by kernel_rfl) (fun _ _ _ h => h) (Or.inl ⟨by kernel_rfl, fun w' hS => by (unfold execOp; go_simp)⟩) hS0 ?_
                simp only [Act.put, List.getElem_toArray, List.getElem_cons_zero, List.getElem_cons_succ, List.setIfInBounds_toArray, List.set_cons_zero, List.set_cons_succ]
                refine wpAnyH_take (i := 13) (v := .bool true) rfl (by kernel_rfl) (by kernel_rfl) (by kernel_rfl) (fun _ _ _ h => h) (Or.inl ⟨by kernel_rfl, fun w' hS => by (unfold execOp; go_simp)⟩) hS0 ?_
                simp only [Act.put, List.getElem_toArray, List.getElem_cons_zero, List.getElem_cons_succ, List.setIfInBounds_toArray, List.set_cons_zero, List.set_cons_succ]
                refine wpAnyH_take (i := 14) (v := (.slice (some ⟨g, o, none⟩) H.length c4)) rfl (by kernel_rfl) (by kernel_rfl) (by kernel_rfl) (fun _ _ _ h => h) (Or.inl ⟨by kernel_rfl, fun w' hS => by (unfold execOp; go_simp)⟩) hS0 ?_
                simp only [Act.put, List.getElem_toArray, List.getElem_cons_zero, List.getElem_cons_succ, List.setIfInBounds_toArray, List.set_cons_zero, List.set_cons_succ]
                refine wpAnyH_take (i := 15) (v := .int .i64 k) rfl (by kernel_rfl) (by kernel_rfl) (by kernel_rfl) (fun _ _ _ h => h) (Or.inl ⟨by kernel_rfl, fun w' hS => by (unfold execOp; go_simp)⟩) hS0 ?_
                simp only [Act.put, List.getElem_toArray, List.getElem_cons_zero, List.getElem_cons_succ, List.setIfInBounds_toArray, List.set_cons_zero, List.set_cons_succ]
                refine wpAnyH_take (i := 16) (v := (.pointer (some ⟨g, o + k * 6, none⟩))) rfl (by kernel_rfl) (by kernel_rfl) (by kernel_rfl) (fun _ _ _ h => h) (Or.inl ⟨by kernel_rfl, fun w' hS => by (unfold execOp; go_simp)⟩) hS0 ?_
                simp only [Act.put, List.getElem_toArray, List.getElem_cons_zero, List.getElem_cons_succ, List.setIfInBounds_toArray, List.set_cons_zero, List.set_cons_succ]
                refine wpAnyH_take (i := 17) (v := (.pointer (some ⟨g, o + k * 6 + 1, none⟩))) rfl (by kernel_rfl) (by kernel_rfl) (by kernel_rfl) (fun _ _ _ h => h) (Or.inl ⟨by kernel_rfl, fun w' hS => by (unfold execOp; go_simp)⟩) hS0 ?_
                simp only [Act.put, List.getElem_toArray, List.getElem_cons_zero, List.getElem_cons_succ, List.setIfInBounds_toArray, List.set_cons_zero, List.set_cons_succ]
                refine wpAnyH_take (i := 18) (v := (.agg #[.int .i64 h1, .string h2, .string h3, .slice h4 h5 h6, .slice h7 h8 h9])) rfl (by kernel_rfl) (by kernel_rfl) (by kernel_rfl) (fun _ _ _ h => h) (Or.inl ⟨by kernel_rfl, fun w' hS => by (have z1 := (hS.cell (p := ⟨g, _, none⟩) hgl).trans q1; have z2 := (hS.cell (p := ⟨g, _, none⟩) hgl).trans q2; have z3 := (hS.cell (p := ⟨g, _, none⟩) hgl).trans q3; have z4 := (hS.cell (p := ⟨g, _, none⟩) hgl).trans q4; have z5 := (hS.cell (p := ⟨g, _, none⟩) hgl).trans q5; unfold execOp; go_simp)⟩) hS0 ?_
                simp only [Act.put, List.getElem_toArray, List.getElem_cons_zero, List.getElem_cons_succ, List.setIfInBounds_toArray, List.set_cons_zero, List.set_cons_succ]
                refine wpAnyH_take (i := 19) (v := ((.slice (some ⟨g', o', none⟩) L.length c5))) rfl (by kernel_rfl) (by kernel_rfl) (by kernel_rfl) (fun _ _ _ h => h) (Or.inl ⟨by kernel_rfl, fun w' hS => by (unfold execOp; go_simp)⟩) hS0 ?_
                simp only [Act.put, List.getElem_toArray, List.getElem_cons_zero, List.getElem_cons_succ, List.setIfInBounds_toArray, List.set_cons_zero, List.set_cons_succ]
                refine wpAnyH_take (i := 20) (v := .int .i64 j) rfl (by kernel_rfl) (by kernel_rfl) (by kernel_rfl) (fun _ _ _ h => h) (Or.inl ⟨by kernel_rfl, fun w' hS => by (unfold execOp; go_simp)⟩) hS0 ?_
                simp only [Act.put, List.getElem_toArray, List.getElem_cons_zero, List.getElem_cons_succ, List.setIfInBounds_toArray, List.set_cons_zero, List.set_cons_succ]
                refine wpAnyH_take (i := 21) (v := (.pointer (some ⟨g', o' + j * 6, none⟩))) rfl (by kernel_rfl) (by kernel_rfl) (by kernel_rfl) (fun _ _ _ h => h) (Or.inl ⟨by kernel_rfl, fun w' hS => by (unfold execOp; go_simp)⟩) hS0 ?_
                simp only [Act.put, List.getElem_toArray, List.getElem_cons_zero, List.getElem_cons_succ, List.setIfInBounds_toArray, List.set_cons_zero, List.set_cons_succ]
                refine wpAnyH_take (i := 22) (v := (.pointer (some ⟨g', o' + j * 6 + 1, none⟩))) rfl (by kernel_rfl) (by kernel_rfl) (by kernel_rfl) (fun _ _ _ h => h) (Or.inl ⟨by kernel_rfl, fun w' hS => by (unfold execOp; go_simp)⟩) hS0 ?_
                simp only [Act.put, List.getElem_toArray, List.getElem_cons_zero, List.getElem_cons_succ, List.setIfInBounds_toArray, List.set_cons_zero, List.set_cons_succ]
                refine wpAnyH_take (i := 23) (v := (.agg #[.int .i64 v1, .string v2, .string v3, .slice v4 v5 v6, .slice v7 v8 v9])) rfl (by kernel_rfl) (by kernel_rfl) (by kernel_rfl) (fun _ _ _ h => h) (Or.inl ⟨by kernel_rfl, fun w' hS => by (have z1 := (hS.cell (p := ⟨g', _, none⟩) hgl').trans r1; have z2 := (hS.cell (p := ⟨g', _, none⟩) hgl').trans r2; have z3 := (hS.cell (p := ⟨g', _, none⟩) hgl').trans r3; have z4 := (hS.cell (p := ⟨g', _, none⟩) hgl').trans r4; have z5 := (hS.cell (p := ⟨g', _, none⟩) hgl').trans r5; unfold execOp; go_simp)⟩) hS0 ?_
                simp only [Act.put, List.getElem_toArray, List.getElem_cons_zero, List.getElem_cons_succ, List.setIfInBounds_toArray, List.set_cons_zero, List.set_cons_succ]
                refine wpAnyH_oneG (i := 24) (by kernel_rfl) rfl (by kernel_rfl) (op_call (args := #[.agg #[.int .i64 h1, .string h2, .string h3, .slice h4 h5 h6, .slice h7 h8 h9], .agg #[.int .i64 v1, .string v2, .string v3, .slice v4 v5 v6, .slice v7 v8 v9]]) (f := 27) (by unfold execOp; go_simp) ((HSM.out _ hS0).mono ?_))
                rintro e w20 ⟨rfl, hb20⟩
                have hS1 := hS0.trans (hb20.mono hS0.size)
                refine And.intro hS1 ?_
                simp only [Act.put, List.getElem_toArray, List.getElem_cons_zero, List.getElem_cons_succ, List.setIfInBounds_toArray, List.set_cons_zero, List.set_cons_succ]
                refine wpAnyH_take (i := 25) (v := .bool true) rfl (by kernel_rfl) (by kernel_rfl) (by kernel_rfl) (fun _ _ _ h => h) (Or.inl ⟨by kernel_rfl, fun w' hS => by (unfold execOp; go_simp)⟩) hS1 ?_
                simp only [Act.put, List.getElem_toArray, List.getElem_cons_zero, List.getElem_cons_succ, List.setIfInBounds_toArray, List.set_cons_zero, List.set_cons_succ]
                refine wpAnyH_take (i := 26) (v := .bool true) rfl (by kernel_rfl) (by kernel_rfl) (by kernel_rfl) (fun _ _ _ h => h) (Or.inl ⟨rfl, fun w' hS => by (unfold execOp; go_simp)⟩) hS1 ?_
                simp only [Act.put, List.getElem_toArray, List.getElem_cons_zero, List.getElem_cons_succ, List.setIfInBounds_toArray, List.set_cons_zero, List.set_cons_succ]
                refine wpAnyH_take (i := 27) (v := .bool true) rfl (by kernel_rfl) (by kernel_rfl) (by kernel_rfl) (fun _ _ _ h => h) (Or.inl ⟨rfl, fun w' hS => by (unfold execOp; go_simp)⟩) hS1 ?_
                simp only [Act.put, List.getElem_toArray, List.getElem_cons_zero, List.getElem_cons_succ, List.setIfInBounds_toArray, List.set_cons_zero, List.set_cons_succ]
                refine wpAnyH_done (by kernel_rfl) ?_ _
                have HX := Lib.hid (HB2.out.trans (hS1.mono HB2.out.size))
                clear hS0 hS1 hb20
                go_wp2
                go_roundg q
                case measure => omega
                case rel => exact ⟨k + 1, true, by omega, by go_num, rfl, HNX.out, HX.out⟩
              | false =>
                have HNX := Lib.hid (show hasP (H.take (k + 1)) u = false from by rw [HNX0.out, hs]; simp)
                rw [hs] at HSM0
                have HSM := HSM0
                clear HNX0 HSM0 hs
                go_wp2
                refine wp_region_held_drew (S := fun V => Below wr.heap.size wr V) (by kernel_rfl) (Below.refl _ wr).drew (fun hS0 => ?_)
                refine wpAnyH_take (i := 0) (v := .bool false) rfl (by kernel_rfl) (by kernel_rfl) (by kernel_rfl) (fun _ _ _ h => h) (Or.inl ⟨rfl, fun w' hS => by (unfold execOp; go_simp)⟩) hS0 ?_
                simp only [Act.put, List.getElem_toArray, List.getElem_cons_zero, List.getElem_cons_succ, List.setIfInBounds_toArray, List.set_cons_zero, List.set_cons_succ]
                refine wpAnyH_take (i := 1) (v := .bool false) rfl (by kernel_rfl) (by kernel_rfl) (by kernel_rfl) (fun _ _ _ h => h) (Or.inl ⟨rfl, fun w' hS => by (unfold execOp; go_simp)⟩) hS0 ?_
                simp only [Act.put, List.getElem_toArray, List.getElem_cons_zero, List.getElem_cons_succ, List.setIfInBounds_toArray, List.set_cons_zero, List.set_cons_succ]
                refine wpAnyH_take (i := 2) (v := (.slice (some ⟨g, o, none⟩) H.length c4)) rfl (by kernel_rfl) (by kernel_rfl) (by kernel_rfl) (fun _ _ _ h => h) (Or.inl ⟨by kernel_rfl, fun w' hS => by (unfold execOp; go_simp)⟩) hS0 ?_
                simp only [Act.put, List.getElem_toArray, List.getElem_cons_zero, List.getElem_cons_succ, List.setIfInBounds_toArray, List.set_cons_zero, List.set_cons_succ]
                refine wpAnyH_take (i := 3) (v := .int .i64 k) rfl (by kernel_rfl) (by kernel_rfl) (by kernel_rfl) (fun _ _ _ h => h) (Or.inl ⟨by kernel_rfl, fun w' hS => by (unfold execOp; go_simp)⟩) hS0 ?_
                simp only [Act.put, List.getElem_toArray, List.getElem_cons_zero, List.getElem_cons_succ, List.setIfInBounds_toArray, List.set_cons_zero, List.set_cons_succ]
                refine wpAnyH_take (i := 4) (v := (.pointer (some ⟨g, o + k * 6, none⟩))) rfl (by kernel_rfl) (by kernel_rfl) (by kernel_rfl) (fun _ _ _ h => h) (Or.inl ⟨by kernel_rfl, fun w' hS => by (unfold execOp; go_simp)⟩) hS0 ?_
                simp only [Act.put, List.getElem_toArray, List.getElem_cons_zero, List.getElem_cons_succ, List.setIfInBounds_toArray, List.set_cons_zero, List.set_cons_succ]
                refine wpAnyH_take (i := 5) (v := (.pointer (some ⟨g, o + k * 6, none⟩))) rfl (by kernel_rfl) (by kernel_rfl) (by kernel_rfl) (fun _ _ _ h => h) (Or.inl ⟨by kernel_rfl, fun w' hS => by (unfold execOp; go_simp)⟩) hS0 ?_
                simp only [Act.put, List.getElem_toArray, List.getElem_cons_zero, List.getElem_cons_succ, List.setIfInBounds_toArray, List.set_cons_zero, List.set_cons_succ]
                refine wpAnyH_take (i := 6) (v := .string hn) rfl (by kernel_rfl) (by kernel_rfl) (by kernel_rfl) (fun _ _ _ h => h) (Or.inl ⟨by kernel_rfl, fun w' hS => by (have z0 := (hS.cell (p := ⟨g, _, none⟩) hgl).trans q0; unfold execOp; go_simp)⟩) hS0 ?_
                simp only [Act.put, List.getElem_toArray, List.getElem_cons_zero, List.getElem_cons_succ, List.setIfInBounds_toArray, List.set_cons_zero, List.set_cons_succ]
                refine wpAnyH_take (i := 7) (v := ((.slice (some ⟨g', o', none⟩) L.length c5))) rfl (by kernel_rfl) (by kernel_rfl) (by kernel_rfl) (fun _ _ _ h => h) (Or.inl ⟨by kernel_rfl, fun w' hS => by (unfold execOp; go_simp)⟩) hS0 ?_
                simp only [Act.put, List.getElem_toArray, List.getElem_cons_zero, List.getElem_cons_succ, List.setIfInBounds_toArray, List.set_cons_zero, List.set_cons_succ]
                refine wpAnyH_take (i := 8) (v := .int .i64 j) rfl (by kernel_rfl) (by kernel_rfl) (by kernel_rfl) (fun _ _ _ h => h) (Or.inl ⟨by kernel_rfl, fun w' hS => by (unfold execOp; go_simp)⟩) hS0 ?_
                simp only [Act.put, List.getElem_toArray, List.getElem_cons_zero, List.getElem_cons_succ, List.setIfInBounds_toArray, List.set_cons_zero, List.set_cons_succ]
                refine wpAnyH_take (i := 9) (v := (.pointer (some ⟨g', o' + j * 6, none⟩))) rfl (by kernel_rfl) (by kernel_rfl) (by kernel_rfl) (fun _ _ _ h => h) (Or.inl ⟨by kernel_rfl, fun w' hS => by (unfold execOp; go_simp)⟩) hS0 ?_
                simp only [Act.put, List.getElem_toArray, List.getElem_cons_zero, List.getElem_cons_succ, List.setIfInBounds_toArray, List.set_cons_zero, List.set_cons_succ]
                refine wpAnyH_take (i := 10) (v := (.pointer (some ⟨g', o' + j * 6, none⟩))) rfl (by kernel_rfl) (by kernel_rfl) (by kernel_rfl) (fun _ _ _ h => h) (Or.inl ⟨by kernel_rfl, fun w' hS => by (unfold execOp; go_simp)⟩) hS0 ?_
                simp only [Act.put, List.getElem_toArray, List.getElem_cons_zero, List.getElem_cons_succ, List.setIfInBounds_toArray, List.set_cons_zero, List.set_cons_succ]
                refine wpAnyH_take (i := 11) (v := .string hn) rfl (by kernel_rfl) (by kernel_rfl) (by kernel_rfl) (fun _ _ _ h => h) (Or.inl ⟨by kernel_rfl, fun w' hS => by (have z0 := (hS.cell (p := ⟨g', _, none⟩) hgl').trans r0; unfold execOp; go_simp)⟩) hS0 ?_
                simp only [Act.put, List.getElem_toArray, List.getElem_cons_zero, List.getElem_cons_succ, List.setIfInBounds_toArray, List.set_cons_zero, List.set_cons_succ]
                refine wpAnyH_take (i := 12) (v := .bool true) rfl (by kernel_rfl) (by kernel_rfl) (by kernel_rfl) (fun _ _ _ h => h) (Or.inl ⟨by kernel_rfl, fun w' hS => by (unfold execOp; go_simp)⟩) hS0 ?_
                simp only [Act.put, List.getElem_toArray, List.getElem_cons_zero, List.getElem_cons_succ, List.setIfInBounds_toArray, List.set_cons_zero, List.set_cons_succ]
                refine wpAnyH_take (i := 13) (v := .bool true) rfl (by kernel_rfl) (by kernel_rfl) (by kernel_rfl) (fun _ _ _ h => h) (Or.inl ⟨by kernel_rfl, fun w' hS => by (unfold execOp; go_simp)⟩) hS0 ?_
                simp only [Act.put, List.getElem_toArray, List.getElem_cons_zero, List.getElem_cons_succ, List.setIfInBounds_toArray, List.set_cons_zero, List.set_cons_succ]
                refine wpAnyH_take (i := 14) (v := (.slice (some ⟨g, o, none⟩) H.length c4)) rfl (by kernel_rfl) (by kernel_rfl) (by kernel_rfl) (fun _ _ _ h => h) (Or.inl ⟨by kernel_rfl, fun w' hS => by (unfold execOp; go_simp)⟩) hS0 ?_
                simp only [Act.put, List.getElem_toArray, List.getElem_cons_zero, List.getElem_cons_succ, List.setIfInBounds_toArray, List.set_cons_zero, List.set_cons_succ]
                refine wpAnyH_take (i := 15) (v := .int .i64 k) rfl (by kernel_rfl) (by kernel_rfl) (by kernel_rfl) (fun _ _ _ h => h) (Or.inl ⟨by kernel_rfl, fun w' hS => by (unfold execOp; go_simp)⟩) hS0 ?_
                simp only [Act.put, List.getElem_toArray, List.getElem_cons_zero, List.getElem_cons_succ, List.setIfInBounds_toArray, List.set_cons_zero, List.set_cons_succ]
                refine wpAnyH_take (i := 16) (v := (.pointer (some ⟨g, o + k * 6, none⟩))) rfl (by kernel_rfl) (by kernel_rfl) (by kernel_rfl) (fun _ _ _ h => h) (Or.inl ⟨by kernel_rfl, fun w' hS => by (unfold execOp; go_simp)⟩) hS0 ?_
                simp only [Act.put, List.getElem_toArray, List.getElem_cons_zero, List.getElem_cons_succ, List.setIfInBounds_toArray, List.set_cons_zero, List.set_cons_succ]
                refine wpAnyH_take (i := 17) (v := (.pointer (some ⟨g, o + k * 6 + 1, none⟩))) rfl (by kernel_rfl) (by kernel_rfl) (by kernel_rfl) (fun _ _ _ h => h) (Or.inl ⟨by kernel_rfl, fun w' hS => by (unfold execOp; go_simp)⟩) hS0 ?_
                simp only [Act.put, List.getElem_toArray, List.getElem_cons_zero, List.getElem_cons_succ, List.setIfInBounds_toArray, List.set_cons_zero, List.set_cons_succ]
                refine wpAnyH_take (i := 18) (v := (.agg #[.int .i64 h1, .string h2, .string h3, .slice h4 h5 h6, .slice h7 h8 h9])) rfl (by kernel_rfl) (by kernel_rfl) (by kernel_rfl) (fun _ _ _ h => h) (Or.inl ⟨by kernel_rfl, fun w' hS => by (have z1 := (hS.cell (p := ⟨g, _, none⟩) hgl).trans q1; have z2 := (hS.cell (p := ⟨g, _, none⟩) hgl).trans q2; have z3 := (hS.cell (p := ⟨g, _, none⟩) hgl).trans q3; have z4 := (hS.cell (p := ⟨g, _, none⟩) hgl).trans q4; have z5 := (hS.cell (p := ⟨g, _, none⟩) hgl).trans q5; unfold execOp; go_simp)⟩) hS0 ?_
                simp only [Act.put, List.getElem_toArray, List.getElem_cons_zero, List.getElem_cons_succ, List.setIfInBounds_toArray, List.set_cons_zero, List.set_cons_succ]
                refine wpAnyH_take (i := 19) (v := ((.slice (some ⟨g', o', none⟩) L.length c5))) rfl (by kernel_rfl) (by kernel_rfl) (by kernel_rfl) (fun _ _ _ h => h) (Or.inl ⟨by kernel_rfl, fun w' hS => by (unfold execOp; go_simp)⟩) hS0 ?_
                simp only [Act.put, List.getElem_toArray, List.getElem_cons_zero, List.getElem_cons_succ, List.setIfInBounds_toArray, List.set_cons_zero, List.set_cons_succ]
                refine wpAnyH_take (i := 20) (v := .int .i64 j) rfl (by kernel_rfl) (by kernel_rfl) (by kernel_rfl) (fun _ _ _ h => h) (Or.inl ⟨by kernel_rfl, fun w' hS => by (unfold execOp; go_simp)⟩) hS0 ?_
                simp only [Act.put, List.getElem_toArray, List.getElem_cons_zero, List.getElem_cons_succ, List.setIfInBounds_toArray, List.set_cons_zero, List.set_cons_succ]
                refine wpAnyH_take (i := 21) (v := (.pointer (some ⟨g', o' + j * 6, none⟩))) rfl (by kernel_rfl) (by kernel_rfl) (by kernel_rfl) (fun _ _ _ h => h) (Or.inl ⟨by kernel_rfl, fun w' hS => by (unfold execOp; go_simp)⟩) hS0 ?_
                simp only [Act.put, List.getElem_toArray, List.getElem_cons_zero, List.getElem_cons_succ, List.setIfInBounds_toArray, List.set_cons_zero, List.set_cons_succ]
                refine wpAnyH_take (i := 22) (v := (.pointer (some ⟨g', o' + j * 6 + 1, none⟩))) rfl (by kernel_rfl) (by kernel_rfl) (by kernel_rfl) (fun _ _ _ h => h) (Or.inl ⟨by kernel_rfl, fun w' hS => by (unfold execOp; go_simp)⟩) hS0 ?_
                simp only [Act.put, List.getElem_toArray, List.getElem_cons_zero, List.getElem_cons_succ, List.setIfInBounds_toArray, List.set_cons_zero, List.set_cons_succ]
                refine wpAnyH_take (i := 23) (v := (.agg #[.int .i64 v1, .string v2, .string v3, .slice v4 v5 v6, .slice v7 v8 v9])) rfl (by kernel_rfl) (by kernel_rfl) (by kernel_rfl) (fun _ _ _ h => h) (Or.inl ⟨by kernel_rfl, fun w' hS => by (have z1 := (hS.cell (p := ⟨g', _, none⟩) hgl').trans r1; have z2 := (hS.cell (p := ⟨g', _, none⟩) hgl').trans r2; have z3 := (hS.cell (p := ⟨g', _, none⟩) hgl').trans r3; have z4 := (hS.cell (p := ⟨g', _, none⟩) hgl').trans r4; have z5 := (hS.cell (p := ⟨g', _, none⟩) hgl').trans r5; unfold execOp; go_simp)⟩) hS0 ?_
                simp only [Act.put, List.getElem_toArray, List.getElem_cons_zero, List.getElem_cons_succ, List.setIfInBounds_toArray, List.set_cons_zero, List.set_cons_succ]
                refine wpAnyH_oneG (i := 24) (by kernel_rfl) rfl (by kernel_rfl) (op_call (args := #[.agg #[.int .i64 h1, .string h2, .string h3, .slice h4 h5 h6, .slice h7 h8 h9], .agg #[.int .i64 v1, .string v2, .string v3, .slice v4 v5 v6, .slice v7 v8 v9]]) (f := 27) (by unfold execOp; go_simp) ((HSM.out _ hS0).mono ?_))
                rintro e w20 ⟨rfl, hb20⟩
                have hS1 := hS0.trans (hb20.mono hS0.size)
                refine And.intro hS1 ?_
                simp only [Act.put, List.getElem_toArray, List.getElem_cons_zero, List.getElem_cons_succ, List.setIfInBounds_toArray, List.set_cons_zero, List.set_cons_succ]
                refine wpAnyH_take (i := 25) (v := .bool false) rfl (by kernel_rfl) (by kernel_rfl) (by kernel_rfl) (fun _ _ _ h => h) (Or.inl ⟨by kernel_rfl, fun w' hS => by (unfold execOp; go_simp)⟩) hS1 ?_
                simp only [Act.put, List.getElem_toArray, List.getElem_cons_zero, List.getElem_cons_succ, List.setIfInBounds_toArray, List.set_cons_zero, List.set_cons_succ]
                refine wpAnyH_take (i := 26) (v := .bool false) rfl (by kernel_rfl) (by kernel_rfl) (by kernel_rfl) (fun _ _ _ h => h) (Or.inl ⟨rfl, fun w' hS => by (unfold execOp; go_simp)⟩) hS1 ?_
                simp only [Act.put, List.getElem_toArray, List.getElem_cons_zero, List.getElem_cons_succ, List.setIfInBounds_toArray, List.set_cons_zero, List.set_cons_succ]
                refine wpAnyH_take (i := 27) (v := .bool false) rfl (by kernel_rfl) (by kernel_rfl) (by kernel_rfl) (fun _ _ _ h => h) (Or.inl ⟨rfl, fun w' hS => by (unfold execOp; go_simp)⟩) hS1 ?_
                simp only [Act.put, List.getElem_toArray, List.getElem_cons_zero, List.getElem_cons_succ, List.setIfInBounds_toArray, List.set_cons_zero, List.set_cons_succ]
                refine wpAnyH_done (by kernel_rfl) ?_ _
                have HX := Lib.hid (HB2.out.trans (hS1.mono HB2.out.size))
                clear hS0 hS1 hb20
                go_wp2
                go_roundg q
                case measure => omega
                case rel => exact ⟨k + 1, false, by omega, by go_num, rfl, HNX.out, HX.out⟩
            · have HNX := Lib.hid (show hasP (H.take (k + 1)) u = false from by rw [HNX0.out]; simp [hne])
              have HNE := Lib.hid (show ((hn.toList == wn.toList) = false) ∧ ((hn.toList != wn.toList) = true) from ⟨by simpa [toList_inj] using hne, by simpa [toList_inj] using hne⟩)
              clear HNX0 HSM0 hne
              go_wp2
              refine wp_region_held_drew (S := fun V => Below wr.heap.size wr V) (by kernel_rfl) (Below.refl _ wr).drew (fun hS0 => ?_)
              refine wpAnyH_take (i := 0) (v := .bool false) rfl (by kernel_rfl) (by kernel_rfl) (by kernel_rfl) (fun _ _ _ h => h) (Or.inl ⟨rfl, fun w' hS => by (unfold execOp; go_simp)⟩) hS0 ?_
              simp only [Act.put, List.getElem_toArray, List.getElem_cons_zero, List.getElem_cons_succ, List.setIfInBounds_toArray, List.set_cons_zero, List.set_cons_succ]
              refine wpAnyH_take (i := 1) (v := .bool false) rfl (by kernel_rfl) (by kernel_rfl) (by kernel_rfl) (fun _ _ _ h => h) (Or.inl ⟨rfl, fun w' hS => by (unfold execOp; go_simp)⟩) hS0 ?_
              simp only [Act.put, List.getElem_toArray, List.getElem_cons_zero, List.getElem_cons_succ, List.setIfInBounds_toArray, List.set_cons_zero, List.set_cons_succ]
              refine wpAnyH_take (i := 2) (v := (.slice (some ⟨g, o, none⟩) H.length c4)) rfl (by kernel_rfl) (by kernel_rfl) (by kernel_rfl) (fun _ _ _ h => h) (Or.inl ⟨by kernel_rfl, fun w' hS => by (unfold execOp; go_simp)⟩) hS0 ?_
              simp only [Act.put, List.getElem_toArray, List.getElem_cons_zero, List.getElem_cons_succ, List.setIfInBounds_toArray, List.set_cons_zero, List.set_cons_succ]
              refine wpAnyH_take (i := 3) (v := .int .i64 k) rfl (by kernel_rfl) (by kernel_rfl) (by kernel_rfl) (fun _ _ _ h => h) (Or.inl ⟨by kernel_rfl, fun w' hS => by (unfold execOp; go_simp)⟩) hS0 ?_
              simp only [Act.put, List.getElem_toArray, List.getElem_cons_zero, List.getElem_cons_succ, List.setIfInBounds_toArray, List.set_cons_zero, List.set_cons_succ]
              refine wpAnyH_take (i := 4) (v := (.pointer (some ⟨g, o + k * 6, none⟩))) rfl (by kernel_rfl) (by kernel_rfl) (by kernel_rfl) (fun _ _ _ h => h) (Or.inl ⟨by kernel_rfl, fun w' hS => by (unfold execOp; go_simp)⟩) hS0 ?_
              simp only [Act.put, List.getElem_toArray, List.getElem_cons_zero, List.getElem_cons_succ, List.setIfInBounds_toArray, List.set_cons_zero, List.set_cons_succ]
              refine wpAnyH_take (i := 5) (v := (.pointer (some ⟨g, o + k * 6, none⟩))) rfl (by kernel_rfl) (by kernel_rfl) (by kernel_rfl) (fun _ _ _ h => h) (Or.inl ⟨by kernel_rfl, fun w' hS => by (unfold execOp; go_simp)⟩) hS0 ?_
              simp only [Act.put, List.getElem_toArray, List.getElem_cons_zero, List.getElem_cons_succ, List.setIfInBounds_toArray, List.set_cons_zero, List.set_cons_succ]
              refine wpAnyH_take (i := 6) (v := .string hn) rfl (by kernel_rfl) (by kernel_rfl) (by kernel_rfl) (fun _ _ _ h => h) (Or.inl ⟨by kernel_rfl, fun w' hS => by (have z0 := (hS.cell (p := ⟨g, _, none⟩) hgl).trans q0; unfold execOp; go_simp)⟩) hS0 ?_
              simp only [Act.put, List.getElem_toArray, List.getElem_cons_zero, List.getElem_cons_succ, List.setIfInBounds_toArray, List.set_cons_zero, List.set_cons_succ]
              refine wpAnyH_take (i := 7) (v := ((.slice (some ⟨g', o', none⟩) L.length c5))) rfl (by kernel_rfl) (by kernel_rfl) (by kernel_rfl) (fun _ _ _ h => h) (Or.inl ⟨by kernel_rfl, fun w' hS => by (unfold execOp; go_simp)⟩) hS0 ?_
              simp only [Act.put, List.getElem_toArray, List.getElem_cons_zero, List.getElem_cons_succ, List.setIfInBounds_toArray, List.set_cons_zero, List.set_cons_succ]
              refine wpAnyH_take (i := 8) (v := .int .i64 j) rfl (by kernel_rfl) (by kernel_rfl) (by kernel_rfl) (fun _ _ _ h => h) (Or.inl ⟨by kernel_rfl, fun w' hS => by (unfold execOp; go_simp)⟩) hS0 ?_
              simp only [Act.put, List.getElem_toArray, List.getElem_cons_zero, List.getElem_cons_succ, List.setIfInBounds_toArray, List.set_cons_zero, List.set_cons_succ]
              refine wpAnyH_take (i := 9) (v := (.pointer (some ⟨g', o' + j * 6, none⟩))) rfl (by kernel_rfl) (by kernel_rfl) (by kernel_rfl) (fun _ _ _ h => h) (Or.inl ⟨by kernel_rfl, fun w' hS => by (unfold execOp; go_simp)⟩) hS0 ?_
              simp only [Act.put, List.getElem_toArray, List.getElem_cons_zero, List.getElem_cons_succ, List.setIfInBounds_toArray, List.set_cons_zero, List.set_cons_succ]
              refine wpAnyH_take (i := 10) (v := (.pointer (some ⟨g', o' + j * 6, none⟩))) rfl (by kernel_rfl) (by kernel_rfl) (by kernel_rfl) (fun _ _ _ h => h) (Or.inl ⟨by kernel_rfl, fun w' hS => by (unfold execOp; go_simp)⟩) hS0 ?_
              simp only [Act.put, List.getElem_toArray, List.getElem_cons_zero, List.getElem_cons_succ, List.setIfInBounds_toArray, List.set_cons_zero, List.set_cons_succ]
              refine wpAnyH_take (i := 11) (v := .string wn) rfl (by kernel_rfl) (by kernel_rfl) (by kernel_rfl) (fun _ _ _ h => h) (Or.inl ⟨by kernel_rfl, fun w' hS => by (have z0 := (hS.cell (p := ⟨g', _, none⟩) hgl').trans r0; unfold execOp; go_simp)⟩) hS0 ?_
              simp only [Act.put, List.getElem_toArray, List.getElem_cons_zero, List.getElem_cons_succ, List.setIfInBounds_toArray, List.set_cons_zero, List.set_cons_succ]
              refine wpAnyH_take (i := 12) (v := .bool false) rfl (by kernel_rfl) (by kernel_rfl) (by kernel_rfl) (fun _ _ _ h => h) (Or.inl ⟨by kernel_rfl, fun w' hS => by (have e0 := HNE.out.1; have e1 := HNE.out.2; unfold execOp; go_simp)⟩) hS0 ?_
              simp only [Act.put, List.getElem_toArray, List.getElem_cons_zero, List.getElem_cons_succ, List.setIfInBounds_toArray, List.set_cons_zero, List.set_cons_succ]
              refine wpAnyH_take (i := 13) (v := .bool false) rfl (by kernel_rfl) (by kernel_rfl) (by kernel_rfl) (fun _ _ _ h => h) (Or.inl ⟨by kernel_rfl, fun w' hS => by (unfold execOp; go_simp)⟩) hS0 ?_
              simp only [Act.put, List.getElem_toArray, List.getElem_cons_zero, List.getElem_cons_succ, List.setIfInBounds_toArray, List.set_cons_zero, List.set_cons_succ]
              refine wpAnyH_take (i := 14) (v := undef) rfl (by kernel_rfl) (by kernel_rfl) (by kernel_rfl) (fun _ _ _ h => h) (Or.inr ⟨by kernel_rfl, rfl⟩) hS0 ?_
              simp only [Act.put, List.getElem_toArray, List.getElem_cons_zero, List.getElem_cons_succ, List.setIfInBounds_toArray, List.set_cons_zero, List.set_cons_succ]
              refine wpAnyH_take (i := 15) (v := undef) rfl (by kernel_rfl) (by kernel_rfl) (by kernel_rfl) (fun _ _ _ h => h) (Or.inr ⟨by kernel_rfl, rfl⟩) hS0 ?_
              simp only [Act.put, List.getElem_toArray, List.getElem_cons_zero, List.getElem_cons_succ, List.setIfInBounds_toArray, List.set_cons_zero, List.set_cons_succ]
              refine wpAnyH_take (i := 16) (v := undef) rfl (by kernel_rfl) (by kernel_rfl) (by kernel_rfl) (fun _ _ _ h => h) (Or.inr ⟨by kernel_rfl, rfl⟩) hS0 ?_
              simp only [Act.put, List.getElem_toArray, List.getElem_cons_zero, List.getElem_cons_succ, List.setIfInBounds_toArray, List.set_cons_zero, List.set_cons_succ]
              refine wpAnyH_take (i := 17) (v := undef) rfl (by kernel_rfl) (by kernel_rfl) (by kernel_rfl) (fun _ _ _ h => h) (Or.inr ⟨by kernel_rfl, rfl⟩) hS0 ?_
              simp only [Act.put, List.getElem_toArray, List.getElem_cons_zero, List.getElem_cons_succ, List.setIfInBounds_toArray, List.set_cons_zero, List.set_cons_succ]
              refine wpAnyH_take (i := 18) (v := undef) rfl (by kernel_rfl) (by kernel_rfl) (by kernel_rfl) (fun _ _ _ h => h) (Or.inr ⟨by kernel_rfl, rfl⟩) hS0 ?_
              simp only [Act.put, List.getElem_toArray, List.getElem_cons_zero, List.getElem_cons_succ, List.setIfInBounds_toArray, List.set_cons_zero, List.set_cons_succ]
              refine wpAnyH_take (i := 19) (v := undef) rfl (by kernel_rfl) (by kernel_rfl) (by kernel_rfl) (fun _ _ _ h => h) (Or.inr ⟨by kernel_rfl, rfl⟩) hS0 ?_
              simp only [Act.put, List.getElem_toArray, List.getElem_cons_zero, List.getElem_cons_succ, List.setIfInBounds_toArray, List.set_cons_zero, List.set_cons_succ]
              refine wpAnyH_take (i := 20) (v := undef) rfl (by kernel_rfl) (by kernel_rfl) (by kernel_rfl) (fun _ _ _ h => h) (Or.inr ⟨by kernel_rfl, rfl⟩) hS0 ?_
              simp only [Act.put, List.getElem_toArray, List.getElem_cons_zero, List.getElem_cons_succ, List.setIfInBounds_toArray, List.set_cons_zero, List.set_cons_succ]
              refine wpAnyH_take (i := 21) (v := undef) rfl (by kernel_rfl) (by kernel_rfl) (by kernel_rfl) (fun _ _ _ h => h) (Or.inr ⟨by kernel_rfl, rfl⟩) hS0 ?_
              simp only [Act.put, List.getElem_toArray, List.getElem_cons_zero, List.getElem_cons_succ, List.setIfInBounds_toArray, List.set_cons_zero, List.set_cons_succ]
              refine wpAnyH_take (i := 22) (v := undef) rfl (by kernel_rfl) (by kernel_rfl) (by kernel_rfl) (fun _ _ _ h => h) (Or.inr ⟨by kernel_rfl, rfl⟩) hS0 ?_
              simp only [Act.put, List.getElem_toArray, List.getElem_cons_zero, List.getElem_cons_succ, List.setIfInBounds_toArray, List.set_cons_zero, List.set_cons_succ]
              refine wpAnyH_take (i := 23) (v := undef) rfl (by kernel_rfl) (by kernel_rfl) (by kernel_rfl) (fun _ _ _ h => h) (Or.inr ⟨by kernel_rfl, rfl⟩) hS0 ?_
              simp only [Act.put, List.getElem_toArray, List.getElem_cons_zero, List.getElem_cons_succ, List.setIfInBounds_toArray, List.set_cons_zero, List.set_cons_succ]
              refine wpAnyH_take (i := 24) (v := undef) rfl (by kernel_rfl) (by kernel_rfl) (by kernel_rfl) (fun _ _ _ h => h) (Or.inr ⟨by kernel_rfl, rfl⟩) hS0 ?_
              simp only [Act.put, List.getElem_toArray, List.getElem_cons_zero, List.getElem_cons_succ, List.setIfInBounds_toArray, List.set_cons_zero, List.set_cons_succ]
              refine wpAnyH_take (i := 25) (v := .bool false) rfl (by kernel_rfl) (by kernel_rfl) (by kernel_rfl) (fun _ _ _ h => h) (Or.inl ⟨by kernel_rfl, fun w' hS => by (unfold execOp; go_simp)⟩) hS0 ?_
              simp only [Act.put, List.getElem_toArray, List.getElem_cons_zero, List.getElem_cons_succ, List.setIfInBounds_toArray, List.set_cons_zero, List.set_cons_succ]
              refine wpAnyH_take (i := 26) (v := .bool false) rfl (by kernel_rfl) (by kernel_rfl) (by kernel_rfl) (fun _ _ _ h => h) (Or.inl ⟨rfl, fun w' hS => by (unfold execOp; go_simp)⟩) hS0 ?_
              simp only [Act.put, List.getElem_toArray, List.getElem_cons_zero, List.getElem_cons_succ, List.setIfInBounds_toArray, List.set_cons_zero, List.set_cons_succ]
              refine wpAnyH_take (i := 27) (v := .bool false) rfl (by kernel_rfl) (by kernel_rfl) (by kernel_rfl) (fun _ _ _ h => h) (Or.inl ⟨rfl, fun w' hS => by (unfold execOp; go_simp)⟩) hS0 ?_
              simp only [Act.put, List.getElem_toArray, List.getElem_cons_zero, List.getElem_cons_succ, List.setIfInBounds_toArray, List.set_cons_zero, List.set_cons_succ]
              refine wpAnyH_done (by kernel_rfl) ?_ _
              have HX := Lib.hid (HB2.out.trans (hS0.mono HB2.out.size))
              clear hS0
              go_wp2
              go_roundg q
              case measure => omega
              case rel => exact ⟨k + 1, false, by omega, by go_num, rfl, HNX.out, HX.out⟩
end Go.Proofs.Ytcfgjfahjaimiaa

namespace Go.Proofs.Ytcfgjfahjaimiaa
open Go.RowKit
set_option linter.unusedVariables false
set_option linter.unusedSimpArgs false

theorem MeP.ml {F : Nat → Prop} {l : List Fi} {w : World} {e : Ending} {w' : World} (h : MeP F l w e w') (hF : ∀ k, F k → k < w.heap.size) : MlP l w e w' := by
  obtain ⟨⟨A, c, rfl, hf⟩, hb⟩ := h
  exact ⟨⟨A, c, rfl, hf.sl hF⟩, hb⟩
theorem rhas_any (us : List Un) (hok : ∀ u ∈ us, u.ok 140737488355328) (hlen : us.length ≤ 140737488355328) (hcn : ∀ u ∈ us, u.cnt ≤ 2000) (vars : List Fi) (hlv : vars.length ≤ 140737488355328) (a b : Ty) (w : World) (F : Nat → Prop) (A V : Option Addr) (c cv : Nat) (vs ws : List Value) (hr : SlG 4 RUn w F A us) (hv : SlG 6 RFi w F V vars) (ha : RT w F a vs) (hb : RT w F b ws) (hF : ∀ k, F k → k < w.heap.size) :
    Calls Try.prog 36 #[.slice A us.length c, .slice V vars.length cv, .agg vs.toArray, .agg ws.toArray] w (TruthP w ((mset us vars b).all (hasP (mset us vars a)))) := by
  have hfa := (methP_few hok hcn vars a).sort
  have hfb := (methP_few hok hcn vars b).sort
  have hm : ∀ w' : World, Below w.heap.size w w' → Calls Try.prog 13 #[.slice A us.length c, .slice V vars.length cv, .agg vs.toArray] w' (MlP (mset us vars a) w') := fun w' h => (rmeth_any us hok hlen hcn vars hlv a w' F A V c cv vs (hr.bel RUn_keeps h) (hv.bel RFi_keeps h) (ha.bel h) (fun k hk => Nat.lt_of_lt_of_le (hF k hk) h.size)).mono (fun e w2 he => he.ml (fun k hk => Nat.lt_of_lt_of_le (hF k hk) h.size))
  have hn : ∀ w' : World, Below w.heap.size w w' → Calls Try.prog 13 #[.slice A us.length c, .slice V vars.length cv, .agg ws.toArray] w' (MlP (mset us vars b) w') := fun w' h => (rmeth_any us hok hlen hcn vars hlv b w' F A V c cv ws (hr.bel RUn_keeps h) (hv.bel RFi_keeps h) (hb.bel h) (fun k hk => Nat.lt_of_lt_of_le (hF k hk) h.size)).mono (fun e w2 he => he.ml (fun k hk => Nat.lt_of_lt_of_le (hF k hk) h.size))
  obtain ⟨k0, p0, n0, A0, m0, c0, B0, l0, d0, rfl⟩ := ha.shape
  obtain ⟨k1, p1, n1, A1, m1, c1, B1, l1, d1, rfl⟩ := hb.shape
  simp only [tyC] at hm hn ⊢
  exact rhas_core w k0 k1 p0 n0 p1 n1 A0 B0 A1 B1 A V m0 c0 l0 d0 m1 c1 l1 d1 c cv vars.length us.length _ _ hfa.1 hfb.1 (few_ct hfa) hm hn
theorem all_isort (l : List Fi) (p : Fi → Bool) : (Srt.isort ltF l).all p = l.all p := by
  have h := Srt.isort_perm weakF l
  rw [Bool.eq_iff_iff, List.all_eq_true, List.all_eq_true]
  exact ⟨fun a x hx => a x (h.mem_iff.2 hx), fun a x hx => a x (h.mem_iff.1 hx)⟩
theorem ifT_8 {us : List Un} {k : Int} {p n : ByteArray} (h : (ifP us k p n).isSome = true) : k = 8 := by
  rw [ifP_some] at h
  simp only [Bool.and_eq_true] at h
  simpa using h.1.1
theorem fits_fields (us : List Un) (vars : List Fi) (t : Ty) (h : (ifT us t).isSome = true) (p : Fi → Bool) : (mset us vars t).all p = ((ifT us t).getD dlZ).fields.all p := by
  obtain ⟨k, q, n, la, lr⟩ := t
  have hk : k = 8 := ifT_8 h
  unfold mset
  rw [all_isort, methP_mk, if_neg (by rw [hk]; decide), if_pos hk]
  rfl
theorem rfits_any (us : List Un) (hok : ∀ u ∈ us, u.ok 140737488355328) (hlen : us.length ≤ 140737488355328) (hcn : ∀ u ∈ us, u.cnt ≤ 2000) (vars : List Fi) (hlv : vars.length ≤ 140737488355328) (a b : Ty) (hca : a.count ≤ 2000000) (w : World) (F : Nat → Prop) (A V : Option Addr) (c cv : Nat) (vs ws : List Value) (hr : SlG 4 RUn w F A us) (hv : SlG 6 RFi w F V vars) (ha : RT w F a vs) (hb : RT w F b ws) (hF : ∀ k, F k → k < w.heap.size) :
    Calls Try.prog 15 #[.slice A us.length c, .slice V vars.length cv, .agg vs.toArray, .agg ws.toArray] w (TruthP w (fitsP us vars a b)) := by
  have hs : ∀ w' : World, Below w.heap.size w w' → Calls Try.prog 27 #[.agg vs.toArray, .agg ws.toArray] w' (TruthP w' (same a b)) := fun w' h => rsame_all 2000000 (Nat.le_refl _) a b hca w' F F vs ws (ha.bel h) (hb.bel h)
  have hh : ∀ w' : World, Below w.heap.size w w' → Calls Try.prog 36 #[.slice A us.length c, .slice V vars.length cv, .agg vs.toArray, .agg ws.toArray] w' (TruthP w' ((mset us vars b).all (hasP (mset us vars a)))) := fun w' h => rhas_any us hok hlen hcn vars hlv a b w' F A V c cv vs ws (hr.bel RUn_keeps h) (hv.bel RFi_keeps h) (ha.bel h) (hb.bel h) (fun k hk => Nat.lt_of_lt_of_le (hF k hk) h.size)
  have he : fitsP us vars a b = fitB (kindOf a) (kindOf b) (same a b) (ifT us b).isSome (mayT us a) ((mset us vars b).all (hasP (mset us vars a))) := by
    unfold fitsP
    cases ho : (ifT us b).isSome with
    | true => rw [fits_fields us vars b ho]
    | false => unfold fitB; simp
  rw [he]
  clear he
  obtain ⟨k0, p0, n0, la, lr⟩ := a
  obtain ⟨k1, p1, n1, lc, ld⟩ := b
  obtain ⟨A0, c0, B0, d0, rfl, _, _⟩ := ha.openL
  obtain ⟨A1, c1, B1, d1, rfl, _, _⟩ := hb.openL
  simp only [tyC] at hs hh ⊢
  exact rfits_core w k0 k1 p0 n0 p1 n1 A0 B0 A1 B1 A V la.length c0 lr.length d0 lc.length c1 ld.length d1 c cv vars.length us.length _ _ (ifP us k0 p0 n0).isSome _
    (fun h0 h1 => ⟨by rw [same_mk, decide_eq_false (by omega)]; rfl, by show (ifP us k1 p1 n1).isSome = false; rw [ifP_some, h1]; rfl⟩) hs
    (fun w' h => rfound_any us hok hlen k1 p1 n1 A1 B1 lc.length c1 ld.length d1 w' F A c (hr.bel RUn_keeps h) (fun k hk => Nat.lt_of_lt_of_le (hF k hk) h.size))
    (fun w' h => rfound_any us hok hlen k0 p0 n0 A0 B0 la.length c0 lr.length d0 w' F A c (hr.bel RUn_keeps h) (fun k hk => Nat.lt_of_lt_of_le (hF k hk) h.size)) hh
theorem great2_any (a b : Ty) (w0 w : World) (hb : Below w0.heap.size w0 w) (F : Nat → Prop) (k0 k1 : Int) (p0 n0 p1 n1 : ByteArray) (A0 B0 A1 B1 : Option Addr) (m0 c0 l0 d0 m1 c1 l1 d1 : Nat) (ht : RT w0 F a [.int .i64 k0, .string p0, .string n0, .slice A0 m0 c0, .slice B0 l0 d0]) (ht' : RT w0 F b [.int .i64 k1, .string p1, .string n1, .slice A1 m1 c1, .slice B1 l1 d1]) :
    Calls Try.prog 9 #[.slice (some ⟨w.heap.size, 0, none⟩) 2 2] (w.alloc (.cells #[.int .i64 k0, .string p0, .string n0, .slice A0 m0 c0, .slice B0 l0 d0, .int .i64 k1, .string p1, .string n1, .slice A1 m1 c1, .slice B1 l1 d1] 26)) fun e w' => e = .returned (.bool (decide (400 < countL [a, b]))) ∧ Below w.heap.size w w' := by
  have hbx := (Below.refl _ w).alloc (Nat.le_refl _) (.cells #[.int .i64 k0, .string p0, .string n0, .slice A0 m0 c0, .slice B0 l0 d0, .int .i64 k1, .string p1, .string n1, .slice A1 m1 c1, .slice B1 l1 d1] 26)
  have hk := fun (t : Ty) (xs : List Value) (h : RT w0 (fun k => k < w0.heap.size) t xs) => (RT_keeps _ _ _ _ _ _ (fun k _ hl => (hbx.block k (Nat.lt_of_lt_of_le hl hb.size)).trans (hb.block k hl)) (Nat.le_trans hb.size hbx.size) (fun k hk _ => by have := hb.size; show k ≤ w.heap.size; omega) h : RT (w.alloc (.cells #[.int .i64 k0, .string p0, .string n0, .slice A0 m0 c0, .slice B0 l0 d0, .int .i64 k1, .string p1, .string n1, .slice A1 m1 c1, .slice B1 l1 d1] 26)) (fun q => q ≤ w.heap.size) t xs)
  have hsl : SlT (w.alloc (.cells #[.int .i64 k0, .string p0, .string n0, .slice A0 m0 c0, .slice B0 l0 d0, .int .i64 k1, .string p1, .string n1, .slice A1 m1 c1, .slice B1 l1 d1] 26)) (fun q => q ≤ w.heap.size) (some ⟨w.heap.size, 0, none⟩) [a, b] :=
    SlT.two (Blk.new w 26 #[.int .i64 k0, .string p0, .string n0, .slice A0 m0 c0, .slice B0 l0 d0, .int .i64 k1, .string p1, .string n1, .slice A1 m1 c1, .slice B1 l1 d1]) (Nat.le_refl _) (hk a _ ht.lowF) (hk b _ ht'.lowF)
  refine (great_any [a, b] (by simp) _ _ _ 2 hsl).mono ?_
  rintro e w' ⟨he, hb'⟩
  exact ⟨he, hbx.trans (hb'.mono hbx.size)⟩
set_option maxRecDepth 100000 in
set_option maxHeartbeats 8000000 in
theorem kf_any (us : List Un) (hok : ∀ u ∈ us, u.ok 140737488355328) (hlen : us.length ≤ 140737488355328) (vars : List Fi) (hlv : vars.length ≤ 140737488355328) (a b : Ty) (w : World) (F1 F2 F3 F4 : Nat → Prop) (A V : Option Addr) (c cv : Nat) (vs ws : List Value) (hr : SlG 4 RUn w F1 A us) (hv : SlG 6 RFi w F2 V vars) (ha : RT w F3 a vs) (hb : RT w F4 b ws) :
    Calls Try.prog 4 #[.slice A us.length c, .slice V vars.length cv, .agg vs.toArray, .agg ws.toArray] w (TruthP w true) := by
  replace hr := hr.low RUn_keeps
  replace hv := hv.low RFi_keeps
  replace ha := ha.lowF
  replace hb := hb.lowF
  have HM := Lib.hid (fun (h2 : (∀ u ∈ us, u.cnt ≤ 2000) ∧ a.count ≤ 2000000) w' (h : Below w.heap.size w w') => kfits_any us hok hlen h2.1 vars hlv a b h2.2 w' (fun k => k < w.heap.size) A V c cv vs ws (hr.bel RUn_keeps h) (hv.bel RFi_keeps h) (ha.bel h) (hb.bel h) (fun k hk => Nat.lt_of_lt_of_le hk h.size))
  have HR := Lib.hid (fun (h2 : (∀ u ∈ us, u.cnt ≤ 2000) ∧ a.count ≤ 2000000) w' (h : Below w.heap.size w w') => rfits_any us hok hlen h2.1 vars hlv a b h2.2 w' (fun k => k < w.heap.size) A V c cv vs ws (hr.bel RUn_keeps h) (hv.bel RFi_keeps h) (ha.bel h) (hb.bel h) (fun k hk => Nat.lt_of_lt_of_le hk h.size))
  generalize fitsP us vars a b = R at HM HR
  obtain ⟨k0, p0, n0, A0, m0, c0, B0, l0, d0, rfl⟩ := ha.shape
  obtain ⟨k1, p1, n1, A1, m1, c1, B1, l1, d1, rfl⟩ := hb.shape
  simp only [tyC] at ha hb HM HR ⊢
  have hb1 := ((Below.refl _ w).alloc (Nat.le_refl _) (.cells #[.int .i64 k0, .string p0, .string n0, .slice A0 m0 c0, .slice B0 l0 d0] 26))
  have hb2 := hb1.alloc hb1.size (.cells #[.int .i64 k1, .string p1, .string n1, .slice A1 m1 c1, .slice B1 l1 d1] 26)
  have HB1 := Lib.hid hb2
  have hka := (Blk.new w 26 #[.int .i64 k0, .string p0, .string n0, .slice A0 m0 c0, .slice B0 l0 d0]).alloc (.cells #[.int .i64 k1, .string p1, .string n1, .slice A1 m1 c1, .slice B1 l1 d1] 26)
  have hkb := Blk.new (w.alloc (.cells #[.int .i64 k0, .string p0, .string n0, .slice A0 m0 c0, .slice B0 l0 d0] 26)) 26 #[.int .i64 k1, .string p1, .string n1, .slice A1 m1 c1, .slice B1 l1 d1]
  rw [show (w.alloc (.cells #[.int .i64 k0, .string p0, .string n0, .slice A0 m0 c0, .slice B0 l0 d0] 26)).heap.size = w.heap.size + 1 from by simp] at hkb
  have HKA1 := Lib.hid hka
  have HKB1 := Lib.hid hkb
  have HU := Lib.hid (units_any us hok hlen ((w.alloc (.cells #[.int .i64 k0, .string p0, .string n0, .slice A0 m0 c0, .slice B0 l0 d0] 26)).alloc (.cells #[.int .i64 k1, .string p1, .string n1, .slice A1 m1 c1, .slice B1 l1 d1] 26)) (fun k => k < w.heap.size) A c (hr.bel RUn_keeps hb2))
  have HF := Lib.hid (fun w' (h : Below w.heap.size w w') => fields_any vars (by omega) w' (fun k => k < w.heap.size) V cv (hv.bel RFi_keeps h))
  have HG := Lib.hid (fun w' (h : Below w.heap.size w w') => great2_any a b w w' h (fun k => k < w.heap.size) k0 k1 p0 n0 p1 n1 A0 B0 A1 B1 m0 c0 l0 d0 m1 c1 l1 d1 ha hb)
  have HCT := Lib.hid (show decide (400 < countL [a, b]) = false → a.count ≤ 2000000 from fun h => by have h1 := of_decide_eq_false h; rw [countL_cons] at h1; omega)
  generalize decide (400 < countL [a, b]) = bg at HG HCT
  generalize decide (400 < countL (vars.map Fi.ty)) = bf at HF
  have HCA := Lib.hid (fun w' (h : Below w.heap.size w w') => kcomp_any vars hlv k0 p0 n0 A0 B0 m0 c0 l0 d0 w' (fun k => k < w.heap.size) V cv (hv.bel RFi_keeps h) (fun k hk => Nat.lt_of_lt_of_le hk h.size))
  have HCB := Lib.hid (fun w' (h : Below w.heap.size w w') => rcomp_any vars hlv k0 p0 n0 A0 B0 m0 c0 l0 d0 w' (fun k => k < w.heap.size) V cv (hv.bel RFi_keeps h))
  generalize compP k0 _ = Q at HCA HCB
  clear hb1 hb2 hr hv ha hb hok hka hkb
  go_enter Try.func4, Try.ntmps4
  go_wp2_with (first
    | (go_at_call 7; refine HU.out.mono ?_; rintro e w2 ⟨bu, rfl, hcn, hb2⟩; have HCN := Lib.hid hcn; have HB2 := Lib.hid (HB1.out.trans (hb2.mono HB1.out.size)); clear hcn; have hka2 := HKA1.out.bel2 hb2; have hkb2 := HKB1.out.bel2 hb2; have ta0 := hka2.cell 0; have tb0 := hkb2.cell 0; have ta1 := hka2.cell 1; have tb1 := hkb2.cell 1; have ta2 := hka2.cell 2; have tb2 := hkb2.cell 2; have ta3 := hka2.cell 3; have tb3 := hkb2.cell 3; have ta4 := hka2.cell 4; have tb4 := hkb2.cell 4; have tal := hka2.lt; have tbl := hkb2.lt; have HKA2 := Lib.hid hka2; have HKB2 := Lib.hid hkb2; clear hb2 hka2 hkb2)
    | (go_at_call 8; have _g := HB2; refine (HF.out _ HB2.out).mono ?_; rintro e w3 ⟨rfl, hb3⟩; have HB3 := Lib.hid (HB2.out.trans (hb3.mono HB2.out.size)); have hka3 := HKA2.out.bel2 hb3; have hkb3 := HKB2.out.bel2 hb3; have ta0 := hka3.cell 0; have tb0 := hkb3.cell 0; have ta1 := hka3.cell 1; have tb1 := hkb3.cell 1; have ta2 := hka3.cell 2; have tb2 := hkb3.cell 2; have ta3 := hka3.cell 3; have tb3 := hkb3.cell 3; have ta4 := hka3.cell 4; have tb4 := hkb3.cell 4; have tal := hka3.lt; have tbl := hkb3.lt; have HKA3 := Lib.hid hka3; have HKB3 := Lib.hid hkb3; clear hb3 hka3 hkb3)
    | (go_at_call 9; have _g := HB3; refine (HG.out _ HB3.out).mono ?_; rintro e w4 ⟨rfl, hb4⟩; have HB4 := Lib.hid (HB3.out.trans (hb4.mono HB3.out.size)); have hka4 := HKA3.out.bel2 hb4; have hkb4 := HKB3.out.bel2 hb4; have ta0 := hka4.cell 0; have tb0 := hkb4.cell 0; have ta1 := hka4.cell 1; have tb1 := hkb4.cell 1; have ta2 := hka4.cell 2; have tb2 := hkb4.cell 2; have ta3 := hka4.cell 3; have tb3 := hkb4.cell 3; have ta4 := hka4.cell 4; have tb4 := hkb4.cell 4; have tal := hka4.lt; have tbl := hkb4.lt; have HKA4 := Lib.hid hka4; have HKB4 := Lib.hid hkb4; clear hb4 hka4 hkb4)
    | (go_at_call 10; refine (awake_any _).mono ?_; rintro e w8 ⟨rfl, hb8⟩; first | have HB8 := Lib.hid (HB4.out.trans (hb8.mono HB4.out.size)) | have HB8 := Lib.hid (HB3.out.trans (hb8.mono HB3.out.size)) | have HB8 := Lib.hid (HB2.out.trans (hb8.mono HB2.out.size)); clear hb8))
  all_goals try (go_ret; exact ⟨by simp, HB8.out⟩)
  have HC3 := Lib.hid (show (∀ u ∈ us, u.cnt ≤ 2000) ∧ a.count ≤ 2000000 from ⟨HCN.out (by first | assumption | rfl | exact Bool.eq_false_iff.2 (by assumption)), HCT.out (by first | assumption | rfl | exact Bool.eq_false_iff.2 (by assumption))⟩)
  refine wp_region_held_drew (S := fun V => Below w4.heap.size w4 V) (by kernel_rfl) (Below.refl _ _).drew (fun hS0 => ?_)
  generalize w4.drew = W1 at hS0 ⊢
  refine wpAnyH_take (i := 0) (v := .slice A us.length c) rfl (by kernel_rfl) (by kernel_rfl) (by kernel_rfl) (fun _ _ _ h => h) (Or.inl ⟨rfl, fun w' hS => by (unfold execOp; go_simp)⟩) hS0 ?_
  simp only [Act.put, List.getElem_toArray, List.getElem_cons_zero, List.getElem_cons_succ, List.setIfInBounds_toArray, List.set_cons_zero, List.set_cons_succ]
  refine wpAnyH_take (i := 1) (v := .slice V vars.length cv) rfl (by kernel_rfl) (by kernel_rfl) (by kernel_rfl) (fun _ _ _ h => h) (Or.inl ⟨rfl, fun w' hS => by (unfold execOp; go_simp)⟩) hS0 ?_
  simp only [Act.put, List.getElem_toArray, List.getElem_cons_zero, List.getElem_cons_succ, List.setIfInBounds_toArray, List.set_cons_zero, List.set_cons_succ]
  refine wpAnyH_take (i := 2) (v := (.agg #[.int .i64 k0, .string p0, .string n0, .slice A0 m0 c0, .slice B0 l0 d0])) rfl (by kernel_rfl) (by kernel_rfl) (by kernel_rfl) (fun _ _ _ h => h) (Or.inl ⟨rfl, fun w' hS => by (have hk := HKA4.out.bel2 hS; have x0 := hk.cell 0; have x1 := hk.cell 1; have x2 := hk.cell 2; have x3 := hk.cell 3; have x4 := hk.cell 4; have xl := hk.lt; unfold execOp; go_simp)⟩) hS0 ?_
  simp only [Act.put, List.getElem_toArray, List.getElem_cons_zero, List.getElem_cons_succ, List.setIfInBounds_toArray, List.set_cons_zero, List.set_cons_succ]
  refine wpAnyH_take (i := 3) (v := (.agg #[.int .i64 k1, .string p1, .string n1, .slice A1 m1 c1, .slice B1 l1 d1])) rfl (by kernel_rfl) (by kernel_rfl) (by kernel_rfl) (fun _ _ _ h => h) (Or.inl ⟨rfl, fun w' hS => by (have hk := HKB4.out.bel2 hS; have x0 := hk.cell 0; have x1 := hk.cell 1; have x2 := hk.cell 2; have x3 := hk.cell 3; have x4 := hk.cell 4; have xl := hk.lt; unfold execOp; go_simp)⟩) hS0 ?_
  simp only [Act.put, List.getElem_toArray, List.getElem_cons_zero, List.getElem_cons_succ, List.setIfInBounds_toArray, List.set_cons_zero, List.set_cons_succ]
  refine wpAnyH_take (i := 5) (v := .slice A us.length c) rfl (by kernel_rfl) (by kernel_rfl) (by kernel_rfl) (fun _ _ _ h => h) (Or.inl ⟨rfl, fun w' hS => by (unfold execOp; go_simp)⟩) hS0 ?_
  simp only [Act.put, List.getElem_toArray, List.getElem_cons_zero, List.getElem_cons_succ, List.setIfInBounds_toArray, List.set_cons_zero, List.set_cons_succ]
  refine wpAnyH_take (i := 6) (v := .slice V vars.length cv) rfl (by kernel_rfl) (by kernel_rfl) (by kernel_rfl) (fun _ _ _ h => h) (Or.inl ⟨rfl, fun w' hS => by (unfold execOp; go_simp)⟩) hS0 ?_
  simp only [Act.put, List.getElem_toArray, List.getElem_cons_zero, List.getElem_cons_succ, List.setIfInBounds_toArray, List.set_cons_zero, List.set_cons_succ]
  refine wpAnyH_take (i := 7) (v := (.agg #[.int .i64 k0, .string p0, .string n0, .slice A0 m0 c0, .slice B0 l0 d0])) rfl (by kernel_rfl) (by kernel_rfl) (by kernel_rfl) (fun _ _ _ h => h) (Or.inl ⟨rfl, fun w' hS => by (have hk := HKA4.out.bel2 hS; have x0 := hk.cell 0; have x1 := hk.cell 1; have x2 := hk.cell 2; have x3 := hk.cell 3; have x4 := hk.cell 4; have xl := hk.lt; unfold execOp; go_simp)⟩) hS0 ?_
  simp only [Act.put, List.getElem_toArray, List.getElem_cons_zero, List.getElem_cons_succ, List.setIfInBounds_toArray, List.set_cons_zero, List.set_cons_succ]
  refine wpAnyH_take (i := 8) (v := (.agg #[.int .i64 k1, .string p1, .string n1, .slice A1 m1 c1, .slice B1 l1 d1])) rfl (by kernel_rfl) (by kernel_rfl) (by kernel_rfl) (fun _ _ _ h => h) (Or.inl ⟨rfl, fun w' hS => by (have hk := HKB4.out.bel2 hS; have x0 := hk.cell 0; have x1 := hk.cell 1; have x2 := hk.cell 2; have x3 := hk.cell 3; have x4 := hk.cell 4; have xl := hk.lt; unfold execOp; go_simp)⟩) hS0 ?_
  simp only [Act.put, List.getElem_toArray, List.getElem_cons_zero, List.getElem_cons_succ, List.setIfInBounds_toArray, List.set_cons_zero, List.set_cons_succ]
  refine wpAnyH_one (i := 4) (by kernel_rfl) rfl rfl (op_call (args := #[.slice A us.length c, .slice V vars.length cv, .agg #[.int .i64 k0, .string p0, .string n0, .slice A0 m0 c0, .slice B0 l0 d0], .agg #[.int .i64 k1, .string p1, .string n1, .slice A1 m1 c1, .slice B1 l1 d1]]) (f := 14) (by unfold execOp; go_simp) ((HM.out HC3.out _ (HB4.out.trans (hS0.mono HB4.out.size))).mono ?_))
  rintro e w20 ⟨rfl, hb20⟩
  have hS1 := hS0.trans (hb20.mono hS0.size)
  refine And.intro hS1 ?_
  simp only [Act.put, List.getElem_toArray, List.getElem_cons_zero, List.getElem_cons_succ, List.setIfInBounds_toArray, List.set_cons_zero, List.set_cons_succ]
  refine wpAnyH_one (i := 9) (by kernel_rfl) rfl rfl (op_call (args := #[.slice A us.length c, .slice V vars.length cv, .agg #[.int .i64 k0, .string p0, .string n0, .slice A0 m0 c0, .slice B0 l0 d0], .agg #[.int .i64 k1, .string p1, .string n1, .slice A1 m1 c1, .slice B1 l1 d1]]) (f := 15) (by unfold execOp; go_simp) ((HR.out HC3.out _ (HB4.out.trans (hS1.mono HB4.out.size))).mono ?_))
  rintro e w21 ⟨rfl, hb21⟩
  have hS2 := hS1.trans (hb21.mono hS1.size)
  refine And.intro hS2 ?_
  simp only [Act.put, List.getElem_toArray, List.getElem_cons_zero, List.getElem_cons_succ, List.setIfInBounds_toArray, List.set_cons_zero, List.set_cons_succ]
  refine wpAnyH_take (i := 10) (v := .bool true) rfl (by kernel_rfl) (by kernel_rfl) (by kernel_rfl) (fun _ _ _ h => h) (Or.inl ⟨rfl, fun w' hS => by (unfold execOp; go_simp)⟩) hS2 ?_
  simp only [Act.put, List.getElem_toArray, List.getElem_cons_zero, List.getElem_cons_succ, List.setIfInBounds_toArray, List.set_cons_zero, List.set_cons_succ]
  refine wpAnyH_take (i := 11) (v := .bool true) rfl (by kernel_rfl) (by kernel_rfl) (by kernel_rfl) (fun _ _ _ h => h) (Or.inl ⟨rfl, fun w' hS => by (unfold execOp; go_simp)⟩) hS2 ?_
  simp only [Act.put, List.getElem_toArray, List.getElem_cons_zero, List.getElem_cons_succ, List.setIfInBounds_toArray, List.set_cons_zero, List.set_cons_succ]
  refine wpAnyH_take (i := 12) (v := .slice V vars.length cv) rfl (by kernel_rfl) (by kernel_rfl) (by kernel_rfl) (fun _ _ _ h => h) (Or.inl ⟨by kernel_rfl, fun w' hS => by (unfold execOp; go_simp)⟩) hS2 ?_
  simp only [Act.put, List.getElem_toArray, List.getElem_cons_zero, List.getElem_cons_succ, List.setIfInBounds_toArray, List.set_cons_zero, List.set_cons_succ]
  refine wpAnyH_take (i := 13) (v := (.agg #[.int .i64 k0, .string p0, .string n0, .slice A0 m0 c0, .slice B0 l0 d0])) rfl (by kernel_rfl) (by kernel_rfl) (by kernel_rfl) (fun _ _ _ h => h) (Or.inl ⟨by kernel_rfl, fun w' hS => by (have hk := HKA4.out.bel2 hS; have x0 := hk.cell 0; have x1 := hk.cell 1; have x2 := hk.cell 2; have x3 := hk.cell 3; have x4 := hk.cell 4; have xl := hk.lt; unfold execOp; go_simp)⟩) hS2 ?_
  simp only [Act.put, List.getElem_toArray, List.getElem_cons_zero, List.getElem_cons_succ, List.setIfInBounds_toArray, List.set_cons_zero, List.set_cons_succ]
  refine wpAnyH_take (i := 15) (v := .slice V vars.length cv) rfl (by kernel_rfl) (by kernel_rfl) (by kernel_rfl) (fun _ _ _ h => h) (Or.inl ⟨by kernel_rfl, fun w' hS => by (unfold execOp; go_simp)⟩) hS2 ?_
  simp only [Act.put, List.getElem_toArray, List.getElem_cons_zero, List.getElem_cons_succ, List.setIfInBounds_toArray, List.set_cons_zero, List.set_cons_succ]
  refine wpAnyH_take (i := 16) (v := (.agg #[.int .i64 k0, .string p0, .string n0, .slice A0 m0 c0, .slice B0 l0 d0])) rfl (by kernel_rfl) (by kernel_rfl) (by kernel_rfl) (fun _ _ _ h => h) (Or.inl ⟨by kernel_rfl, fun w' hS => by (have hk := HKA4.out.bel2 hS; have x0 := hk.cell 0; have x1 := hk.cell 1; have x2 := hk.cell 2; have x3 := hk.cell 3; have x4 := hk.cell 4; have xl := hk.lt; unfold execOp; go_simp)⟩) hS2 ?_
  simp only [Act.put, List.getElem_toArray, List.getElem_cons_zero, List.getElem_cons_succ, List.setIfInBounds_toArray, List.set_cons_zero, List.set_cons_succ]
  refine wpAnyH_oneG (i := 14) (by kernel_rfl) rfl (by kernel_rfl) (op_call (args := #[.slice V vars.length cv, .agg #[.int .i64 k0, .string p0, .string n0, .slice A0 m0 c0, .slice B0 l0 d0]]) (f := 16) (by unfold execOp; go_simp) ((HCA.out _ (HB4.out.trans (hS2.mono HB4.out.size))).mono ?_))
  rintro e w22 ⟨rfl, hb22⟩
  have hS3 := hS2.trans (hb22.mono hS2.size)
  refine And.intro hS3 ?_
  simp only [Act.put, List.getElem_toArray, List.getElem_cons_zero, List.getElem_cons_succ, List.setIfInBounds_toArray, List.set_cons_zero, List.set_cons_succ]
  refine wpAnyH_oneG (i := 17) (by kernel_rfl) rfl (by kernel_rfl) (op_call (args := #[.slice V vars.length cv, .agg #[.int .i64 k0, .string p0, .string n0, .slice A0 m0 c0, .slice B0 l0 d0]]) (f := 17) (by unfold execOp; go_simp) ((HCB.out _ (HB4.out.trans (hS3.mono HB4.out.size))).mono ?_))
  rintro e w23 ⟨rfl, hb23⟩
  have hS4 := hS3.trans (hb23.mono hS3.size)
  refine And.intro hS4 ?_
  simp only [Act.put, List.getElem_toArray, List.getElem_cons_zero, List.getElem_cons_succ, List.setIfInBounds_toArray, List.set_cons_zero, List.set_cons_succ]
  refine wpAnyH_take (i := 18) (v := .bool true) rfl (by kernel_rfl) (by kernel_rfl) (by kernel_rfl) (fun _ _ _ h => h) (Or.inl ⟨by kernel_rfl, fun w' hS => by (unfold execOp; go_simp)⟩) hS4 ?_
  simp only [Act.put, List.getElem_toArray, List.getElem_cons_zero, List.getElem_cons_succ, List.setIfInBounds_toArray, List.set_cons_zero, List.set_cons_succ]
  refine wpAnyH_take (i := 19) (v := .bool true) rfl (by kernel_rfl) (by kernel_rfl) (by kernel_rfl) (fun _ _ _ h => h) (Or.inl ⟨rfl, fun w' hS => by (unfold execOp; go_simp)⟩) hS4 ?_
  simp only [Act.put, List.getElem_toArray, List.getElem_cons_zero, List.getElem_cons_succ, List.setIfInBounds_toArray, List.set_cons_zero, List.set_cons_succ]
  refine wpAnyH_take (i := 20) (v := .bool true) rfl (by kernel_rfl) (by kernel_rfl) (by kernel_rfl) (fun _ _ _ h => h) (Or.inl ⟨rfl, fun w' hS => by (unfold execOp; go_simp)⟩) hS4 ?_
  simp only [Act.put, List.getElem_toArray, List.getElem_cons_zero, List.getElem_cons_succ, List.setIfInBounds_toArray, List.set_cons_zero, List.set_cons_succ]
  refine wpAnyH_oneG (i := 21) (by kernel_rfl) rfl (by kernel_rfl) (op_call (args := #[]) (f := 10) (by unfold execOp; go_simp) ((awake_any _).mono ?_))
  rintro e w24 ⟨rfl, hb24⟩
  have hS5 := hS4.trans (hb24.mono hS4.size)
  refine And.intro hS5 ?_
  simp only [Act.put, List.getElem_toArray, List.getElem_cons_zero, List.getElem_cons_succ, List.setIfInBounds_toArray, List.set_cons_zero, List.set_cons_succ]
  refine wpAnyH_take (i := 22) (v := .bool true) rfl (by kernel_rfl) (by kernel_rfl) (by kernel_rfl) (fun _ _ _ h => h) (Or.inl ⟨rfl, fun w' hS => by (unfold execOp; go_simp)⟩) hS5 ?_
  simp only [Act.put, List.getElem_toArray, List.getElem_cons_zero, List.getElem_cons_succ, List.setIfInBounds_toArray, List.set_cons_zero, List.set_cons_succ]
  refine wpAnyH_take (i := 23) (v := .bool true) rfl (by kernel_rfl) (by kernel_rfl) (by kernel_rfl) (fun _ _ _ h => h) (Or.inl ⟨rfl, fun w' hS => by (unfold execOp; go_simp)⟩) hS5 ?_
  simp only [Act.put, List.getElem_toArray, List.getElem_cons_zero, List.getElem_cons_succ, List.setIfInBounds_toArray, List.set_cons_zero, List.set_cons_succ]
  refine wpAnyH_done (by kernel_rfl) ?_ _
  have HWE := Lib.hid (HB4.out.trans (hS5.mono HB4.out.size))
  go_wp2
  go_ret
  exact ⟨by simp, HWE.out⟩
end Go.Proofs.Ytcfgjfahjaimiaa
