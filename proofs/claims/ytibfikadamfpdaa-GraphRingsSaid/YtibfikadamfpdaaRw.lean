/-
  A ring is refused, a chain is done from its end: the walk.
-/
import Derived.Test.YtibfikadamfpdaaRm
namespace Go.Proofs.Ytibfikadamfpdaa
open Go.RowKit
set_option linter.unusedVariables false
set_option linter.unusedSimpArgs false

theorem range_snoc {α : Type} (g : Nat → α) (i : Nat) : (List.range (i + 1)).map g = (List.range i).map g ++ [g i] := by
  rw [List.range_succ, List.map_append]; rfl
set_option maxRecDepth 100000 in
set_option maxHeartbeats 8000000 in
theorem grings_any (w : World) (n f : Nat) (hn : n ≤ 255) (hf : f ≤ 255) :
    Calls Try.prog 7 #[.int .u8 n, .int .u8 f] w (TruthP w true) := by
  have HAW := Lib.hid awake_any
  have HNUM := Lib.hid num_any
  have HW := Lib.hid word_any
  obtain ⟨k, hk⟩ : ∃ k, 1 + n % 8 = k := ⟨_, rfl⟩
  have k0 : 0 < k := by omega
  have k8 : k ≤ 8 := by omega
  have e0 : (1 : Int) + (n : Int) % 8 = (k : Int) := by omega
  have n0 : (0 : Int) ≤ (n : Int) := by omega
  have n1 : (n : Int) ≤ 255 := by omega
  have f0 : (0 : Int) ≤ (f : Int) := by omega
  have f1 : (f : Int) ≤ 255 := by omega
  have k1 : (0 : Int) < (k : Int) := by omega
  have k2 : (k : Int) ≤ 8 := by omega
  have hm0 : (0 : Int) ≤ (n : Int) % 8 := by omega
  have hm1 : (n : Int) % 8 < 8 := by omega
  clear hk
  go_enter Try.func7, Try.ntmps7
  go_wp2
  go_loopg [6, 7, 8, 9] k (fun gk v6 v7 v8 v9 wr => ∃ i A6 c6 A7 c7 A8 c8 ns ring chain xr xc, i + gk = k ∧ v9 = .int .i64 i ∧ v6 = .slice A6 ns.length c6 ∧ v7 = .slice A7 ring.length c7 ∧ v8 = .slice A8 chain.length c8 ∧
      ns = (List.range i).map (fun q => wordB ((q + f) % k)) ∧ ring = (List.range i).map (fun q => [wordB ((q + f + 1) % k)]) ∧ chain = (List.range i).map (fun q => if (q + f) % k = k - 1 then [] else [wordB ((q + f + 1) % k)]) ∧ RS w wr v6 v7 v8 ns ring chain xr xc)
  case atStart => exact ⟨0, none, 0, none, 0, none, 0, [], [], [], [], [], by simp, rfl, rfl, rfl, rfl, rfl, rfl, rfl, RS.start w⟩
  case round =>
    obtain ⟨i, A6, c6, A7, c7, A8, c8, ns, ring, chain, xr, xc, hi, rfl, rfl, rfl, rfl, hns, hring, hchain, hrs⟩ := hrel
    cases gk with
    | zero =>
      have hik : i = k := by omega
      rw [hik] at hns hring hchain
      have ei : decide (i < k) = false := decide_eq_false (by omega)
      have hnl : ns.length = k := by rw [hns]; simp
      have hrl : ring.length = k := by rw [hring]; simp
      have hcl : chain.length = k := by rw [hchain]; simp
      have hnk : ns = namesK k f := hns
      have hrk : ring = ringK k f := hring
      have hck : chain = chainK k f := hchain
      have hcap : ns.length ≤ c6 := by
        rcases hrs.names.2 with ⟨h, h0⟩ | ⟨g', cap', cur, hv, _, _, h3, _⟩
        · omega
        · injection hv with _ _ h4
          omega
      have HG := gorder_any wr wr.heap.size A6 A7 c6 c7 ns ring (SlV.own hrs.names) hrs.ringM.sln (Nat.le_refl _) hcap (by omega) (by omega) (fun r hr => by
        rw [hrk] at hr
        unfold ringK at hr
        obtain ⟨q, _, rfl⟩ := List.mem_map.1 hr
        simp)
      have HG2 := Lib.hid (fun (w1 : World) (hb : Below wr.heap.size wr w1) => gorder_any w1 w1.heap.size A6 A8 c6 c8 ns chain (SlV.own (hrs.below hb).names) (hrs.below hb).chainM.sln (Nat.le_refl _) hcap (by omega) (by omega) (fun r hr => by
        rw [hck] at hr
        unfold chainK at hr
        obtain ⟨q, _, rfl⟩ := List.mem_map.1 hr
        split <;> simp))
      obtain ⟨L, hL1, hL2, hL3⟩ := chain_res (k := k) (f := f) k0 k8
      unfold Ord3 at HG HG2
      rw [hnk, hrk, ring_res k0 k8, ← hnk, ← hrk] at HG
      rw [hnk, hck, hL1, ← hnk, ← hck] at HG2
      simp only at HG HG2
      have HRS := Lib.hid hrs
      have HL := Lib.hid hL3
      have HNK := Lib.hid hnk
      have HNL := Lib.hid hnl
      have HLL := Lib.hid hL2
      have hkk : ((k : Int) != (k : Int)) = false := by simp
      rw [hnl] at HG HG2 ⊢
      rw [hrl] at HG ⊢
      rw [hcl] at HG2 ⊢
      rw [hL2] at HG2
      rw [show ([] : List Nat).length = 0 from rfl] at HG
      clear hns hring hchain hrs hnk hrk hck hcap hL1 hL2 hL3 hnl hrl hcl hik hi
      go_wp2_with (first
        | (go_at_call 13; (with_reducible refine (HNUM.out _ _).mono ?_); rintro e w5 ⟨rfl, rfl⟩)
        | (go_at_call 10; (with_reducible refine (HG2.out _ HB2.out).mono ?_); rintro e w3 ⟨⟨A3, c3, rfl, hs3⟩, hb3⟩; have HS3 := Lib.hid hs3; have HB3 := Lib.hid hb3; clear hs3 hb3)
        | (go_at_call 10; (with_reducible refine HG.mono ?_); rintro e w2 ⟨⟨A2, c2, rfl, hs2⟩, hb2⟩; have HB2 := Lib.hid hb2; clear hs2 hb2))
      have HBB := Lib.hid (below_next HB2.out HB3.out)
      have HRS3 := Lib.hid (HRS.out.below HBB.out)
      clear HG
      go_loopg [16] k (fun gk v16 wr => ∃ i : Nat, i + gk = k ∧ v16 = .int .i64 i ∧ Below w3.heap.size w3 wr)
      case atStart => exact ⟨0, by simp, rfl, Below.refl _ _⟩
      case round =>
        obtain ⟨i, hi, rfl, hb⟩ := hrel
        have HB := Lib.hid hb
        cases gk with
        | zero =>
          have ei2 : decide (i < k) = false := decide_eq_false (by omega)
          clear hb hi
          go_wp2_with (go_at_call 9; (with_reducible refine (HAW.out _).mono ?_); rintro e w5 ⟨rfl, hb5⟩; have HB5 := Lib.hid hb5; clear hb5)
          go_ret
          exact ⟨rfl, below_next (below_next (HRS3.out.bel) HB.out |> fun h => h) HB5.out⟩
        | succ gf =>
          have hik : i < k := by omega
          have i0 : (0 : Int) ≤ (i : Int) := by omega
          have i1 : (i : Int) < (k : Int) := by omega
          obtain ⟨hy1, hy2⟩ := HL.out i hik
          obtain ⟨y, hy⟩ : ∃ y, fl L i = y := ⟨_, rfl⟩
          obtain ⟨q, hq⟩ : ∃ q, k - 1 - i = q := ⟨_, rfl⟩
          rw [hy] at hy1 hy2
          rw [hq, ← HNK.out] at hy2
          have hq20 : q ≤ 20 := by omega
          have eq1 : (k : Int) - 1 - (i : Int) = (q : Int) := by omega
          have y0 : (0 : Int) ≤ (y : Int) := by omega
          have y1 : (y : Int) < (k : Int) := by omega
          have kk0 : (0 : Int) ≤ (k : Int) - 1 := by omega
          have kk1 : (0 : Int) ≤ (k : Int) - 1 - (i : Int) := by omega
          obtain ⟨lg, lof, rfl, hl1, hl2⟩ := (HS3.out.below hb).at_ (ints_get (l := L) (i := i) (by rw [HLL.out]; exact hik))
          obtain ⟨ng, no, rfl, hn1, hn2⟩ := (SlV.own (HRS3.out.below hb).names).at_ (txt9_get (N := ns) (i := y) (by rw [HNL.out]; exact hy1))
          rw [hy] at hl2
          rw [hy2] at hn2
          have hl1' : lg < wr.heap.size := by have := hb.size; omega
          clear hb hy hq hy2 hl1
          have hl1 := hl1'
          clear hl1'
          have HE8 := Lib.hid (show IntKind.i64.wrap ((k : Int) - 1) = (k : Int) - 1 from IntWalk.i64_in _ (by omega))
          have HE9 := Lib.hid (show IntKind.i64.wrap (q : Int) = (q : Int) from IntWalk.i64_in _ (by omega))
          have hne : ((wordB q).toList != (wordB q).toList) = false := by simp
          go_wp2
          refine wp_region_held (S := fun x => Below wr.heap.size wr x) (by kernel_rfl) ?_
          rw [show ({ wr with drawn := wr.drawn + 1 } : World) = wr.drew from rfl]
          have hS0 : Below wr.heap.size wr wr.drew := (Below.refl _ wr).drew
          generalize wr.drew = W at hS0 ⊢
          refine wpAnyH_take (i := 0) (v := .slice (some ⟨ng, no, none⟩) k c6) rfl (by kernel_rfl) (by kernel_rfl) (by kernel_rfl) (fun _ _ _ h => h) (Or.inl ⟨rfl, fun w' hS => by (unfold execOp; go_simp)⟩) hS0 ?_
          simp only [Act.put, List.getElem_toArray, List.getElem_cons_zero, List.getElem_cons_succ, List.setIfInBounds_toArray, List.set_cons_zero, List.set_cons_succ]
          refine wpAnyH_take (i := 1) (v := .slice (some ⟨lg, lof, none⟩) k c3) rfl (by kernel_rfl) (by kernel_rfl) (by kernel_rfl) (fun _ _ _ h => h) (Or.inl ⟨rfl, fun w' hS => by (unfold execOp; go_simp)⟩) hS0 ?_
          simp only [Act.put, List.getElem_toArray, List.getElem_cons_zero, List.getElem_cons_succ, List.setIfInBounds_toArray, List.set_cons_zero, List.set_cons_succ]
          refine wpAnyH_take (i := 2) (v := .int .i64 i) rfl (by kernel_rfl) (by kernel_rfl) (by kernel_rfl) (fun _ _ _ h => h) (Or.inl ⟨rfl, fun w' hS => by (unfold execOp; go_simp)⟩) hS0 ?_
          simp only [Act.put, List.getElem_toArray, List.getElem_cons_zero, List.getElem_cons_succ, List.setIfInBounds_toArray, List.set_cons_zero, List.set_cons_succ]
          refine wpAnyH_take (i := 3) (v := .pointer (some ⟨lg, lof + i, none⟩)) rfl (by kernel_rfl) (by kernel_rfl) (by kernel_rfl) (fun _ _ _ h => h) (Or.inl ⟨rfl, fun w' hS => by (unfold execOp; go_simp)⟩) hS0 ?_
          simp only [Act.put, List.getElem_toArray, List.getElem_cons_zero, List.getElem_cons_succ, List.setIfInBounds_toArray, List.set_cons_zero, List.set_cons_succ]
          refine wpAnyH_take (i := 4) (v := .int .i64 (y : Int)) rfl (by kernel_rfl) (by kernel_rfl) (by kernel_rfl) (fun _ _ _ h => h) (Or.inl ⟨rfl, fun w' hS => by (have yu := (hS.cell (p := ⟨lg, lof + i, none⟩) hl1).trans hl2; unfold execOp; go_simp)⟩) hS0 ?_
          simp only [Act.put, List.getElem_toArray, List.getElem_cons_zero, List.getElem_cons_succ, List.setIfInBounds_toArray, List.set_cons_zero, List.set_cons_succ]
          refine wpAnyH_take (i := 5) (v := .pointer (some ⟨ng, no + y, none⟩)) rfl (by kernel_rfl) (by kernel_rfl) (by kernel_rfl) (fun _ _ _ h => h) (Or.inl ⟨rfl, fun w' hS => by (unfold execOp; go_simp)⟩) hS0 ?_
          simp only [Act.put, List.getElem_toArray, List.getElem_cons_zero, List.getElem_cons_succ, List.setIfInBounds_toArray, List.set_cons_zero, List.set_cons_succ]
          refine wpAnyH_take (i := 6) (v := .string (wordB q)) rfl (by kernel_rfl) (by kernel_rfl) (by kernel_rfl) (fun _ _ _ h => h) (Or.inl ⟨rfl, fun w' hS => by (have yu := (hS.cell (p := ⟨ng, no + y, none⟩) hn1).trans hn2; unfold execOp; go_simp)⟩) hS0 ?_
          simp only [Act.put, List.getElem_toArray, List.getElem_cons_zero, List.getElem_cons_succ, List.setIfInBounds_toArray, List.set_cons_zero, List.set_cons_succ]
          refine wpAnyH_take (i := 7) (v := .int .i64 (k : Int)) rfl (by kernel_rfl) (by kernel_rfl) (by kernel_rfl) (fun _ _ _ h => h) (Or.inl ⟨rfl, fun w' hS => by (unfold execOp; go_simp)⟩) hS0 ?_
          simp only [Act.put, List.getElem_toArray, List.getElem_cons_zero, List.getElem_cons_succ, List.setIfInBounds_toArray, List.set_cons_zero, List.set_cons_succ]
          refine wpAnyH_take (i := 8) (v := .int .i64 ((k : Int) - 1)) rfl (by kernel_rfl) (by kernel_rfl) (by kernel_rfl) (fun _ _ _ h => h) (Or.inl ⟨rfl, fun w' hS => by (have e8 := HE8.out; unfold execOp; go_simp)⟩) hS0 ?_
          simp only [Act.put, List.getElem_toArray, List.getElem_cons_zero, List.getElem_cons_succ, List.setIfInBounds_toArray, List.set_cons_zero, List.set_cons_succ]
          refine wpAnyH_take (i := 9) (v := .int .i64 (i : Int)) rfl (by kernel_rfl) (by kernel_rfl) (by kernel_rfl) (fun _ _ _ h => h) (Or.inl ⟨rfl, fun w' hS => by (unfold execOp; go_simp)⟩) hS0 ?_
          simp only [Act.put, List.getElem_toArray, List.getElem_cons_zero, List.getElem_cons_succ, List.setIfInBounds_toArray, List.set_cons_zero, List.set_cons_succ]
          refine wpAnyH_take (i := 10) (v := .int .i64 (q : Int)) rfl (by kernel_rfl) (by kernel_rfl) (by kernel_rfl) (fun _ _ _ h => h) (Or.inl ⟨rfl, fun w' hS => by (have e9 := HE9.out; unfold execOp; go_simp)⟩) hS0 ?_
          simp only [Act.put, List.getElem_toArray, List.getElem_cons_zero, List.getElem_cons_succ, List.setIfInBounds_toArray, List.set_cons_zero, List.set_cons_succ]
          refine wpAnyH_one (i := 11) (by kernel_rfl) rfl rfl (op_call (args := #[.int .i64 (q : Int)]) (f := 16) (by unfold execOp; go_simp) ((HW.out _ q hq20).mono ?_))
          rintro e w7 ⟨rfl, hb7⟩
          have hS7 : Below wr.heap.size wr w7 := hS0.trans (hb7.mono hS0.size)
          refine And.intro hS7 ?_
          simp only [Act.put, List.getElem_toArray, List.getElem_cons_zero, List.getElem_cons_succ, List.setIfInBounds_toArray, List.set_cons_zero, List.set_cons_succ]
          have HS7 := Lib.hid hS7
          refine wpAnyH_take (i := 12) (v := .bool false) rfl (by kernel_rfl) (by kernel_rfl) (by kernel_rfl) (fun _ _ _ h => h) (Or.inl ⟨rfl, fun w' hS => by (unfold execOp; go_simp)⟩) hS7 ?_
          simp only [Act.put, List.getElem_toArray, List.getElem_cons_zero, List.getElem_cons_succ, List.setIfInBounds_toArray, List.set_cons_zero, List.set_cons_succ]
          refine wpAnyH_done (by kernel_rfl) ?_ _
          clear hS0 hS7 hb7
          go_wp2
          go_roundg gf
          case measure => omega
          case rel => exact ⟨i + 1, by omega, by go_num, HB.out.trans (HS7.out.mono HB.out.size)⟩
    | succ gf =>
      have hik : i < k := by omega
      have i0 : (0 : Int) ≤ (i : Int) := by omega
      have i1 : (i : Int) < (k : Int) := by omega
      obtain ⟨p, hp⟩ : ∃ p, (i + f) % k = p := ⟨_, rfl⟩
      obtain ⟨p1, hp1⟩ : ∃ p, (i + f + 1) % k = p := ⟨_, rfl⟩
      have ep : ((i : Int) + (f : Int)) % (k : Int) = (p : Int) := by rw [← hp]; simp
      have ep1 : ((i : Int) + (f : Int) + 1) % (k : Int) = (p1 : Int) := by rw [← hp1]; simp
      have hpk : p < k := by rw [← hp]; exact Nat.mod_lt _ k0
      have hpk1 : p1 < k := by rw [← hp1]; exact Nat.mod_lt _ k0
      have p20 : p ≤ 20 := by omega
      have p120 : p1 ≤ 20 := by omega
      have pp0 : (0 : Int) ≤ (p : Int) := by omega
      have pp1 : (0 : Int) ≤ (p1 : Int) := by omega
      have hnl : ns.length ≤ 8 := by rw [hns]; simp; omega
      have hrl : ring.length ≤ 8 := by rw [hring]; simp; omega
      have hcl : chain.length ≤ 8 := by rw [hchain]; simp; omega
      have hns1 := Lib.hid (show ns ++ [wordB p] = (List.range (i + 1)).map (fun q => wordB ((q + f) % k)) by rw [range_snoc, ← hns, hp])
      have hring1 := Lib.hid (show ring ++ [[wordB p1]] = (List.range (i + 1)).map (fun q => [wordB ((q + f + 1) % k)]) by rw [range_snoc, ← hring, hp1])
      have hchain1 := Lib.hid (show chain ++ [if p = k - 1 then [] else [wordB p1]] = (List.range (i + 1)).map (fun q => if (q + f) % k = k - 1 then [] else [wordB ((q + f + 1) % k)]) by rw [range_snoc, ← hchain, hp, hp1])
      have H0 := Lib.hid hrs
      clear hns hring hchain hrs hp hp1
      by_cases hpe : p = k - 1
      · have et : ((p : Int) == (k : Int) - 1) = true := by
          have : (p : Int) = (k : Int) - 1 := by omega
          simpa using this
        have HPE := Lib.hid hpe
        clear hpe
        go_wp2_with (first
          | (at_builtin; have hbn := Lib.hid (show Below wD.heap.size wD (wD.alloc (.cells #[.slice none 0 0] 22)) from (Below.refl _ _).alloc (Nat.le_refl _) _); refine app_gen 23 22 (.slice none 0 0) 24 rfl (.tmp 57) (.tmp 58) rfl Try.underlying23 info_strs rfl (by omega) w.heap.size (.slice A8 chain.length c8) chain.length xc (.slice none 0 0) (wD.heap.size) rfl (H5.out.below hbn.out).chainM.own rfl (Blk.new _ _ _) rfl (by omega) (by have := H5.out.bel.size; simp; omega) ?_; intro A8' c8' wF hoF hgF hvF; have H8 := Lib.hid ((H5.out.below hbn.out).addChain (r := []) (.inl ⟨rfl, rfl⟩) hoF hgF hvF); clear hoF hgF hvF)
          | (at_builtin; have H4 := Lib.hid (H3.out.one (wordB p1)); have hba := Lib.hid (show Below (wC.alloc (.cells #[.string (wordB p1)] 9)).heap.size (wC.alloc (.cells #[.string (wordB p1)] 9)) ((wC.alloc (.cells #[.string (wordB p1)] 9)).alloc (.cells #[.slice (some ⟨wC.heap.size, 0, none⟩) 1 1] 22)) from (Below.refl _ _).alloc (Nat.le_refl _) _); refine app_gen 23 22 (.slice none 0 0) 24 rfl (.tmp 36) (.tmp 46) rfl Try.underlying23 info_strs rfl (by omega) w.heap.size (.slice A7 ring.length c7) ring.length xr (.slice (some ⟨wC.heap.size, 0, none⟩) 1 1) (wC.heap.size + 1) rfl (H4.out.1.below hba.out).ringM.own rfl (Blk.new_at (by simp)) rfl (by omega) (by have := H3.out.bel.size; simp; omega) ?_; intro A7' c7' wD hoD hgD hvD; have H5 := Lib.hid ((H4.out.1.below hba.out).addRing (H4.out.2.below hba.out) hoD hgD hvD); clear hoD hgD hvD)
          | (go_at_call 16; (with_reducible refine (HW.out _ _ (by omega)).mono ?_); rintro e wC ⟨rfl, hbwC⟩; have H3 := Lib.hid (H2.out.below hbwC); clear hbwC)
          | (at_builtin; refine app_gen 22 9 (.string ⟨#[]⟩) 16 rfl (.tmp 26) (.tmp 34) rfl Try.underlying22 info_str rfl (by omega) w.heap.size (.slice A6 ns.length c6) ns.length (ns.map Value.string) (.string (wordB p)) (wA.heap.size) rfl (H1.out.below ((Below.refl _ _).alloc (Nat.le_refl _) _)).names rfl (Blk.new _ _ _) rfl (by omega) (by have := H1.out.bel.size; simp; omega) ?_; intro A6' c6' wB hoB hgB hvB; have H2 := Lib.hid ((H1.out.below ((Below.refl _ _).alloc (Nat.le_refl _) _)).addName hoB hgB hvB); clear hoB hgB hvB)
          | (go_at_call 16; (with_reducible refine (HW.out _ _ (by omega)).mono ?_); rintro e wA ⟨rfl, hbwA⟩; have H1 := Lib.hid (H0.out.below hbwA); clear hbwA))
        go_roundg gf
        case measure => omega
        case rel =>
          refine ⟨i + 1, A6', c6', A7', c7', A8', c8', _, _, _, _, _, by omega, by go_num, by simp, by simp, by simp, hns1.out, hring1.out, ?_, H8.out⟩
          have h := hchain1.out
          rw [if_pos HPE.out] at h
          exact h
      · have et : ((p : Int) == (k : Int) - 1) = false := by
          have : (p : Int) ≠ (k : Int) - 1 := by omega
          simpa using this
        have HPE := Lib.hid hpe
        clear hpe
        go_wp2_with (first
          | (at_builtin; have H7 := Lib.hid (H6.out.one (wordB p1)); have hbc := Lib.hid (show Below (wE.alloc (.cells #[.string (wordB p1)] 9)).heap.size (wE.alloc (.cells #[.string (wordB p1)] 9)) ((wE.alloc (.cells #[.string (wordB p1)] 9)).alloc (.cells #[.slice (some ⟨wE.heap.size, 0, none⟩) 1 1] 22)) from (Below.refl _ _).alloc (Nat.le_refl _) _); refine app_gen 23 22 (.slice none 0 0) 24 rfl (.tmp 60) (.tmp 70) rfl Try.underlying23 info_strs rfl (by omega) w.heap.size (.slice A8 chain.length c8) chain.length xc (.slice (some ⟨wE.heap.size, 0, none⟩) 1 1) (wE.heap.size + 1) rfl (H7.out.1.below hbc.out).chainM.own rfl (Blk.new_at (by simp)) rfl (by omega) (by have := H6.out.bel.size; simp; omega) ?_; intro A8' c8' wF hoF hgF hvF; have H8 := Lib.hid ((H7.out.1.below hbc.out).addChain (H7.out.2.below hbc.out) hoF hgF hvF); clear hoF hgF hvF)
          | (go_at_call 16; (with_reducible refine (HW.out _ _ (by omega)).mono ?_); rintro e wE ⟨rfl, hbwE⟩; have H6 := Lib.hid (H5.out.below hbwE); clear hbwE)
          | (at_builtin; have H4 := Lib.hid (H3.out.one (wordB p1)); have hba := Lib.hid (show Below (wC.alloc (.cells #[.string (wordB p1)] 9)).heap.size (wC.alloc (.cells #[.string (wordB p1)] 9)) ((wC.alloc (.cells #[.string (wordB p1)] 9)).alloc (.cells #[.slice (some ⟨wC.heap.size, 0, none⟩) 1 1] 22)) from (Below.refl _ _).alloc (Nat.le_refl _) _); refine app_gen 23 22 (.slice none 0 0) 24 rfl (.tmp 36) (.tmp 46) rfl Try.underlying23 info_strs rfl (by omega) w.heap.size (.slice A7 ring.length c7) ring.length xr (.slice (some ⟨wC.heap.size, 0, none⟩) 1 1) (wC.heap.size + 1) rfl (H4.out.1.below hba.out).ringM.own rfl (Blk.new_at (by simp)) rfl (by omega) (by have := H3.out.bel.size; simp; omega) ?_; intro A7' c7' wD hoD hgD hvD; have H5 := Lib.hid ((H4.out.1.below hba.out).addRing (H4.out.2.below hba.out) hoD hgD hvD); clear hoD hgD hvD)
          | (go_at_call 16; (with_reducible refine (HW.out _ _ (by omega)).mono ?_); rintro e wC ⟨rfl, hbwC⟩; have H3 := Lib.hid (H2.out.below hbwC); clear hbwC)
          | (at_builtin; refine app_gen 22 9 (.string ⟨#[]⟩) 16 rfl (.tmp 26) (.tmp 34) rfl Try.underlying22 info_str rfl (by omega) w.heap.size (.slice A6 ns.length c6) ns.length (ns.map Value.string) (.string (wordB p)) (wA.heap.size) rfl (H1.out.below ((Below.refl _ _).alloc (Nat.le_refl _) _)).names rfl (Blk.new _ _ _) rfl (by omega) (by have := H1.out.bel.size; simp; omega) ?_; intro A6' c6' wB hoB hgB hvB; have H2 := Lib.hid ((H1.out.below ((Below.refl _ _).alloc (Nat.le_refl _) _)).addName hoB hgB hvB); clear hoB hgB hvB)
          | (go_at_call 16; (with_reducible refine (HW.out _ _ (by omega)).mono ?_); rintro e wA ⟨rfl, hbwA⟩; have H1 := Lib.hid (H0.out.below hbwA); clear hbwA))
        go_roundg gf
        case measure => omega
        case rel =>
          refine ⟨i + 1, A6', c6', A7', c7', A8', c8', _, _, _, _, _, by omega, by go_num, by simp, by simp, by simp, hns1.out, hring1.out, ?_, H8.out⟩
          have h := hchain1.out
          rw [if_neg HPE.out] at h
          exact h
end Go.Proofs.Ytibfikadamfpdaa
