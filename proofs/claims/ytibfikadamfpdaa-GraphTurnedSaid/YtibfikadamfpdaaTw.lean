/-
  Imports turned round and doubled: the walk.
-/
import Derived.Test.YtibfikadamfpdaaTr
namespace Go.Proofs.Ytibfikadamfpdaa
open Go.RowKit
set_option linter.unusedVariables false
set_option linter.unusedSimpArgs false

def accR (r : List ByteArray) (g : Nat) : List ByteArray := dupR (r.drop g)
theorem accR_step {r : List ByteArray} {f : Nat} {s : ByteArray} (h : r[f]? = some s) : accR r f = (accR r (f + 1) ++ [s]) ++ [s] := by
  obtain ⟨h1, h2⟩ := List.getElem?_eq_some_iff.1 h
  unfold accR dupR
  rw [List.drop_eq_getElem_cons h1, h2, List.reverse_cons, List.flatMap_append]
  simp
set_option maxRecDepth 100000 in
set_option maxHeartbeats 8000000 in
theorem gturned_any (w : World) (A D : Option Addr) (c d : Nat) (N : List ByteArray) (R : List (List ByteArray)) (hc : N.length ≤ c) (hN : SlV w w.heap.size A (N.map Value.string)) (hR : SlN w w.heap.size D (R.map fun r => r.map Value.string)) :
    Calls Try.prog 6 #[.slice A N.length c, .slice D R.length d] w (TruthP w true) := by
  have HV := heavy_any w w.heap.size A D c d N R hR
  have HAW := Lib.hid awake_any
  cases hh : heavyB N R with
  | true =>
    rw [hh] at HV
    clear hN hR hh
    go_enter Try.func6, Try.ntmps6
    go_wp2_with (first
      | (go_at_call 9; (with_reducible refine (HAW.out _).mono ?_); rintro e w2 ⟨rfl, hb2⟩)
      | (go_at_call 8; (with_reducible refine HV.mono ?_); rintro e w2 ⟨rfl, rfl⟩))
    go_ret
    exact ⟨rfl, hb2⟩
  | false =>
    rw [hh] at HV
    obtain ⟨n12, r20, r40⟩ := heavy_no hh
    have HN := Lib.hid hN
    have HR := Lib.hid hR
    have HR4 := Lib.hid r40
    have n12i : (N.length : Int) ≤ 12 := by omega
    have r20i : (R.length : Int) ≤ 20 := by omega
    have HLN := Lib.hid (resN_len N R n12)
    clear hN hR hh r40
    go_enter Try.func6, Try.ntmps6
    go_wp2_with (go_at_call 8; (with_reducible refine HV.mono ?_); rintro e w2 ⟨rfl, rfl⟩)
    go_loopg [5, 6] R.length (fun gk v5 v6 wr => ∃ i A5 c5 xs, i + gk = R.length ∧ v6 = .int .i64 i ∧ v5 = .slice A5 ((R.take i).map dupR).length c5 ∧ TurnM w.heap.size wr.heap.size wr v5 ((R.take i).map dupR) xs ∧ Below w.heap.size w wr)
    case atStart => exact ⟨0, none, 0, [], by simp, rfl, by simp, by simpa using TurnM.none_ _ _ _, Below.refl _ _⟩
    case round =>
      obtain ⟨i, A5, c5, xs, hi, rfl, rfl, ht, hb⟩ := hrel
      have HT := Lib.hid ht
      have HB := Lib.hid hb
      cases gk with
      | zero =>
        have ei : decide (i < R.length) = false := decide_eq_false (by omega)
        have hii : R.take i = R := List.take_of_length_le (by omega)
        rw [hii] at ht HT ⊢
        obtain ⟨R', hR'⟩ : ∃ R', R.map dupR = R' := ⟨_, rfl⟩
        have hRL : R'.length = R.length := by rw [← hR']; simp
        have HG := gorder_any wr w.heap.size A D c d N R (HN.out.below hb) (HR.out.below hb) hb.size hc n12 (by omega) (fun r hr => by have := HR4.out r hr; omega)
        have hrr : ∀ r ∈ R', r.length ≤ 100 := by
          intro r hr
          rw [← hR'] at hr
          obtain ⟨q, hq, rfl⟩ := List.mem_map.1 hr
          rw [dup_length]
          have := HR4.out q hq
          omega
        have HG2 := Lib.hid (fun (w1 : World) (hb1 : Below wr.heap.size wr w1) => gorder_any w1 w1.heap.size A A5 c c5 N R' ((HN.out.below (hb.trans (hb1.mono hb.size))).more (Nat.le_trans hb.size hb1.size)) (by rw [← hR']; exact (ht.below hb1).sln) (Nat.le_refl _) hc n12 (by omega) hrr)
        unfold Ord3 at HG HG2
        rw [hR'] at ht HT ⊢
        have hres : resN N R' = resN N R := by rw [← hR']; exact res_dup N R
        rw [hres] at HG2
        obtain ⟨⟨L, at_, er⟩, hr⟩ : ∃ r, resN N R = r := ⟨_, rfl⟩
        rw [hr] at HG HG2 HLN
        simp only at HG HG2 HLN
        have HNUM := Lib.hid (num_any (er : Int))
        clear ht hb hi hii hR' hrr hres hr hRL
        go_wp2_with (first
          | (go_at_call 9; (with_reducible refine (HAW.out _).mono ?_); rintro e w5 ⟨rfl, hb5⟩; have HB5 := Lib.hid hb5; clear hb5)
          | (go_at_call 13; (with_reducible refine (HNUM.out _).mono ?_); rintro e w5 ⟨rfl, rfl⟩)
          | (go_at_call 12; have hsm := same_any w3 _ _ A2 A3 c2 c3 L L (HS2.out.below HB3.out) HS3.out (by have := HLN.out; omega) (by have := HLN.out; omega); rw [show decide (L = L) = true from decide_eq_true rfl] at hsm; (with_reducible refine hsm.mono ?_); rintro e w4 ⟨rfl, hb4⟩; have HB4 := Lib.hid hb4; clear hb4 hsm)
          | (go_at_call 10; (with_reducible refine (HG2.out _ HB2.out).mono ?_); rintro e w3 ⟨⟨A3, c3, rfl, hs3⟩, hb3⟩; have HS3 := Lib.hid hs3; have HB3 := Lib.hid hb3; clear hs3 hb3)
          | (go_at_call 10; (with_reducible refine HG.mono ?_); rintro e w2 ⟨⟨A2, c2, rfl, hs2⟩, hb2⟩; have HS2 := Lib.hid hs2; have HB2 := Lib.hid hb2; clear hs2 hb2))
        go_ret
        have h2 := below_next HB.out HB2.out
        have h3 := below_next h2 HB3.out
        have h4 := below_next h3 HB4.out
        exact ⟨rfl, below_next h4 HB5.out⟩
      | succ gf =>
        have hil : i < R.length := by omega
        have i0 : (0 : Int) ≤ (i : Int) := by omega
        have i1 : (i : Int) < (R.length : Int) := by omega
        obtain ⟨r, hri⟩ : ∃ r, R[i]? = some r := ⟨_, List.getElem?_eq_getElem hil⟩
        have hr40 := HR4.out r (List.mem_of_getElem? hri)
        have r40i : (r.length : Int) ≤ 40 := by omega
        have HX := Lib.hid (show ∀ (W : World), Below w.heap.size w W → ∃ dg dof DA dc, D = some ⟨dg, dof, none⟩ ∧ dg < w.heap.size ∧ W.cell? ⟨dg, dof + i, none⟩ = some (.slice DA r.length dc) ∧ SlV W w.heap.size DA (r.map Value.string) from fun W hbW => by
          obtain ⟨dg, dof, DA, dc, e, hdg, hdc, hds⟩ := (HR.out.below hbW).at_ (k := i) (l := r.map Value.string) (by simp [hri])
          rw [List.length_map] at hdc
          exact ⟨dg, dof, DA, dc, e, hdg, hdc, hds⟩)
        have HTK := Lib.hid (show (R.take (i + 1)).map dupR = (R.take i).map dupR ++ [dupR r] by rw [List.take_add_one, hri]; simp)
        have htl : ((R.take i).map dupR).length ≤ 20 := by simp; omega
        obtain ⟨rows, hrows⟩ : ∃ rows, (R.take i).map dupR = rows := ⟨_, rfl⟩
        rw [hrows] at ht HT HTK htl ⊢
        obtain ⟨dg, dof, DA, dc, rfl, hdg, hdc, hds⟩ := HX.out wr hb
        have hn0 : (Value.slice none 0 0) = .slice none (accR r r.length).length 0 := by simp [accR, dupR]
        have hac0 : accR r r.length = [] := by simp [accR, dupR]
        have HAC0 := Lib.hid hac0
        have hwX : ∃ X, wr.heap.size = X := ⟨_, rfl⟩
        obtain ⟨X, hX⟩ := hwX
        rw [hX] at HT
        have HXL := Lib.hid (show w.heap.size ≤ X by rw [← hX]; exact hb.size)
        have HXX := Lib.hid hX
        clear ht hb hri hr40 hrows hds hn0 hac0 hX
        go_wp2
        go_loopg [7, 8] r.length (fun gk v7 v8 wr => ∃ A7 c7, gk ≤ r.length ∧ v8 = .int .i64 ((gk : Int) - 1) ∧ v7 = .slice A7 (accR r gk).length c7 ∧ wr.ownsRow X 9 1 v7 (accR r gk).length ((accR r gk).map Value.string) ∧ TurnM w.heap.size X wr (.slice A5 rows.length c5) rows xs ∧ Below w.heap.size w wr ∧ X ≤ wr.heap.size)
        case atStart =>
          refine ⟨none, 0, Nat.le_refl _, rfl, by rw [HAC0.out]; rfl, ?_, HT.out, HB.out, by rw [HXX.out]; exact Nat.le_refl _⟩
          rw [HAC0.out]
          exact World.ownsRow_nil _ _ _ _
        case round =>
          obtain ⟨A7, c7, hgk, rfl, rfl, ho, ht, hb, hxw⟩ := hrel
          cases gk with
          | zero =>
            have ek : (((0 : Nat) : Int) - 1) = -1 := by omega
            rw [ek]
            have hdr : accR r 0 = dupR r := by simp [accR]
            rw [hdr] at ho ⊢
            have HO := Lib.hid (own_mono ho HXL.out)
            have HT7 := Lib.hid ht
            have HB7 := Lib.hid hb
            have hxw2 := hxw
            clear ho ht hb hgk ek hdr
            go_wp2_with (at_builtin; refine app_gen 23 22 (.slice none 0 0) 24 rfl (.tmp 55) (.tmp 57) rfl Try.underlying23 info_strs rfl (by omega) w.heap.size (.slice A5 rows.length c5) rows.length xs (.slice A7 (dupR r).length c7) wr.heap.size rfl (own_below HT7.out.own ((Below.refl _ _).alloc (Nat.le_refl _) _)) rfl (Blk.new _ _ _) rfl (by omega) (by have := HB7.out.size; simp; omega) ?_; intro A9 c9 w9 ho9 hg9 hv9; have HO9 := Lib.hid ho9; have HG9 := Lib.hid hg9; clear ho9 hg9 hv9)
            go_roundg gf
            case measure => omega
            case rel =>
              have hba : Below wr.heap.size wr (wr.alloc (.cells #[.slice A7 (dupR r).length c7] 22)) := (Below.refl _ _).alloc (Nat.le_refl _) _
              have hs := (HT7.out.below hba).snoc (own_below HO.out hba) (by simp; omega) HO9.out HG9.out
              refine ⟨i + 1, A9, c9, xs ++ [.slice A7 (dupR r).length c7], by omega, by go_num, by rw [HTK.out]; simp, ?_, ?_⟩
              · rw [HTK.out]
                exact hs.more (HG9.out.size)
              · refine grown_below (HB7.out.trans (hba.mono HB7.out.size)) HG9.out (by have := HB7.out.size; simp; omega) fun k hk => ?_
                exact (HT7.out.own.lt k hk.symm.symm).1
          | succ f =>
            have hfl : f < r.length := by omega
            have ek : (((f + 1 : Nat) : Int) - 1) = (f : Int) := by omega
            rw [ek]
            obtain ⟨s, hs⟩ : ∃ s, r[f]? = some s := ⟨_, List.getElem?_eq_getElem hfl⟩
            have HST := Lib.hid (accR_step hs)
            have f0 : (0 : Int) ≤ (f : Int) := by omega
            have f1 : (f : Int) < (r.length : Int) := by omega
            have HCE := Lib.hid (show ∀ (W : World), Below w.heap.size w W → W.cell? ⟨dg, dof + i, none⟩ = some (.slice DA r.length dc) ∧ ∃ sg sof, DA = some ⟨sg, sof, none⟩ ∧ W.cell? ⟨sg, sof + f, none⟩ = some (.string s) from fun W hbW => by
              obtain ⟨dg', dof', DA', dc', e, _, h1, h2⟩ := HX.out W hbW
              simp at e
              obtain ⟨rfl, rfl⟩ := e
              have z1 := HB.out.cell (p := ⟨dg, dof + i, none⟩) hdg
              have z2 := hbW.cell (p := ⟨dg, dof + i, none⟩) hdg
              have z3 : some (Value.slice DA r.length dc) = some (.slice DA' r.length dc') := by rw [← hdc, ← h1, z1, z2]
              simp at z3
              obtain ⟨rfl, rfl⟩ := z3
              obtain ⟨sg, sof, e2, _, h3⟩ := h2.at_ (k := f) (u := .string s) (by simp [hs])
              exact ⟨h1, sg, sof, e2, h3⟩)
            obtain ⟨acc, hacc⟩ : ∃ acc, accR r (f + 1) = acc := ⟨_, rfl⟩
            rw [hacc] at ho HST ⊢
            have hal : acc.length ≤ 200 := by
              rw [← hacc]
              unfold accR
              rw [dup_length]
              simp
              omega
            obtain ⟨hk1, sg, sof, rfl, hk2⟩ := HCE.out wr hb
            have HO := Lib.hid ho
            have HT7 := Lib.hid ht
            have HB7 := Lib.hid hb
            have HB8 := Lib.hid (show ∀ (A8 : Option Addr) (c8 : Nat) (w8 : World), w8.ownsRow X 9 1 (.slice A8 (acc.length + 1) c8) (acc.length + 1) (acc.map Value.string ++ [.string s]) → (wr.alloc (.cells #[.string s] 9)).grownBy w8 (Value.slice A7 acc.length c7).ownBlock →
                TurnM w.heap.size X w8 (.slice A5 rows.length c5) rows xs ∧ Below w.heap.size w w8 ∧ X ≤ w8.heap.size from fun A8 c8 w8 h1 h2 => by
              have hba : Below wr.heap.size wr (wr.alloc (.cells #[.string s] 9)) := (Below.refl _ _).alloc (Nat.le_refl _) _
              refine ⟨(HT7.out.below hba).grown (own_below HO.out hba) (Nat.le_refl _) h2, grown_below (HB7.out.trans (hba.mono HB7.out.size)) h2 (by have := HB7.out.size; simp; omega) fun k hk => ?_, by have := h2.size; simp at this; omega⟩
              have := (HO.out.lt k hk).1
              have := HXL.out
              omega)
            clear ho ht hb hs hacc hdc
            go_wp2_with (first
              | (at_builtin; refine app_gen 22 9 (.string ⟨#[]⟩) 16 rfl (.tmp 45) (.tmp 53) rfl Try.underlying22 info_str rfl (by omega) X (.slice A8 (acc.length + 1) c8) (acc.length + 1) (acc.map Value.string ++ [.string s]) (.string s) w8.heap.size rfl (own_below HO8.out ((Below.refl _ _).alloc (Nat.le_refl _) _)) rfl (Blk.new _ _ _) rfl (by omega) (by have := H8.out.2.2; simp; omega) ?_; intro A9 c9 w9 ho9 hg9 hv9; have HO9 := Lib.hid ho9; have HG9 := Lib.hid hg9; clear ho9 hg9 hv9)
              | (at_builtin; refine app_gen 22 9 (.string ⟨#[]⟩) 16 rfl (.tmp 35) (.tmp 43) rfl Try.underlying22 info_str rfl (by omega) X (.slice A7 acc.length c7) acc.length (acc.map Value.string) (.string s) wr.heap.size rfl (own_below HO.out ((Below.refl _ _).alloc (Nat.le_refl _) _)) rfl (Blk.new _ _ _) rfl (by omega) (by simp; omega) ?_; intro A8 c8 w8 ho8 hg8 hv8; have HO8 := Lib.hid ho8; have h8 := HB8.out A8 c8 w8 ho8 hg8; have H8 := Lib.hid h8; obtain ⟨hk3, sg', sof', e8, hk4⟩ := HCE.out w8 h8.2.1; simp at e8; obtain ⟨rfl, rfl⟩ := e8; clear ho8 hg8 hv8 h8 hk1 hk2))
            go_roundg f
            case measure => omega
            case rel =>
              have hba : Below w8.heap.size w8 (w8.alloc (.cells #[.string s] 9)) := (Below.refl _ _).alloc (Nat.le_refl _) _
              have el : (accR r f).length = acc.length + 1 + 1 := by rw [HST.out]; simp
              refine ⟨A9, c9, by omega, rfl, by rw [el], ?_, (H8.out.1.below hba).grown (own_below HO8.out hba) (Nat.le_refl _) HG9.out, ?_, by have := HG9.out.size; have := H8.out.2.2; simp at *; omega⟩
              · rw [el, HST.out]
                simpa using HO9.out
              · refine grown_below (H8.out.2.1.trans (hba.mono H8.out.2.1.size)) HG9.out (by have := H8.out.2.1.size; simp; omega) fun k hk => ?_
                have := (HO8.out.lt k hk).1
                have := HXL.out
                omega
end Go.Proofs.Ytibfikadamfpdaa
