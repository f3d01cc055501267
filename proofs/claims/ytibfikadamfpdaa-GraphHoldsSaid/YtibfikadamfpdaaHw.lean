/-
  Each package stands once, behind what it imports: the walk.
-/
import Derived.Test.YtibfikadamfpdaaHo
namespace Go.Proofs.Ytibfikadamfpdaa
open Go.RowKit
set_option linter.unusedVariables false
set_option linter.unusedSimpArgs false

def seenB (N : List ByteArray) (L : List Nat) (s : ByteArray) (j : Nat) : Bool := (List.range j).any fun q => decide (txt9 N (fl L q) = s)
theorem seenB_succ (N : List ByteArray) (L : List Nat) (s : ByteArray) (j : Nat) : seenB N L s (j + 1) = (seenB N L s j || decide (txt9 N (fl L j) = s)) := by
  unfold seenB
  rw [List.range_succ, List.any_append]
  simp
set_option maxRecDepth 100000 in
set_option maxHeartbeats 8000000 in
theorem gholds_any (w : World) (A D : Option Addr) (c d : Nat) (N : List ByteArray) (R : List (List ByteArray)) (hc : N.length ≤ c) (hN : SlV w w.heap.size A (N.map Value.string)) (hR : SlN w w.heap.size D (R.map fun r => r.map Value.string)) :
    Calls Try.prog 5 #[.slice A N.length c, .slice D R.length d] w (TruthP w true) := by
  have HV := heavy_any w w.heap.size A D c d N R hR
  have HAW := Lib.hid awake_any
  cases hh : heavyB N R with
  | true =>
    rw [hh] at HV
    clear hN hR hh
    go_enter Try.func5, Try.ntmps5
    go_wp2_with (first
      | (go_at_call 9; (with_reducible refine (HAW.out _).mono ?_); rintro e w2 ⟨rfl, hb2⟩)
      | (go_at_call 8; (with_reducible refine HV.mono ?_); rintro e w2 ⟨rfl, rfl⟩))
    go_ret
    exact ⟨rfl, hb2⟩
  | false =>
    rw [hh] at HV
    obtain ⟨n12, r20, r40⟩ := heavy_no hh
    have HG := gorder_any w w.heap.size A D c d N R hN hR (Nat.le_refl _) hc n12 (by omega) (fun r hr => by have := r40 r hr; omega)
    unfold Ord3 at HG
    by_cases her : (resN N R).2.2 = 0
    · have HO := Lib.hid (res_hold her)
      obtain ⟨⟨L, at_, er⟩, hr⟩ : ∃ r, resN N R = r := ⟨_, rfl⟩
      rw [hr] at HG HO her
      simp only at HG HO her
      subst her
      have HNUM := Lib.hid (num_any 0)
      have hLn := HO.out.len
      have L12 : (L.length : Int) ≤ 12 := by omega
      have hLi : ((L.length : Int) != (N.length : Int)) = false := by rw [hLn]; simp
      have HN := Lib.hid hN
      have HR := Lib.hid hR
      have HR4 := Lib.hid r40
      have n12i : (N.length : Int) ≤ 12 := by omega
      have r20i : (R.length : Int) ≤ 20 := by omega
      have HLN := Lib.hid hLn
      rw [show (((0 : Nat)) : Int) = 0 from rfl] at HG
      clear hN hR hh hr r40 hLn
      go_enter Try.func5, Try.ntmps5
      go_wp2_with (first
        | (go_at_call 13; (with_reducible refine (HNUM.out _).mono ?_); rintro e w5 ⟨rfl, rfl⟩)
        | (go_at_call 10; (with_reducible refine HG.mono ?_); rintro e w2 ⟨⟨A2, c2, rfl, hs2⟩, hb2⟩; have HS2 := Lib.hid hs2; have HB2 := Lib.hid hb2; clear hs2 hb2)
        | (go_at_call 8; (with_reducible refine HV.mono ?_); rintro e w2 ⟨rfl, rfl⟩))
      go_loopg [8] L.length (fun gk v8 wr => ∃ i : Nat, i + gk = L.length ∧ v8 = .int .i64 i ∧ Below w2.heap.size w2 wr)
      case atStart => exact ⟨0, by simp, rfl, Below.refl _ _⟩
      case round =>
        obtain ⟨i, hi, rfl, hb⟩ := hrel
        have HB := Lib.hid hb
        cases gk with
        | zero =>
          have ei : decide (i < L.length) = false := decide_eq_false (by omega)
          clear hb hi
          go_wp2_with (go_at_call 9; (with_reducible refine (HAW.out _).mono ?_); rintro e w5 ⟨rfl, hb5⟩; have HB5 := Lib.hid hb5; clear hb5)
          go_ret
          exact ⟨rfl, below_next (below_next HB2.out HB.out) HB5.out⟩
        | succ gf =>
          have hil : i < L.length := by omega
          have i0 : (0 : Int) ≤ (i : Int) := by omega
          have i1 : (i : Int) < (L.length : Int) := by omega
          obtain ⟨lg, lof, rfl, hlg, _⟩ := HS2.out.at_ (ints_get hil)
          have HLC := Lib.hid (show ∀ (W : World), Below w2.heap.size w2 W → ∀ q, q < L.length → W.cell? ⟨lg, lof + q, none⟩ = some (.int .i64 (fl L q : Int)) from fun W hbW q hq => by
            obtain ⟨g', o', e, _, h⟩ := (HS2.out.below hbW).at_ (ints_get hq)
            simp at e
            obtain ⟨rfl, rfl⟩ := e
            exact h)
          have hNW := Lib.hid (show ∀ (W : World), Below w2.heap.size w2 W → SlV W w.heap.size A (N.map Value.string) from fun W hbW => HN.out.below (HB2.out.trans (hbW.mono HB2.out.size)))
          have hRW := Lib.hid (show ∀ (W : World), Below w2.heap.size w2 W → SlN W w.heap.size D (R.map fun r => r.map Value.string) from fun W hbW => HR.out.below (HB2.out.trans (hbW.mono HB2.out.size)))
          obtain ⟨x, hx⟩ : ∃ x, fl L i = x := ⟨_, rfl⟩
          have hxn : x < N.length := by rw [← hx]; exact HO.out.lt i hil
          have hci := HLC.out wr hb i hil
          rw [hx] at hci
          have x0 : decide ((x : Int) < 0) = false := decide_eq_false (by omega)
          have x1 : decide (N.length ≤ x) = false := decide_eq_false (by omega)
          have x2 : (0 : Int) ≤ (x : Int) := by omega
          have x3 : (x : Int) < (N.length : Int) := by omega
          have HXI := Lib.hid hx
          clear hb hx hlg
          go_wp2
          go_loopg [9] i (fun gk v9 wr => ∃ k : Nat, k + gk = i ∧ v9 = .int .i64 k ∧ Below w2.heap.size w2 wr)
          case atStart => exact ⟨0, by simp, rfl, HB.out⟩
          case round =>
            obtain ⟨k, hk, rfl, hb⟩ := hrel
            have HBk := Lib.hid hb
            cases gk with
            | succ kf =>
              have hki : k < i := by omega
              have k0 : (0 : Int) ≤ (k : Int) := by omega
              have k1 : (k : Int) < (i : Int) := by omega
              have k2 : (k : Int) < (L.length : Int) := by omega
              have hck := HLC.out wr hb k (by omega)
              have hci := HLC.out wr hb i hil
              rw [HXI.out] at hci
              obtain ⟨y, hy⟩ : ∃ y, fl L k = y := ⟨_, rfl⟩
              rw [hy] at hck
              have hyx : ((y : Int) == (x : Int)) = false := by
                have h := HO.out.ne i k hil hki
                rw [hy, HXI.out] at h
                have : (y : Int) ≠ (x : Int) := by omega
                simpa using this
              clear hb hy
              go_wp2
              go_quiet (fail)
              go_wp2
              go_roundg kf
              case measure => omega
              case rel => exact ⟨k + 1, by omega, by go_num, below_drewN HBk.out _⟩
            | zero =>
              have ek : decide (k < i) = false := decide_eq_false (by omega)
              clear hb hk
              go_wp2
              go_loopg [10] (ofN R x).length (fun gk v10 wr => ∃ q : Nat, q + gk = (ofN R x).length ∧ v10 = .int .i64 q ∧ Below w2.heap.size w2 wr)
              case atStart => exact ⟨0, by simp, rfl, HBk.out⟩
              case round =>
                obtain ⟨q, hq, rfl, hb⟩ := hrel
                have HBq := Lib.hid hb
                have hci := HLC.out wr hb i hil
                rw [HXI.out] at hci
                by_cases hxr : x < R.length
                · obtain ⟨r, hrx⟩ : ∃ r, R[x]? = some r := ⟨_, List.getElem?_eq_getElem hxr⟩
                  have hof : ofN R x = r := by simp [ofN, hrx]
                  have hr40 := HR4.out r (List.mem_of_getElem? hrx)
                  obtain ⟨dg, dof, DA, dc, rfl, hdg, hdc, hds⟩ := (hRW.out wr hb).at_ (k := x) (l := r.map Value.string) (by simp [hrx])
                  rw [List.length_map] at hdc
                  have xr : (x : Int) < (R.length : Int) := by omega
                  have rl : (r.length : Int) ≤ 40 := by omega
                  rw [hof] at hq
                  have HOF := Lib.hid hof
                  have HRX := Lib.hid hrx
                  cases gk with
                  | zero =>
                    have eq : decide (q < r.length) = false := decide_eq_false (by omega)
                    have eq2 : (r.length : Int) ≤ (q : Int) := by omega
                    clear hb hq hof hrx hds hr40
                    go_wp2
                    go_roundg gf
                    case measure => omega
                    case rel => exact ⟨i + 1, by omega, by go_num, HBq.out⟩
                  | succ qf =>
                    have hql : q < r.length := by omega
                    have q0 : (0 : Int) ≤ (q : Int) := by omega
                    have q1 : (q : Int) < (r.length : Int) := by omega
                    obtain ⟨s, hs⟩ : ∃ s, r[q]? = some s := ⟨_, List.getElem?_eq_getElem hql⟩
                    obtain ⟨sg, sof, rfl, hsg, hsc⟩ := hds.at_ (k := q) (u := .string s) (by simp [hs])
                    have HSC := Lib.hid (show ∀ (W : World), Below w2.heap.size w2 W → W.cell? ⟨sg, sof + q, none⟩ = some (.string s) ∧ W.cell? ⟨dg, dof + x, none⟩ = some (.slice (some ⟨sg, sof, none⟩) r.length dc) from fun W hbW => by
                      have hz := HB2.out.size
                      have a1 := HBq.out.cell (p := ⟨dg, dof + x, none⟩) (by show dg < _; omega)
                      have a2 := hbW.cell (p := ⟨dg, dof + x, none⟩) (by show dg < _; omega)
                      have b1 := HBq.out.cell (p := ⟨sg, sof + q, none⟩) (by show sg < _; omega)
                      have b2 := hbW.cell (p := ⟨sg, sof + q, none⟩) (by show sg < _; omega)
                      exact ⟨b2.trans (b1.symm.trans hsc), a2.trans (a1.symm.trans hdc)⟩)
                    have hseen : seenB N L s i = true := by
                      obtain ⟨j, hj, e⟩ := HO.out.beh i hil s (by rw [HXI.out, hof]; exact List.mem_of_getElem? hs)
                      unfold seenB
                      rw [List.any_eq_true]
                      exact ⟨j, by simpa using hj, by simpa using e⟩
                    have HSEEN := Lib.hid hseen
                    clear hb hof hrx hds hr40 hs hsc hseen
                    go_wp2
                    go_loopg [11, 12] i (fun gk v11 v12 wr => ∃ j : Nat, j + gk = i ∧ v12 = .int .i64 j ∧ v11 = .bool (seenB N L s j) ∧ Below w2.heap.size w2 wr)
                    case atStart => exact ⟨0, by simp, rfl, rfl, HBq.out⟩
                    case round =>
                      obtain ⟨j, hj, rfl, rfl, hb⟩ := hrel
                      have HBj := Lib.hid hb
                      cases gk with
                      | zero =>
                        have hji : j = i := by omega
                        have ej : decide (j < i) = false := decide_eq_false (by omega)
                        rw [show seenB N L s j = true from by rw [hji]; exact HSEEN.out]
                        clear hb hj hji hci hdc
                        go_wp2
                        go_roundg qf
                        case measure => omega
                        case rel => exact ⟨q + 1, by rw [HOF.out]; omega, by go_num, HBj.out⟩
                      | succ jf =>
                        have hji : j < i := by omega
                        have j0 : (0 : Int) ≤ (j : Int) := by omega
                        have j1 : (j : Int) < (i : Int) := by omega
                        have j2 : (j : Int) < (L.length : Int) := by omega
                        have HSS := Lib.hid (seenB_succ N L s j)
                        obtain ⟨y, hy⟩ : ∃ y, fl L j = y := ⟨_, rfl⟩
                        have hyn : y < N.length := by rw [← hy]; exact HO.out.lt j (by omega)
                        have hcj := HLC.out wr hb j (by omega)
                        have hci := HLC.out wr hb i hil
                        rw [HXI.out] at hci
                        rw [hy] at hcj HSS
                        obtain ⟨hsc, hdc⟩ := HSC.out wr hb
                        obtain ⟨ng, nof, rfl, hng, hnc⟩ := (hNW.out wr hb).at_ (txt9_get hyn)
                        have y0 : (0 : Int) ≤ (y : Int) := by omega
                        have y1 : (y : Int) < (N.length : Int) := by omega
                        cases hb0 : seenB N L s j with
                        | true =>
                          have HB0 := Lib.hid hb0
                          clear hb hy hb0
                          go_wp2
                          go_quiet (fail)
                          go_wp2
                          go_roundg jf
                          case measure => omega
                          case rel => exact ⟨j + 1, by omega, by go_num, by rw [HSS.out, HB0.out]; rfl, below_drewN HBj.out _⟩
                        | false =>
                          have HB0 := Lib.hid hb0
                          by_cases he : txt9 N y = s
                          · have e1 : ((txt9 N y).toList == s.toList) = true := by rw [str_eq]; simpa using he
                            have HE := Lib.hid he
                            clear hb hy hb0 he
                            go_wp2
                            go_quiet (fail)
                            go_wp2
                            go_roundg jf
                            case measure => omega
                            case rel => exact ⟨j + 1, by omega, by go_num, by rw [HSS.out, HB0.out, HE.out]; simp, below_drewN HBj.out _⟩
                          · have e1 : ((txt9 N y).toList == s.toList) = false := by rw [str_eq]; simpa using he
                            have HE := Lib.hid he
                            clear hb hy hb0 he
                            go_wp2
                            go_quiet (fail)
                            go_wp2
                            go_roundg jf
                            case measure => omega
                            case rel => exact ⟨j + 1, by omega, by go_num, by rw [HSS.out, HB0.out, decide_eq_false HE.out]; rfl, below_drewN HBj.out _⟩
                · have hof : ofN R x = [] := by simp [ofN, List.getElem?_eq_none (show R.length ≤ x by omega)]
                  have xr : decide (x < R.length) = false := decide_eq_false (by omega)
                  have xr2 : (R.length : Int) ≤ (x : Int) := by omega
                  clear hb hq hof
                  go_wp2
                  go_roundg gf
                  case measure => omega
                  case rel => exact ⟨i + 1, by omega, by go_num, HBq.out⟩
    · have hL := res_fault her
      obtain ⟨⟨L, at_, er⟩, hr⟩ : ∃ r, resN N R = r := ⟨_, rfl⟩
      rw [hr] at HG hL her
      simp only at HG hL her
      subst hL
      have HNUM := Lib.hid (num_any (er : Int))
      have he : ((er : Int) != 0) = true := by
        have : (er : Int) ≠ 0 := by omega
        simpa using this
      rw [show ([] : List Nat).length = 0 from rfl] at HG
      clear hN hR hh hr r40
      go_enter Try.func5, Try.ntmps5
      go_wp2_with (first
        | (go_at_call 9; (with_reducible refine (HAW.out _).mono ?_); rintro e w5 ⟨rfl, hb5⟩; have HB5 := Lib.hid hb5; clear hb5)
        | (go_at_call 13; (with_reducible refine (HNUM.out _).mono ?_); rintro e w5 ⟨rfl, rfl⟩)
        | (go_at_call 10; (with_reducible refine HG.mono ?_); rintro e w2 ⟨⟨A2, c2, rfl, hs2⟩, hb2⟩; have HB2 := Lib.hid hb2; clear hs2 hb2)
        | (go_at_call 8; (with_reducible refine HV.mono ?_); rintro e w2 ⟨rfl, rfl⟩))
      go_ret
      exact ⟨rfl, below_next HB2.out HB5.out⟩
end Go.Proofs.Ytibfikadamfpdaa
