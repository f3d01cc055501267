/-
  mortiseref7's unit and Find: walks.
-/
import Derived.Test.YtcfgjfahjaimiaaUg
namespace Go.Proofs.Ytcfgjfahjaimiaa
open Go.RowKit
set_option linter.unusedVariables false
set_option linter.unusedSimpArgs false

def idxO : Option Nat → Int
  | some i => (i : Int)
  | none => -1
def unitN (us : List Un) (p : ByteArray) : Int := idxO (unitI us p)
theorem unitI_at {us : List Un} {p : ByteArray} : ∀ {i : Nat}, unitI us p = some i → ∃ u, us[i]? = some u ∧ unitP us p = some u := by
  induction us with
  | nil => intro i h; cases h
  | cons a r ih =>
    intro i h
    rw [unitI] at h
    by_cases e : a.pkg = p
    · rw [if_pos e] at h
      cases h
      exact ⟨a, rfl, by rw [unitP, if_pos e]⟩
    · rw [if_neg e] at h
      obtain ⟨j, hj, rfl⟩ := Option.map_eq_some_iff.1 h
      obtain ⟨u, h1, h2⟩ := ih hj
      exact ⟨u, by simpa using h1, by rw [unitP, if_neg e]; exact h2⟩
theorem unitI_none {us : List Un} {p : ByteArray} (h : unitI us p = none) : unitP us p = none := by rw [unit_both, h]; rfl
set_option maxRecDepth 100000 in
set_option maxHeartbeats 4000000 in
theorem runit_any (us : List Un) (p : ByteArray) (hlen : us.length ≤ 140737488355328) (w : World) (F : Nat → Prop) (A : Option Addr) (c : Nat) (hr : SlG 4 RUn w F A us) :
    Calls Try.prog 28 #[.slice A us.length c, .string p] w fun e w' => e = .returned (.int .i64 (unitN us p)) ∧ w = w' := by
  have HA := Lib.hid hr
  have n0 : (0 : Int) ≤ (us.length : Int) := by omega
  have n1 : (us.length : Int) ≤ 140737488355328 := by omega
  obtain ⟨res, hres⟩ : ∃ r, unitI us p = r := ⟨_, rfl⟩
  have HR := Lib.hid hres
  have HN := Lib.hid (show unitN us p = idxO res by rw [unitN, hres])
  generalize unitN us p = N at HN ⊢
  clear hr hres
  go_enter Try.func28, Try.ntmps28
  go_wp2
  go_loopg [5] us.length (fun gk v5 wr => ∃ (j : Nat), j + gk = us.length ∧ v5 = .int .i64 j ∧ w = wr ∧ res = (unitI (us.drop j) p).map (· + j))
  case atStart => exact ⟨0, by simp, rfl, rfl, by rw [← HR.out]; simp⟩
  case round =>
    obtain ⟨j, hj, rfl, rfl, hsm⟩ := hrel
    cases gk with
    | zero =>
      obtain rfl : j = us.length := by omega
      rw [List.drop_length, unitI, Option.map_none] at hsm
      subst hsm
      obtain rfl : N = -1 := HN.out
      clear hj
      go_wp2
      go_ret
      exact ⟨rfl, rfl⟩
    | succ f =>
      have hjl : j < us.length := by omega
      obtain ⟨u, hu⟩ : ∃ u, us[j]? = some u := ⟨_, List.getElem?_eq_getElem hjl⟩
      have j1 : (j : Int) < (us.length : Int) := by omega
      have j0 : (0 : Int) ≤ (j : Int) := by omega
      have j2 : (j : Int) ≤ 140737488355328 := by omega
      obtain ⟨q, o, vs, rfl, hFq, hql, hrep, hat⟩ := HA.out.at_ RUn_sized hu
      rw [unitI_drop hu] at hsm
      obtain ⟨pk, ims, dcs, fns⟩ := u
      obtain ⟨A1, a1, B1, b1, C1, c1, rfl, _⟩ := hrep
      dsimp only at hsm
      have q0 := hat 0 _ rfl
      rw [Nat.add_zero] at q0
      dsimp only at q0
      clear hat hu
      by_cases e : pk = p
      · subst e
        rw [if_pos rfl] at hsm
        obtain rfl : N = (j : Int) := by rw [HN.out, hsm]; simp [idxO]
        clear hsm
        go_wp2
        go_ret
        exact ⟨rfl, rfl⟩
      · rw [if_neg e] at hsm
        have eb : (pk.toList == p.toList) = false := by simpa [toList_inj] using e
        have HS := Lib.hid hsm
        clear e hsm
        go_wp2
        go_roundg f
        case measure => omega
        case rel => exact ⟨j + 1, by omega, by go_num, rfl, by rw [HS.out, Option.map_map]; congr 1; funext x; simp only [Function.comp]; omega⟩
set_option maxRecDepth 100000 in
set_option maxHeartbeats 8000000 in
theorem rfind_any (us : List Un) (hok : ∀ u ∈ us, u.ok 140737488355328) (p n : ByteArray) (hlen : us.length ≤ 140737488355328) (w : World) (F : Nat → Prop) (A : Option Addr) (c : Nat) (hr : SlG 4 RUn w F A us) (hF : ∀ k, F k → k < w.heap.size) :
    Calls Try.prog 30 #[.slice A us.length c, .string p, .string n] w fun e w' => (∃ vs : List Value, e = .returned (.tuple #[.agg vs.toArray, .bool (fndP us p n).isSome]) ∧ DlV F ((fndP us p n).getD dlZ) w' vs) ∧ Below w.heap.size w w' := by
  have HA := Lib.hid hr
  have HLT := Lib.hid hF
  have n0 : (0 : Int) ≤ (us.length : Int) := by omega
  have n1 : (us.length : Int) ≤ 140737488355328 := by omega
  have HU := Lib.hid (fun w' (h : Below w.heap.size w w') => runit_any us p hlen w' F A c (hr.bel RUn_keeps h))
  have HB0 := Lib.hid ((Below.refl _ w).alloc (Nat.le_refl _) (.cells #[.int .i64 0, .string ⟨#[]⟩, .string ⟨#[]⟩, .int .i64 0, .int .i64 0, .string ⟨#[]⟩, .string ⟨#[]⟩, .slice none 0 0, .slice none 0 0, .slice none 0 0] 57))
  have HK0 := Lib.hid (Blk.new w 57 #[.int .i64 0, .string ⟨#[]⟩, .string ⟨#[]⟩, .int .i64 0, .int .i64 0, .string ⟨#[]⟩, .string ⟨#[]⟩, .slice none 0 0, .slice none 0 0, .slice none 0 0])
  cases hi : unitI us p with
  | none =>
    have hf : fndP us p n = none := by rw [fndP, unitI_none hi]; rfl
    rw [hf]
    rw [show unitN us p = -1 by rw [unitN, hi]; rfl] at HU
    clear hr hF hi hf
    go_enter Try.func30, Try.ntmps30
    go_wp2_with (go_at_call 28; refine (HU.out _ HB0.out).mono ?_; rintro e wr ⟨rfl, hw⟩; have hb := HB0.out; have hk := HK0.out; rw [hw] at hb hk; clear hw; have HB := Lib.hid hb; have HK := Lib.hid hk; clear hb hk; have z0 := HK.out.cell 0; have f0 := HK.out.frozen 0; have z1 := HK.out.cell 1; have f1 := HK.out.frozen 1; have z2 := HK.out.cell 2; have f2 := HK.out.frozen 2; have z3 := HK.out.cell 3; have f3 := HK.out.frozen 3; have z4 := HK.out.cell 4; have f4 := HK.out.frozen 4; have z5 := HK.out.cell 5; have f5 := HK.out.frozen 5; have z6 := HK.out.cell 6; have f6 := HK.out.frozen 6; have z7 := HK.out.cell 7; have f7 := HK.out.frozen 7; have z8 := HK.out.cell 8; have f8 := HK.out.frozen 8; have z9 := HK.out.cell 9; have f9 := HK.out.frozen 9; have zl := HK.out.lt)
    clear z0 f0 z1 f1 z2 f2 z3 f3 z4 f4 z5 f5 z6 f6 z7 f7 z8 f8 z9 f9
    have hV := putCs_blk0 (vs := [.int .i64 0, .string ⟨#[]⟩, .string ⟨#[]⟩, .int .i64 0, .int .i64 0, .string ⟨#[]⟩, .string ⟨#[]⟩, .slice none 0 0, .slice none 0 0, .slice none 0 0]) HK.out rfl
    have hVg : Below w.heap.size w (putCs wr w.heap.size 0 [.int .i64 0, .string ⟨#[]⟩, .string ⟨#[]⟩, .int .i64 0, .int .i64 0, .string ⟨#[]⟩, .string ⟨#[]⟩, .slice none 0 0, .slice none 0 0, .slice none 0 0]) := HB.out.trans ((putCs_gr w.heap.size [.int .i64 0, .string ⟨#[]⟩, .string ⟨#[]⟩, .int .i64 0, .int .i64 0, .string ⟨#[]⟩, .string ⟨#[]⟩, .slice none 0 0, .slice none 0 0, .slice none 0 0] 0 wr).belowN HB.out.size (fun k hk e => by have e2 : k = w.heap.size := e; omega))
    have HV := Lib.hid hVg
    have HVR := Lib.hid (show DlV F dlZ (putCs wr w.heap.size 0 [.int .i64 0, .string ⟨#[]⟩, .string ⟨#[]⟩, .int .i64 0, .int .i64 0, .string ⟨#[]⟩, .string ⟨#[]⟩, .slice none 0 0, .slice none 0 0, .slice none 0 0]) [.int .i64 0, .string ⟨#[]⟩, .string ⟨#[]⟩, .int .i64 0, .int .i64 0, .string ⟨#[]⟩, .string ⟨#[]⟩, .slice none 0 0, .slice none 0 0, .slice none 0 0] from ⟨z5.toList, none, 0, rfl, RT.zero _ _, SlG.none_ _ _⟩)
    have y0 := hV.cell 0
    have y1 := hV.cell 1
    have y2 := hV.cell 2
    have y3 := hV.cell 3
    have y4 := hV.cell 4
    have y5 := hV.cell 5
    have y6 := hV.cell 6
    have y7 := hV.cell 7
    have y8 := hV.cell 8
    have y9 := hV.cell 9
    clear hV hVg
    show bodyPost _ _ _ _ _ (putCs wr w.heap.size 0 [.int .i64 0, .string ⟨#[]⟩, .string ⟨#[]⟩, .int .i64 0, .int .i64 0, .string ⟨#[]⟩, .string ⟨#[]⟩, .slice none 0 0, .slice none 0 0, .slice none 0 0])
    generalize putCs wr w.heap.size 0 [.int .i64 0, .string ⟨#[]⟩, .string ⟨#[]⟩, .int .i64 0, .int .i64 0, .string ⟨#[]⟩, .string ⟨#[]⟩, .slice none 0 0, .slice none 0 0, .slice none 0 0] = V at HV HVR y0 y1 y2 y3 y4 y5 y6 y7 y8 y9 ⊢
    exact bodyPost_ret (v := .tuple #[.agg #[.int .i64 0, .string ⟨#[]⟩, .string ⟨#[]⟩, .int .i64 0, .int .i64 0, .string ⟨#[]⟩, .string ⟨#[]⟩, .slice none 0 0, .slice none 0 0, .slice none 0 0], .bool false]) (by simp [results, Try.results30, go_sem, y0, y1, y2, y3, y4, y5, y6, y7, y8, y9]) rfl ⟨⟨[.int .i64 0, .string ⟨#[]⟩, .string ⟨#[]⟩, .int .i64 0, .int .i64 0, .string ⟨#[]⟩, .string ⟨#[]⟩, .slice none 0 0, .slice none 0 0, .slice none 0 0], by rfl, HVR.out⟩, HV.out⟩
  | some i =>
    obtain ⟨u, hu, hup⟩ := unitI_at hi
    have hm := List.mem_of_getElem? hu
    have hil := (List.getElem?_eq_some_iff.1 hu).1
    have hdl := (hok u hm).2.2.1.1
    have m0 : (0 : Int) ≤ (u.decls.length : Int) := by omega
    have m1 : (u.decls.length : Int) ≤ 140737488355328 := by omega
    have i0 : (0 : Int) ≤ (i : Int) := by omega
    have i1 : (i : Int) < (us.length : Int) := by omega
    have i2 : (i : Int) ≤ 140737488355328 := by omega
    have i3 : ¬ (i : Int) < 0 := by omega
    rw [show unitN us p = (i : Int) by rw [unitN, hi]; rfl] at HU
    obtain ⟨res, hres⟩ : ∃ r, fndP us p n = r := ⟨_, rfl⟩
    have HR := Lib.hid (show declP u.decls n = res by rw [← hres, fndP, hup]; rfl)
    rw [hres]
    obtain ⟨q, o, vs, rfl, hFq, hql, hrep, hat⟩ := hr.at_ RUn_sized hu
    obtain ⟨pk, ims, dcs, fns⟩ := u
    obtain ⟨A1, a1, B1, b1, C1, c1, rfl, _, hds, _⟩ := hrep
    dsimp only at hds m0 m1 HR
    have HDS := Lib.hid hds
    have HQ := Lib.hid (hat 2 _ rfl)
    clear hr hF hi hu hup hm hdl hres hat hds
    go_enter Try.func30, Try.ntmps30
    go_wp2_with (go_at_call 28; refine (HU.out _ HB0.out).mono ?_; rintro e wr0 ⟨rfl, hw⟩; have hb := HB0.out; have hk := HK0.out; rw [hw] at hb hk; clear hw; have HB1 := Lib.hid hb; have HK1 := Lib.hid hk; clear hb hk)
    go_loopg [9] dcs.length (fun gk v9 wr => ∃ (j : Nat), j + gk = dcs.length ∧ v9 = .int .i64 j ∧ wr0 = wr ∧ res = declP (dcs.drop j) n)
    case atStart => exact ⟨0, by simp, rfl, rfl, by rw [← HR.out]; rfl⟩
    case round =>
      obtain ⟨j, hj, rfl, hwr, hsm⟩ := hrel
      have HB := Lib.hid (hwr ▸ HB1.out)
      have HK := Lib.hid (hwr ▸ HK1.out)
      have u2 : wr.cell? ⟨q, o + i * 4 + 2, none⟩ = _ := (HB.out.cell (p := ⟨q, _, none⟩) hql).trans HQ.out
      have ql := Nat.lt_of_lt_of_le hql HB.out.size
      cases gk with
      | zero =>
        obtain rfl : j = dcs.length := by omega
        rw [List.drop_length, declP] at hsm
        subst hsm
        clear hj hwr
        have z0 := HK.out.cell 0
        have f0 := HK.out.frozen 0
        have z1 := HK.out.cell 1
        have f1 := HK.out.frozen 1
        have z2 := HK.out.cell 2
        have f2 := HK.out.frozen 2
        have z3 := HK.out.cell 3
        have f3 := HK.out.frozen 3
        have z4 := HK.out.cell 4
        have f4 := HK.out.frozen 4
        have z5 := HK.out.cell 5
        have f5 := HK.out.frozen 5
        have z6 := HK.out.cell 6
        have f6 := HK.out.frozen 6
        have z7 := HK.out.cell 7
        have f7 := HK.out.frozen 7
        have z8 := HK.out.cell 8
        have f8 := HK.out.frozen 8
        have z9 := HK.out.cell 9
        have f9 := HK.out.frozen 9
        have zl := HK.out.lt
        go_wp2
        clear z0 f0 z1 f1 z2 f2 z3 f3 z4 f4 z5 f5 z6 f6 z7 f7 z8 f8 z9 f9
        have hV := putCs_blk0 (vs := [.int .i64 0, .string ⟨#[]⟩, .string ⟨#[]⟩, .int .i64 0, .int .i64 0, .string ⟨#[]⟩, .string ⟨#[]⟩, .slice none 0 0, .slice none 0 0, .slice none 0 0]) HK.out rfl
        have hVg : Below w.heap.size w (putCs wr w.heap.size 0 [.int .i64 0, .string ⟨#[]⟩, .string ⟨#[]⟩, .int .i64 0, .int .i64 0, .string ⟨#[]⟩, .string ⟨#[]⟩, .slice none 0 0, .slice none 0 0, .slice none 0 0]) := HB.out.trans ((putCs_gr w.heap.size [.int .i64 0, .string ⟨#[]⟩, .string ⟨#[]⟩, .int .i64 0, .int .i64 0, .string ⟨#[]⟩, .string ⟨#[]⟩, .slice none 0 0, .slice none 0 0, .slice none 0 0] 0 wr).belowN HB.out.size (fun k hk e => by have e2 : k = w.heap.size := e; omega))
        have HV := Lib.hid hVg
        have HVR := Lib.hid (show DlV F dlZ (putCs wr w.heap.size 0 [.int .i64 0, .string ⟨#[]⟩, .string ⟨#[]⟩, .int .i64 0, .int .i64 0, .string ⟨#[]⟩, .string ⟨#[]⟩, .slice none 0 0, .slice none 0 0, .slice none 0 0]) [.int .i64 0, .string ⟨#[]⟩, .string ⟨#[]⟩, .int .i64 0, .int .i64 0, .string ⟨#[]⟩, .string ⟨#[]⟩, .slice none 0 0, .slice none 0 0, .slice none 0 0] from ⟨z5.toList, none, 0, rfl, RT.zero _ _, SlG.none_ _ _⟩)
        have y0 := hV.cell 0
        have y1 := hV.cell 1
        have y2 := hV.cell 2
        have y3 := hV.cell 3
        have y4 := hV.cell 4
        have y5 := hV.cell 5
        have y6 := hV.cell 6
        have y7 := hV.cell 7
        have y8 := hV.cell 8
        have y9 := hV.cell 9
        clear hV hVg
        show bodyPost _ _ _ _ _ (putCs wr w.heap.size 0 [.int .i64 0, .string ⟨#[]⟩, .string ⟨#[]⟩, .int .i64 0, .int .i64 0, .string ⟨#[]⟩, .string ⟨#[]⟩, .slice none 0 0, .slice none 0 0, .slice none 0 0])
        generalize putCs wr w.heap.size 0 [.int .i64 0, .string ⟨#[]⟩, .string ⟨#[]⟩, .int .i64 0, .int .i64 0, .string ⟨#[]⟩, .string ⟨#[]⟩, .slice none 0 0, .slice none 0 0, .slice none 0 0] = V at HV HVR y0 y1 y2 y3 y4 y5 y6 y7 y8 y9 ⊢
        exact bodyPost_ret (v := .tuple #[.agg #[.int .i64 0, .string ⟨#[]⟩, .string ⟨#[]⟩, .int .i64 0, .int .i64 0, .string ⟨#[]⟩, .string ⟨#[]⟩, .slice none 0 0, .slice none 0 0, .slice none 0 0], .bool false]) (by simp [results, Try.results30, go_sem, y0, y1, y2, y3, y4, y5, y6, y7, y8, y9]) rfl ⟨⟨[.int .i64 0, .string ⟨#[]⟩, .string ⟨#[]⟩, .int .i64 0, .int .i64 0, .string ⟨#[]⟩, .string ⟨#[]⟩, .slice none 0 0, .slice none 0 0, .slice none 0 0], by rfl, HVR.out⟩, HV.out⟩
      | succ f =>
        have hjl : j < dcs.length := by omega
        obtain ⟨d, hd⟩ : ∃ d, dcs[j]? = some d := ⟨_, List.getElem?_eq_getElem hjl⟩
        have j1 : (j : Int) < (dcs.length : Int) := by omega
        have j0 : (0 : Int) ≤ (j : Int) := by omega
        have j2 : (j : Int) ≤ 140737488355328 := by omega
        obtain ⟨r, s, vs, rfl, hFr, hrl, hrep, hat⟩ := (HDS.out.bel RDl_keeps HB.out).at_ RDl_sized hd
        rw [declP_drop hd] at hsm
        obtain ⟨dk, dn, dof, dv, dt, fs⟩ := d
        have HD := Lib.hid hrep
        obtain ⟨tv, Af, cf, rfl, hrt, hfs⟩ := hrep
        dsimp only at hrt hfs hsm
        obtain ⟨tk, tp, tn, A3, a3', a3, B3, b3', b3, rfl⟩ := hrt.shape
        simp only [tyC, List.cons_append, List.nil_append] at hat HD
        have d0 := hat 0 _ rfl
        have d1 := hat 1 _ rfl
        have d2 := hat 2 _ rfl
        have d3 := hat 3 _ rfl
        have d4 := hat 4 _ rfl
        have d5 := hat 5 _ rfl
        have d6 := hat 6 _ rfl
        have d7 := hat 7 _ rfl
        have d8 := hat 8 _ rfl
        have d9 := hat 9 _ rfl
        rw [Nat.add_zero] at d0
        clear hat hd hrt hfs
        by_cases e : dn = n
        · subst e
          by_cases e6 : dk = 6
          · subst e6
            rw [if_neg (by simp)] at hsm
            have HS := Lib.hid hsm
            clear hsm
            go_wp2
            go_roundg f
            case measure => omega
            case rel => exact ⟨j + 1, by omega, by go_num, hwr, HS.out⟩
          · have eb : (dk != 6) = true := by simpa using e6
            rw [if_pos ⟨rfl, e6⟩] at hsm
            subst hsm
            clear e6 hj hwr
            have z0 := HK.out.cell 0
            have f0 := HK.out.frozen 0
            have z1 := HK.out.cell 1
            have f1 := HK.out.frozen 1
            have z2 := HK.out.cell 2
            have f2 := HK.out.frozen 2
            have z3 := HK.out.cell 3
            have f3 := HK.out.frozen 3
            have z4 := HK.out.cell 4
            have f4 := HK.out.frozen 4
            have z5 := HK.out.cell 5
            have f5 := HK.out.frozen 5
            have z6 := HK.out.cell 6
            have f6 := HK.out.frozen 6
            have z7 := HK.out.cell 7
            have f7 := HK.out.frozen 7
            have z8 := HK.out.cell 8
            have f8 := HK.out.frozen 8
            have z9 := HK.out.cell 9
            have f9 := HK.out.frozen 9
            have zl := HK.out.lt
            go_wp2
            clear z0 f0 z1 f1 z2 f2 z3 f3 z4 f4 z5 f5 z6 f6 z7 f7 z8 f8 z9 f9
            have hV := putCs_blk0 (vs := [.int .i64 dk, .string dn, .string dof, .int .i64 dv, .int .i64 tk, .string tp, .string tn, .slice A3 a3' a3, .slice B3 b3' b3, .slice Af fs.length cf]) HK.out rfl
            have hVg : Below w.heap.size w (putCs wr w.heap.size 0 [.int .i64 dk, .string dn, .string dof, .int .i64 dv, .int .i64 tk, .string tp, .string tn, .slice A3 a3' a3, .slice B3 b3' b3, .slice Af fs.length cf]) := HB.out.trans ((putCs_gr w.heap.size [.int .i64 dk, .string dn, .string dof, .int .i64 dv, .int .i64 tk, .string tp, .string tn, .slice A3 a3' a3, .slice B3 b3' b3, .slice Af fs.length cf] 0 wr).belowN HB.out.size (fun k hk e => by have e2 : k = w.heap.size := e; omega))
            have HV := Lib.hid hVg
            have HVR := Lib.hid (show DlV F ⟨dk, dn, dof, dv, dt, fs⟩ (putCs wr w.heap.size 0 [.int .i64 dk, .string dn, .string dof, .int .i64 dv, .int .i64 tk, .string tp, .string tn, .slice A3 a3' a3, .slice B3 b3' b3, .slice Af fs.length cf]) [.int .i64 dk, .string dn, .string dof, .int .i64 dv, .int .i64 tk, .string tp, .string tn, .slice A3 a3' a3, .slice B3 b3' b3, .slice Af fs.length cf] from RDl.clear HD.out (putCs_gr _ _ 0 wr) HLT.out)
            have y0 := hV.cell 0
            have y1 := hV.cell 1
            have y2 := hV.cell 2
            have y3 := hV.cell 3
            have y4 := hV.cell 4
            have y5 := hV.cell 5
            have y6 := hV.cell 6
            have y7 := hV.cell 7
            have y8 := hV.cell 8
            have y9 := hV.cell 9
            clear hV hVg
            show bodyPost _ _ _ _ _ (putCs wr w.heap.size 0 [.int .i64 dk, .string dn, .string dof, .int .i64 dv, .int .i64 tk, .string tp, .string tn, .slice A3 a3' a3, .slice B3 b3' b3, .slice Af fs.length cf])
            generalize putCs wr w.heap.size 0 [.int .i64 dk, .string dn, .string dof, .int .i64 dv, .int .i64 tk, .string tp, .string tn, .slice A3 a3' a3, .slice B3 b3' b3, .slice Af fs.length cf] = V at HV HVR y0 y1 y2 y3 y4 y5 y6 y7 y8 y9 ⊢
            exact bodyPost_ret (v := .tuple #[.agg #[.int .i64 dk, .string dn, .string dof, .int .i64 dv, .int .i64 tk, .string tp, .string tn, .slice A3 a3' a3, .slice B3 b3' b3, .slice Af fs.length cf], .bool true]) (by simp [results, Try.results30, go_sem, y0, y1, y2, y3, y4, y5, y6, y7, y8, y9]) rfl ⟨⟨[.int .i64 dk, .string dn, .string dof, .int .i64 dv, .int .i64 tk, .string tp, .string tn, .slice A3 a3' a3, .slice B3 b3' b3, .slice Af fs.length cf], by rfl, HVR.out⟩, HV.out⟩
        · rw [if_neg (fun h => e h.1)] at hsm
          have eb : (dn.toList == n.toList) = false := by simpa [toList_inj] using e
          have HS := Lib.hid hsm
          clear e hsm
          go_wp2
          go_roundg f
          case measure => omega
          case rel => exact ⟨j + 1, by omega, by go_num, hwr, HS.out⟩
end Go.Proofs.Ytcfgjfahjaimiaa
