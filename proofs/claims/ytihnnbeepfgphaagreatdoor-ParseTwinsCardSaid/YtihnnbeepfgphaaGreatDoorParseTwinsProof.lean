/-
  The same text gives the same tree, of which nothing is shared; the library's variables start as their texts lay them.
-/
import Derived.Test.YtihnnbeepfgphaaGreatDoorRows
import Derived.Test.YtihnnbeepfgphaaGreatDoorLexR5
import Derived.Test.YtihnnbeepfgphaaGreatDoorLawN
import Derived.WalkKit
namespace Go.Proofs.YtihnnbeepfgphaaGreatDoor.parseTwins
open Go.ChangeShapes Go.WideShapes Go.ChangeAt Go.RowKit
set_option linter.unusedVariables false
set_option linter.unusedSimpArgs false

/-! ### The walk. -/
set_option maxRecDepth 100000 in
set_option maxHeartbeats 8000000 in
theorem walk (w : World) (ht : ErrT w) (s : ByteArray) (hs : s.size ≤ maxLen) : Calls Tryz.prog 9 #[.string s] w fun e w' => e = .returned (.bool true) ∧ Below w.heap.size w w' := by
  have HT := Lib.hid ht
  clear ht
  obtain ⟨k, op, n, p, tx, a, ks, at_, er, hn, hp⟩ := parse_rep s
  have HP := Lib.hid hp
  have HS := Lib.hid (fun w F F' vs us h h' => same_any 20000 (.mk k op n p tx a ks) (by omega) (Nat.le_refl _) w F F' vs us h h')
  have hln : ks.length ≤ 3000 := by have := len_nodes ks; rw [nodes_mk] at hn; omega
  have HN := Lib.hid hn
  clear hp hn
  go_enter Tryz.func9, Tryz.ntmps9
  go_wp2_with (first
    | (go_at_call 13; ((with_reducible refine (HP.out _ HT.out).mono ?_); rintro e w1 ⟨A1, c1, rfl, hb1, hr1⟩; have HR1 := Lib.hid hr1; have HT1 := Lib.hid ((HT.out.below hb1).alloc (.cells #[.int .i64 k, .int .i64 op, .int .i64 n, .string (bs p), .string (bs tx), .int .i64 a, .slice A1 ks.length c1] 28)); clear hr1))
    | (go_at_call 13; ((with_reducible refine (HP.out _ HT1.out).mono ?_); rintro e w2 ⟨A2, c2, rfl, hb2, hr2⟩; have HR2 := Lib.hid hr2; clear hr2; have hs2 : w1.heap.size + 1 ≤ w2.heap.size := (by have := hb2.size; simpa using this); have hba2 : Blk w2 w1.heap.size 28 #[.int .i64 k, .int .i64 op, .int .i64 n, .string (bs p), .string (bs tx), .int .i64 a, .slice A1 ks.length c1] := (Blk.new _ _ _).bel hb2; obtain ⟨al, a0, a1, a2, a3, a4, a5, a6, af⟩ := hba2.all7; have nab : ¬ w1.heap.size = w2.heap.size := (by omega)))
    | (go_at_call 14; refine (lnum_any _ _).mono ?_; rintro e w' ⟨rfl, rfl⟩)
    | (go_at_call 17; refine (HS.out _ _ _ _ _ (((HR1.out.bel ((Below.refl _ _).alloc (Nat.le_refl _) _)).bel hb2).bel ((Below.refl _ _).alloc (Nat.le_refl _) _)) (HR2.out.bel ((Below.refl _ _).alloc (Nat.le_refl _) _))).mono ?_; rintro e w3 ⟨rfl, hb3⟩))
  have hb1' := hb1.size
  have hb2' := hb2.size
  have hb3' := hb3.size
  simp only [World.size_alloc] at hb2' hb3'
  have hA3 : Blk w3 w1.heap.size 28 #[.int .i64 k, .int .i64 op, .int .i64 n, .string (bs p), .string (bs tx), .int .i64 a, .slice A1 ks.length c1] := (Blk.alloc hba2 _).bel hb3
  have hB3 : Blk w3 w2.heap.size 28 #[.int .i64 k, .int .i64 op, .int .i64 n, .string (bs p), .string (bs tx), .int .i64 a, .slice A2 ks.length c2] := (Blk.new _ _ _).bel hb3
  have hW3 : Below w.heap.size w w3 := (((hb1.alloc hb1.size _).trans (hb2.mono (by simp; omega))).alloc (by omega) _).trans (hb3.mono (by simp; omega))
  have hR3 : Rep w3 (fun g => w.heap.size ≤ g ∧ g < w1.heap.size) (.mk k op n p tx a ks) (ndC k op n p tx a (.slice A1 ks.length c1)) := (((HR1.out.bel ((Below.refl _ _).alloc (Nat.le_refl _) _)).bel hb2).bel ((Below.refl _ _).alloc (Nat.le_refl _) _)).bel hb3
  have hS3 : Rep w3 (fun g => (w1.alloc (.cells #[.int .i64 k, .int .i64 op, .int .i64 n, .string (bs p), .string (bs tx), .int .i64 a, .slice A1 ks.length c1] 28)).heap.size ≤ g ∧ g < w2.heap.size) (.mk k op n p tx a ks) (ndC k op n p tx a (.slice A2 ks.length c2)) := (HR2.out.bel ((Below.refl _ _).alloc (Nat.le_refl _) _)).bel hb3
  obtain ⟨A', c', e1, hkids⟩ := hR3.openF
  simp only [ndC, List.cons.injEq, Value.slice.injEq, and_true, true_and] at e1
  obtain ⟨rfl, rfl⟩ := e1
  have HK := Lib.hid hkids
  have HS3 := Lib.hid hS3
  have HA3 := Lib.hid hA3
  have HB3 := Lib.hid hB3
  have hw2 : w1.heap.size < w2.heap.size := by omega
  have hw3 : w2.heap.size < w3.heap.size := hB3.lt
  have hlw : w.heap.size ≤ w1.heap.size := hb1'
  clear hkids hS3 hA3 hB3 hR3 HR1 HR2 hba2 a0 a1 a2 a3 a4 a5 a6 af al nab hb1 hb2 hb3 hs2 hb2' hb3' hb1'
  have n0 : (0 : Int) ≤ (ks.length : Int) := by omega
  have n1 : (ks.length : Int) ≤ 3000 := by omega
  go_loopw [9] (fun v9 wr => ∃ i : Nat, i ≤ ks.length ∧ v9 = .int .i64 i ∧ Wr7 w.heap.size w1.heap.size w3 wr) (fun v9 _ => ks.length - (intOf v9).toNat)
  case atStart => exact ⟨0, Nat.zero_le _, rfl, Wr7.refl _ _ _⟩
  case round =>
    obtain ⟨i, hi, rfl, hw⟩ := hrel
    have hbx : Blk wr w1.heap.size 28 #[.int .i64 k, .int .i64 op, .int .i64 n, .string (bs p), .string (bs tx), .int .i64 a, .slice A1 ks.length c1] := HA3.out.gr hw.gr (by omega)
    have bx := hbx.cell 6
    have bz := hbx.lt
    have i0 : (0 : Int) ≤ (i : Int) := by omega
    by_cases hlt : i < ks.length
    · have i1 : (i : Int) < (ks.length : Int) := by omega
      obtain ⟨u, hu⟩ : ∃ u, ks[i]? = some u := ⟨_, List.getElem?_eq_getElem hlt⟩
      obtain ⟨g, us, hA, hF, hgl, hfz, hru, hat⟩ := HK.out i u hu
      subst hA
      obtain ⟨ku, ou, nu, pu, tu, au, ksu⟩ := u
      obtain ⟨Au, cu, rfl, hku⟩ := hru.openF
      obtain ⟨xv, x4⟩ := hw.there g (i * 7 + 4) ⟨_, hat 4 _ rfl⟩
      have x6 := (hw.six g (i * 7 + 6) (by omega)).trans (hat 6 _ rfl)
      have xf := (hw.frozen g (i * 7 + 4)).trans (hfz (i * 7 + 4))
      have HW := Lib.hid (hw.set (g := g) (j := i * 7 + 4) hF (by omega) (.string ⟨#[63]⟩))
      have HU := Lib.hid hku
      have X6 := Lib.hid (hat 6 _ rfl)
      have hksu : ksu.length ≤ 3000 := by
        have h1 := nodes_kid ks i _ hu
        have h2 := HN.out
        have h3 := len_nodes ksu
        rw [nodes_mk] at h1 h2
        omega
      have u0 : (0 : Int) ≤ (ksu.length : Int) := by omega
      have u1 : (ksu.length : Int) ≤ 3000 := by omega
      have hgw1 : g < w1.heap.size := hF.2
      have hgne : ¬ w1.heap.size = g := by omega
      clear hu hat hku hw hru hfz hbx
      go_wp2
      go_loopw [10] (fun v10 wq => ∃ m : Nat, m ≤ ksu.length ∧ v10 = .int .i64 m ∧ Wr7 w.heap.size w1.heap.size w3 wq) (fun v10 _ => ksu.length - (intOf v10).toNat)
      case atStart => exact ⟨0, Nat.zero_le _, rfl, HW.out⟩
      case round =>
        obtain ⟨m, hm, rfl, hw⟩ := hrel
        rename World => wq
        have hbx : Blk wq w1.heap.size 28 #[.int .i64 k, .int .i64 op, .int .i64 n, .string (bs p), .string (bs tx), .int .i64 a, .slice (some ⟨g, 0, none⟩) ks.length c1] := HA3.out.gr hw.gr (by omega)
        have bx := hbx.cell 6
        have bz := hbx.lt
        have x6 := (hw.six g (i * 7 + 6) (by omega)).trans X6.out
        have m0 : (0 : Int) ≤ (m : Int) := by omega
        by_cases hlt2 : m < ksu.length
        · have m1 : (m : Int) < (ksu.length : Int) := by omega
          obtain ⟨v, hv⟩ : ∃ v, ksu[m]? = some v := ⟨_, List.getElem?_eq_getElem hlt2⟩
          obtain ⟨g2, vs, hA, hF2, hgl2, hfz2, hrv, hat2⟩ := HU.out m v hv
          subst hA
          obtain ⟨kv, ov, nv, pv, tv, av, ksv⟩ := v
          obtain ⟨Av, cv, rfl, _⟩ := hrv.openF
          obtain ⟨yv, y0⟩ := hw.there g2 (m * 7) ⟨_, hat2 0 _ rfl⟩
          have yf := (hw.frozen g2 (m * 7)).trans (hfz2 (m * 7))
          have HW2 := Lib.hid (hw.set (g := g2) (j := m * 7) hF2 (by omega) (.int .i64 (-1)))
          clear hv hat2 hrv hfz2 hw hbx
          go_wp2
          go_roundw
          case rel => exact ⟨m + 1, by omega, by go_num, HW2.out⟩
          case measure => simp [intOf]; omega
        · obtain rfl : m = ksu.length := by omega
          have HW2 := Lib.hid hw
          clear hw hbx hlt2
          go_wp2
          go_roundw
          case rel => exact ⟨i + 1, by omega, by go_num, HW2.out⟩
          case measure => simp [intOf]; omega
    · obtain rfl : i = ks.length := by omega
      have hBr : Below w.heap.size w wr := hW3.trans (Gr.belowN hw.gr (by have := hW3.size; omega) (by intro q h1 h2; omega))
      have HTr := Lib.hid (HT.out.below hBr)
      have hSr : Rep wr (fun g => (w1.alloc (.cells #[.int .i64 k, .int .i64 op, .int .i64 n, .string (bs p), .string (bs tx), .int .i64 a, .slice A1 ks.length c1] 28)).heap.size ≤ g ∧ g < w2.heap.size) (.mk k op n p tx a ks) (ndC k op n p tx a (.slice A2 ks.length c2)) := HS3.out.gr hw.gr (by intro q h1 _ h2; have h1 := h1.1; rw [World.size_alloc] at h1; omega) (fun q _ h => h)
      have HSr := Lib.hid hSr
      have hby : Blk wr w2.heap.size 28 #[.int .i64 k, .int .i64 op, .int .i64 n, .string (bs p), .string (bs tx), .int .i64 a, .slice A2 ks.length c2] := HB3.out.gr hw.gr (by omega)
      have hwsz := hw.gr.size
      clear hw hbx hlt hSr
      go_wp2_with (first
        | (go_at_call 13; ((with_reducible refine (HP.out _ HTr.out).mono ?_); rintro e w4 ⟨A4, c4, rfl, hb4, hr4⟩; have HR4 := Lib.hid hr4; clear hr4; have hby4 := hby.bel hb4; obtain ⟨bl, b0, b1, b2, b3, b4, b5, b6, bf⟩ := hby4.all7; have nbc : ¬ w2.heap.size = w4.heap.size := (by have := hby4.lt; omega)))
        | (go_at_call 17; refine (HS.out _ _ _ _ _ ((HSr.out.bel hb4).bel ((Below.refl _ _).alloc (Nat.le_refl _) _)) (HR4.out.bel ((Below.refl _ _).alloc (Nat.le_refl _) _))).mono ?_; rintro e w5 ⟨rfl, hb5⟩; have HT5 := Lib.hid (((HTr.out.below hb4).alloc (.cells #[.int .i64 k, .int .i64 op, .int .i64 n, .string (bs p), .string (bs tx), .int .i64 a, .slice A4 ks.length c4] 28)).below hb5))
        | (go_at_call 12; refine (lawake_any _ (HT5.out)).mono ?_; rintro e w9 ⟨rfl, hb9⟩))
      go_ret
      refine ⟨rfl, ?_⟩
      have h4 := hb4.size
      have h5 := hb5.size
      have h6 := hBr.size
      simp only [World.size_alloc] at h5
      exact (((hBr.trans (hb4.mono (by omega))).alloc (by omega) _).trans (hb5.mono (by simp; omega))).trans (hb9.mono (by omega))

/-! ### The row's step. -/
set_option maxRecDepth 100000 in
theorem lifted (os : Os) (started : os.Started) (H : Type) (enc : TypeId × Value → H) :
    ReturnsInHanded {} Tryz.checked os 9 .any (fun w args => (Rows.parseTwinsSpec.pre enc Tryz.prog Tryz.f9 Rows.parseTwinsRow.domain false w args ∧ laidMet Tryz.prog Rows.parseTwinsRow.laid w) ∧ sizedMet enc Tryz.prog Tryz.f9 (OpenSpec.ofChange Rows.parseTwinsSpec) false w args)
      (Rows.parseTwinsSpec.post enc Tryz.prog Tryz.f9 false true false false) := by
  refine returnsInHanded_of_change_and (C := Tryz.checked) (X := fun w _ => laidMet Tryz.prog Rows.parseTwinsRow.laid w) (fun _ _ _ hh h => h.of_heap hh) own started (by kernel_rfl) Tryz.func9
    (ChangeSpec.witness_at (enc := enc) (C := Tryz.checked) (os := os) (X := fun w _ => laidMet Tryz.prog Rows.parseTwinsRow.laid w) false (laidWorld os) #[.string ⟨#[]⟩] 8 rfl (by kernel_rfl) (by kernel_rfl) (by kernel_rfl) (by kernel_rfl) (by kernel_rfl) (laidWorld_met os _)) ?_
  intro W base args ds gs before hval0 hW _ _ hL _
  have hval : ∀ (j : Nat) t v, Tryz.f9.params[j]? = some t → args[j]? = some v → Value.okWide Tryz.prog W .any base t v := hval0
  have hW' := hW
  obtain ⟨p, q, hA0, hV, rfl, _, _⟩ := hW
  have hA : DataW.TrodAll enc Tryz.prog W 0 (fun _ => true) true Tryz.f9.params.toList args.toList ds p := hA0
  rw [Tryz.params9] at hA hval
  obtain ⟨v0, vs0, d0, ds0, p0, q0, hargs, rfl, rfl, h0, r0⟩ := trodAll_cons hA
  obtain ⟨rfl, rfl, rfl⟩ := trodAll_nil r0
  obtain rfl : args = #[v0] := by cases args; simp_all
  obtain ⟨rfl, rfl⟩ := trodVars_none hV
  obtain ⟨s0, rfl, rfl, rfl, hs0⟩ := Go.ChangeMaps.open_string Tryz.underlying9 (hval 0 9 v0 rfl rfl) h0
  refine (walk W (errT_of_laid hL) s0 hs0).mono fun e W' ⟨he, hb⟩ => ?_
  subst he
  exact ⟨_, rfl, post_law laidOut (by rw [Tryz.params9]; intro t ht; simp at ht; (first | (rcases ht with rfl | rfl | rfl) | (rcases ht with rfl | rfl) | subst ht) <;> exact ⟨by kernel_rfl, of_decide_eq_true (by kernel_rfl)⟩) rfl rfl Tryz.underlying4 rfl hW' hb⟩

theorem over : Rows.parseTwinsRow.holds Tryz.pinned (OpenSpec.ofChange Rows.parseTwinsSpec) :=
  OpenClaim.holds_of_wide 9 Tryz.f9 rfl rfl rfl rfl rfl rfl rfl ⟨rfl, rfl, rfl, rfl, rfl⟩ rfl rfl rfl rfl rfl (by kernel_rfl) Tryz.func9 (by kernel_rfl)
    (of_decide_eq_true (by kernel_rfl)) (by unfold Func.isWrapper; first | (rw [if_pos (by decide +kernel)]; kernel_rfl) | (rw [if_neg (by decide +kernel)]; exact ⟨rfl, rfl⟩))
    (fun os started H enc _ => lifted os started H enc)

/-- The statement. -/
theorem proved : Rows.ParseTwinsCardSaid :=
  Claim7.holds_tied_plain_at .later [] _ true _ true
    over (fun _ h => by cases h) (by kernel_rfl) (fun _ h => by cases h) parseTwins_row_tie rfl ⟨rfl, rfl⟩ (by kernel_rfl) rfl
    (fun f fn hf hfn => by
      obtain rfl : f = 9 := Option.some.inj ((show Tryz.prog.funcNamed "mortise/mortiselaw5.ParseTwins" = some 9 by kernel_rfl).symm.trans hf) |>.symm
      obtain rfl : fn = Tryz.f9 := (Option.some.inj (Tryz.func9.symm.trans hfn)).symm
      exact ⟨by kernel_rfl, fun j t ht => by
        have hm := Array.mem_of_getElem? ht
        rw [Tryz.params9] at hm
        simp at hm
        (first | (rcases hm with rfl | rfl | rfl) | (rcases hm with rfl | rfl) | subst hm) <;> exact (show Tryz.prog.wantsStandIn _ = false by kernel_rfl)⟩)
    (by kernel_rfl)
#print axioms proved
end Go.Proofs.YtihnnbeepfgphaaGreatDoor.parseTwins
