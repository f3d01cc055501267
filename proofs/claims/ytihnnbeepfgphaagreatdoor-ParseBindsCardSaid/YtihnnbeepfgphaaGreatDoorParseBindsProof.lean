/-
  Of two signs the one that binds more is done first, of one strength the first; the library's variables start as their texts lay them.
-/
import Derived.Test.YtihnnbeepfgphaaGreatDoorRows
import Derived.Test.YtihnnbeepfgphaaGreatDoorLexR5
import Derived.Test.YtihnnbeepfgphaaGreatDoorLawT
import Derived.WalkKit
namespace Go.Proofs.YtihnnbeepfgphaaGreatDoor.parseBinds
open Go.ChangeShapes Go.WideShapes Go.ChangeAt Go.RowKit
set_option linter.unusedVariables false
set_option linter.unusedSimpArgs false

/-! ### The walk. -/
theorem bind_text (s t : List UInt8) : preP ++ ((⟨#[120, 32]⟩ : ByteArray) ++ bs s ++ (⟨#[32, 121, 32]⟩ : ByteArray) ++ bs t ++ (⟨#[32, 122]⟩ : ByteArray)).data.toList ++ [59] = bindP s t := by
  simp [preP, bindP, bs]
set_option maxRecDepth 100000 in
set_option maxHeartbeats 2000000 in
theorem walk (w : World) (ht : ErrT w) (a : Int) (ha : I64 a) (b : Int) (hb : I64 b) : Calls Tryz.prog 5 #[.int .i64 a, .int .i64 b] w fun e w' => e = .returned (.bool true) ∧ Below w.heap.size w w' := by
  have HT := Lib.hid ht
  clear ht ha hb
  have hsay := bind_says a b
  have hsa := sign_mem a
  have hsb := sign_mem b
  obtain ⟨⟨S, k⟩, hx⟩ : ∃ x, signZ a = x := ⟨_, rfl⟩
  obtain ⟨⟨T, l⟩, hy⟩ : ∃ x, signZ b = x := ⟨_, rfl⟩
  rw [hx, hy] at hsay
  rw [hx] at hsa
  rw [hy] at hsb
  simp only at hsay hsa hsb
  have HX := Lib.hid hx
  have HY := Lib.hid hy
  clear hx hy
  by_cases hk : k = 0
  · subst hk
    clear hsay hsa hsb
    go_enter Tryz.func5, Tryz.ntmps5
    go_wp2_with (first
      | (go_at_call 10; ((with_reducible refine (psign_any a _).mono ?_); rw [HX.out]; rintro e w' ⟨rfl, rfl⟩))
      | (go_at_call 10; ((with_reducible refine (psign_any b _).mono ?_); rw [HY.out]; rintro e w' ⟨rfl, rfl⟩))
      | (go_at_call 12; refine (lawake_any _ (HT.out)).mono ?_; rintro e w9 ⟨rfl, hb9⟩))
    go_ret
    exact ⟨rfl, hb9⟩
  by_cases hl : l = 0
  · subst hl
    have hkb : ((k : Int) == 0) = false := by simp; omega
    clear hsay hsa hsb
    go_enter Tryz.func5, Tryz.ntmps5
    go_wp2_with (first
      | (go_at_call 10; ((with_reducible refine (psign_any a _).mono ?_); rw [HX.out]; rintro e w' ⟨rfl, rfl⟩))
      | (go_at_call 10; ((with_reducible refine (psign_any b _).mono ?_); rw [HY.out]; rintro e w' ⟨rfl, rfl⟩))
      | (go_at_call 12; refine (lawake_any _ (HT.out)).mono ?_; rintro e w9 ⟨rfl, hb9⟩))
    go_ret
    exact ⟨rfl, hb9⟩
  have hkb : ((k : Int) == 0) = false := by simp; omega
  have hlb : ((l : Int) == 0) = false := by simp; omega
  have hs1 : (bs S).size ≤ 2 := by rw [bs_size]; exact (hsa.resolve_left hk).2
  have hs2 : (bs T).size ≤ 2 := by rw [bs_size]; exact (hsb.resolve_left hl).2
  obtain ⟨op, n, p, tx, at_, u, v, hp, hf1, hf2⟩ := hsay hk hl
  rw [← bind_text] at hp
  obtain ⟨ku, ou, nu, pu, tu, au, ksu⟩ := u
  obtain ⟨kv, ov, nv, pv, tv, av, ksv⟩ := v
  have HP := Lib.hid hp
  clear hp hsay hsa hsb hk hl
  simp only [Tr.op, Tr.text] at hf1 hf2
  have hzz : ((bs [122]).toList == [122]) = true := by rw [bs_list2]; rfl
  have hxx : ((bs [120]).toList == [120]) = true := by rw [bs_list2]; rfl
  by_cases hle : l ≤ k
  · obtain ⟨rfl, rfl, rfl⟩ := hf1 hle
    have hle' : (l : Int) ≤ (k : Int) := by omega
    have HS := Lib.hid (show ((⟨#[120, 32]⟩ : ByteArray) ++ bs S ++ (⟨#[32, 121, 32]⟩ : ByteArray) ++ bs T ++ (⟨#[32, 122]⟩ : ByteArray)).size ≤ 1000 by rw [ByteArray.size_append, ByteArray.size_append, ByteArray.size_append, ByteArray.size_append]; have : (⟨#[120, 32]⟩ : ByteArray).size = 2 := rfl; have : (⟨#[32, 121, 32]⟩ : ByteArray).size = 3 := rfl; have : (⟨#[32, 122]⟩ : ByteArray).size = 2 := rfl; omega)
    clear hf1 hf2
    go_enter Tryz.func5, Tryz.ntmps5
    go_wp2_with (first
      | (go_at_call 10; ((with_reducible refine (psign_any ou _).mono ?_); rw [HX.out]; rintro e w' ⟨rfl, rfl⟩))
      | (go_at_call 10; ((with_reducible refine (psign_any op _).mono ?_); rw [HY.out]; rintro e w' ⟨rfl, rfl⟩))
      | (go_at_call 16; refine (expr_yes _ HS.out _ HT.out _ _ _ _ _ _ _ HP.out).mono ?_; rintro e w1 ⟨A, c, rfl, hb1, hr⟩; obtain ⟨A1', c1', e1, hk1⟩ := hr.openL; simp only [ndC, List.cons.injEq, Value.slice.injEq, and_true, true_and] at e1; obtain ⟨rfl, rfl⟩ := e1; obtain ⟨g, us1, rfl, hF1, hg1, hru1, hc1⟩ := hk1 0 _ rfl; obtain ⟨g', us2, e2, hF2, hg2, hru2, hc2⟩ := hk1 1 _ rfl; injection e2 with e2; injection e2 with e2; subst e2; obtain ⟨A2, c2, rfl, _⟩ := hru1.openL; obtain ⟨A3, c3, rfl, _⟩ := hru2.openL; have x1 := hc1 1 _ rfl; have x4 := hc1 4 _ rfl; have y1 := hc2 1 _ rfl; have y4 := hc2 4 _ rfl; have ng : ¬ g = w1.heap.size := (by omega); clear hr hk1 hru1 hru2 hc1 hc2 hF1 hF2 hg2))
    go_ret
    exact ⟨rfl, hb1.alloc hb1.size _⟩
  · obtain ⟨rfl, rfl, rfl⟩ := hf2 hle
    have hle' : ¬ (l : Int) ≤ (k : Int) := by omega
    have HS := Lib.hid (show ((⟨#[120, 32]⟩ : ByteArray) ++ bs S ++ (⟨#[32, 121, 32]⟩ : ByteArray) ++ bs T ++ (⟨#[32, 122]⟩ : ByteArray)).size ≤ 1000 by rw [ByteArray.size_append, ByteArray.size_append, ByteArray.size_append, ByteArray.size_append]; have : (⟨#[120, 32]⟩ : ByteArray).size = 2 := rfl; have : (⟨#[32, 121, 32]⟩ : ByteArray).size = 3 := rfl; have : (⟨#[32, 122]⟩ : ByteArray).size = 2 := rfl; omega)
    clear hf1 hf2
    go_enter Tryz.func5, Tryz.ntmps5
    go_wp2_with (first
      | (go_at_call 10; ((with_reducible refine (psign_any op _).mono ?_); rw [HX.out]; rintro e w' ⟨rfl, rfl⟩))
      | (go_at_call 10; ((with_reducible refine (psign_any ov _).mono ?_); rw [HY.out]; rintro e w' ⟨rfl, rfl⟩))
      | (go_at_call 16; refine (expr_yes _ HS.out _ HT.out _ _ _ _ _ _ _ HP.out).mono ?_; rintro e w1 ⟨A, c, rfl, hb1, hr⟩; obtain ⟨A1', c1', e1, hk1⟩ := hr.openL; simp only [ndC, List.cons.injEq, Value.slice.injEq, and_true, true_and] at e1; obtain ⟨rfl, rfl⟩ := e1; obtain ⟨g, us1, rfl, hF1, hg1, hru1, hc1⟩ := hk1 0 _ rfl; obtain ⟨g', us2, e2, hF2, hg2, hru2, hc2⟩ := hk1 1 _ rfl; injection e2 with e2; injection e2 with e2; subst e2; obtain ⟨A2, c2, rfl, _⟩ := hru1.openL; obtain ⟨A3, c3, rfl, _⟩ := hru2.openL; have x1 := hc1 1 _ rfl; have x4 := hc1 4 _ rfl; have y1 := hc2 1 _ rfl; have y4 := hc2 4 _ rfl; have ng : ¬ g = w1.heap.size := (by omega); clear hr hk1 hru1 hru2 hc1 hc2 hF1 hF2 hg2))
    go_ret
    exact ⟨rfl, hb1.alloc hb1.size _⟩

/-! ### The row's step. -/
set_option maxRecDepth 100000 in
theorem lifted (os : Os) (started : os.Started) (H : Type) (enc : TypeId × Value → H) :
    ReturnsInHanded {} Tryz.checked os 5 .any (fun w args => (Rows.parseBindsSpec.pre enc Tryz.prog Tryz.f5 Rows.parseBindsRow.domain false w args ∧ laidMet Tryz.prog Rows.parseBindsRow.laid w) ∧ sizedMet enc Tryz.prog Tryz.f5 (OpenSpec.ofChange Rows.parseBindsSpec) false w args)
      (Rows.parseBindsSpec.post enc Tryz.prog Tryz.f5 false true false false) := by
  refine returnsInHanded_of_change_and (C := Tryz.checked) (X := fun w _ => laidMet Tryz.prog Rows.parseBindsRow.laid w) (fun _ _ _ hh h => h.of_heap hh) own started (by kernel_rfl) Tryz.func5
    (ChangeSpec.witness_at (enc := enc) (C := Tryz.checked) (os := os) (X := fun w _ => laidMet Tryz.prog Rows.parseBindsRow.laid w) false (laidWorld os) #[.int .i64 0, .int .i64 0] 8 rfl (by kernel_rfl) (by kernel_rfl) (by kernel_rfl) (by kernel_rfl) (by kernel_rfl) (laidWorld_met os _)) ?_
  intro W base args ds gs before hval0 hW _ _ hL _
  have hval : ∀ (j : Nat) t v, Tryz.f5.params[j]? = some t → args[j]? = some v → Value.okWide Tryz.prog W .any base t v := hval0
  have hW' := hW
  obtain ⟨p, q, hA0, hV, rfl, _, _⟩ := hW
  have hA : DataW.TrodAll enc Tryz.prog W 0 (fun _ => true) true Tryz.f5.params.toList args.toList ds p := hA0
  rw [Tryz.params5] at hA hval
  obtain ⟨v0, vs0, d0, ds0, p0, q0, hargs, rfl, rfl, h0, r0⟩ := trodAll_cons hA
  obtain ⟨v1, vs1, d1, ds1, p1, q1, rfl, rfl, rfl, h1, r1⟩ := trodAll_cons r0
  obtain ⟨rfl, rfl, rfl⟩ := trodAll_nil r1
  obtain rfl : args = #[v0, v1] := by cases args; simp_all
  obtain ⟨rfl, rfl⟩ := trodVars_none hV
  obtain ⟨a0, rfl, rfl, rfl, w0⟩ := open_int Tryz.underlying3 (hval 0 3 v0 rfl rfl) h0
  have ha0 := i64_of w0
  obtain ⟨a1, rfl, rfl, rfl, w1⟩ := open_int Tryz.underlying3 (hval 1 3 v1 rfl rfl) h1
  have ha1 := i64_of w1
  refine (walk W (errT_of_laid hL) a0 ha0 a1 ha1).mono fun e W' ⟨he, hb⟩ => ?_
  subst he
  exact ⟨_, rfl, post_law laidOut (by rw [Tryz.params5]; intro t ht; simp at ht; (first | (rcases ht with rfl | rfl | rfl) | (rcases ht with rfl | rfl) | subst ht) <;> exact ⟨by kernel_rfl, of_decide_eq_true (by kernel_rfl)⟩) rfl rfl Tryz.underlying4 rfl hW' hb⟩

theorem over : Rows.parseBindsRow.holds Tryz.pinned (OpenSpec.ofChange Rows.parseBindsSpec) :=
  OpenClaim.holds_of_wide 5 Tryz.f5 rfl rfl rfl rfl rfl rfl rfl ⟨rfl, rfl, rfl, rfl, rfl⟩ rfl rfl rfl rfl rfl (by kernel_rfl) Tryz.func5 (by kernel_rfl)
    (of_decide_eq_true (by kernel_rfl)) (by unfold Func.isWrapper; first | (rw [if_pos (by decide +kernel)]; kernel_rfl) | (rw [if_neg (by decide +kernel)]; exact ⟨rfl, rfl⟩))
    (fun os started H enc _ => lifted os started H enc)

/-- The statement. -/
theorem proved : Rows.ParseBindsCardSaid :=
  Claim7.holds_tied_plain_at .later [] _ true _ true
    over (fun _ h => by cases h) (by kernel_rfl) (fun _ h => by cases h) parseBinds_row_tie rfl ⟨rfl, rfl⟩ (by kernel_rfl) rfl
    (fun f fn hf hfn => by
      obtain rfl : f = 5 := Option.some.inj ((show Tryz.prog.funcNamed "mortise/mortiselaw5.ParseBinds" = some 5 by kernel_rfl).symm.trans hf) |>.symm
      obtain rfl : fn = Tryz.f5 := (Option.some.inj (Tryz.func5.symm.trans hfn)).symm
      exact ⟨by kernel_rfl, fun j t ht => by
        have hm := Array.mem_of_getElem? ht
        rw [Tryz.params5] at hm
        simp at hm
        (first | (rcases hm with rfl | rfl | rfl) | (rcases hm with rfl | rfl) | subst hm) <;> exact (show Tryz.prog.wantsStandIn _ = false by kernel_rfl)⟩)
    (by kernel_rfl)
#print axioms proved
end Go.Proofs.YtihnnbeepfgphaaGreatDoor.parseBinds
