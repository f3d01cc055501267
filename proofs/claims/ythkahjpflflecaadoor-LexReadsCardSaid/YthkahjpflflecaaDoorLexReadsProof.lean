/-
  The tokens of any text are the document's, or the fault and its place; what was told can be spoilt; the library's variables start as their texts lay them.
-/
import Derived.Test.YthkahjpflflecaaDoorRows
import Derived.Test.YthkahjpflflecaaDoorLexR
import Derived.Test.YthkahjpflflecaaDoorLexRE
import Derived.Test.YthkahjpflflecaaDoorLexP
import Derived.WalkKit
namespace Go.Proofs.YthkahjpflflecaaDoor.lexReads
open Go.ChangeShapes Go.WideShapes Go.ChangeAt Go.RowKit
set_option linter.unusedVariables false

/-! ### The walk. -/
/-- Tokens told, in a block of their own. -/
theorem lex_own (s : ByteArray) (ts : List (Tk × Nat)) (w : World) (f : FuncId) (hf : Calls Tryd.prog f #[.string s] w (LexPost (lexD s.data.toList) w)) (hne : ts ≠ []) (h : lexD s.data.toList = (ts, 0, 0)) :
    Calls Tryd.prog f #[.string s] w fun e w' => ∃ g c cs, e = .returned (.tuple #[.slice (some ⟨g, 0, none⟩) ts.length c, .int .i64 0, .int .i64 0]) ∧ Below w.heap.size w w' ∧ ts.length ≤ c ∧ Toks w' g ts ∧ w.heap.size ≤ g ∧ Blk w' g 31 cs ∧ ts.length * 4 ≤ cs.size := by
  rw [h] at hf
  refine hf.mono ?_
  rintro e w1 ⟨A, c, rfl, hown, hB⟩
  have hown2 := hown
  obtain ⟨g, rfl, hgc, hgb, hgs, hfz, hcl⟩ := own_cells hown (List.length_pos_iff.2 hne)
  rcases hown2.2 with ⟨_, h0⟩ | ⟨g', cap, cur, hv, _, hg, hnc, _, hsz, _⟩
  · exact absurd (List.eq_nil_of_length_eq_zero h0) hne
  · injection hv with h1 h2 h3
    injection h1 with h1
    injection h1 with h1
    subst h1
    refine ⟨g, c, cur, rfl, hB, hgc, ⟨hgs, fun j x hx => ⟨hcl _ _ ?_, hcl _ _ ?_, hcl _ _ ?_, hcl _ _ ?_⟩⟩, hgb, hg, ?_⟩
    · exact flat4 ts j 0 x hx (by omega)
    · exact flat4 ts j 1 x hx (by omega)
    · exact flat4 ts j 2 x hx (by omega)
    · exact flat4 ts j 3 x hx (by omega)
    · show ts.length * 4 ≤ cur.size
      rw [hsz]
      exact Nat.mul_le_mul_right 4 hnc
theorem toks_set {w : World} {g : Nat} {ts : List (Tk × Nat)} (h : Toks w g ts) {p : Addr} (hp : p.block ≠ g) (v : Value) : Toks (w.setCell p v) g ts := by
  have hc : ∀ i, (w.setCell p v).cell? ⟨g, i, none⟩ = w.cell? ⟨g, i, none⟩ := fun i => World.cell?_setCell_other w p _ v (fun e => by subst e; exact hp rfl)
  refine ⟨by simpa using h.lt, fun j x hx => ?_⟩
  rw [hc, hc, hc, hc]
  exact h.cell j x hx
theorem four_at {B b i0 i1 i2 i3 : Nat} {w w1 : World} (h : Below B w w1) (hb : B ≤ b) (v0 v1 v2 v3 : Value) : Below B w ((((w1.setCell ⟨b, i0, none⟩ v0).setCell ⟨b, i1, none⟩ v1).setCell ⟨b, i2, none⟩ v2).setCell ⟨b, i3, none⟩ v3) :=
  (((h.setCell (p := ⟨b, i0, none⟩) hb _).setCell (p := ⟨b, i1, none⟩) hb _).setCell (p := ⟨b, i2, none⟩) hb _).setCell (p := ⟨b, i3, none⟩) hb _
set_option maxHeartbeats 1000000 in
theorem walk (w : World) (ht : ErrT w) (s : ByteArray) (hs : s.size ≤ maxLen) :
    Calls Tryd.prog 3 #[.string s] w fun e w' => e = .returned (.bool true) ∧ Below w.heap.size w w' := by
  have ht0 := Lib.hid ht
  rcases lexD_cases s.data.toList with ⟨ts, hd⟩ | ⟨p, n, hd, hp, hn⟩
  · obtain ⟨hc1, hc2, hc3⟩ := lexD_count hd
    have H1 := Lib.hid (fun w ht => lex_own s ts w _ (lex_any s w ht) hc2 hd)
    have H2 := Lib.hid (fun w => lex_own s ts w _ (rlex_any s w) hc2 hd)
    have hz : ts.length ≤ 8193 := by omega
    have z2 : (ts.length : Int) ≤ 8193 := by omega
    clear hd hc1 hc2 hc3 hs
    go_enter Tryd.func3, Tryd.ntmps3
    go_wp2_with (first
      | (go_at_call 9; ((with_reducible refine (H1.out _ ht0.out).mono ?_); rintro e w1 ⟨g, cg, gs, rfl, hb1, hcg, hT1, hg1, hk1, hgz⟩))
      | (go_at_call 10; ((with_reducible refine (H2.out _).mono ?_); rintro e w2 ⟨h, ch, hs, rfl, hb2, hch, hT2, hh1, hk2, hhz⟩))
      | (go_at_call 11; refine (same_any _ ts g h cg ch (hT1.below hb2) hT2 hcg hch hz).mono ?_; rintro e w3 ⟨rfl, hb3⟩)
      | (go_at_call 12; refine (num_any _ _).mono ?_; rintro e w' ⟨rfl, rfl⟩))
    have hgh : g ≠ h := by have := hT1.lt; omega
    have hB3 : Below w.heap.size w w3 := below_next (below_next hb1 hb2) hb3
    have hK3 : Blk w3 g 31 gs := (hk1.below hb2 hT1.lt).below hb3 (hT1.below hb2).lt
    have hT3 := hT2.below hb3
    clear hT1 hk1 hk2 hb1 hb2 hb3 hT2 hhz
    go_loopw [9] (fun i wr => ∃ (k : Nat) (cs : Array Value), k ≤ ts.length ∧ i = .int .i64 k ∧ Blk wr g 31 cs ∧ cs.size = gs.size ∧ Toks wr h ts ∧ Below w.heap.size w wr) (fun i _ => ts.length - (intOf i).toNat)
    case atStart => exact ⟨0, gs, Nat.zero_le _, rfl, hK3, rfl, hT3, hB3⟩
    case round =>
      obtain ⟨k, cs, hk, rfl, hK, hcz, hT, hB⟩ := hrel
      obtain ⟨wo, rfl⟩ : ∃ wo : World, wo = wr := ⟨_, rfl⟩
      have k0 : (0 : Int) ≤ (k : Int) := by omega
      by_cases hlt : k < ts.length
      · have k1 : (k : Int) < (ts.length : Int) := by omega
        obtain ⟨v0, e0⟩ : ∃ v, wo.cell? ⟨g, k * 4, none⟩ = some v := ⟨_, (hK.cell _).trans (Array.getElem?_eq_getElem (by omega))⟩
        obtain ⟨v1, e1⟩ : ∃ v, wo.cell? ⟨g, k * 4 + 1, none⟩ = some v := ⟨_, (hK.cell _).trans (Array.getElem?_eq_getElem (by omega))⟩
        obtain ⟨v2, e2⟩ : ∃ v, wo.cell? ⟨g, k * 4 + 2, none⟩ = some v := ⟨_, (hK.cell _).trans (Array.getElem?_eq_getElem (by omega))⟩
        obtain ⟨v3, e3⟩ : ∃ v, wo.cell? ⟨g, k * 4 + 3, none⟩ = some v := ⟨_, (hK.cell _).trans (Array.getElem?_eq_getElem (by omega))⟩
        have f0 := hK.frozen
        go_wp2
        go_roundw
        case rel => exact ⟨k + 1, _, by omega, by go_num, (((hK.set_ _ _).set_ _ _).set_ _ _).set_ _ _, by simp [hcz], toks_set (toks_set (toks_set (toks_set hT hgh _) hgh _) hgh _) hgh _, four_at hB hg1 _ _ _ _⟩
        case measure => simp [intOf]; omega
      · obtain rfl : k = ts.length := by omega
        have hno : ¬ ((ts.length : Int)) < (ts.length : Int) := by omega
        have ht4 := Lib.hid (ht0.out.below hB)
        clear hK3 hT3 hK hB3
        go_wp2_with (first
          | (go_at_call 9; ((with_reducible refine (H1.out _ ht4.out).mono ?_); rintro e w5 ⟨g5, c5, gs5, rfl, hb5, hcg5, hT5, _, _, _⟩))
          | (go_at_call 11; refine (same_any _ ts g5 h c5 ch hT5 (hT.below hb5) hcg5 hch hz).mono ?_; rintro e w6 ⟨rfl, hb6⟩; have hB6 := below_next (below_next hB hb5) hb6; have ht6 := Lib.hid (ht0.out.below hB6))
          | (go_at_call 13; refine (awake_any _ ht6.out).mono ?_; rintro e w7 ⟨rfl, hb7⟩))
        go_ret
        exact ⟨rfl, below_next hB6 hb7⟩
  · have H1 := Lib.hid (fun w ht => lex_err s p n w ht hd)
    have H2 := Lib.hid (fun w => by have := rlex_any s w; rw [hd] at this; exact this)
    clear hd hp hs
    rcases hn with rfl | rfl
    all_goals
      go_enter Tryd.func3, Tryd.ntmps3
      go_wp2_with (first
        | (go_at_call 9; ((with_reducible refine (H1.out _ ht0.out).mono ?_); rintro e w1 ⟨A1, c1, rfl, hb1⟩))
        | (go_at_call 10; ((with_reducible refine (H2.out _).mono ?_); rintro e w2 ⟨A2, c2, rfl, _, hb2⟩; have hB2 := below_next hb1 hb2; have ht2 := Lib.hid (ht0.out.below hB2)))
        | (go_at_call 11; refine (same_nil _ _ _ _ _).mono ?_; rintro e w' ⟨rfl, rfl⟩)
        | (go_at_call 12; refine (num_any _ _).mono ?_; rintro e w' ⟨rfl, rfl⟩))
      go_loop [9] (fun i => i = .int .i64 0) (fun _ => 0)
      case atStart => rfl
      case round =>
        subst hrel
        go_wp2_with (first
          | (go_at_call 9; ((with_reducible refine (H1.out _ ht2.out).mono ?_); rintro e w5 ⟨A5, c5, rfl, hb5⟩))
          | (go_at_call 11; refine (same_nil _ _ _ _ _).mono ?_; rintro e w' ⟨rfl, rfl⟩; have hB6 := below_next hB2 hb5; have ht6 := Lib.hid (ht0.out.below hB6))
          | (go_at_call 13; refine (awake_any _ ht6.out).mono ?_; rintro e w7 ⟨rfl, hb7⟩))
        go_ret
        exact ⟨rfl, below_next hB6 hb7⟩

/-! ### The row's step. -/
set_option maxRecDepth 100000 in
theorem lifted (os : Os) (started : os.Started) (H : Type) (enc : TypeId × Value → H) :
    ReturnsInHanded {} Tryd.checked os 3 .any (fun w args => (Rows.lexReadsSpec.pre enc Tryd.prog Tryd.f3 Rows.lexReadsRow.domain false w args ∧ laidMet Tryd.prog Rows.lexReadsRow.laid w) ∧ sizedMet enc Tryd.prog Tryd.f3 (OpenSpec.ofChange Rows.lexReadsSpec) false w args)
      (Rows.lexReadsSpec.post enc Tryd.prog Tryd.f3 false true false false) := by
  refine returnsInHanded_of_change_and (C := Tryd.checked) (X := fun w _ => laidMet Tryd.prog Rows.lexReadsRow.laid w) (fun _ _ _ hh h => h.of_heap hh) own started (by kernel_rfl) Tryd.func3
    (ChangeSpec.witness_at (enc := enc) (C := Tryd.checked) (os := os) (X := fun w _ => laidMet Tryd.prog Rows.lexReadsRow.laid w) false (laidWorld os) #[.string ⟨#[]⟩] 8 rfl (by kernel_rfl) (by kernel_rfl) (by kernel_rfl) (by kernel_rfl) (by kernel_rfl) (laidWorld_met os _)) ?_
  intro W base args ds gs before hval0 hW _ _ hL _
  have hval : ∀ (j : Nat) t v, Tryd.f3.params[j]? = some t → args[j]? = some v → Value.okWide Tryd.prog W .any base t v := hval0
  have hW' := hW
  obtain ⟨p, q, hA0, hV, rfl, _, _⟩ := hW
  have hA : DataW.TrodAll enc Tryd.prog W 0 (fun _ => true) true Tryd.f3.params.toList args.toList ds p := hA0
  rw [Tryd.params3] at hA hval
  obtain ⟨v0, vs0, d0, ds0, p0, q0, hargs, rfl, rfl, h0, r0⟩ := trodAll_cons hA
  obtain ⟨rfl, rfl, rfl⟩ := trodAll_nil r0
  obtain rfl : args = #[v0] := by cases args; simp_all
  obtain ⟨rfl, rfl⟩ := trodVars_none hV
  obtain ⟨s0, rfl, rfl, rfl, hs0⟩ := Go.ChangeMaps.open_string Tryd.underlying9 (hval 0 9 v0 rfl rfl) h0
  refine (walk W (errT_of_laid hL) s0 hs0).mono fun e W' ⟨he, hb⟩ => ?_
  subst he
  exact ⟨_, rfl, post_law laidOut (by rw [Tryd.params3]; intro t ht; simp at ht; (first | (rcases ht with rfl | rfl | rfl) | (rcases ht with rfl | rfl) | subst ht) <;> exact ⟨by kernel_rfl, of_decide_eq_true (by kernel_rfl)⟩) rfl rfl Tryd.underlying4 rfl hW' hb⟩

theorem over : Rows.lexReadsRow.holds Tryd.pinned (OpenSpec.ofChange Rows.lexReadsSpec) :=
  OpenClaim.holds_of_wide 3 Tryd.f3 rfl rfl rfl rfl rfl rfl rfl ⟨rfl, rfl, rfl, rfl, rfl⟩ rfl rfl rfl rfl rfl (by kernel_rfl) Tryd.func3 (by kernel_rfl)
    (of_decide_eq_true (by kernel_rfl)) (by unfold Func.isWrapper; first | (rw [if_pos (by decide +kernel)]; kernel_rfl) | (rw [if_neg (by decide +kernel)]; exact ⟨rfl, rfl⟩))
    (fun os started H enc _ => lifted os started H enc)

/-- The statement. -/
theorem proved : Rows.LexReadsCardSaid :=
  Claim7.holds_tied_plain_at .later [] _ true _ true
    over (fun _ h => by cases h) (by kernel_rfl) (fun _ h => by cases h) lexReads_row_tie rfl ⟨rfl, rfl⟩ (by kernel_rfl) rfl
    (fun f fn hf hfn => by
      obtain rfl : f = 3 := Option.some.inj ((show Tryd.prog.funcNamed "mortise/mortiselaw4.LexReads" = some 3 by kernel_rfl).symm.trans hf) |>.symm
      obtain rfl : fn = Tryd.f3 := (Option.some.inj (Tryd.func3.symm.trans hfn)).symm
      exact ⟨by kernel_rfl, fun j t ht => by
        have hm := Array.mem_of_getElem? ht
        rw [Tryd.params3] at hm
        simp at hm
        (first | (rcases hm with rfl | rfl | rfl) | (rcases hm with rfl | rfl) | subst hm) <;> exact (show Tryd.prog.wantsStandIn _ = false by kernel_rfl)⟩)
    (by kernel_rfl)
#print axioms proved
end Go.Proofs.YthkahjpflflecaaDoor.lexReads
