/-
  A reader's mark, its end, the sum of the bytes ahead: walks.
-/
import Derived.Test.YtnkojjkijkhlbaaRg
import Derived.Recover
namespace Go.Proofs.Ytnkojjkijkhlbaa
open Go.RowKit
set_option linter.unusedVariables false
set_option linter.unusedSimpArgs false

def wantR (T : ByteArray) : Rd Unit := fun bs => if bs.take T.size = sB T then some ((), bs.drop T.size) else none
def VNo (w w' : World) (x : Unit) (v : Value) : Prop := v = .tuple #[]
set_option maxRecDepth 100000 in
set_option maxHeartbeats 2000000 in
theorem want_any (T : ByteArray) (w : World) (lo g : Nat) (A : Option Addr) (c : Nat) (bs : List Int) (h : Rdr w lo g A c bs) (hT0 : 0 < T.size) :
    Calls Try.prog 32 #[.pointer (some ⟨g, 0, none⟩), .string T] w (RdP lo g (wantR T bs) VNo w) := by
  have hlT : (sB T).length = T.size := sB_len T
  by_cases hk : bs.length < T.size
  · have HT := Lib.hid (take_bad (T.size : Int) w lo g A c bs h (Or.inr (by omega)))
    have HO := Lib.hid (show wantR T bs = none by
      unfold wantR
      rw [if_neg (fun e => by have := congrArg List.length e; rw [hlT, List.length_take] at this; omega)])
    clear h hk hT0 hlT
    go_enter Try.func32, Try.ntmps32
    go_wp2_with (go_at_call 55; ((with_reducible refine HT.out.mono ?_); rintro e w2 ⟨rfl, rfl⟩))
    exact post_bad rfl ((RdP.bad HO.out).2 ⟨rfl, Gr.refl _⟩)
  · have hk2 : T.size ≤ bs.length := by omega
    have HT := Lib.hid (take_ok T.size w lo g A c bs h hk2)
    have hsl := h.sl.take_ T.size hk2
    have hlow : lo ≤ w.heap.size := by have := h.log; have := h.blk.lt; omega
    have hlk : (bs.take T.size).length = T.size := by rw [List.length_take]; omega
    have HLG := Lib.hid h.log
    have hcv0 := fun w2 (hg : Gr (fun x => x = g) w w2) => (show (convert 29 9 (.slice A T.size c)).run Try.prog w2 = .ok (.string (strOf (bs.take T.size))) w2 from by
      have := conv_any (hsl.keep1 hg HLG.out hlow) c
      rw [hlk] at this
      exact this)
    by_cases hm : bs.take T.size = sB T
    · have HO := Lib.hid (show wantR T bs = some ((), bs.drop T.size) by unfold wantR; rw [if_pos hm])
      rw [hm, strOf_sB] at hcv0
      have HCV := Lib.hid hcv0
      clear h hk hk2 hm hcv0 hsl hlow hlk hT0 hlT
      go_enter Try.func32, Try.ntmps32
      go_wp2_with (first | (go_at_call 35; ((with_reducible refine (refuse_any _).mono ?_); rintro e w3 ⟨rfl, rfl⟩)) | (go_at_call 55; ((with_reducible refine HT.out.mono ?_); rintro e w2 ⟨rfl, A2, c2, hr2, hg2⟩); have HR2 := Lib.hid hr2; have HG2 := Lib.hid hg2; have hcv := HCV.out _ hg2; clear hr2 hg2))
      refine bodyPost_end (results_none rfl _ _ _) rfl ?_
      exact (RdP.good HO.out).2 ⟨_, A2, c2, rfl, rfl, HR2.out, HG2.out⟩
    · have HO := Lib.hid (show wantR T bs = none by unfold wantR; rw [if_neg hm])
      have hst : strOf (bs.take T.size) ≠ T := fun e => hm (by
        have h1 := sB_strOf hsl.1
        rw [e] at h1
        exact h1.symm)
      obtain ⟨st, hs⟩ : ∃ st, strOf (bs.take T.size) = st := ⟨_, rfl⟩
      rw [hs] at hst
      have hcv1 := fun w2 (hg : Gr (fun x => x = g) w w2) => (hcv0 w2 hg).trans (by rw [hs])
      have HCV := Lib.hid hcv1
      have e1 : (st.toList == T.toList) = false := by simpa [toList_inj] using hst
      clear h hk hk2 hm hcv0 hcv1 hsl hlow hlk hs hT0 hlT hst
      go_enter Try.func32, Try.ntmps32
      go_wp2_with (first | (go_at_call 35; ((with_reducible refine (refuse_any _).mono ?_); rintro e w3 ⟨rfl, rfl⟩)) | (go_at_call 55; ((with_reducible refine HT.out.mono ?_); rintro e w2 ⟨rfl, A2, c2, hr2, hg2⟩); have HR2 := Lib.hid hr2; have HG2 := Lib.hid hg2; have hcv := HCV.out _ hg2; clear hr2 hg2))
      exact post_bad rfl ((RdP.bad HO.out).2 ⟨rfl, HG2.out⟩)
set_option maxRecDepth 100000 in
set_option maxHeartbeats 2000000 in
theorem end_any (w : World) (g : Nat) (A : Option Addr) (c n : Nat) (hk : Blk w g 69 #[.slice A n c]) (hn : n ≤ 262144) :
    Calls Try.prog 34 #[.pointer (some ⟨g, 0, none⟩)] w fun e w' => w = w' ∧ e = if n = 0 then .returned (.tuple #[]) else (Ending.panicked [{ v := .iface 30 (.int .i64 4), recovered := false }]) := by
  have b0 := hk.cell 0
  have bl := hk.lt
  have n1 : (n : Int) ≤ 262144 := by omega
  clear hk hn
  by_cases hl : n = 0
  · rw [if_pos hl]
    rw [hl] at b0
    clear hl n1
    go_enter Try.func34, Try.ntmps34
    go_wp2_with (go_at_call 35; ((with_reducible refine (refuse_any _).mono ?_); rintro e w3 ⟨rfl, rfl⟩))
    refine bodyPost_end (results_none rfl _ _ _) rfl ?_
    exact ⟨rfl, rfl⟩
  · rw [if_neg hl]
    have n0 : (0 : Int) < (n : Int) := by omega
    clear hl
    go_enter Try.func34, Try.ntmps34
    go_wp2_with (go_at_call 35; ((with_reducible refine (refuse_any _).mono ?_); rintro e w3 ⟨rfl, rfl⟩))
    exact post_bad rfl ⟨rfl, rfl⟩
/-- The bytes ahead of their sum. -/
def unsP (l : List Int) : Option (List Int) := if l.length < 8 then none else if word8 (l.drop (l.length - 8)) = sumP (l.take (l.length - 8)) then some (l.take (l.length - 8)) else none
def UnsP (A : Option Addr) (c : Nat) (o : Option (List Int)) (w : World) (e : Ending) (w' : World) : Prop :=
  Below w.heap.size w w' ∧ e = match o with
    | none => (Ending.panicked [{ v := .iface 30 (.int .i64 4), recovered := false }])
    | some a => .returned (.slice A a.length c)
theorem Gr.belowG {w w1 w2 : World} {g : Nat} (hb : Below w.heap.size w w1) (hg : Gr (fun x => x = g) w1 w2) (h : g = w.heap.size) : Below w.heap.size w w2 :=
  hb.trans ⟨hg.os, hg.tape, hg.output, hg.size, fun k hk => hg.block k (by have := hb.size; omega) (by intro e; have e : k = g := e; omega)⟩
set_option maxRecDepth 100000 in
set_option maxHeartbeats 2000000 in
theorem uns_any (w : World) (B : Nat) (A : Option Addr) (c : Nat) (l : List Int) (hs : SlB w B A l) (hB : B ≤ w.heap.size) (hc : l.length ≤ c) (hA : A = none → c = 0) (hl : l.length ≤ 262144) :
    Calls Try.prog 31 #[.slice A l.length c] w (UnsP A c (unsP l) w) := by
  have hb0 : Below w.heap.size w (w.alloc (.cells #[.slice A l.length c] 69)) := (Below.refl _ w).alloc (Nat.le_refl _) _
  have h0 : Rdr (w.alloc (.cells #[.slice A l.length c] 69)) B w.heap.size A c l := ⟨Blk.new _ _ _, ⟨hs.1, hs.2.below (hb0.mono hB)⟩, hc, hA, hl, hB⟩
  have HB0 := Lib.hid hb0
  by_cases h8 : l.length < 8
  · have HO := Lib.hid (show unsP l = none by unfold unsP; rw [if_pos h8])
    have e8 : IntKind.i64.wrap ((l.length : Int) - 8) = (l.length : Int) - 8 := IntWalk.i64_in _ (by omega)
    have HT := Lib.hid (take_bad ((l.length : Int) - 8) _ B w.heap.size A c l h0 (Or.inl (by omega)))
    clear hs hb0 h0 hB hc hA hl h8
    go_enter Try.func31, Try.ntmps31
    go_wp2_with (go_at_call 55; ((with_reducible refine HT.out.mono ?_); rintro e w2 ⟨rfl, rfl⟩))
    refine post_bad rfl ?_
    rw [HO.out]
    exact ⟨HB0.out, rfl⟩
  · obtain ⟨k, hk⟩ : ∃ k, l.length - 8 = k := ⟨_, rfl⟩
    have hk2 : k ≤ l.length := by omega
    have e8 : IntKind.i64.wrap ((l.length : Int) - 8) = (k : Int) := by rw [← hk]; rw [IntWalk.i64_in _ (by omega)]; omega
    have HT := Lib.hid (take_ok k _ B w.heap.size A c l h0 hk2)
    have hlt : (l.take k).length = k := by rw [List.length_take]; omega
    have hld : (l.drop k).length = 8 := by rw [List.length_drop]; omega
    have HSM := Lib.hid (fun w2 (hb : Below w.heap.size w w2) => (show Calls Try.prog 16 #[.slice A k c] w2 (fun e w' => e = .returned (.int .i64 (sumP (l.take k))) ∧ w2 = w') from by
      have h1 := sum_any w2 B A c (l.take k) (SlB.take_ ⟨hs.1, hs.2.below (hb.mono hB)⟩ k hk2) (by omega)
      rw [hlt] at h1
      exact h1))
    have HWR := Lib.hid (show wordR (l.drop k) = some (word8 (l.drop k), []) by
      unfold wordR
      rw [if_neg (by omega), List.take_of_length_le (l := l.drop k) (by omega), List.drop_of_length_le (l := l.drop k) (i := 8) (by omega)])
    have HU : unsP l = if word8 (l.drop k) = sumP (l.take k) then some (l.take k) else none := by unfold unsP; rw [if_neg h8, hk]
    have HLT := Lib.hid hlt
    obtain ⟨x, hx⟩ : ∃ x, word8 (l.drop k) = x := ⟨_, rfl⟩
    obtain ⟨y, hy⟩ : ∃ y, sumP (l.take k) = y := ⟨_, rfl⟩
    rw [hx] at HWR HU
    rw [hy] at HSM HU
    have HSZ := Lib.hid (show w.heap.size ≤ w.heap.size from Nat.le_refl _)
    clear hs hb0 h0 hB hc hA hl h8 hk hk2 hld hlt hx hy
    by_cases hxy : x = y
    · subst hxy
      rw [if_pos rfl] at HU
      have HU2 := Lib.hid HU
      clear HU
      go_enter Try.func31, Try.ntmps31
      go_wp2_with (first
        | (go_at_call 35; ((with_reducible refine (refuse_any _).mono ?_); rintro e w3 ⟨rfl, rfl⟩))
        | (go_at_call 16; ((with_reducible refine (HSM.out _ HB2.out).mono ?_); rintro e w3 ⟨rfl, rfl⟩))
        | (go_at_call 56; ((with_reducible refine (rword_any _ B w.heap.size A1 c1 _ HR1.out).mono ?_); rintro e w2 h2); obtain ⟨v, A2, c2, rfl, ⟨rfl, hx0⟩, hr2, hg2⟩ := (RdP.good HWR.out).1 h2; have HB2 := Lib.hid (Gr.belowG HB1.out hg2 rfl); clear h2 hr2 hg2 hx0)
        | (go_at_call 55; ((with_reducible refine HT.out.mono ?_); rintro e w1 ⟨rfl, A1, c1, hr1, hg1⟩); have HR1 := Lib.hid hr1; have HB1 := Lib.hid (Gr.belowG HB0.out hg1 rfl); clear hr1 hg1))
      go_ret
      exact ⟨HB2.out, by rw [HU2.out]; show _ = Ending.returned (.slice A (l.take k).length c); rw [HLT.out]; rfl⟩
    · rw [if_neg hxy] at HU
      have HU2 := Lib.hid HU
      clear HU
      go_enter Try.func31, Try.ntmps31
      go_wp2_with (first
        | (go_at_call 35; ((with_reducible refine (refuse_any _).mono ?_); rintro e w3 ⟨rfl, rfl⟩))
        | (go_at_call 16; ((with_reducible refine (HSM.out _ HB2.out).mono ?_); rintro e w3 ⟨rfl, rfl⟩))
        | (go_at_call 56; ((with_reducible refine (rword_any _ B w.heap.size A1 c1 _ HR1.out).mono ?_); rintro e w2 h2); obtain ⟨v, A2, c2, rfl, ⟨rfl, hx0⟩, hr2, hg2⟩ := (RdP.good HWR.out).1 h2; have HB2 := Lib.hid (Gr.belowG HB1.out hg2 rfl); clear h2 hr2 hg2 hx0)
        | (go_at_call 55; ((with_reducible refine HT.out.mono ?_); rintro e w1 ⟨rfl, A1, c1, hr1, hg1⟩); have HR1 := Lib.hid hr1; have HB1 := Lib.hid (Gr.belowG HB0.out hg1 rfl); clear hr1 hg1))
      refine post_bad rfl ?_
      rw [HU2.out]
      exact ⟨HB2.out, rfl⟩
end Go.Proofs.Ytnkojjkijkhlbaa

namespace Go.Proofs.Ytnkojjkijkhlbaa
open Go.RowKit
set_option linter.unusedVariables false
set_option linter.unusedSimpArgs false

theorem catch_idle (p q : Addr) (w : World) :
    CallsD Try.prog 30 #[.pointer (some p), .pointer (some q)] .returning w fun e u' w' => e = .returned (.tuple #[]) ∧ u' = .returning ∧ w' = w := by
  refine callsD_of_wpS Try.func30 rfl fun c₀ cs hu => ?_
  apply wpS_seq
  apply wpS_region
  simp [wpOpsS, go_sem, recoverD, hu, Try.ntmps30, Exit.thenS]
  apply wpS_seq
  apply wpS_region
  simp [wpOpsS, go_sem, Exit.thenS]
  refine wpS_cond (t := false) (by simp [Act.eval, Array.replicate]) ?_
  simp only [Bool.false_eq_true, if_false]
  refine wpS_of_wp (wp_skip ?_)
  cases c₀
  simp_all [bodyPostS, results, Try.results30]
theorem op_put {P : Program} {o : Oper} {a : Act} {w w' : World} {K : Act → World → Prop} {Q : Exit → Act → World → Prop} (h : (execOp a.eval o).run P w = .ok .skip w') (hk : K (a.put none undef) w') (hd : o.dst = none) : o.wp P a w K Q := by
  unfold Oper.wp
  rw [h]
  rw [← hd] at hk
  exact hk
theorem assert_errno (v : Value) (w : World) : (Instr.typeAssert (.iface 30 v) 20 30 false).run Try.prog w = .ok v w := by
  have h : Try.prog.underlying 30 = _ := Try.underlying30
  simp [Instr.typeAssert, run_underlying h]
theorem Blk.four {w : World} {b : Nat} {t : TypeId} {x0 x1 x2 x3 : Value} (h : Blk w b t #[x0, x1, x2, x3]) (a0 a1 a2 a3 : Value) : Blk ((((w.setCell ⟨b, 0, none⟩ a0).setCell ⟨b, 1, none⟩ a1).setCell ⟨b, 2, none⟩ a2).setCell ⟨b, 3, none⟩ a3) b t #[a0, a1, a2, a3] := by
  simpa using (((h.set_ 0 a0).set_ 1 a1).set_ 2 a2).set_ 3 a3
def Z4u : Array Value := #[.string ⟨#[]⟩, .slice none 0 0, .slice none 0 0, .slice none 0 0]
/-- Where the catching function stands, once it has taken up what was given up with. -/
def CatchP (b2 b3 : Nat) (w : World) (e : Ending) (u' : FrameMode) (w' : World) : Prop :=
  e = .returned (.tuple #[]) ∧ u' = .panicking [{ v := .iface 30 (.int .i64 4), recovered := true }] ∧
        Blk w' b2 26 Z4u ∧ Blk w' b3 30 #[.int .i64 4] ∧ ∀ B, B ≤ b2 → B ≤ b3 → B ≤ w.heap.size → Below B w w'
set_option maxRecDepth 100000 in
set_option maxHeartbeats 2000000 in
theorem catch_fault (b2 b3 : Nat) (u1 : Int) (x0 x1 x2 x3 : Value) (w : World)
    (h2 : Blk w b2 26 #[x0, x1, x2, x3]) (h3 : Blk w b3 30 #[.int .i64 u1]) :
    CallsD Try.prog 30 #[.pointer (some ⟨b2, 0, none⟩), .pointer (some ⟨b3, 0, none⟩)]
      (.panicking [{ v := .iface 30 (.int .i64 4), recovered := false }]) w (CatchP b2 b3 w) := by
  refine callsD_of_wpS Try.func30 rfl fun c₀ cs hu => ?_
  apply wpS_seq
  apply wpS_region
  simp [wpOpsS, go_sem, recoverD, hu, Try.ntmps30, Exit.thenS]
  refine wpS_of_wp ?_
  have hta := fun w => assert_errno (.int .i64 4) w
  change Code.wp _ _ _ { tmps := #[.pointer (some ⟨b2, 0, none⟩), .pointer (some ⟨b3, 0, none⟩), .iface 30 (.int .i64 4), .iface 30 (.int .i64 4), undef, undef, undef, undef, undef], defers := [] } _
  go_wp2
  refine wp_region_held_drew (S := fun W => Blk W b2 26 #[x0, x1, x2, x3] ∨ Blk W b2 26 Z4u) (by kernel_rfl) (.inl h2.drew) (fun hS0 => ?_)
  refine wpAnyH_take (i := 0) (v := .agg Z4u) rfl (by kernel_rfl) (by kernel_rfl) (by kernel_rfl) (fun _ _ _ h => h) (Or.inl ⟨rfl, fun w' hS => by (unfold execOp; go_simp; try rfl)⟩) hS0 ?_
  simp only [Act.put, List.getElem_toArray, List.getElem_cons_zero, List.getElem_cons_succ, List.setIfInBounds_toArray, List.set_cons_zero, List.set_cons_succ]
  refine wpAnyH_take (i := 1) (v := .iface 30 (.int .i64 4)) rfl (by kernel_rfl) (by kernel_rfl) (by kernel_rfl) (fun _ _ _ h => h) (Or.inl ⟨rfl, fun w' hS => by (unfold execOp; go_simp)⟩) hS0 ?_
  simp only [Act.put, List.getElem_toArray, List.getElem_cons_zero, List.getElem_cons_succ, List.setIfInBounds_toArray, List.set_cons_zero, List.set_cons_succ]
  refine wpAnyH_take (i := 2) (v := .int .i64 4) rfl (by kernel_rfl) (by kernel_rfl) (by kernel_rfl) (fun _ _ _ h => h) (Or.inl ⟨rfl, fun w' hS => by (unfold execOp; go_simp)⟩) hS0 ?_
  simp only [Act.put, List.getElem_toArray, List.getElem_cons_zero, List.getElem_cons_succ, List.setIfInBounds_toArray, List.set_cons_zero, List.set_cons_succ]
  have q0 : w.drew.cell? ⟨b2, 0, none⟩ = some x0 := h2.drew.cell 0
  have q1 : w.drew.cell? ⟨b2, 1, none⟩ = some x1 := h2.drew.cell 1
  have q2 : w.drew.cell? ⟨b2, 2, none⟩ = some x2 := h2.drew.cell 2
  have q3 : w.drew.cell? ⟨b2, 3, none⟩ = some x3 := h2.drew.cell 3
  have qf : ∀ j, w.drew.frozen? ⟨b2, j, none⟩ = false := fun j => h2.drew.frozen j
  have h2' : Blk w.drew b2 26 #[x0, x1, x2, x3] := h2.drew
  have h3' : Blk w.drew b3 30 #[.int .i64 u1] := h3.drew
  have hWB : ∀ B, B ≤ w.heap.size → Below B w w.drew := fun B hB => (Below.refl _ w).drew
  generalize w.drew = W at *
  have n23 : b2 ≠ b3 := h2.ne_ h3 (by decide)
  refine wpAnyH_one (i := 3) (by kernel_rfl) rfl rfl (op_put (w' := (((W.setCell ⟨b2, 0, none⟩ (.string ⟨#[]⟩)).setCell ⟨b2, 1, none⟩ (.slice none 0 0)).setCell ⟨b2, 2, none⟩ (.slice none 0 0)).setCell ⟨b2, 3, none⟩ (.slice none 0 0)) (by unfold execOp; unfold Z4u; go_simp) (And.intro (.inr ?_) ?_) rfl)
  · exact h2'.four _ _ _ _
  have k2 : Blk ((((W.setCell ⟨b2, 0, none⟩ (.string ⟨#[]⟩)).setCell ⟨b2, 1, none⟩ (.slice none 0 0)).setCell ⟨b2, 2, none⟩ (.slice none 0 0)).setCell ⟨b2, 3, none⟩ (.slice none 0 0)) b2 26 Z4u := h2'.four _ _ _ _
  have k3 := Blk.far (Blk.far (Blk.far (Blk.far h3' (p := ⟨b2, 0, none⟩) n23.symm (.string ⟨#[]⟩)) (p := ⟨b2, 1, none⟩) n23.symm (.slice none 0 0)) (p := ⟨b2, 2, none⟩) n23.symm (.slice none 0 0)) (p := ⟨b2, 3, none⟩) n23.symm (.slice none 0 0)
  have kB : ∀ B, B ≤ b2 → B ≤ w.heap.size → Below B w ((((W.setCell ⟨b2, 0, none⟩ (.string ⟨#[]⟩)).setCell ⟨b2, 1, none⟩ (.slice none 0 0)).setCell ⟨b2, 2, none⟩ (.slice none 0 0)).setCell ⟨b2, 3, none⟩ (.slice none 0 0)) := fun B hb hw => (((((hWB B hw).setCell hb _).setCell hb _).setCell hb _).setCell hb _)
  generalize ((((W.setCell ⟨b2, 0, none⟩ (.string ⟨#[]⟩)).setCell ⟨b2, 1, none⟩ (.slice none 0 0)).setCell ⟨b2, 2, none⟩ (.slice none 0 0)).setCell ⟨b2, 3, none⟩ (.slice none 0 0)) = W5 at *
  simp only [Act.put, List.getElem_toArray, List.getElem_cons_zero, List.getElem_cons_succ, List.setIfInBounds_toArray, List.set_cons_zero, List.set_cons_succ]
  have r3 := k3.cell 0
  have f3 := k3.frozen 0
  refine wpAnyH_one (i := 4) (by kernel_rfl) rfl rfl (op_put (w' := W5.setCell ⟨b3, 0, none⟩ (.int .i64 4)) (by unfold execOp; go_simp) (And.intro (.inr (Blk.far k2 n23 _)) ?_) rfl)
  simp only [Act.put, List.getElem_toArray, List.getElem_cons_zero, List.getElem_cons_succ, List.setIfInBounds_toArray, List.set_cons_zero, List.set_cons_succ]
  refine wpAnyH_done (by kernel_rfl) ?_ _
  refine ⟨rfl, _, rfl, .tuple #[], results_none Try.results30 _ _ _, rfl, rfl, ?_, ?_, fun B hb2 hb3 hw => (kB B hb2 hw).setCell hb3 _⟩
  · exact Blk.far k2 n23 _
  · exact k3.set_ 0 (.int .i64 4)
set_option maxRecDepth 100000 in
set_option maxHeartbeats 2000000 in
/-- The two results, read. -/
theorem res_dec (tmps : Array Value) (w : World) (b2 b3 : Nat) (x0 x1 x2 x3 v3 : Value) (t2 : tmps.getD 2 undef = .pointer (some ⟨b2, 0, none⟩)) (t3 : tmps.getD 3 undef = .pointer (some ⟨b3, 0, none⟩))
    (h2 : Blk w b2 26 #[x0, x1, x2, x3]) (h3 : Blk w b3 30 #[v3]) :
    (results Try.f18 tmps).run Try.prog w = .ok (.tuple #[.agg #[x0, x1, x2, x3], v3]) w := by
  have q0 := h2.cell 0
  have q1 := h2.cell 1
  have q2 := h2.cell 2
  have q3 := h2.cell 3
  have q7 := h3.cell 0
  rw [Array.getD_eq_getD_getElem?] at t2 t3
  simp [results, Try.results18, t2, t3, go_sem, q0, q1, q2, q3, q7]
/-- The body gives up: the catching function tells it. -/
theorem leave_gave {R : Ending → World → Prop} (tmps : Array Value) (b2 b3 : Nat) (u1 : Int) (x0 x1 x2 x3 : Value) (w : World) (B : Nat) (t2 : tmps.getD 2 undef = .pointer (some ⟨b2, 0, none⟩)) (t3 : tmps.getD 3 undef = .pointer (some ⟨b3, 0, none⟩))
    (h2 : Blk w b2 26 #[x0, x1, x2, x3]) (h3 : Blk w b3 30 #[.int .i64 u1]) (e2 : B ≤ b2) (e3 : B ≤ b3)
    (hR : ∀ w', Below B w w' → R (.returned (.tuple #[.agg Z4u, .int .i64 4])) w') :
    Leaves Try.prog Try.f18 tmps R [{ target := .fn (Fn.func 30) #[.pointer (some ⟨b2, 0, none⟩), .pointer (some ⟨b3, 0, none⟩)], args := #[] }] (.panicking [{ v := .iface 30 (.int .i64 4), recovered := false }]) w := by
  refine leaves_cons (f := 30) (args := #[.pointer (some ⟨b2, 0, none⟩), .pointer (some ⟨b3, 0, none⟩)]) (by simp) (by simp [go_sem]) ?_
  refine (catch_fault b2 b3 u1 x0 x1 x2 x3 w h2 h3).mono ?_
  rintro e u' w' ⟨rfl, rfl, k2, k3, hb⟩
  refine ⟨_, ?_, hR w' (hb B e2 e3 (Nat.le_trans e2 (Nat.le_of_lt h2.lt)))⟩
  exact res_dec tmps w' b2 b3 _ _ _ _ _ t2 t3 k2 k3
/-- The body comes to its end. -/
theorem leave_back {R : Ending → World → Prop} (tmps : Array Value) (b2 b3 : Nat) (x0 x1 x2 x3 v3 : Value) (w : World) (t2 : tmps.getD 2 undef = .pointer (some ⟨b2, 0, none⟩)) (t3 : tmps.getD 3 undef = .pointer (some ⟨b3, 0, none⟩))
    (h2 : Blk w b2 26 #[x0, x1, x2, x3]) (h3 : Blk w b3 30 #[v3])
    (hR : R (.returned (.tuple #[.agg #[x0, x1, x2, x3], v3])) w) :
    Leaves Try.prog Try.f18 tmps R [{ target := .fn (Fn.func 30) #[.pointer (some ⟨b2, 0, none⟩), .pointer (some ⟨b3, 0, none⟩)], args := #[] }] .returning w := by
  refine leaves_cons (f := 30) (args := #[.pointer (some ⟨b2, 0, none⟩), .pointer (some ⟨b3, 0, none⟩)]) (by simp) (by simp [go_sem]) ?_
  refine (catch_idle ⟨b2, 0, none⟩ ⟨b3, 0, none⟩ w).mono ?_
  rintro e u' w' ⟨rfl, rfl, rfl⟩
  exact ⟨_, res_dec tmps w' b2 b3 _ _ _ _ _ t2 t3 h2 h3, hR⟩
end Go.Proofs.Ytnkojjkijkhlbaa

namespace Go.Proofs.Ytnkojjkijkhlbaa
open Go.RowKit
set_option linter.unusedVariables false
set_option linter.unusedSimpArgs false

theorem encS8_len (s : ByteArray) : (encS8 s).length = 8 + s.size := by unfold encS8; rw [List.length_append, le8_len, sB_len]
theorem encLn_len {α : Type} (enc : α → List Int) (l : List α) : (encLn enc l).length = 8 + (encL enc l).length := by unfold encLn; rw [List.length_append, le8_len]
theorem encL_mem {α : Type} (enc : α → List Int) : ∀ (l : List α) (a : α), a ∈ l → (enc a).length ≤ (encL enc l).length
  | [], a, h => by cases h
  | b :: r, a, h => by
    have e : encL enc (b :: r) = enc b ++ encL enc r := rfl
    rw [e, List.length_append]
    rcases List.mem_cons.1 h with rfl | h
    · omega
    · have := encL_mem enc r a h; omega
theorem encL_sum {α : Type} (enc : α → List Int) (m : α → Nat) : ∀ l : List α, (∀ a ∈ l, m a + 1 ≤ (enc a).length) → l.length + sumL m l ≤ (encL enc l).length
  | [], _ => by simp [sumL]
  | b :: r, h => by
    have e : encL enc (b :: r) = enc b ++ encL enc r := rfl
    have h1 := h b (by simp)
    have h2 := encL_sum enc m r (fun a ha => h a (by simp [ha]))
    rw [e, List.length_append]
    simp only [sumL, List.length_cons]
    omega
mutual
theorem szT : ∀ t : Ty, t.count ≤ (encT t).length ∧ t.mx ≤ (encT t).length
  | .mk k p n la lr => by
    have h1 := szTs la
    have h2 := szTs lr
    rw [encT_mk, count_mk, mx_mk]
    simp only [List.length_append, le8_len, encS8_len, encLn_len]
    omega
theorem szTs : ∀ l : List Ty, countL l ≤ (encL encT l).length ∧ mxL l ≤ (encL encT l).length
  | [] => by simp [countL, mxL]
  | t :: r => by
    have h1 := szT t
    have h2 := szTs r
    have e : encL encT (t :: r) = encT t ++ encL encT r := rfl
    rw [e, mxL_cons, List.length_append]
    simp only [countL]
    omega
end
mutual
theorem szE (B : Nat) : ∀ t : Ex, (encE t).length ≤ B → t.cnt + 1 ≤ (encE t).length ∧ t.ok B
  | .mk op n s kids => fun h => by
    rw [encE_mk] at h ⊢
    simp only [List.length_append, le8_len, encS8_len, encLn_len] at h ⊢
    have h1 := szEs B kids (by omega)
    simp only [Ex.cnt, Ex.ok]
    exact ⟨by omega, by omega, by omega, h1.2.2⟩
theorem szEs (B : Nat) : ∀ l : List Ex, (encL encE l).length ≤ B → cntEs l ≤ (encL encE l).length ∧ l.length ≤ (encL encE l).length ∧ okEs B l
  | [], _ => by simp [cntEs, okEs]
  | t :: r, h => by
    have e : encL encE (t :: r) = encE t ++ encL encE r := rfl
    rw [e, List.length_append] at h ⊢
    have h1 := szE B t (by omega)
    have h2 := szEs B r (by omega)
    simp only [cntEs, okEs, List.length_cons]
    exact ⟨by omega, by omega, h1.2, h2.2.2⟩
end
mutual
theorem szS (B : Nat) : ∀ t : St, (encS t).length ≤ B → t.cnt + 1 ≤ (encS t).length ∧ t.ok B
  | .mk op n es bo el => fun h => by
    rw [encS_mk] at h ⊢
    simp only [List.length_append, le8_len, encLn_len] at h ⊢
    have h1 := szEs B es (by omega)
    have h2 := szSs B bo (by omega)
    have h3 := szSs B el (by omega)
    simp only [St.cnt, St.ok]
    exact ⟨by omega, ⟨by omega, h1.2.2⟩, ⟨by omega, h2.2.2⟩, ⟨by omega, h3.2.2⟩⟩
theorem szSs (B : Nat) : ∀ l : List St, (encL encS l).length ≤ B → cntSs l ≤ (encL encS l).length ∧ l.length ≤ (encL encS l).length ∧ okSs B l
  | [], _ => by simp [cntSs, okSs]
  | t :: r, h => by
    have e : encL encS (t :: r) = encS t ++ encL encS r := rfl
    rw [e, List.length_append] at h ⊢
    have h1 := szS B t (by omega)
    have h2 := szSs B r (by omega)
    simp only [cntSs, okSs, List.length_cons]
    exact ⟨by omega, by omega, h1.2, h2.2.2⟩
end
theorem szIm (B : Nat) (a : Im) (h : (encIm a).length ≤ B) : 1 ≤ (encIm a).length ∧ a.ok B := by
  rw [encIm_mk] at h ⊢
  simp only [List.length_append, le8_len, encS8_len] at h ⊢
  exact ⟨by omega, by unfold Im.ok; omega⟩
theorem szFi (B : Nat) (a : Fi) (h : (encF a).length ≤ B) : a.ty.count + 1 ≤ (encF a).length ∧ a.ok B := by
  rw [encF_mk] at h ⊢
  simp only [List.length_append, le8_len, encS8_len] at h ⊢
  have := szT a.ty
  exact ⟨by omega, by omega, by omega⟩
theorem szDl (B : Nat) (d : Dl) (h : (encD d).length ≤ B) : d.cnt + 1 ≤ (encD d).length ∧ d.ok B := by
  rw [encD_mk] at h ⊢
  simp only [List.length_append, le8_len, encS8_len, encLn_len] at h ⊢
  have h1 := szT d.ty
  have h2 := encL_sum encF (fun f => f.ty.count) d.fields (fun a ha => (szFi B a (Nat.le_trans (encL_mem encF _ a ha) (by omega))).1)
  unfold Dl.cnt
  exact ⟨by omega, by omega, by omega, by omega, by omega, fun f hf => (szFi B f (Nat.le_trans (encL_mem encF _ f hf) (by omega))).2⟩
theorem szFn (B : Nat) (f : Fn8) (h : (encFn f).length ≤ B) : cntSs f.body + 1 ≤ (encFn f).length ∧ f.ok B := by
  rw [encFn_mk] at h ⊢
  simp only [List.length_append, le8_len, encS8_len, encLn_len] at h ⊢
  have h1 := szSs B f.body (by omega)
  exact ⟨by omega, by omega, by omega, (okSs_iff _).1 h1.2.2⟩
theorem szU (B : Nat) (u : Un) (h : (encU u).length ≤ B) : u.cnt ≤ (encU u).length ∧ u.ok B := by
  rw [encU_mk] at h ⊢
  simp only [List.length_append, le8_len, encS8_len, encLn_len] at h ⊢
  have h1 := encL_sum encIm (fun _ => 0) u.imps (fun a ha => (szIm B a (Nat.le_trans (encL_mem encIm _ a ha) (by omega))).1)
  have h2 := encL_sum encD Dl.cnt u.decls (fun a ha => (szDl B a (Nat.le_trans (encL_mem encD _ a ha) (by omega))).1)
  have h3 := encL_sum encFn (fun f => cntSs f.body) u.funs (fun a ha => (szFn B a (Nat.le_trans (encL_mem encFn _ a ha) (by omega))).1)
  unfold Un.cnt
  refine ⟨by omega, by omega, ⟨by omega, fun a ha => (szIm B a (Nat.le_trans (encL_mem encIm _ a ha) (by omega))).2⟩, ⟨by omega, fun a ha => (szDl B a (Nat.le_trans (encL_mem encD _ a ha) (by omega))).2⟩, ⟨by omega, fun a ha => (szFn B a (Nat.le_trans (encL_mem encFn _ a ha) (by omega))).2⟩⟩
theorem Un.ok_mono {B C : Nat} (u : Un) (h : (encU u).length ≤ B) (hB : B ≤ C) : u.ok C := (szU C u (by omega)).2
end Go.Proofs.Ytnkojjkijkhlbaa
