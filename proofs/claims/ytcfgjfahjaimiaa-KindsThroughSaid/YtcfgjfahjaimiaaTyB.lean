/-
  Types that are one: plainly, and walks.
-/
import Derived.Test.YtcfgjfahjaimiaaTyA
import Derived.Deep.LoopGhost
import Derived.Lib.MinMax
import Derived.IntWalk
namespace Go.Proofs.Ytcfgjfahjaimiaa
open Go.RowKit
set_option linter.unusedVariables false
set_option linter.unusedSimpArgs false

mutual
def same : Ty → Ty → Bool
  | .mk k p n la lr, .mk k' p' n' la' lr' => decide (k = k') && (decide (p = p') && (decide (n = n') && (sameL la la' && sameL lr lr')))
def sameL : List Ty → List Ty → Bool
  | [], [] => true
  | a :: r, b :: s => same a b && sameL r s
  | _, _ => false
end
theorem same_mk (k k' : Int) (p p' n n' : ByteArray) (la la' lr lr' : List Ty) : same (.mk k p n la lr) (.mk k' p' n' la' lr') = (decide (k = k') && (decide (p = p') && (decide (n = n') && (sameL la la' && sameL lr lr')))) := by simp only [same]
theorem sameL_nil : sameL [] [] = true := by simp only [sameL]
theorem sameL_cons (a b : Ty) (r s : List Ty) : sameL (a :: r) (b :: s) = (same a b && sameL r s) := by simp only [sameL]
theorem sameL_len : ∀ {a b : List Ty}, a.length ≠ b.length → sameL a b = false
  | [], [], h => absurd rfl h
  | [], _ :: _, _ => by simp only [sameL]
  | _ :: _, [], _ => by simp only [sameL]
  | a :: r, b :: s, h => by rw [sameL_cons, sameL_len (by simpa using h), Bool.and_false]
theorem sameL_drop {la lb : List Ty} {j : Nat} {u v : Ty} (h1 : la[j]? = some u) (h2 : lb[j]? = some v) : sameL (la.drop j) (lb.drop j) = (same u v && sameL (la.drop (j + 1)) (lb.drop (j + 1))) := by
  obtain ⟨a1, a2⟩ := List.getElem?_eq_some_iff.1 h1
  obtain ⟨b1, b2⟩ := List.getElem?_eq_some_iff.1 h2
  rw [List.drop_eq_getElem_cons a1, List.drop_eq_getElem_cons b1, a2, b2, sameL_cons]
/-- A truth that is told; of what was there nothing has turned. -/
def TruthP (w : World) (b : Bool) (e : Ending) (w' : World) : Prop := e = .returned (.bool b) ∧ Below w.heap.size w w'
theorem op_call {P : Program} {o : Oper} {a : Act} {w : World} {K : Act → World → Prop} {Q : Exit → Act → World → Prop} {f : FuncId} {args : Array Value} (h : (execOp a.eval o).run P w = .ok (.enter f args) w)
    (hk : Calls P f args w fun
      | .returned v, w' => K (a.put o.dst v) w'
      | .panicked chain, w' => Q (.panic chain) a w'
      | .outgrown, w' => ∃ a₀ w₀, Q .outgrown a₀ w₀) : o.wp P a w K Q := by
  unfold Oper.wp
  rw [h]
  exact hk
theorem op_val {P : Program} {o : Oper} {a : Act} {w w' : World} {K : Act → World → Prop} {Q : Exit → Act → World → Prop} {v : Value} (h : (execOp a.eval o).run P w = .ok (.value v) w') (hk : K (a.put o.dst v) w') : o.wp P a w K Q := by
  unfold Oper.wp
  rw [h]
  exact hk
theorem wpAnyH_one {P : Program} {ops : Array Oper} {Q : Exit → Act → World → Prop} {S : World → Prop} {n i : Nat} {L : Array Bool} {a : Act} {w : World} {o : Oper} (hr : Region.ready .any ops L = [i]) (ho : ops[i]? = some o) (hg : o.guard = none)
    (h : o.wp P a w (fun a' w' => S w' ∧ wpAnyH P .any ops Q S n (L.setIfInBounds i true) a' w') Q) : wpAnyH P .any ops Q S (n + 1) L a w := by
  refine wpAnyH_all hr (by simp) fun j hj => ?_
  obtain rfl : j = i := by simpa using hj
  unfold wpOp
  have hw : Region.wanted o (yielded ops a.tmps) = true := by simp [Region.wanted, hg]
  simp only [ho, hw, if_true]
  exact .inl h
def SameC (N : Nat) : Prop := ∀ a b : Ty, a.count ≤ N → ∀ (w : World) (F F' : Nat → Prop) (vs us : List Value), RT w F a vs → RT w F' b us → Calls Try.prog 19 #[.agg vs.toArray, .agg us.toArray] w (TruthP w (same a b))
set_option maxRecDepth 100000 in
set_option maxHeartbeats 2000000 in
theorem pairs_same (N : Nat) (ih : SameC N) (hN : N ≤ 2000000) (la lb : List Ty) (hl : la.length = lb.length) (hc : countL la ≤ N) (w : World) (F F' : Nat → Prop) (A B : Option Addr) (c c' : Nat) (ha : SlT w F A la) (hb : SlT w F' B lb) :
    Calls Try.prog 41 #[.slice A la.length c, .slice B lb.length c', .func (Fn.func 19) #[] #[]] w (TruthP w (sameL la lb)) := by
  have hln := len_countL la
  rw [← hl]
  have HA := Lib.hid ha
  have HB := Lib.hid hb
  have HL := Lib.hid hl
  have n0 : (0 : Int) ≤ (la.length : Int) := by omega
  have n1 : (la.length : Int) ≤ 2000000 := by omega
  clear ha hb hl
  go_enter Try.func41, Try.ntmps41
  go_wp2
  go_loopg [13] la.length (fun gk v13 wr => ∃ j : Nat, j + gk = la.length ∧ v13 = .int .i64 j ∧ Below w.heap.size w wr ∧ sameL la lb = sameL (la.drop j) (lb.drop j))
  case atStart => exact ⟨0, by simp, rfl, Below.refl _ _, by simp⟩
  case round =>
    obtain ⟨j, hj, rfl, hb, hsm⟩ := hrel
    have HSM := Lib.hid hsm
    clear hsm
    cases gk with
    | zero =>
      obtain rfl : j = la.length := by omega
      clear hj
      go_wp2
      go_ret
      refine ⟨?_, hb⟩
      rw [HSM.out, List.drop_length, List.drop_of_length_le (by rw [← HL.out]; exact Nat.le_refl _), sameL_nil]
      rfl
    | succ f =>
      have hjl : j < la.length := by omega
      obtain ⟨u, hu⟩ : ∃ u, la[j]? = some u := ⟨_, List.getElem?_eq_getElem hjl⟩
      obtain ⟨v, hv⟩ : ∃ v, lb[j]? = some v := ⟨_, List.getElem?_eq_getElem (by rw [← HL.out]; exact hjl)⟩
      obtain ⟨g, o, vs, rfl, hF, hgl, hrep, hat⟩ := HA.out.at_ hu
      obtain ⟨g', o', us, rfl, hF', hgl', hrep', hat'⟩ := HB.out.at_ hv
      have hck := count_kid la j u hu
      have HSM2 := Lib.hid (HSM.out.trans (sameL_drop hu hv))
      have HI := Lib.hid (fun w' (hb' : Below w.heap.size w w') => ih u v (by omega) w' F F' vs us (hrep.bel hb') (hrep'.bel hb'))
      obtain ⟨k1, p1, n1, A1, m1, c1, B1, l1, d1, rfl⟩ := hrep.shape
      obtain ⟨k2, p2, n2, A2, m2, c2, B2, l2, d2, rfl⟩ := hrep'.shape
      have q0 := hat 0 _ rfl
      have q1 := hat 1 _ rfl
      have q2 := hat 2 _ rfl
      have q3 := hat 3 _ rfl
      have q4 := hat 4 _ rfl
      have r0 := hat' 0 _ rfl
      have r1 := hat' 1 _ rfl
      have r2 := hat' 2 _ rfl
      have r3 := hat' 3 _ rfl
      have r4 := hat' 4 _ rfl
      have j0 : (0 : Int) ≤ (j : Int) := by omega
      have j1 : (j : Int) < (la.length : Int) := by omega
      have j2 : (j : Int) ≤ 2000000 := by omega
      simp only [Nat.add_zero] at q0 r0
      clear hu hv hat hat' hrep hrep' HSM ih
      go_wp2
      obtain ⟨tv, htv⟩ : ∃ tv, same u v = tv := ⟨_, rfl⟩
      rw [htv] at HSM2 HI
      refine wp_region_held_drew (S := fun W => Below w.heap.size w W) (by kernel_rfl) hb.drew (fun hS0 => ?_)
      refine wpAnyH_take (i := 0) (v := .func (Fn.func 19) #[] #[]) rfl (by kernel_rfl) (by kernel_rfl) (by kernel_rfl) (fun _ _ _ h => h) (Or.inl ⟨rfl, fun w' hS => by (unfold execOp; go_simp)⟩) hS0 ?_
      simp only [Act.put, List.getElem_toArray, List.getElem_cons_zero, List.getElem_cons_succ, List.setIfInBounds_toArray, List.set_cons_zero, List.set_cons_succ]
      refine wpAnyH_take (i := 1) (v := .slice (some ⟨g, o, none⟩) la.length c) rfl (by kernel_rfl) (by kernel_rfl) (by kernel_rfl) (fun _ _ _ h => h) (Or.inl ⟨rfl, fun w' hS => by (unfold execOp; go_simp)⟩) hS0 ?_
      simp only [Act.put, List.getElem_toArray, List.getElem_cons_zero, List.getElem_cons_succ, List.setIfInBounds_toArray, List.set_cons_zero, List.set_cons_succ]
      refine wpAnyH_take (i := 2) (v := .int .i64 j) rfl (by kernel_rfl) (by kernel_rfl) (by kernel_rfl) (fun _ _ _ h => h) (Or.inl ⟨rfl, fun w' hS => by (unfold execOp; go_simp)⟩) hS0 ?_
      simp only [Act.put, List.getElem_toArray, List.getElem_cons_zero, List.getElem_cons_succ, List.setIfInBounds_toArray, List.set_cons_zero, List.set_cons_succ]
      refine wpAnyH_take (i := 3) (v := .pointer (some ⟨g, o + j * 5, none⟩)) rfl (by kernel_rfl) (by kernel_rfl) (by kernel_rfl) (fun _ _ _ h => h) (Or.inl ⟨rfl, fun w' hS => by (unfold execOp; go_simp)⟩) hS0 ?_
      simp only [Act.put, List.getElem_toArray, List.getElem_cons_zero, List.getElem_cons_succ, List.setIfInBounds_toArray, List.set_cons_zero, List.set_cons_succ]
      refine wpAnyH_take (i := 4) (v := .agg #[.int .i64 k1, .string p1, .string n1, .slice A1 m1 c1, .slice B1 l1 d1]) rfl (by kernel_rfl) (by kernel_rfl) (by kernel_rfl) (fun _ _ _ h => h) (Or.inl ⟨rfl, fun w' hS => by (have y0 := (hS.cell (p := ⟨g, _, none⟩) hgl).trans q0; have y1 := (hS.cell (p := ⟨g, _, none⟩) hgl).trans q1; have y2 := (hS.cell (p := ⟨g, _, none⟩) hgl).trans q2; have y3 := (hS.cell (p := ⟨g, _, none⟩) hgl).trans q3; have y4 := (hS.cell (p := ⟨g, _, none⟩) hgl).trans q4; unfold execOp; go_simp)⟩) hS0 ?_
      simp only [Act.put, List.getElem_toArray, List.getElem_cons_zero, List.getElem_cons_succ, List.setIfInBounds_toArray, List.set_cons_zero, List.set_cons_succ]
      refine wpAnyH_take (i := 5) (v := (.slice (some ⟨g', o', none⟩) la.length c')) rfl (by kernel_rfl) (by kernel_rfl) (by kernel_rfl) (fun _ _ _ h => h) (Or.inl ⟨rfl, fun w' hS => by (unfold execOp; go_simp)⟩) hS0 ?_
      simp only [Act.put, List.getElem_toArray, List.getElem_cons_zero, List.getElem_cons_succ, List.setIfInBounds_toArray, List.set_cons_zero, List.set_cons_succ]
      refine wpAnyH_take (i := 6) (v := .int .i64 j) rfl (by kernel_rfl) (by kernel_rfl) (by kernel_rfl) (fun _ _ _ h => h) (Or.inl ⟨rfl, fun w' hS => by (unfold execOp; go_simp)⟩) hS0 ?_
      simp only [Act.put, List.getElem_toArray, List.getElem_cons_zero, List.getElem_cons_succ, List.setIfInBounds_toArray, List.set_cons_zero, List.set_cons_succ]
      refine wpAnyH_take (i := 7) (v := .pointer (some ⟨g', o' + j * 5, none⟩)) rfl (by kernel_rfl) (by kernel_rfl) (by kernel_rfl) (fun _ _ _ h => h) (Or.inl ⟨rfl, fun w' hS => by (unfold execOp; go_simp)⟩) hS0 ?_
      simp only [Act.put, List.getElem_toArray, List.getElem_cons_zero, List.getElem_cons_succ, List.setIfInBounds_toArray, List.set_cons_zero, List.set_cons_succ]
      refine wpAnyH_take (i := 8) (v := .agg #[.int .i64 k2, .string p2, .string n2, .slice A2 m2 c2, .slice B2 l2 d2]) rfl (by kernel_rfl) (by kernel_rfl) (by kernel_rfl) (fun _ _ _ h => h) (Or.inl ⟨rfl, fun w' hS => by (have y0 := (hS.cell (p := ⟨g', _, none⟩) hgl').trans r0; have y1 := (hS.cell (p := ⟨g', _, none⟩) hgl').trans r1; have y2 := (hS.cell (p := ⟨g', _, none⟩) hgl').trans r2; have y3 := (hS.cell (p := ⟨g', _, none⟩) hgl').trans r3; have y4 := (hS.cell (p := ⟨g', _, none⟩) hgl').trans r4; unfold execOp; go_simp)⟩) hS0 ?_
      simp only [Act.put, List.getElem_toArray, List.getElem_cons_zero, List.getElem_cons_succ, List.setIfInBounds_toArray, List.set_cons_zero, List.set_cons_succ]
      refine wpAnyH_one (i := 9) (by kernel_rfl) rfl rfl (op_call (args := #[.agg #[.int .i64 k1, .string p1, .string n1, .slice A1 m1 c1, .slice B1 l1 d1], .agg #[.int .i64 k2, .string p2, .string n2, .slice A2 m2 c2, .slice B2 l2 d2]]) (f := 19) (by unfold execOp; go_simp) ((HI.out _ hS0).mono ?_))
      rintro e w5 ⟨rfl, hb5⟩
      have hB5 := hS0.trans (hb5.mono hS0.size)
      refine And.intro hB5 ?_
      simp only [Act.put, List.getElem_toArray, List.getElem_cons_zero, List.getElem_cons_succ, List.setIfInBounds_toArray, List.set_cons_zero, List.set_cons_succ]
      refine wpAnyH_one (i := 10) (by kernel_rfl) rfl rfl (op_val (v := .bool (!tv)) (by unfold execOp; go_simp) (And.intro hB5 ?_))
      simp only [Act.put, List.getElem_toArray, List.getElem_cons_zero, List.getElem_cons_succ, List.setIfInBounds_toArray, List.set_cons_zero, List.set_cons_succ]
      refine wpAnyH_done (by kernel_rfl) ?_ _
      clear hS0
      cases tv with
      | false =>
        go_wp2
        go_ret
        exact ⟨by rw [HSM2.out]; rfl, hB5⟩
      | true =>
        go_wp2
        go_roundg f
        case measure => omega
        case rel => exact ⟨j + 1, by omega, by go_num, hB5, by rw [HSM2.out, Bool.true_and]⟩
end Go.Proofs.Ytcfgjfahjaimiaa
