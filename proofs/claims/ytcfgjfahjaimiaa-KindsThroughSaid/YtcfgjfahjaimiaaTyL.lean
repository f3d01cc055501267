/-
  Parameters and what is handed to them: walks.
-/
import Derived.Test.YtcfgjfahjaimiaaTyK
namespace Go.Proofs.Ytcfgjfahjaimiaa
open Go.RowKit
set_option linter.unusedVariables false
set_option linter.unusedSimpArgs false

def thenP (r : Bool × List Ty) (f : List Ty → Bool × List Ty) : Bool × List Ty := if r.1 = true then f r.2 else r
mutual
def pairT (l : List ByteArray) : Ty → Ty → List Ty → Bool × List Ty
  | .mk k p n la lr, .mk k' p' n' la' lr', fd =>
    if k = 9 then takeP l fd n (.mk k' p' n' la' lr')
    else if k = k' ∧ (k = 6 ∨ k = 7) then thenP (pairL l la la' fd) (fun fd1 => pairL l lr lr' fd1)
    else (true, fd)
def pairL (l : List ByteArray) : List Ty → List Ty → List Ty → Bool × List Ty
  | a :: r, b :: s, fd => thenP (pairT l a b fd) (fun fd1 => pairL l r s fd1)
  | [], _, fd => (true, fd)
  | _ :: _, [], fd => (true, fd)
end
theorem pairT_mk (l : List ByteArray) (k k' : Int) (p p' n n' : ByteArray) (la la' lr lr' : List Ty) (fd : List Ty) : pairT l (.mk k p n la lr) (.mk k' p' n' la' lr') fd = if k = 9 then takeP l fd n (.mk k' p' n' la' lr') else if k = k' ∧ (k = 6 ∨ k = 7) then thenP (pairL l la la' fd) (fun fd1 => pairL l lr lr' fd1) else (true, fd) := by simp only [pairT]
theorem pairL_cons (l : List ByteArray) (a b : Ty) (r s fd : List Ty) : pairL l (a :: r) (b :: s) fd = thenP (pairT l a b fd) (fun fd1 => pairL l r s fd1) := by simp only [pairL]
theorem pairL_nil (l : List ByteArray) (s fd : List Ty) : pairL l [] s fd = (true, fd) := by simp only [pairL]
theorem pairL_nil2 (l : List ByteArray) (r fd : List Ty) : pairL l r [] fd = (true, fd) := by cases r <;> simp only [pairL]
theorem takeP_len (l : List ByteArray) (fd : List Ty) (s : ByteArray) (a : Ty) : (takeP l fd s a).2.length = fd.length := by
  unfold takeP
  cases place l s with
  | none => rfl
  | some i =>
    cases h : fd[i]? with
    | none => simp [h]
    | some u => by_cases hk : u.kind = 0 <;> simp [h, hk]
theorem thenP_len {r : Bool × List Ty} {f : List Ty → Bool × List Ty} {n : Nat} (h : r.2.length = n) (hf : ∀ fd : List Ty, fd.length = n → (f fd).2.length = n) : (thenP r f).2.length = n := by
  unfold thenP
  by_cases h1 : r.1 = true
  · simp only [h1, if_true]; exact hf _ h
  · simp only [h1]; exact h
mutual
theorem pairT_len (l : List ByteArray) : ∀ (a b : Ty) (fd : List Ty), (pairT l a b fd).2.length = fd.length
  | .mk k p n la lr, .mk k' p' n' la' lr', fd => by
    rw [pairT_mk]
    by_cases h : k = 9
    · simp only [h, if_true]; exact takeP_len _ _ _ _
    · simp only [h, if_false]
      by_cases h2 : k = k' ∧ (k = 6 ∨ k = 7)
      · rw [if_pos h2]
        exact thenP_len (pairL_len l la la' fd) (fun fd1 h1 => (pairL_len l lr lr' fd1).trans h1)
      · rw [if_neg h2]
theorem pairL_len (l : List ByteArray) : ∀ (a b : List Ty) (fd : List Ty), (pairL l a b fd).2.length = fd.length
  | a :: r, b :: s, fd => by
    rw [pairL_cons]
    exact thenP_len (pairT_len l a b fd) (fun fd1 h1 => (pairL_len l r s fd1).trans h1)
  | [], s, fd => by rw [pairL_nil]
  | _ :: _, [], fd => by rw [pairL_nil2]
end
theorem pairL_drop {l : List ByteArray} {la lb fd : List Ty} {j : Nat} {u v : Ty} (h1 : la[j]? = some u) (h2 : lb[j]? = some v) : pairL l (la.drop j) (lb.drop j) fd = thenP (pairT l u v fd) (fun fd1 => pairL l (la.drop (j + 1)) (lb.drop (j + 1)) fd1) := by
  obtain ⟨a1, a2⟩ := List.getElem?_eq_some_iff.1 h1
  obtain ⟨b1, b2⟩ := List.getElem?_eq_some_iff.1 h2
  rw [List.drop_eq_getElem_cons a1, List.drop_eq_getElem_cons b1, a2, b2, pairL_cons]
theorem pairL_end {l : List ByteArray} {la lb fd : List Ty} {j : Nat} (h : min la.length lb.length ≤ j) : pairL l (la.drop j) (lb.drop j) fd = (true, fd) := by
  by_cases hl : la.length ≤ j
  · rw [List.drop_of_length_le hl, pairL_nil]
  · rw [List.drop_of_length_le (l := lb) (by omega), pairL_nil2]
/-- What a pair leaves. -/
def PairP (g : Nat) (F : Nat → Prop) (r : Bool × List Ty) (w : World) (e : Ending) (w' : World) : Prop := e = .returned (.bool r.1) ∧ Fd w' F g r.2 ∧ Gr (fun x => x = g) w w'
/-- Map, found and what lies beside them. -/
def Sc (w : World) (F : Nat → Prop) (m g : Nat) (l : List ByteArray) (fd : List Ty) : Prop := PlMap w m l ∧ m ≠ g ∧ fd.length = l.length ∧ Fd w F g fd
theorem Sc.gr {w w' : World} {F : Nat → Prop} {m g : Nat} {l : List ByteArray} {fd fd' : List Ty} (h : Sc w F m g l fd) (hg : Gr (fun x => x = g) w w') (hf : Fd w' F g fd') (hl : fd'.length = fd.length) : Sc w' F m g l fd' :=
  ⟨h.1.keep (hg.block m h.1.lt h.2.1), h.2.1, hl.trans h.2.2.1, hf⟩
theorem Sc.bel {w w' : World} {F : Nat → Prop} {m g : Nat} {l : List ByteArray} {fd : List Ty} (h : Sc w F m g l fd) (hb : Below w.heap.size w w') : Sc w' F m g l fd := h.gr (Gr.of_below hb) (h.2.2.2.bel hb) rfl
theorem RT.gr {w w' : World} {F : Nat → Prop} {g : Nat} {t : Ty} {vs : List Value} (h : RT w F t vs) (hg : Gr (fun x => x = g) w w') (hF : ¬ F g) : RT w' F t vs :=
  RT.keep (fun k hk hl => hg.block k hl (fun e => hF (by rw [← (show k = g from e)]; exact hk))) hg.size (fun _ _ h => h) _ _ h
theorem SlT.gr {w w' : World} {F : Nat → Prop} {g : Nat} {A : Option Addr} {l : List Ty} (h : SlT w F A l) (hg : Gr (fun x => x = g) w w') (hF : ¬ F g) : SlT w' F A l :=
  h.keep (fun k hk hl => hg.block k hl (fun e => hF (by rw [← (show k = g from e)]; exact hk))) hg.size (fun _ _ h => h)
theorem Gr.old {w w' : World} {g k : Nat} {F : Nat → Prop} (h : Gr (fun x => x = g) w w') (hk : F k) (hF : ¬ F g) (hl : k < w.heap.size) (o : Nat) : w'.cell? ⟨k, o, none⟩ = w.cell? ⟨k, o, none⟩ := h.cell (p := ⟨k, o, none⟩) hl (fun e => hF (by rw [← (show k = g from e)]; exact hk))
def PC (l : List ByteArray) (N : Nat) : Prop := ∀ a b : Ty, a.count ≤ N → a.mx ≤ maxLen → b.count ≤ 2000000 → ∀ (w : World) (F F' : Nat → Prop) (m g cc : Nat) (fd : List Ty) (vs us : List Value), Sc w F' m g l fd → RT w F a vs → ¬ F g → ¬ F' g → RT w F' b us →
  Calls Try.prog 42 #[.agg #[.map (some m), .slice (some ⟨g, 0, none⟩) l.length cc], .agg vs.toArray, .agg us.toArray] w (PairP g F' (pairT l a b fd) w)
theorem ty_len {w : World} {F : Nat → Prop} {A : Option Addr} {l : List Ty} (h : SlT w F A l) : True := trivial
set_option maxRecDepth 100000 in
set_option maxHeartbeats 2000000 in
theorem pairs_pair (l : List ByteArray) (N : Nat) (ih : PC l N) (hN : N ≤ 2000000) (la lb : List Ty) (hc : countL la ≤ N) (hz : mxL la ≤ maxLen) (w : World) (F F' : Nat → Prop) (m g cc : Nat) (fd : List Ty) (A B : Option Addr) (c c' : Nat) (hsc : Sc w F' m g l fd) (ha : SlT w F A la) (hF : ¬ F g) (hF' : ¬ F' g) (hb : SlT w F' B lb) (hbl : countL lb ≤ 2000000) :
    Calls Try.prog 41 #[.slice A la.length c, .slice B lb.length c', .func (Fn.func 42) #[.agg #[.map (some m), .slice (some ⟨g, 0, none⟩) l.length cc]] #[]] w (PairP g F' (pairL l la lb fd) w) := by
  have hln := len_countL la
  have hlm := len_countL lb
  have HA := Lib.hid ha
  have HB := Lib.hid hb
  have HS := Lib.hid hsc
  obtain ⟨M, hMe⟩ : ∃ M, min la.length lb.length = M := ⟨_, rfl⟩
  have hM : min (la.length : Int) (lb.length : Int) = (M : Int) := by omega
  have HME := Lib.hid hMe
  have n0 : (0 : Int) ≤ (la.length : Int) := by omega
  have n1 : (la.length : Int) ≤ 2000000 := by omega
  have m0 : (0 : Int) ≤ (lb.length : Int) := by omega
  have m1 : (lb.length : Int) ≤ 2000000 := by omega
  clear ha hb hsc hMe
  go_enter Try.func41, Try.ntmps41
  go_wp2
  go_loopg [13] M (fun gk v13 wr => ∃ (j : Nat) (fj : List Ty), j + gk = M ∧ v13 = .int .i64 j ∧ Gr (fun x => x = g) w wr ∧ Sc wr F' m g l fj ∧ pairL l la lb fd = pairL l (la.drop j) (lb.drop j) fj)
  case atStart => exact ⟨0, fd, by simp, rfl, Gr.refl _, HS.out, by simp⟩
  case round =>
    obtain ⟨j, fj, hj, rfl, hgr, hsj, hsm⟩ := hrel
    have HSM := Lib.hid hsm
    have HSJ := Lib.hid hsj
    have HGR := Lib.hid hgr
    clear hsm hsj
    cases gk with
    | zero =>
      obtain rfl : j = M := by omega
      have hE := HSM.out
      rw [pairL_end (by rw [HME.out]; exact Nat.le_refl _)] at hE
      have HE := Lib.hid hE
      clear hj hE
      go_wp2
      go_ret
      refine ⟨?_, ?_, HGR.out⟩
      · rw [HE.out]; rfl
      · rw [HE.out]; exact HSJ.out.2.2.2
    | succ f =>
      have hMM := HME.out
      have hjl : j < la.length := by omega
      have hjl2 : j < lb.length := by omega
      obtain ⟨u, hu⟩ : ∃ u, la[j]? = some u := ⟨_, List.getElem?_eq_getElem hjl⟩
      obtain ⟨v, hv⟩ : ∃ v, lb[j]? = some v := ⟨_, List.getElem?_eq_getElem hjl2⟩
      obtain ⟨q, o, vs, rfl, hFq, hgl, hrep, hat⟩ := (HA.out.gr hgr hF).at_ hu
      obtain ⟨q', o', us, rfl, hFq', hgl', hrep', hat'⟩ := (HB.out.gr hgr hF').at_ hv
      have hck := count_kid la j u hu
      have hsk := mx_kid la j u hu
      have hcv := count_kid lb j v hv
      have HSM2 := Lib.hid (HSM.out.trans (pairL_drop hu hv))
      have HI := Lib.hid (fun w' (hb' : Below wr.heap.size wr w') => ih u v (by omega) (by omega) (by omega) w' F F' m g cc fj vs us (HSJ.out.bel hb') (hrep.bel hb') hF hF' (hrep'.bel hb'))
      have hlenj := pairT_len l u v fj
      obtain ⟨k1, p1, n1', A1, m1', c1, B1, l1, d1, rfl⟩ := hrep.shape
      obtain ⟨k2, p2, n2', A2, m2', c2, B2, l2, d2, rfl⟩ := hrep'.shape
      have q0 := hat 0 _ rfl
      have q1 := hat 1 _ rfl
      have q2 := hat 2 _ rfl
      have q3 := hat 3 _ rfl
      have q4 := hat 4 _ rfl
      have r0 := hat' 0 _ rfl
      have r1 := hat' 1 _ rfl
      have r2 := hat' 2 _ rfl
      have r3 := hat' 3 _ rfl
      have r4 := hat' 4 _ rfl
      have j0 : (0 : Int) ≤ (j : Int) := by omega
      have j1 : (j : Int) < (la.length : Int) := by omega
      have j3 : (j : Int) < (lb.length : Int) := by omega
      have j4 : (j : Int) < (M : Int) := by omega
      have j2 : (j : Int) ≤ 2000000 := by omega
      simp only [Nat.add_zero] at q0 r0
      clear hu hv hat hat' hrep hrep' HSM ih hMM hjl hjl2
      obtain ⟨tv, htv⟩ : ∃ tv, pairT l u v fj = tv := ⟨_, rfl⟩
      rw [htv] at HSM2 HI hlenj
      obtain ⟨tb, tf⟩ := tv
      have HLJ := Lib.hid hlenj
      clear htv hlenj hgr
      go_wp2
      refine wp_region_held_drew (S := fun W => Gr (fun x => x = g) wr W) (by kernel_rfl) (Gr.refl wr).drew (fun hS0 => ?_)
      refine wpAnyH_take (i := 0) (v := (.func (Fn.func 42) #[.agg #[.map (some m), .slice (some ⟨g, 0, none⟩) l.length cc]] #[])) rfl (by kernel_rfl) (by kernel_rfl) (by kernel_rfl) (fun _ _ _ h => h) (Or.inl ⟨rfl, fun w' hS => by (unfold execOp; go_simp)⟩) hS0 ?_
      simp only [Act.put, List.getElem_toArray, List.getElem_cons_zero, List.getElem_cons_succ, List.setIfInBounds_toArray, List.set_cons_zero, List.set_cons_succ]
      refine wpAnyH_take (i := 1) (v := .slice (some ⟨q, o, none⟩) la.length c) rfl (by kernel_rfl) (by kernel_rfl) (by kernel_rfl) (fun _ _ _ h => h) (Or.inl ⟨rfl, fun w' hS => by (unfold execOp; go_simp)⟩) hS0 ?_
      simp only [Act.put, List.getElem_toArray, List.getElem_cons_zero, List.getElem_cons_succ, List.setIfInBounds_toArray, List.set_cons_zero, List.set_cons_succ]
      refine wpAnyH_take (i := 2) (v := .int .i64 j) rfl (by kernel_rfl) (by kernel_rfl) (by kernel_rfl) (fun _ _ _ h => h) (Or.inl ⟨rfl, fun w' hS => by (unfold execOp; go_simp)⟩) hS0 ?_
      simp only [Act.put, List.getElem_toArray, List.getElem_cons_zero, List.getElem_cons_succ, List.setIfInBounds_toArray, List.set_cons_zero, List.set_cons_succ]
      refine wpAnyH_take (i := 3) (v := .pointer (some ⟨q, o + j * 5, none⟩)) rfl (by kernel_rfl) (by kernel_rfl) (by kernel_rfl) (fun _ _ _ h => h) (Or.inl ⟨rfl, fun w' hS => by (unfold execOp; go_simp)⟩) hS0 ?_
      simp only [Act.put, List.getElem_toArray, List.getElem_cons_zero, List.getElem_cons_succ, List.setIfInBounds_toArray, List.set_cons_zero, List.set_cons_succ]
      refine wpAnyH_take (i := 4) (v := .agg #[.int .i64 k1, .string p1, .string n1', .slice A1 m1' c1, .slice B1 l1 d1]) rfl (by kernel_rfl) (by kernel_rfl) (by kernel_rfl) (fun _ _ _ h => h) (Or.inl ⟨rfl, fun w' hS => by (have y0 := (hS.old hFq hF hgl _).trans q0; have y1 := (hS.old hFq hF hgl _).trans q1; have y2 := (hS.old hFq hF hgl _).trans q2; have y3 := (hS.old hFq hF hgl _).trans q3; have y4 := (hS.old hFq hF hgl _).trans q4; unfold execOp; go_simp)⟩) hS0 ?_
      simp only [Act.put, List.getElem_toArray, List.getElem_cons_zero, List.getElem_cons_succ, List.setIfInBounds_toArray, List.set_cons_zero, List.set_cons_succ]
      refine wpAnyH_take (i := 5) (v := .slice (some ⟨q', o', none⟩) lb.length c') rfl (by kernel_rfl) (by kernel_rfl) (by kernel_rfl) (fun _ _ _ h => h) (Or.inl ⟨rfl, fun w' hS => by (unfold execOp; go_simp)⟩) hS0 ?_
      simp only [Act.put, List.getElem_toArray, List.getElem_cons_zero, List.getElem_cons_succ, List.setIfInBounds_toArray, List.set_cons_zero, List.set_cons_succ]
      refine wpAnyH_take (i := 6) (v := .int .i64 j) rfl (by kernel_rfl) (by kernel_rfl) (by kernel_rfl) (fun _ _ _ h => h) (Or.inl ⟨rfl, fun w' hS => by (unfold execOp; go_simp)⟩) hS0 ?_
      simp only [Act.put, List.getElem_toArray, List.getElem_cons_zero, List.getElem_cons_succ, List.setIfInBounds_toArray, List.set_cons_zero, List.set_cons_succ]
      refine wpAnyH_take (i := 7) (v := .pointer (some ⟨q', o' + j * 5, none⟩)) rfl (by kernel_rfl) (by kernel_rfl) (by kernel_rfl) (fun _ _ _ h => h) (Or.inl ⟨rfl, fun w' hS => by (unfold execOp; go_simp)⟩) hS0 ?_
      simp only [Act.put, List.getElem_toArray, List.getElem_cons_zero, List.getElem_cons_succ, List.setIfInBounds_toArray, List.set_cons_zero, List.set_cons_succ]
      refine wpAnyH_take (i := 8) (v := .agg #[.int .i64 k2, .string p2, .string n2', .slice A2 m2' c2, .slice B2 l2 d2]) rfl (by kernel_rfl) (by kernel_rfl) (by kernel_rfl) (fun _ _ _ h => h) (Or.inl ⟨rfl, fun w' hS => by (have y0 := (hS.old hFq' hF' hgl' _).trans r0; have y1 := (hS.old hFq' hF' hgl' _).trans r1; have y2 := (hS.old hFq' hF' hgl' _).trans r2; have y3 := (hS.old hFq' hF' hgl' _).trans r3; have y4 := (hS.old hFq' hF' hgl' _).trans r4; unfold execOp; go_simp)⟩) hS0 ?_
      simp only [Act.put, List.getElem_toArray, List.getElem_cons_zero, List.getElem_cons_succ, List.setIfInBounds_toArray, List.set_cons_zero, List.set_cons_succ]
      refine wpAnyH_one (i := 9) (by kernel_rfl) rfl rfl (op_call (args := #[.agg #[.map (some m), .slice (some ⟨g, 0, none⟩) l.length cc], .agg #[.int .i64 k1, .string p1, .string n1', .slice A1 m1' c1, .slice B1 l1 d1], .agg #[.int .i64 k2, .string p2, .string n2', .slice A2 m2' c2, .slice B2 l2 d2]]) (f := 42) (by unfold execOp; go_simp) ((HI.out _ (Below.refl _ wr).drew).mono ?_))
      rintro e w5 ⟨rfl, hf5, hg5⟩
      have hG5 : Gr (fun x => x = g) wr w5 := hS0.trans hg5
      refine And.intro hG5 ?_
      simp only [Act.put, List.getElem_toArray, List.getElem_cons_zero, List.getElem_cons_succ, List.setIfInBounds_toArray, List.set_cons_zero, List.set_cons_succ]
      refine wpAnyH_one (i := 10) (by kernel_rfl) rfl rfl (op_val (v := .bool (!tb)) (by unfold execOp; go_simp) (And.intro hG5 ?_))
      simp only [Act.put, List.getElem_toArray, List.getElem_cons_zero, List.getElem_cons_succ, List.setIfInBounds_toArray, List.set_cons_zero, List.set_cons_succ]
      refine wpAnyH_done (by kernel_rfl) ?_ _
      clear hS0
      have HF5 := Lib.hid hf5
      clear hf5
      cases tb with
      | false =>
        go_wp2
        go_ret
        refine ⟨?_, ?_, HGR.out.trans hG5⟩
        · rw [HSM2.out]; rfl
        · rw [HSM2.out]; exact HF5.out
      | true =>
        go_wp2
        go_roundg f
        case measure => omega
        case rel => exact ⟨j + 1, tf, by omega, by go_num, HGR.out.trans hG5, HSJ.out.gr hG5 HF5.out HLJ.out, by rw [HSM2.out]; rfl⟩
end Go.Proofs.Ytcfgjfahjaimiaa
