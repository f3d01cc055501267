/-
  Types that are one: both sides, walks.
-/
import Derived.Test.YtcfgjfahjaimiaaTyB
namespace Go.Proofs.Ytcfgjfahjaimiaa
open Go.RowKit
set_option linter.unusedVariables false
set_option linter.unusedSimpArgs false

set_option maxRecDepth 100000 in
set_option maxHeartbeats 2000000 in
theorem allSame_any (N : Nat) (ih : SameC N) (hN : N ≤ 2000000) (la lb : List Ty) (hc : countL la ≤ N) (w : World) (F F' : Nat → Prop) (A B : Option Addr) (c c' : Nat) (ha : SlT w F A la) (hb : SlT w F' B lb) :
    Calls Try.prog 38 #[.slice A la.length c, .slice B lb.length c'] w (TruthP w (sameL la lb)) := by
  by_cases hl : la.length = lb.length
  · have HP := pairs_same N ih hN la lb hl hc w F F' A B c c' ha hb
    rw [← hl] at HP ⊢
    have HP := Lib.hid HP
    clear hl
    go_enter Try.func38, Try.ntmps38
    go_wp2_with (go_at_call 41; refine HP.out.mono ?_; rintro e w1 ⟨rfl, hb1⟩)
    go_ret
    exact ⟨rfl, hb1⟩
  · have e := sameL_len hl
    rw [e]
    have hlb : ((la.length : Int) == (lb.length : Int)) = false := by simp; omega
    clear hl e
    go_enter Try.func38, Try.ntmps38
    go_wp2
    go_ret
    exact ⟨rfl, Below.refl _ _⟩
theorem Blk.bel2 {w w' : World} {g : Nat} {t : TypeId} {cs : Array Value} (h : Blk w g t cs) (hb : Below w.heap.size w w') : Blk w' g t cs := h.below hb h.lt
theorem Blk.new_at {w : World} {g : Nat} {t : TypeId} {cs : Array Value} (h : g = w.heap.size) : Blk (w.alloc (.cells cs t)) g t cs := by subst h; exact Blk.new _ _ _
theorem toList_inj {a b : ByteArray} : a.toList = b.toList ↔ a = b := by
  constructor
  · intro h
    rw [ByteArray.toList_eq, ByteArray.toList_eq] at h
    exact ByteArray.ext (Array.toList_inj.1 h)
  · rintro rfl; rfl
set_option maxRecDepth 100000 in
set_option maxHeartbeats 2000000 in
theorem same_step (N : Nat) (ih : SameC N) (hN : N ≤ 2000000) : SameC (N + 1) := by
  rintro ⟨k, p, n, la, lr⟩ ⟨k', p', n', la', lr'⟩ hct w F F' vs us hr hr'
  rw [count_mk] at hct
  obtain ⟨A, c, B, d, rfl, ha, hb⟩ := hr.openL
  obtain ⟨A', c', B', d', rfl, ha', hb'⟩ := hr'.openL
  rw [same_mk]
  have H1 := Lib.hid (fun w' (h : Below w.heap.size w w') => allSame_any N ih hN la la' (by omega) w' F F' A A' c c' (ha.bel h) (ha'.bel h))
  have H2 := Lib.hid (fun w' (h : Below w.heap.size w w') => allSame_any N ih hN lr lr' (by omega) w' F F' B B' d d' (hb.bel h) (hb'.bel h))
  obtain ⟨b1, hb1⟩ : ∃ b, sameL la la' = b := ⟨_, rfl⟩
  obtain ⟨b2, hb2⟩ : ∃ b, sameL lr lr' = b := ⟨_, rfl⟩
  rw [hb1] at H1 ⊢
  rw [hb2] at H2 ⊢
  clear hr hr' ha hb ha' hb' hct hb1 hb2
  show Calls Try.prog 19 #[.agg #[.int .i64 k, .string p, .string n, .slice A la.length c, .slice B lr.length d], .agg #[.int .i64 k', .string p', .string n', .slice A' la'.length c', .slice B' lr'.length d']] w _
  by_cases hk : k = k'
  · subst hk
    by_cases hp : p = p'
    · subst hp
      by_cases hn : n = n'
      · subst hn
        cases b1 with
        | false =>
          go_enter Try.func19, Try.ntmps19
          go_wp2_with (first | (go_at_call 38; ((with_reducible refine (H1.out _ (((Below.refl _ _).alloc (Nat.le_refl _) _).alloc (by simp) _)).mono ?_); rintro e w1 ⟨rfl, hb1⟩; have hB1 := (((Below.refl _ w).alloc (Nat.le_refl _) _).alloc (by simp) _).trans (hb1.mono (by simp; omega)); have hba := ((Blk.new w 26 #[.int .i64 k, .string p, .string n, .slice A la.length c, .slice B lr.length d]).alloc (.cells #[.int .i64 k, .string p, .string n, .slice A' la'.length c', .slice B' lr'.length d'] 26)).bel2 hb1; have hbb : Blk w1 (w.heap.size + 1) 26 #[.int .i64 k, .string p, .string n, .slice A' la'.length c', .slice B' lr'.length d'] := (Blk.new_at (w := w.alloc (.cells #[.int .i64 k, .string p, .string n, .slice A la.length c, .slice B lr.length d] 26)) (by simp)).bel2 hb1; have x4 := hba.cell 4; have xl := hba.lt; have y4 := hbb.cell 4; have yl := hbb.lt)))
          go_ret
          exact ⟨by simp, hB1⟩
        | true =>
          go_enter Try.func19, Try.ntmps19
          go_wp2_with (first | (go_at_call 38; ((with_reducible refine (H1.out _ (((Below.refl _ _).alloc (Nat.le_refl _) _).alloc (by simp) _)).mono ?_); rintro e w1 ⟨rfl, hb1⟩; have hB1 := (((Below.refl _ w).alloc (Nat.le_refl _) _).alloc (by simp) _).trans (hb1.mono (by simp; omega)); have hba := ((Blk.new w 26 #[.int .i64 k, .string p, .string n, .slice A la.length c, .slice B lr.length d]).alloc (.cells #[.int .i64 k, .string p, .string n, .slice A' la'.length c', .slice B' lr'.length d'] 26)).bel2 hb1; have hbb : Blk w1 (w.heap.size + 1) 26 #[.int .i64 k, .string p, .string n, .slice A' la'.length c', .slice B' lr'.length d'] := (Blk.new_at (w := w.alloc (.cells #[.int .i64 k, .string p, .string n, .slice A la.length c, .slice B lr.length d] 26)) (by simp)).bel2 hb1; have x4 := hba.cell 4; have xl := hba.lt; have y4 := hbb.cell 4; have yl := hbb.lt)) | (go_at_call 38; ((with_reducible refine (H2.out _ hB1).mono ?_); rintro e w2 ⟨rfl, hb2⟩)))
          go_ret
          exact ⟨by simp, hB1.trans (hb2.mono hB1.size)⟩
      · have e : (n.toList == n'.toList) = false := by simpa [toList_inj] using hn
        have hz : decide (n = n') = false := by simpa using hn
        rw [hz]
        clear hn hz
        go_enter Try.func19, Try.ntmps19
        go_wp2
        go_ret
        exact ⟨by simp, ((Below.refl _ _).alloc (Nat.le_refl _) _).alloc (by simp) _⟩
    · have e : (p.toList == p'.toList) = false := by simpa [toList_inj] using hp
      have hz : decide (p = p') = false := by simpa using hp
      rw [hz]
      clear hp hz
      go_enter Try.func19, Try.ntmps19
      go_wp2
      go_ret
      exact ⟨by simp, ((Below.refl _ _).alloc (Nat.le_refl _) _).alloc (by simp) _⟩
  · have e : (k == k') = false := by simpa using hk
    have hz : decide (k = k') = false := by simpa using hk
    rw [hz]
    clear hk hz
    go_enter Try.func19, Try.ntmps19
    go_wp2
    go_ret
    exact ⟨by simp, ((Below.refl _ _).alloc (Nat.le_refl _) _).alloc (by simp) _⟩
theorem same_all : ∀ N : Nat, N ≤ 2000000 → SameC N
  | 0, _ => fun a b h => by have := count_pos a; omega
  | N + 1, h => same_step N (same_all N (by omega)) (by omega)
/-- The document's. -/
def SameR (N : Nat) : Prop := ∀ a b : Ty, a.count ≤ N → ∀ (w : World) (F F' : Nat → Prop) (vs us : List Value), RT w F a vs → RT w F' b us → Calls Try.prog 27 #[.agg vs.toArray, .agg us.toArray] w (TruthP w (same a b))
set_option maxRecDepth 100000 in
set_option maxHeartbeats 2000000 in
theorem all_any (N : Nat) (ih : SameR N) (hN : N ≤ 2000000) (la lb : List Ty) (hc : countL la ≤ N) (w : World) (F F' : Nat → Prop) (A B : Option Addr) (c c' : Nat) (ha : SlT w F A la) (hb : SlT w F' B lb) :
    Calls Try.prog 54 #[.slice A la.length c, .slice B lb.length c'] w (TruthP w (sameL la lb)) := by
  by_cases hl : la.length = lb.length
  case neg =>
    have e := sameL_len hl
    rw [e]
    have hlb : ((la.length : Int) != (lb.length : Int)) = true := by simp; omega
    clear hl e
    go_enter Try.func54, Try.ntmps54
    go_wp2
    go_ret
    exact ⟨rfl, Below.refl _ _⟩
  have hln := len_countL la
  rw [← hl]
  have HA := Lib.hid ha
  have HB := Lib.hid hb
  have HL := Lib.hid hl
  have n0 : (0 : Int) ≤ (la.length : Int) := by omega
  have n1 : (la.length : Int) ≤ 2000000 := by omega
  clear ha hb hl
  go_enter Try.func54, Try.ntmps54
  go_wp2
  go_loopg [5] la.length (fun gk v5 wr => ∃ j : Nat, j + gk = la.length ∧ v5 = .int .i64 j ∧ Below w.heap.size w wr ∧ sameL la lb = sameL (la.drop j) (lb.drop j))
  case atStart => exact ⟨0, by simp, rfl, Below.refl _ _, by simp⟩
  case round =>
    obtain ⟨j, hj, rfl, hb, hsm⟩ := hrel
    have HSM := Lib.hid hsm
    clear hsm
    cases gk with
    | zero =>
      obtain rfl : j = la.length := by omega
      clear hj
      go_wp2
      go_ret
      refine ⟨?_, hb⟩
      rw [HSM.out, List.drop_length, List.drop_of_length_le (by rw [← HL.out]; exact Nat.le_refl _), sameL_nil]
      rfl
    | succ f =>
      have hjl : j < la.length := by omega
      obtain ⟨u, hu⟩ : ∃ u, la[j]? = some u := ⟨_, List.getElem?_eq_getElem hjl⟩
      obtain ⟨v, hv⟩ : ∃ v, lb[j]? = some v := ⟨_, List.getElem?_eq_getElem (by rw [← HL.out]; exact hjl)⟩
      obtain ⟨g, o, vs, rfl, hF, hgl, hrep, hat⟩ := HA.out.at_ hu
      obtain ⟨g', o', us, rfl, hF', hgl', hrep', hat'⟩ := HB.out.at_ hv
      have hck := count_kid la j u hu
      have HSM2 := Lib.hid (HSM.out.trans (sameL_drop hu hv))
      have HI := Lib.hid (fun w' (hb' : Below w.heap.size w w') => ih u v (by omega) w' F F' vs us (hrep.bel hb') (hrep'.bel hb'))
      obtain ⟨k1, p1, n1, A1, m1, c1, B1, l1, d1, rfl⟩ := hrep.shape
      obtain ⟨k2, p2, n2, A2, m2, c2, B2, l2, d2, rfl⟩ := hrep'.shape
      have q0 := hat 0 _ rfl
      have r0 := hat' 0 _ rfl
      have q1 := hat 1 _ rfl
      have r1 := hat' 1 _ rfl
      have q2 := hat 2 _ rfl
      have r2 := hat' 2 _ rfl
      have q3 := hat 3 _ rfl
      have r3 := hat' 3 _ rfl
      have q4 := hat 4 _ rfl
      have r4 := hat' 4 _ rfl
      have j0 : (0 : Int) ≤ (j : Int) := by omega
      have j1 : (j : Int) < (la.length : Int) := by omega
      have j2 : (j : Int) ≤ 2000000 := by omega
      simp only [Nat.add_zero] at q0 r0
      clear hu hv hat hat' hrep hrep' HSM ih
      go_wp2
      obtain ⟨tv, htv⟩ : ∃ tv, same u v = tv := ⟨_, rfl⟩
      rw [htv] at HSM2 HI
      refine wp_region_held_drew (S := fun W => Below w.heap.size w W) (by kernel_rfl) hb.drew (fun hS0 => ?_)
      refine wpAnyH_take (i := 0) (v := .slice (some ⟨g, o, none⟩) la.length c) rfl (by kernel_rfl) (by kernel_rfl) (by kernel_rfl) (fun _ _ _ h => h) (Or.inl ⟨rfl, fun w' hS => by (unfold execOp; go_simp)⟩) hS0 ?_
      simp only [Act.put, List.getElem_toArray, List.getElem_cons_zero, List.getElem_cons_succ, List.setIfInBounds_toArray, List.set_cons_zero, List.set_cons_succ]
      refine wpAnyH_take (i := 1) (v := .int .i64 j) rfl (by kernel_rfl) (by kernel_rfl) (by kernel_rfl) (fun _ _ _ h => h) (Or.inl ⟨rfl, fun w' hS => by (unfold execOp; go_simp)⟩) hS0 ?_
      simp only [Act.put, List.getElem_toArray, List.getElem_cons_zero, List.getElem_cons_succ, List.setIfInBounds_toArray, List.set_cons_zero, List.set_cons_succ]
      refine wpAnyH_take (i := 2) (v := .pointer (some ⟨g, o + j * 5, none⟩)) rfl (by kernel_rfl) (by kernel_rfl) (by kernel_rfl) (fun _ _ _ h => h) (Or.inl ⟨rfl, fun w' hS => by (unfold execOp; go_simp)⟩) hS0 ?_
      simp only [Act.put, List.getElem_toArray, List.getElem_cons_zero, List.getElem_cons_succ, List.setIfInBounds_toArray, List.set_cons_zero, List.set_cons_succ]
      refine wpAnyH_take (i := 3) (v := .agg #[.int .i64 k1, .string p1, .string n1, .slice A1 m1 c1, .slice B1 l1 d1]) rfl (by kernel_rfl) (by kernel_rfl) (by kernel_rfl) (fun _ _ _ h => h) (Or.inl ⟨rfl, fun w' hS => by (have y0 := (hS.cell (p := ⟨g, _, none⟩) hgl).trans q0; have y1 := (hS.cell (p := ⟨g, _, none⟩) hgl).trans q1; have y2 := (hS.cell (p := ⟨g, _, none⟩) hgl).trans q2; have y3 := (hS.cell (p := ⟨g, _, none⟩) hgl).trans q3; have y4 := (hS.cell (p := ⟨g, _, none⟩) hgl).trans q4; unfold execOp; go_simp)⟩) hS0 ?_
      simp only [Act.put, List.getElem_toArray, List.getElem_cons_zero, List.getElem_cons_succ, List.setIfInBounds_toArray, List.set_cons_zero, List.set_cons_succ]
      refine wpAnyH_take (i := 4) (v := (.slice (some ⟨g', o', none⟩) la.length c')) rfl (by kernel_rfl) (by kernel_rfl) (by kernel_rfl) (fun _ _ _ h => h) (Or.inl ⟨rfl, fun w' hS => by (unfold execOp; go_simp)⟩) hS0 ?_
      simp only [Act.put, List.getElem_toArray, List.getElem_cons_zero, List.getElem_cons_succ, List.setIfInBounds_toArray, List.set_cons_zero, List.set_cons_succ]
      refine wpAnyH_take (i := 5) (v := .int .i64 j) rfl (by kernel_rfl) (by kernel_rfl) (by kernel_rfl) (fun _ _ _ h => h) (Or.inl ⟨rfl, fun w' hS => by (unfold execOp; go_simp)⟩) hS0 ?_
      simp only [Act.put, List.getElem_toArray, List.getElem_cons_zero, List.getElem_cons_succ, List.setIfInBounds_toArray, List.set_cons_zero, List.set_cons_succ]
      refine wpAnyH_take (i := 6) (v := .pointer (some ⟨g', o' + j * 5, none⟩)) rfl (by kernel_rfl) (by kernel_rfl) (by kernel_rfl) (fun _ _ _ h => h) (Or.inl ⟨rfl, fun w' hS => by (unfold execOp; go_simp)⟩) hS0 ?_
      simp only [Act.put, List.getElem_toArray, List.getElem_cons_zero, List.getElem_cons_succ, List.setIfInBounds_toArray, List.set_cons_zero, List.set_cons_succ]
      refine wpAnyH_take (i := 7) (v := .agg #[.int .i64 k2, .string p2, .string n2, .slice A2 m2 c2, .slice B2 l2 d2]) rfl (by kernel_rfl) (by kernel_rfl) (by kernel_rfl) (fun _ _ _ h => h) (Or.inl ⟨rfl, fun w' hS => by (have y0 := (hS.cell (p := ⟨g', _, none⟩) hgl').trans r0; have y1 := (hS.cell (p := ⟨g', _, none⟩) hgl').trans r1; have y2 := (hS.cell (p := ⟨g', _, none⟩) hgl').trans r2; have y3 := (hS.cell (p := ⟨g', _, none⟩) hgl').trans r3; have y4 := (hS.cell (p := ⟨g', _, none⟩) hgl').trans r4; unfold execOp; go_simp)⟩) hS0 ?_
      simp only [Act.put, List.getElem_toArray, List.getElem_cons_zero, List.getElem_cons_succ, List.setIfInBounds_toArray, List.set_cons_zero, List.set_cons_succ]
      refine wpAnyH_one (i := 8) (by kernel_rfl) rfl rfl (op_call (args := #[.agg #[.int .i64 k1, .string p1, .string n1, .slice A1 m1 c1, .slice B1 l1 d1], .agg #[.int .i64 k2, .string p2, .string n2, .slice A2 m2 c2, .slice B2 l2 d2]])  (f := 27) (by unfold execOp; go_simp) ((HI.out _ hS0).mono ?_))
      rintro e w5 ⟨rfl, hb5⟩
      have hB5 := hS0.trans (hb5.mono hS0.size)
      refine And.intro hB5 ?_
      simp only [Act.put, List.getElem_toArray, List.getElem_cons_zero, List.getElem_cons_succ, List.setIfInBounds_toArray, List.set_cons_zero, List.set_cons_succ]
      refine wpAnyH_one (i := 9) (by kernel_rfl) rfl rfl (op_val (v := .bool (!tv)) (by unfold execOp; go_simp) (And.intro hB5 ?_))
      simp only [Act.put, List.getElem_toArray, List.getElem_cons_zero, List.getElem_cons_succ, List.setIfInBounds_toArray, List.set_cons_zero, List.set_cons_succ]
      refine wpAnyH_done (by kernel_rfl) ?_ _
      clear hS0
      cases tv with
      | false =>
        go_wp2
        go_ret
        exact ⟨by rw [HSM2.out]; rfl, hB5⟩
      | true =>
        go_wp2
        go_roundg f
        case measure => omega
        case rel => exact ⟨j + 1, by omega, by go_num, hB5, by rw [HSM2.out, Bool.true_and]⟩
set_option maxRecDepth 100000 in
set_option maxHeartbeats 2000000 in
theorem rsame_step (N : Nat) (ih : SameR N) (hN : N ≤ 2000000) : SameR (N + 1) := by
  rintro ⟨k, p, n, la, lr⟩ ⟨k', p', n', la', lr'⟩ hct w F F' vs us hr hr'
  rw [count_mk] at hct
  obtain ⟨A, c, B, d, rfl, ha, hb⟩ := hr.openL
  obtain ⟨A', c', B', d', rfl, ha', hb'⟩ := hr'.openL
  rw [same_mk]
  have H1 := Lib.hid (fun w' (h : Below w.heap.size w w') => all_any N ih hN la la' (by omega) w' F F' A A' c c' (ha.bel h) (ha'.bel h))
  have H2 := Lib.hid (fun w' (h : Below w.heap.size w w') => all_any N ih hN lr lr' (by omega) w' F F' B B' d d' (hb.bel h) (hb'.bel h))
  obtain ⟨b1, hb1⟩ : ∃ b, sameL la la' = b := ⟨_, rfl⟩
  obtain ⟨b2, hb2⟩ : ∃ b, sameL lr lr' = b := ⟨_, rfl⟩
  rw [hb1] at H1 ⊢
  rw [hb2] at H2 ⊢
  clear hr hr' ha hb ha' hb' hct hb1 hb2
  show Calls Try.prog 27 #[.agg #[.int .i64 k, .string p, .string n, .slice A la.length c, .slice B lr.length d], .agg #[.int .i64 k', .string p', .string n', .slice A' la'.length c', .slice B' lr'.length d']] w _
  by_cases hk : k = k'
  · subst hk
    by_cases hp : p = p'
    · subst hp
      by_cases hn : n = n'
      · subst hn
        cases b1 with
        | false =>
          go_enter Try.func27, Try.ntmps27
          go_wp2_with (first | (go_at_call 54; ((with_reducible refine (H1.out _ (((Below.refl _ _).alloc (Nat.le_refl _) _).alloc (by simp) _)).mono ?_); rintro e w1 ⟨rfl, hb1⟩; have hB1 := (((Below.refl _ w).alloc (Nat.le_refl _) _).alloc (by simp) _).trans (hb1.mono (by simp; omega)); have hba := ((Blk.new w 26 #[.int .i64 k, .string p, .string n, .slice A la.length c, .slice B lr.length d]).alloc (.cells #[.int .i64 k, .string p, .string n, .slice A' la'.length c', .slice B' lr'.length d'] 26)).bel2 hb1; have hbb : Blk w1 (w.heap.size + 1) 26 #[.int .i64 k, .string p, .string n, .slice A' la'.length c', .slice B' lr'.length d'] := (Blk.new_at (w := w.alloc (.cells #[.int .i64 k, .string p, .string n, .slice A la.length c, .slice B lr.length d] 26)) (by simp)).bel2 hb1; have x4 := hba.cell 4; have xl := hba.lt; have y4 := hbb.cell 4; have yl := hbb.lt)))
          go_ret
          exact ⟨by simp, hB1⟩
        | true =>
          go_enter Try.func27, Try.ntmps27
          go_wp2_with (first | (go_at_call 54; ((with_reducible refine (H1.out _ (((Below.refl _ _).alloc (Nat.le_refl _) _).alloc (by simp) _)).mono ?_); rintro e w1 ⟨rfl, hb1⟩; have hB1 := (((Below.refl _ w).alloc (Nat.le_refl _) _).alloc (by simp) _).trans (hb1.mono (by simp; omega)); have hba := ((Blk.new w 26 #[.int .i64 k, .string p, .string n, .slice A la.length c, .slice B lr.length d]).alloc (.cells #[.int .i64 k, .string p, .string n, .slice A' la'.length c', .slice B' lr'.length d'] 26)).bel2 hb1; have hbb : Blk w1 (w.heap.size + 1) 26 #[.int .i64 k, .string p, .string n, .slice A' la'.length c', .slice B' lr'.length d'] := (Blk.new_at (w := w.alloc (.cells #[.int .i64 k, .string p, .string n, .slice A la.length c, .slice B lr.length d] 26)) (by simp)).bel2 hb1; have x4 := hba.cell 4; have xl := hba.lt; have y4 := hbb.cell 4; have yl := hbb.lt)) | (go_at_call 54; ((with_reducible refine (H2.out _ hB1).mono ?_); rintro e w2 ⟨rfl, hb2⟩)))
          go_ret
          exact ⟨by simp, hB1.trans (hb2.mono hB1.size)⟩
      · have e : (n.toList == n'.toList) = false := by simpa [toList_inj] using hn
        have hz : decide (n = n') = false := by simpa using hn
        rw [hz]
        clear hn hz
        go_enter Try.func27, Try.ntmps27
        go_wp2
        go_ret
        exact ⟨by simp, ((Below.refl _ _).alloc (Nat.le_refl _) _).alloc (by simp) _⟩
    · have e : (p.toList == p'.toList) = false := by simpa [toList_inj] using hp
      have hz : decide (p = p') = false := by simpa using hp
      rw [hz]
      clear hp hz
      go_enter Try.func27, Try.ntmps27
      go_wp2
      go_ret
      exact ⟨by simp, ((Below.refl _ _).alloc (Nat.le_refl _) _).alloc (by simp) _⟩
  · have e : (k == k') = false := by simpa using hk
    have hz : decide (k = k') = false := by simpa using hk
    rw [hz]
    clear hk hz
    go_enter Try.func27, Try.ntmps27
    go_wp2
    go_ret
    exact ⟨by simp, ((Below.refl _ _).alloc (Nat.le_refl _) _).alloc (by simp) _⟩
theorem rsame_all : ∀ N : Nat, N ≤ 2000000 → SameR N
  | 0, _ => fun a b h => by have := count_pos a; omega
  | N + 1, h => rsame_step N (rsame_all N (by omega)) (by omega)
end Go.Proofs.Ytcfgjfahjaimiaa
