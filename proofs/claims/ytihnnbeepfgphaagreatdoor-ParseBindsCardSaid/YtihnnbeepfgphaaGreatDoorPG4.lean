/-
  Methods of the parser, the last ten: walks.
-/
import Derived.Test.YtihnnbeepfgphaaGreatDoorParE
import Derived.Test.YtihnnbeepfgphaaGreatDoorPG2
import Derived.Test.YtihnnbeepfgphaaGreatDoorPG3
import Derived.Test.YtihnnbeepfgphaaGreatDoorParV
/-! ## PF31: Parts within brackets: walks. -/
namespace Go.Proofs.YtihnnbeepfgphaaGreatDoor
open Go.RowKit
set_option linter.unusedVariables false
set_option linter.unusedSimpArgs false
attribute [local go_sem ↓] tok_f0 tok_f1 tok_f2 tok_f3

theorem bne_of {a b : List UInt8} (h : (a == b) = false) : (a != b) = true := by simp [bne, h]
set_option maxRecDepth 100000 in
set_option maxHeartbeats 4000000 in
theorem within_step (n : Nat) (hn : n ≤ LIM) (H : ∀ m, m ≤ n → AllN m) (p : Pt) : CW (n + 1) p := by
  intro E w l o aa cc s1 s2 g r fv hfv hP hs1 hs2 ha hc hq hr
  subst hfv hs1 hs2
  simp only [go, bnd_enter, bnd_ite, bnd_want, bnd_bnd, bnd_ok] at hq
  have hlt := hP.lt
  have hgt := hP.toks.lt
  have hne := hP.ne
  have HR := Lib.hid hr
  have Hn := H n (Nat.le_refl _)
  have HQ0 := Lib.hid hq
  have HA := Lib.hid ha
  have HCC := Lib.hid hc
  clear hr hq ha hc
  go_enter Tryz.func72, Tryz.ntmps72
  go_wp2_with (go_at_call 58; refine (enter_any E _ l o aa _ _ _ hP rfl HA.out HQ0.out).mono ?_; rintro e w1 ⟨hg1, ⟨a, k, hb, rfl⟩ | ⟨x1, l1, rfl, hq1, hP1⟩⟩; exact And.intro rfl ⟨Gr.trans grA hg1, .inl ⟨_, _, hb, rfl⟩⟩; have hG1 : Gr (· = E.b) w w1 := Gr.trans grA hg1; have HQ1 := Lib.hid hq1; clear hq1)
  have hbl1 := hP1.lt
  have hgl1 := hP1.toks.lt
  have hs1 := hG1.size
  by_cases hm : mark l1 = cc
  · have HQx := HQ1.out
    rw [if_pos hm] at HQx
    have HM := Lib.hid hm
    have HQ2 := Lib.hid HQx
    have hbt : ((bs cc).toList == (bs cc).toList) = true := by simp
    have hbf : ((bs cc).toList != (bs cc).toList) = false := by simp
    clear HQx hm HQ1
    go_wp2_with (first
      | (go_at_call 38; refine (mark_any E _ l1 (o + 1) hP1).mono ?_; rw [HM.out]; rintro e w2 ⟨rfl, hb2⟩; have hP2 := hP1.below hb2; have hG2 : Gr (· = E.b) w w2 := hG1.trans (Gr.of_below hb2))
      | (go_at_call 59; refine (leave_any E _ l1 o cc _ _ _ hP2 rfl HCC.out HQ2.out).mono ?_; rintro e w3 ⟨hg3, ⟨a, k, hb, rfl⟩ | ⟨x3, l3, rfl, hq3, hP3⟩⟩; exact And.intro rfl ⟨Gr.trans hG2 hg3, .inl ⟨_, _, hb, rfl⟩⟩; have hG3 : Gr (· = E.b) w w3 := hG2.trans hg3; have HQ3 := Lib.hid hq3; clear hq3))
    go_ret
    exact ⟨hG3, .inr ⟨[], none, 0, l3, rfl, HQ3.out, Kid.nil _ _ 0, by simp, hP3⟩⟩
  · have HQx := HQ1.out
    rw [if_neg hm] at HQx
    have hbf := bs_beq hm
    have hbt := bne_of hbf
    have HQ2 := Lib.hid HQx
    clear HQx hm HQ1
    go_wp2_with (first
      | (go_at_call 38; refine (mark_any E _ l1 (o + 1) hP1).mono ?_; rintro e w2 ⟨rfl, hb2⟩; have hP2 := hP1.below hb2; have hG2 : Gr (· = E.b) w w2 := hG1.trans (Gr.of_below hb2); have hs2 := hb2.size)
      | (go_at_call 61; refine (Hn.list p E _ l1 (o + 1) _ r _ rfl hP2 HQ2.out HR.out).mono ?_; rintro e w3 ⟨hg3, ⟨a, k, hb, rfl⟩ | ⟨ks3, A3, c3, l3, rfl, hq3, hk3, hn3, hP3⟩⟩; exact And.intro rfl ⟨Gr.trans hG2 hg3, .inl ⟨_, _, hb, rfl⟩⟩; have hG3 : Gr (· = E.b) w w3 := hG2.trans hg3; have HQ3 := Lib.hid hq3; clear hq3)
      | (go_at_call 59; refine (leave_any E _ l3 o cc _ _ _ hP3 rfl HCC.out HQ3.out).mono ?_; rintro e w4 ⟨hg4, ⟨a, k, hb, rfl⟩ | ⟨x4, l4, rfl, hq4, hP4⟩⟩; exact And.intro rfl ⟨Gr.trans hG3 hg4, .inl ⟨_, _, hb, rfl⟩⟩; have hG4 : Gr (· = E.b) w w4 := hG3.trans hg4; have HQ4 := Lib.hid hq4; clear hq4; have hk4 := (hk3.mono (lo' := w.heap.size) (by omega)).call hg4 hlt))
    go_ret
    exact ⟨hG4, .inr ⟨ks3, A3, c3, l4, rfl, HQ4.out, hk4, hn3, hP4⟩⟩
end Go.Proofs.YtihnnbeepfgphaaGreatDoor

/-! ## PF32: Statements that begin with an expression: walks. -/
namespace Go.Proofs.YtihnnbeepfgphaaGreatDoor
open Go.RowKit
set_option linter.unusedVariables false
set_option linter.unusedSimpArgs false
attribute [local go_sem ↓] tok_f0 tok_f1 tok_f2 tok_f3

set_option maxRecDepth 100000 in
set_option maxHeartbeats 4000000 in
theorem simple_step (n : Nat) (hn : n ≤ LIM) (H : ∀ m, m ≤ n → AllN m) : C0 (n + 1) 88 .simple := by
  intro E w l o g r hP hq hr
  simp only [go, bnd_want, bnd_takeR, bnd_ite, bnd_bnd, bnd_ok] at hq
  have hlt := hP.lt
  have hgt := hP.toks.lt
  have hne := hP.ne
  have HR := Lib.hid hr
  have Hn := H n (Nat.le_refl _)
  clear hr
  have HQ0 := Lib.hid hq
  clear hq
  go_enter Tryz.func88, Tryz.ntmps88
  go_wp2_with (first
    | (go_at_call 55; refine (Hn.expr E _ l (o) _ r psA HQ0.out HR.out).mono ?_; rintro e w1 ⟨hg1, ⟨a, k, hb, rfl⟩ | ⟨k1, op1, m1, p1, t1, a1, ks1, A1, c1, l1, rfl, hq1, hk_11, hn1, hP1⟩⟩; exact And.intro rfl ⟨Gr.trans grA hg1, .inl ⟨_, _, hb, rfl⟩⟩; have hG1 : Gr (· = E.b) w w1 := Gr.trans grA hg1; have HQ1 := Lib.hid hq1; clear hq1; have hbl1 := hP1.lt; have hgl1 := hP1.toks.lt; have hs1 : w.heap.size + 1 ≤ w1.heap.size := (by have := hg1.size; simpa using this); have hb_z1 : Blk w1 (w.heap.size) 28 #[.int .i64 0, .int .i64 0, .int .i64 0, .string ⟨#[]⟩, .string ⟨#[]⟩, .int .i64 0, .slice none 0 0] := Blk.call (b := E.b) bkA hg1 (by omega); have hl_z1 := hb_z1.lt; have hk_11 := Kid.mono (lo' := w.heap.size + 1) hk_11 (by simp); have hlit := Kid.lit1 (lo := w.heap.size + 1) (k := k1) (op := op1) (m := m1) (p := p1) (t := t1) (a := a1) (Kid.mono hk_11 (by omega)) (by omega)))
  by_cases hm : mark l1 = [61]
  · skip
    have HQx := HQ1.out
    rw [if_pos hm] at HQx
    obtain ⟨x2, l2, rfl⟩ := hP1.cons
    rw [takeR_cons] at HQx
    have HX := Lib.hid (good_mark hP1.good (by rw [hm]; simp))
    have HM := Lib.hid hm
    clear HQ1 hm
    have HQ1 := Lib.hid HQx
    clear HQx
    go_wp2_with (first
      | (go_at_call 38; refine (mark_any E _ (x2 :: l2) (o) psA).mono ?_; rw [HM.out, show bs [61] = ⟨#[61]⟩ from rfl]; rintro e w2 ⟨rfl, hg2⟩; have hP2 : PS E w2 (x2 :: l2) (o) := PS.below psA hg2; have hG2 : Gr (· = E.b) w w2 := Gr.trans grA (Gr.of_below hg2); have hbl2 := hP2.lt; have hgl2 := hP2.toks.lt; have hs2 : w1.heap.size + 1 ≤ w2.heap.size := (by have := hg2.size; simpa using this); have hb_z2 : Blk w2 (w.heap.size) 28 #[.int .i64 0, .int .i64 0, .int .i64 0, .string ⟨#[]⟩, .string ⟨#[]⟩, .int .i64 0, .slice none 0 0] := Blk.bel bkA hg2; have hl_z2 := hb_z2.lt; have hk_q2 : Kid w2 (w.heap.size + 1) (.slice (some ⟨w1.heap.size, 0, none⟩) 1 1) [(Tr.mk k1 op1 m1 p1 t1 a1 ks1)] := Kid.bel kdA hg2)
      | (go_at_call 40; refine (take_any E _ x2 l2 (o) psA HX.out).mono ?_; rintro e w3 ⟨rfl, hg3, hP3⟩; have hG3 : Gr (· = E.b) w w3 := Gr.trans grA hg3; have hbl3 := hP3.lt; have hgl3 := hP3.toks.lt; have hs3 : w2.heap.size + 0 ≤ w3.heap.size := (by have := hg3.size; simpa using this); have hb_z3 : Blk w3 (w.heap.size) 28 #[.int .i64 0, .int .i64 0, .int .i64 0, .string ⟨#[]⟩, .string ⟨#[]⟩, .int .i64 0, .slice none 0 0] := Blk.call (b := E.b) bkA hg3 (by omega); have hl_z3 := hb_z3.lt; have hk_q3 : Kid w3 (w.heap.size + 1) (.slice (some ⟨w1.heap.size, 0, none⟩) 1 1) [(Tr.mk k1 op1 m1 p1 t1 a1 ks1)] := Kid.call (b := E.b) kdA hg3 (by omega))
      | (go_at_call 55; refine (Hn.expr E _ l2 (o) _ r psA HQ1.out HR.out).mono ?_; rintro e w4 ⟨hg4, ⟨a, k, hb, rfl⟩ | ⟨k4, op4, m4, p4, t4, a4, ks4, A4, c4, l4, rfl, hq4, hk_44, hn4, hP4⟩⟩; exact And.intro rfl ⟨Gr.trans grA hg4, .inl ⟨_, _, hb, rfl⟩⟩; have hG4 : Gr (· = E.b) w w4 := Gr.trans grA hg4; have HQ4 := Lib.hid hq4; clear hq4; have hbl4 := hP4.lt; have hgl4 := hP4.toks.lt; have hs4 : w3.heap.size + 0 ≤ w4.heap.size := (by have := hg4.size; simpa using this); have hb_z4 : Blk w4 (w.heap.size) 28 #[.int .i64 0, .int .i64 0, .int .i64 0, .string ⟨#[]⟩, .string ⟨#[]⟩, .int .i64 0, .slice none 0 0] := Blk.call (b := E.b) bkA hg4 (by omega); have hl_z4 := hb_z4.lt; have hk_q4 : Kid w4 (w.heap.size + 1) (.slice (some ⟨w1.heap.size, 0, none⟩) 1 1) [(Tr.mk k1 op1 m1 p1 t1 a1 ks1)] := Kid.call (b := E.b) kdA hg4 (by omega); have hk_44 := Kid.mono (lo' := w3.heap.size + 0) hk_44 (by simp); have hlit4 := Kid.lit1 (lo := w3.heap.size) (k := k4) (op := op4) (m := m4) (p := p4) (t := t4) (a := a4) (Kid.mono hk_44 (by omega)) (by omega))
      | (at_builtin; refine wpList_push (lo := w.heap.size + 1) (N := w3.heap.size) (b := E.b) (v := .slice (some ⟨w1.heap.size, 0, none⟩) 1 1) (ks0 := [(Tr.mk k1 op1 m1 p1 t1 a1 ks1)]) (t := (Tr.mk k4 op4 m4 p4 t4 a4 ks4)) rfl _ _ rfl (hk_q4.alloc _) (fun q e => by simp only [Value.ownBlock, Option.some.injEq] at e; omega) hlit4 (by omega) (by omega) (by simp [LIM]) (by simp; omega) rfl rfl ?_; intro A6 c6 w6 hk_q6 hg6))
    have hs6 : w4.heap.size + 1 ≤ w6.heap.size := by have := hg6.size; simpa using this
    have how : ∀ q, (Value.slice (some ⟨w1.heap.size, 0, none⟩) 1 1).ownBlock = some q → w1.heap.size ≤ q := fun q e => by simp only [Value.ownBlock, Option.some.injEq] at e; omega
    have hP6 : PS E w6 l4 (o) := (hP4.alloc _).gr hg6 (fun e => by have := how _ e; omega) (fun e => by have := how _ e; omega)
    have hG6 : Gr (· = E.b) w w6 := (hG4.alloc _).wide hg6 (fun k hk e => by have := how _ e; omega)
    have hb_z6 : Blk w6 (w.heap.size) 28 #[.int .i64 0, .int .i64 0, .int .i64 0, .string ⟨#[]⟩, .string ⟨#[]⟩, .int .i64 0, .slice none 0 0] := (hb_z4.alloc _).gr hg6 (fun e => by have := how _ e; omega)
    have hl_z6 := hb_z6.lt
    have hbl6 := hP6.lt
    have hgl6 := hP6.toks.lt
    go_wp2_with (first
      | (go_at_call 24; (with_reducible refine (want_any E _ l4 (o) [59] ⟨#[59]⟩ _ _ psA rfl (by simp) HQ4.out).mono ?_); rintro e w7 ⟨hg7, ⟨a, k, hb, rfl⟩ | ⟨x7, l7, rfl, hq7, hP7⟩⟩; exact And.intro rfl ⟨Gr.trans grA hg7, .inl ⟨_, _, hb, rfl⟩⟩; have hG7 : Gr (· = E.b) w w7 := Gr.trans grA hg7; have HQ7 := Lib.hid hq7; clear hq7; have hbl7 := hP7.lt; have hgl7 := hP7.toks.lt; have hs7 : w6.heap.size + 0 ≤ w7.heap.size := (by have := hg7.size; simpa using this); have hb_z7 : Blk w7 (w.heap.size) 28 #[.int .i64 0, .int .i64 0, .int .i64 0, .string ⟨#[]⟩, .string ⟨#[]⟩, .int .i64 0, .slice none 0 0] := Blk.call (b := E.b) bkA hg7 (by omega); have hl_z7 := hb_z7.lt; obtain ⟨_, z7_0, z7_1, z7_2, z7_3, z7_4, z7_5, z7_6, z7_f⟩ := hb_z7.all7; have hk_q7 : Kid w7 (w.heap.size + 1) (.slice A6 ([(Tr.mk k1 op1 m1 p1 t1 a1 ks1)].length + 1) c6) ([(Tr.mk k1 op1 m1 p1 t1 a1 ks1)] ++ [(Tr.mk k4 op4 m4 p4 t4 a4 ks4)]) := Kid.call (b := E.b) kdA hg7 (by omega)))
    exact ret7 Tryz.results88 rfl rfl b7A ⟨grA, .inr ⟨19, 0, 0, [], [], x2.2, ([(Tr.mk k1 op1 m1 p1 t1 a1 ks1)] ++ [(Tr.mk k4 op4 m4 p4 t4 a4 ks4)]), A6, c6, l7, rfl, HQ7.out, Kid.mono (lo := w.heap.size + 1) (v := .slice A6 ([(Tr.mk k1 op1 m1 p1 t1 a1 ks1)].length + 1) c6) (ks := ([(Tr.mk k1 op1 m1 p1 t1 a1 ks1)] ++ [(Tr.mk k4 op4 m4 p4 t4 a4 ks4)])) kdA (by omega), by simp [LIM], psA⟩⟩
  · skip
    have HQx := HQ1.out
    rw [if_neg hm] at HQx
    have hmn1 := bs_beq3 hm
    have HM := Lib.hid hm
    clear HQ1 hm
    have HQ1 := Lib.hid HQx
    clear HQx
    have hmx := bne_of hmn1
    go_wp2_with (first
      | (go_at_call 38; refine (mark_any E _ l1 (o) psA).mono ?_; rintro e w2 ⟨rfl, hg2⟩; have hP2 : PS E w2 l1 (o) := PS.below psA hg2; have hG2 : Gr (· = E.b) w w2 := Gr.trans grA (Gr.of_below hg2); have hbl2 := hP2.lt; have hgl2 := hP2.toks.lt; have hs2 : w1.heap.size + 1 ≤ w2.heap.size := (by have := hg2.size; simpa using this); have hb_z2 : Blk w2 (w.heap.size) 28 #[.int .i64 0, .int .i64 0, .int .i64 0, .string ⟨#[]⟩, .string ⟨#[]⟩, .int .i64 0, .slice none 0 0] := Blk.bel bkA hg2; have hl_z2 := hb_z2.lt; have hk_q2 : Kid w2 (w.heap.size + 1) (.slice (some ⟨w1.heap.size, 0, none⟩) 1 1) [(Tr.mk k1 op1 m1 p1 t1 a1 ks1)] := Kid.bel kdA hg2)
      | (go_at_call 24; (with_reducible refine (want_any E _ l1 (o) [59] ⟨#[59]⟩ _ _ psA rfl (by simp) HQ1.out).mono ?_); rintro e w3 ⟨hg3, ⟨a, k, hb, rfl⟩ | ⟨x3, l3, rfl, hq3, hP3⟩⟩; exact And.intro rfl ⟨Gr.trans grA hg3, .inl ⟨_, _, hb, rfl⟩⟩; have hG3 : Gr (· = E.b) w w3 := Gr.trans grA hg3; have HQ3 := Lib.hid hq3; clear hq3; have hbl3 := hP3.lt; have hgl3 := hP3.toks.lt; have hs3 : w2.heap.size + 0 ≤ w3.heap.size := (by have := hg3.size; simpa using this); have hb_z3 : Blk w3 (w.heap.size) 28 #[.int .i64 0, .int .i64 0, .int .i64 0, .string ⟨#[]⟩, .string ⟨#[]⟩, .int .i64 0, .slice none 0 0] := Blk.call (b := E.b) bkA hg3 (by omega); have hl_z3 := hb_z3.lt; obtain ⟨_, z3_0, z3_1, z3_2, z3_3, z3_4, z3_5, z3_6, z3_f⟩ := hb_z3.all7; have hk_q3 : Kid w3 (w.heap.size + 1) (.slice (some ⟨w1.heap.size, 0, none⟩) 1 1) [(Tr.mk k1 op1 m1 p1 t1 a1 ks1)] := Kid.call (b := E.b) kdA hg3 (by omega)))
    exact ret7 Tryz.results88 rfl rfl b7A ⟨grA, .inr ⟨20, 0, 0, [], [], x3.2, [(Tr.mk k1 op1 m1 p1 t1 a1 ks1)], _, 1, l3, rfl, HQ3.out, Kid.mono (lo := w.heap.size + 1) (v := .slice (some ⟨w1.heap.size, 0, none⟩) 1 1) (ks := [(Tr.mk k1 op1 m1 p1 t1 a1 ks1)]) kdA (by omega), by simp [LIM], psA⟩⟩
end Go.Proofs.YtihnnbeepfgphaaGreatDoor

/-! ## PF33: Methods of interfaces: walks. -/
namespace Go.Proofs.YtihnnbeepfgphaaGreatDoor
open Go.RowKit
set_option linter.unusedVariables false
set_option linter.unusedSimpArgs false
attribute [local go_sem ↓] tok_f0 tok_f1 tok_f2 tok_f3

set_option maxRecDepth 100000 in
set_option maxHeartbeats 4000000 in
theorem sig_step (n : Nat) (hn : n ≤ LIM) (H : ∀ m, m ≤ n → AllN m) : C0 (n + 1) 57 .sig := by
  intro E w l o g r hP hq hr
  simp only [go, bnd_want, bnd_wantK, bnd_bnd, bnd_ok] at hq
  have hlt := hP.lt
  have hgt := hP.toks.lt
  have hne := hP.ne
  have HR := Lib.hid hr
  have Hn := H n (Nat.le_refl _)
  clear hr
  have HQ0 := Lib.hid hq
  clear hq
  go_enter Tryz.func57, Tryz.ntmps57
  go_wp2_with (first
    | (go_at_call 25; (with_reducible refine (name_any E _ l (o) _ _ psA HQ0.out).mono ?_); rintro e w1 ⟨hg1, ⟨a, k, hb, rfl⟩ | ⟨x1, l1, rfl, hq1, hP1⟩⟩; exact And.intro rfl ⟨Gr.trans grA hg1, .inl ⟨_, _, hb, rfl⟩⟩; have hG1 : Gr (· = E.b) w w1 := Gr.trans grA hg1; have HQ1 := Lib.hid hq1; clear hq1; have hbl1 := hP1.lt; have hgl1 := hP1.toks.lt; have hs1 : w.heap.size + 1 ≤ w1.heap.size := (by have := hg1.size; simpa using this); have hb_z1 : Blk w1 (w.heap.size) 28 #[.int .i64 0, .int .i64 0, .int .i64 0, .string ⟨#[]⟩, .string ⟨#[]⟩, .int .i64 0, .slice none 0 0] := Blk.call (b := E.b) bkA hg1 (by omega); have hl_z1 := hb_z1.lt)
    | (go_at_call 63; refine (Hn.head .typeOf E _ l1 (o) (w1.heap.size + 2) (w1.heap.size + 1) _ r 8 0 0 [] x1.1.t x1.2 ([] : List Tr) none 0 _ rfl psA (by omega) (by omega) (by omega) (by omega) (by omega) (by simp; try omega) (by simp) (show Blk _ (w1.heap.size + 1) 28 #[.int .i64 8, .int .i64 0, .int .i64 0, .string ⟨#[]⟩, .string (bs x1.1.t), .int .i64 x1.2, .slice none 0 0] from bkA) (KidX.kid (h := w1.heap.size + 1) kxA) (head_num HQ1.out) HR.out).mono ?_; rintro e w2 ⟨hg2, ⟨a, k, hb, rfl⟩ | ⟨m2, ks2, A2, c2, l2, rfl, hq2, hP2, hn2, hk_22, hb_n2⟩⟩; exact And.intro rfl ⟨Gr.wide grA hg2 (fun q hq hs => by (rcases hs with hs | hs | hs; exact hs; omega; omega)), .inl ⟨_, _, hb, rfl⟩⟩; have hG2 : Gr (· = E.b) w w2 := Gr.wide grA hg2 (fun q hq hs => by (rcases hs with hs | hs | hs; exact hs; omega; omega)); have hm2 : m2 = 0 ∨ m2 = 1 := (Decidable.byContradiction fun hc => HR.out (by rw [← hq2]; exact if_neg hc)); simp only [Tr.num, hm2, if_true] at hq2; have hme2 : (if m2 = 1 then (1 : Int) else 0) = m2 := (by rcases hm2 with h | h <;> simp [h]); rw [hme2] at hb_n2; clear hme2 hm2; have HQ2 := Lib.hid hq2; clear hq2; have hbl2 := hP2.lt; have hgl2 := hP2.toks.lt; have hl_n2 := hb_n2.lt; have hb_n2 : Blk w2 (w1.heap.size + 1) 28 #[.int .i64 8, .int .i64 0, .int .i64 m2, .string ⟨#[]⟩, .string (bs x1.1.t), .int .i64 x1.2, .slice A2 (([] : List Tr) ++ ks2).length c2] := hb_n2; have hs2 : w1.heap.size + 2 ≤ w2.heap.size := (by have := hg2.size; simpa using this); have hb_z2 : Blk w2 (w.heap.size) 28 #[.int .i64 0, .int .i64 0, .int .i64 0, .string ⟨#[]⟩, .string ⟨#[]⟩, .int .i64 0, .slice none 0 0] := Blk.gr bkA hg2 (by (rintro (h | h | h) <;> omega)); have hl_z2 := hb_z2.lt; have hk_n2 : KidX w2 (w1.heap.size + 2) (w1.heap.size + 1) (.slice A2 (([] : List Tr) ++ ks2).length c2) (([] : List Tr) ++ ks2) := Kid.x hk_22 (by omega))
    | (go_at_call 24; (with_reducible refine (want_any E _ l2 (o) [59] ⟨#[59]⟩ _ _ psA rfl (by simp) HQ2.out).mono ?_); rintro e w3 ⟨hg3, ⟨a, k, hb, rfl⟩ | ⟨x3, l3, rfl, hq3, hP3⟩⟩; exact And.intro rfl ⟨Gr.trans grA hg3, .inl ⟨_, _, hb, rfl⟩⟩; have hG3 : Gr (· = E.b) w w3 := Gr.trans grA hg3; have HQ3 := Lib.hid hq3; clear hq3; have hbl3 := hP3.lt; have hgl3 := hP3.toks.lt; have hs3 : w2.heap.size + 0 ≤ w3.heap.size := (by have := hg3.size; simpa using this); have hb_z3 : Blk w3 (w.heap.size) 28 #[.int .i64 0, .int .i64 0, .int .i64 0, .string ⟨#[]⟩, .string ⟨#[]⟩, .int .i64 0, .slice none 0 0] := Blk.call (b := E.b) bkA hg3 (by omega); have hl_z3 := hb_z3.lt; obtain ⟨_, z3_0, z3_1, z3_2, z3_3, z3_4, z3_5, z3_6, z3_f⟩ := hb_z3.all7; have hb_n3 : Blk w3 (w1.heap.size + 1) 28 #[.int .i64 8, .int .i64 0, .int .i64 m2, .string ⟨#[]⟩, .string (bs x1.1.t), .int .i64 x1.2, .slice A2 (([] : List Tr) ++ ks2).length c2] := Blk.call (b := E.b) bkA hg3 (by omega); have hl_n3 := hb_n3.lt; obtain ⟨_, n3_0, n3_1, n3_2, n3_3, n3_4, n3_5, n3_6, n3_f⟩ := hb_n3.all7; have hk_n3 : KidX w3 (w1.heap.size + 2) (w1.heap.size + 1) (.slice A2 (([] : List Tr) ++ ks2).length c2) (([] : List Tr) ++ ks2) := KidX.call (b := E.b) kxA hg3 (by omega)))
  exact ret7 Tryz.results57 rfl rfl b7A ⟨grA, .inr ⟨8, 0, m2, [], x1.1.t, x1.2, (([] : List Tr) ++ ks2), A2, c2, l3, rfl, HQ3.out, Kid.mono (lo := w1.heap.size + 2) (v := .slice A2 (([] : List Tr) ++ ks2).length c2) (ks := (([] : List Tr) ++ ks2)) (KidX.kid (h := w1.heap.size + 1) kxA) (by omega), (by unfold LIM at *; simp; omega), psA⟩⟩
end Go.Proofs.YtihnnbeepfgphaaGreatDoor

/-! ## PF34: Literals of functions: walks. -/
namespace Go.Proofs.YtihnnbeepfgphaaGreatDoor
open Go.RowKit
set_option linter.unusedVariables false
set_option linter.unusedSimpArgs false
attribute [local go_sem ↓] tok_f0 tok_f1 tok_f2 tok_f3

set_option maxRecDepth 100000 in
set_option maxHeartbeats 4000000 in
theorem literalFunc_step (n : Nat) (hn : n ≤ LIM) (H : ∀ m, m ≤ n → AllN m) : C0 (n + 1) 107 .literalFunc := by
  intro E w l o g r hP hq hr
  simp only [go, bnd_want, bnd_bnd, bnd_ok] at hq
  have hlt := hP.lt
  have hgt := hP.toks.lt
  have hne := hP.ne
  have HR := Lib.hid hr
  have Hn := H n (Nat.le_refl _)
  clear hr
  have HQ0 := Lib.hid hq
  clear hq
  go_enter Tryz.func107, Tryz.ntmps107
  go_wp2_with (first
    | (go_at_call 24; (with_reducible refine (want_any E _ l (o) [102, 117, 110, 99] ⟨#[102, 117, 110, 99]⟩ _ _ psA rfl (by simp) HQ0.out).mono ?_); rintro e w1 ⟨hg1, ⟨a, k, hb, rfl⟩ | ⟨x1, l1, rfl, hq1, hP1⟩⟩; exact And.intro rfl ⟨Gr.trans grA hg1, .inl ⟨_, _, hb, rfl⟩⟩; have hG1 : Gr (· = E.b) w w1 := Gr.trans grA hg1; have HQ1 := Lib.hid hq1; clear hq1; have hbl1 := hP1.lt; have hgl1 := hP1.toks.lt; have hs1 : w.heap.size + 1 ≤ w1.heap.size := (by have := hg1.size; simpa using this); have hb_z1 : Blk w1 (w.heap.size) 28 #[.int .i64 0, .int .i64 0, .int .i64 0, .string ⟨#[]⟩, .string ⟨#[]⟩, .int .i64 0, .slice none 0 0] := Blk.call (b := E.b) bkA hg1 (by omega); have hl_z1 := hb_z1.lt)
    | (go_at_call 63; refine (Hn.head .param E _ l1 (o) (w1.heap.size + 1) (w1.heap.size) _ r 41 0 0 [] [] x1.2 ([] : List Tr) none 0 _ rfl psA (by omega) (by omega) (by omega) (by omega) (by omega) (by simp; try omega) (by simp) (show Blk _ (w1.heap.size) 28 #[.int .i64 41, .int .i64 0, .int .i64 0, .string ⟨#[]⟩, .string ⟨#[]⟩, .int .i64 x1.2, .slice none 0 0] from bkA) (KidX.kid (h := w1.heap.size) kxA) (head_num HQ1.out) HR.out).mono ?_; rintro e w2 ⟨hg2, ⟨a, k, hb, rfl⟩ | ⟨m2, ks2, A2, c2, l2, rfl, hq2, hP2, hn2, hk_22, hb_n2⟩⟩; exact And.intro rfl ⟨Gr.wide grA hg2 (fun q hq hs => by (rcases hs with hs | hs | hs; exact hs; omega; omega)), .inl ⟨_, _, hb, rfl⟩⟩; have hG2 : Gr (· = E.b) w w2 := Gr.wide grA hg2 (fun q hq hs => by (rcases hs with hs | hs | hs; exact hs; omega; omega)); have hm2 : m2 = 0 ∨ m2 = 1 := (Decidable.byContradiction fun hc => HR.out (by rw [← hq2]; exact if_neg hc)); simp only [Tr.num, hm2, if_true] at hq2; have hme2 : (if m2 = 1 then (1 : Int) else 0) = m2 := (by rcases hm2 with h | h <;> simp [h]); rw [hme2] at hb_n2; clear hme2 hm2; have HQ2 := Lib.hid hq2; clear hq2; have hbl2 := hP2.lt; have hgl2 := hP2.toks.lt; have hl_n2 := hb_n2.lt; have hb_n2 : Blk w2 (w1.heap.size) 28 #[.int .i64 41, .int .i64 0, .int .i64 m2, .string ⟨#[]⟩, .string ⟨#[]⟩, .int .i64 x1.2, .slice A2 (([] : List Tr) ++ ks2).length c2] := hb_n2; have hs2 : w1.heap.size + 1 ≤ w2.heap.size := (by have := hg2.size; simpa using this); have hb_z2 : Blk w2 (w.heap.size) 28 #[.int .i64 0, .int .i64 0, .int .i64 0, .string ⟨#[]⟩, .string ⟨#[]⟩, .int .i64 0, .slice none 0 0] := Blk.gr bkA hg2 (by (rintro (h | h | h) <;> omega)); have hl_z2 := hb_z2.lt; have hk_n2 : KidX w2 (w1.heap.size + 1) (w1.heap.size) (.slice A2 (([] : List Tr) ++ ks2).length c2) (([] : List Tr) ++ ks2) := Kid.x hk_22 (by omega)))
  have hln := hn2
  unfold LIM at hln
  obtain ⟨_, n2_0, n2_1, n2_2, n2_3, n2_4, n2_5, n2_6, n2_f⟩ := hb_n2.all7
  refine region_B 11 3 5 6 7 8 10 1 4 9 E.b (w1.heap.size + 1) (w1.heap.size) 24 (fun i => match i with | 0 => .pointer (some ⟨w1.heap.size, 6, none⟩) | 1 => (.slice A2 (([] : List Tr) ++ ks2).length c2) | 2 => .pointer (some ⟨E.b, 0, none⟩) | 4 => .int .i64 ((([] : List Tr) ++ ks2) : List Tr).length | 9 => .pointer (some ⟨w1.heap.size, 6, none⟩) | _ => undef) (.int .i64 41) (.int .i64 0) (.int .i64 m2) (.string ⟨#[]⟩) (.string ⟨#[]⟩) (.int .i64 x1.2) (.slice A2 (([] : List Tr) ++ ks2).length c2) (([] : List Tr) ++ ks2) 65 #[.pointer (some ⟨E.b, 0, none⟩)] (TellB r) (fun W => PS E W l2 (o)) (TellD E (o) _ r) rfl (by kernel_rfl) (by kernel_rfl) rfl (by kernel_rfl) (by decide) (by decide) (by decide) (by decide) rfl rfl rfl rfl rfl rfl rfl rfl rfl rfl rfl rfl ⟨_, rfl, rfl⟩ ⟨_, rfl, rfl⟩ ⟨_, rfl, rfl⟩ ⟨_, _, _, rfl⟩ rfl ⟨_, _, _, rfl⟩ ⟨_, _, _, rfl⟩ ⟨_, _, _, rfl⟩ (by kernel_rfl) (by kernel_rfl) (by kernel_rfl) (by kernel_rfl) (by kernel_rfl) (by kernel_rfl) (by kernel_rfl) (by kernel_rfl) (by kernel_rfl) rfl rfl rfl
    (fun a w hun hev => by
      have e2 := hev 2 _ _ (by omega) rfl rfl (by kernel_rfl) (by decide)
      simp [Act.eval] at e2
      unfold execOp; go_simp)
    (fun i o hoi hi hx a w hgr hun hev => by
      rcases (show i = 0 ∨ i = 1 ∨ i = 2 ∨ i = 3 ∨ i = 4 ∨ i = 5 ∨ i = 6 ∨ i = 7 ∨ i = 8 ∨ i = 9 ∨ i = 10 by omega) with rfl | rfl | rfl | rfl | rfl | rfl | rfl | rfl | rfl | rfl | rfl
      · obtain rfl := Option.some.inj hoi; exact x_kids _ _ _ _ _ _ _ _ ((hun 3 (noput_all (by kernel_rfl))).trans rfl)
      · obtain rfl := Option.some.inj hoi; exact x_loadS _ _ _ _ _ _ _ _ 6 _ (hev 0 _ _ (by omega) rfl rfl (by kernel_rfl) (by decide)) (((hgr rfl).cell (p := ⟨w1.heap.size, 6, none⟩) (by show w1.heap.size < _; omega) (by show ¬ Wr _ _ _ (w1.heap.size); unfold Wr; omega)).trans n2_6)
      · obtain rfl := Option.some.inj hoi; exact x_move _ _ _ _ _ _ _ _ ((hun 0 (noput_all (by kernel_rfl))).trans rfl)
      · exact absurd (by decide) hx
      · obtain rfl := Option.some.inj hoi; exact x_len _ _ _ _ _ _ _ _ _ _ 0 (hev 1 _ _ (by omega) rfl rfl (by kernel_rfl) (by decide))
      · exact absurd (by decide) hx
      · exact absurd (by decide) hx
      · exact absurd (by decide) hx
      · exact absurd (by decide) hx
      · obtain rfl := Option.some.inj hoi; exact x_kids _ _ _ _ _ _ _ _ ((hun 3 (noput_all (by kernel_rfl))).trans rfl)
      · exact absurd (by decide) hx)
    hk_n2 hb_n2 (by omega) (by omega) (by omega) (by omega) (by simp [LIM]; omega) (calm_PS E _ _ (o) (by omega) (by omega)) hP2 (calm_TellD E _ (o) _ r (by omega) (by omega)) (fun t w u hd => by obtain ⟨l9, h1, h2⟩ := hd; exact ⟨l9, h1, h2.setCell (by show w1.heap.size ≠ _; omega) (by show w1.heap.size ≠ _; omega) u⟩) (fun W hW => (Hn.block E W l2 (o) _ r hW HQ2.out HR.out).mono fun e w' h => tells h) ?_ ?_
  · rintro a w' c had ⟨at_, k, hb, rfl⟩ hg
    exact And.intro had ⟨hG2.trans hg, .inl ⟨_, _, hb, rfl⟩⟩
  rintro vals w3 A3 c3 u3 ⟨l3, hq3, hP3⟩ hk_n3 hgx hb_n3
  have hsx := hgx.size
  have hG3 : Gr (· = E.b) w w3 := Gr.wide hG2 hgx (fun q hq hs => by
    rcases hs with hs | hs | hs
    · exact hs
    · omega
    · omega)
  have hb_z3 : Blk w3 (w.heap.size) 28 #[.int .i64 0, .int .i64 0, .int .i64 0, .string ⟨#[]⟩, .string ⟨#[]⟩, .int .i64 0, .slice none 0 0] := Blk.gr hb_z2 hgx (by rintro (h | h | h) <;> omega)
  have hl_z3 := hb_z3.lt
  have hl_n3 := hb_n3.lt
  have hbl3 := hP3.lt
  have hgl3 := hP3.toks.lt
  dsimp only [putAll, List.take_succ_cons, List.take_zero, List.take_nil]
  have HQ3 := Lib.hid hq3
  clear hq3 hgx
  obtain ⟨_, n3_0, n3_1, n3_2, n3_3, n3_4, n3_5, n3_6, n3_f⟩ := hb_n3.all7
  obtain ⟨_, z3_0, z3_1, z3_2, z3_3, z3_4, z3_5, z3_6, z3_f⟩ := hb_z3.all7
  go_wp2
  have hl := (show (([] : List Tr) ++ ks2 ++ [u3]).length = (([] : List Tr) ++ ks2).length + 1 by simp)
  exact ret7 Tryz.results107 rfl rfl b7A ⟨grA, .inr ⟨41, 0, m2, [], [], x1.2, ((([] : List Tr) ++ ks2) ++ [u3]), A3, c3, l3, (by rw [hl]; try rfl), HQ3.out, (by rw [hl]; exact Kid.mono (lo := w1.heap.size + 1) (v := .slice A3 ((([] : List Tr) ++ ks2).length + 1) c3) (ks := ((([] : List Tr) ++ ks2) ++ [u3])) (KidX.kid (h := w1.heap.size) kxA) (by omega)), (by simp [LIM]; omega), psA⟩⟩
end Go.Proofs.YtihnnbeepfgphaaGreatDoor

/-! ## PF35: Types: walks. -/
namespace Go.Proofs.YtihnnbeepfgphaaGreatDoor
open Go.RowKit
set_option linter.unusedVariables false
set_option linter.unusedSimpArgs false
attribute [local go_sem ↓] tok_f0 tok_f1 tok_f2 tok_f3

set_option maxRecDepth 100000 in
set_option maxHeartbeats 4000000 in
theorem typeOf_step (n : Nat) (hn : n ≤ LIM) (H : ∀ m, m ≤ n → AllN m) : C0 (n + 1) 69 .typeOf := by
  intro E w l o g r hP hq hr
  simp only [go, bnd_enter, bnd_want, bnd_takeR, bnd_ite, bnd_bnd, bnd_ok] at hq
  have hlt := hP.lt
  have hgt := hP.toks.lt
  have hne := hP.ne
  have HR := Lib.hid hr
  have Hn := H n (Nat.le_refl _)
  clear hr
  obtain ⟨x1, l1, rfl⟩ := hP.cons
  by_cases hbt : isT (mark (x1 :: l1)) = true
  · rw [if_pos hbt, takeR_cons] at hq
    have hx1 := good_mark hP.good (by intro e; rw [e] at hbt; exact absurd hbt (by decide))
    have HX := Lib.hid hx1
    have HQ0 := Lib.hid hq
    clear hx1 hq
    simp only [isT, Bool.or_eq_true, decide_eq_true_eq] at hbt
    rcases hbt with (hm | hm) | hm
    · have HM := Lib.hid hm
      clear hm
      go_enter Tryz.func69, Tryz.ntmps69
      go_wp2_with (first
        | (go_at_call 38; refine (mark_any E _ (x1 :: l1) (o) psA).mono ?_; rw [HM.out, show bs [105, 110, 116] = ⟨#[105, 110, 116]⟩ from rfl]; rintro e w1 ⟨rfl, hg1⟩; have hP1 : PS E w1 (x1 :: l1) (o) := PS.below psA hg1; have hG1 : Gr (· = E.b) w w1 := Gr.trans grA (Gr.of_below hg1); have hbl1 := hP1.lt; have hgl1 := hP1.toks.lt; have hs1 : w.heap.size + 1 ≤ w1.heap.size := (by have := hg1.size; simpa using this); have hb_z1 : Blk w1 (w.heap.size) 28 #[.int .i64 0, .int .i64 0, .int .i64 0, .string ⟨#[]⟩, .string ⟨#[]⟩, .int .i64 0, .slice none 0 0] := Blk.bel bkA hg1; have hl_z1 := hb_z1.lt)
        | (go_at_call 40; refine (take_any E _ x1 l1 (o) psA HX.out).mono ?_; rintro e w2 ⟨rfl, hg2, hP2⟩; have hG2 : Gr (· = E.b) w w2 := Gr.trans grA hg2; have hbl2 := hP2.lt; have hgl2 := hP2.toks.lt; have hs2 : w1.heap.size + 0 ≤ w2.heap.size := (by have := hg2.size; simpa using this); have hb_z2 : Blk w2 (w.heap.size) 28 #[.int .i64 0, .int .i64 0, .int .i64 0, .string ⟨#[]⟩, .string ⟨#[]⟩, .int .i64 0, .slice none 0 0] := Blk.call (b := E.b) bkA hg2 (by omega); have hl_z2 := hb_z2.lt; obtain ⟨_, z2_0, z2_1, z2_2, z2_3, z2_4, z2_5, z2_6, z2_f⟩ := hb_z2.all7))
      exact ret7 Tryz.results69 rfl rfl b7A ⟨grA, .inr ⟨13, 0, 0, [], x1.1.t, x1.2, [], none, 0, l1, rfl, HQ0.out, Kid.nil _ _ 0, by simp, psA⟩⟩
    · have HM := Lib.hid hm
      clear hm
      go_enter Tryz.func69, Tryz.ntmps69
      go_wp2_with (first
        | (go_at_call 38; refine (mark_any E _ (x1 :: l1) (o) psA).mono ?_; rw [HM.out, show bs [98, 111, 111, 108] = ⟨#[98, 111, 111, 108]⟩ from rfl]; rintro e w1 ⟨rfl, hg1⟩; have hP1 : PS E w1 (x1 :: l1) (o) := PS.below psA hg1; have hG1 : Gr (· = E.b) w w1 := Gr.trans grA (Gr.of_below hg1); have hbl1 := hP1.lt; have hgl1 := hP1.toks.lt; have hs1 : w.heap.size + 1 ≤ w1.heap.size := (by have := hg1.size; simpa using this); have hb_z1 : Blk w1 (w.heap.size) 28 #[.int .i64 0, .int .i64 0, .int .i64 0, .string ⟨#[]⟩, .string ⟨#[]⟩, .int .i64 0, .slice none 0 0] := Blk.bel bkA hg1; have hl_z1 := hb_z1.lt)
        | (go_at_call 40; refine (take_any E _ x1 l1 (o) psA HX.out).mono ?_; rintro e w2 ⟨rfl, hg2, hP2⟩; have hG2 : Gr (· = E.b) w w2 := Gr.trans grA hg2; have hbl2 := hP2.lt; have hgl2 := hP2.toks.lt; have hs2 : w1.heap.size + 0 ≤ w2.heap.size := (by have := hg2.size; simpa using this); have hb_z2 : Blk w2 (w.heap.size) 28 #[.int .i64 0, .int .i64 0, .int .i64 0, .string ⟨#[]⟩, .string ⟨#[]⟩, .int .i64 0, .slice none 0 0] := Blk.call (b := E.b) bkA hg2 (by omega); have hl_z2 := hb_z2.lt; obtain ⟨_, z2_0, z2_1, z2_2, z2_3, z2_4, z2_5, z2_6, z2_f⟩ := hb_z2.all7))
      exact ret7 Tryz.results69 rfl rfl b7A ⟨grA, .inr ⟨13, 0, 0, [], x1.1.t, x1.2, [], none, 0, l1, rfl, HQ0.out, Kid.nil _ _ 0, by simp, psA⟩⟩
    · have HM := Lib.hid hm
      clear hm
      go_enter Tryz.func69, Tryz.ntmps69
      go_wp2_with (first
        | (go_at_call 38; refine (mark_any E _ (x1 :: l1) (o) psA).mono ?_; rw [HM.out, show bs [115, 116, 114, 105, 110, 103] = ⟨#[115, 116, 114, 105, 110, 103]⟩ from rfl]; rintro e w1 ⟨rfl, hg1⟩; have hP1 : PS E w1 (x1 :: l1) (o) := PS.below psA hg1; have hG1 : Gr (· = E.b) w w1 := Gr.trans grA (Gr.of_below hg1); have hbl1 := hP1.lt; have hgl1 := hP1.toks.lt; have hs1 : w.heap.size + 1 ≤ w1.heap.size := (by have := hg1.size; simpa using this); have hb_z1 : Blk w1 (w.heap.size) 28 #[.int .i64 0, .int .i64 0, .int .i64 0, .string ⟨#[]⟩, .string ⟨#[]⟩, .int .i64 0, .slice none 0 0] := Blk.bel bkA hg1; have hl_z1 := hb_z1.lt)
        | (go_at_call 40; refine (take_any E _ x1 l1 (o) psA HX.out).mono ?_; rintro e w2 ⟨rfl, hg2, hP2⟩; have hG2 : Gr (· = E.b) w w2 := Gr.trans grA hg2; have hbl2 := hP2.lt; have hgl2 := hP2.toks.lt; have hs2 : w1.heap.size + 0 ≤ w2.heap.size := (by have := hg2.size; simpa using this); have hb_z2 : Blk w2 (w.heap.size) 28 #[.int .i64 0, .int .i64 0, .int .i64 0, .string ⟨#[]⟩, .string ⟨#[]⟩, .int .i64 0, .slice none 0 0] := Blk.call (b := E.b) bkA hg2 (by omega); have hl_z2 := hb_z2.lt; obtain ⟨_, z2_0, z2_1, z2_2, z2_3, z2_4, z2_5, z2_6, z2_f⟩ := hb_z2.all7))
      exact ret7 Tryz.results69 rfl rfl b7A ⟨grA, .inr ⟨13, 0, 0, [], x1.1.t, x1.2, [], none, 0, l1, rfl, HQ0.out, Kid.nil _ _ 0, by simp, psA⟩⟩
  rw [if_neg hbt] at hq
  simp only [isT, Bool.or_eq_true, decide_eq_true_eq, not_or] at hbt
  obtain ⟨⟨hb1, hb2⟩, hb3⟩ := hbt
  have hc1 := bs_beq3 hb1
  have hc2 := bs_beq3 hb2
  have hc3 := bs_beq3 hb3
  clear hb1 hb2 hb3
  by_cases hm : mark (x1 :: l1) = [42]
  · rw [if_pos hm, takeR_cons] at hq
    have HX := Lib.hid (good_mark hP.good (by rw [hm]; simp))
    have HM := Lib.hid hm
    have HQ0 := Lib.hid hq
    clear hq hm
    go_enter Tryz.func69, Tryz.ntmps69
    go_wp2_with (first
      | (go_at_call 38; refine (mark_any E _ (x1 :: l1) (o) psA).mono ?_; rw [HM.out, show bs [42] = ⟨#[42]⟩ from rfl]; rintro e w1 ⟨rfl, hg1⟩; have hP1 : PS E w1 (x1 :: l1) (o) := PS.below psA hg1; have hG1 : Gr (· = E.b) w w1 := Gr.trans grA (Gr.of_below hg1); have hbl1 := hP1.lt; have hgl1 := hP1.toks.lt; have hs1 : w.heap.size + 1 ≤ w1.heap.size := (by have := hg1.size; simpa using this); have hb_z1 : Blk w1 (w.heap.size) 28 #[.int .i64 0, .int .i64 0, .int .i64 0, .string ⟨#[]⟩, .string ⟨#[]⟩, .int .i64 0, .slice none 0 0] := Blk.bel bkA hg1; have hl_z1 := hb_z1.lt)
      | (go_at_call 40; refine (take_any E _ x1 l1 (o) psA HX.out).mono ?_; rintro e w2 ⟨rfl, hg2, hP2⟩; have hG2 : Gr (· = E.b) w w2 := Gr.trans grA hg2; have hbl2 := hP2.lt; have hgl2 := hP2.toks.lt; have hs2 : w1.heap.size + 0 ≤ w2.heap.size := (by have := hg2.size; simpa using this); have hb_z2 : Blk w2 (w.heap.size) 28 #[.int .i64 0, .int .i64 0, .int .i64 0, .string ⟨#[]⟩, .string ⟨#[]⟩, .int .i64 0, .slice none 0 0] := Blk.call (b := E.b) bkA hg2 (by omega); have hl_z2 := hb_z2.lt)
      | (go_at_call 71; refine (Hn.typeName E _ l1 (o) _ r psA HQ0.out HR.out).mono ?_; rintro e w3 ⟨hg3, ⟨a, k, hb, rfl⟩ | ⟨k3, op3, m3, p3, t3, a3, ks3, A3, c3, l3, rfl, hq3, hk_33, hn3, hP3⟩⟩; exact And.intro rfl ⟨Gr.trans grA hg3, .inl ⟨_, _, hb, rfl⟩⟩; have hG3 : Gr (· = E.b) w w3 := Gr.trans grA hg3; have HQ3 := Lib.hid hq3; clear hq3; have hbl3 := hP3.lt; have hgl3 := hP3.toks.lt; have hs3 : w2.heap.size + 0 ≤ w3.heap.size := (by have := hg3.size; simpa using this); have hb_z3 : Blk w3 (w.heap.size) 28 #[.int .i64 0, .int .i64 0, .int .i64 0, .string ⟨#[]⟩, .string ⟨#[]⟩, .int .i64 0, .slice none 0 0] := Blk.call (b := E.b) bkA hg3 (by omega); have hl_z3 := hb_z3.lt; obtain ⟨_, z3_0, z3_1, z3_2, z3_3, z3_4, z3_5, z3_6, z3_f⟩ := hb_z3.all7; have hk_33 := Kid.mono (lo' := w2.heap.size + 0) hk_33 (by simp)))
    exact ret7 Tryz.results69 rfl rfl b7A ⟨grA, .inr ⟨14, 0, 0, [], [], x1.2, [Tr.mk k3 op3 m3 p3 t3 a3 ks3], some ⟨w3.heap.size, 0, none⟩, 1, l3, rfl, HQ3.out, Kid.mono (lo := w2.heap.size + 0) (Kid.lit1_at (k := k3) (op := op3) (m := m3) (p := p3) (t := t3) (a := a3) (A := A3) (c := c3) kdA (by simp; omega) (by simp)) (by omega), by simp [LIM], psA⟩⟩
  rw [if_neg hm] at hq
  have hm_2a := bs_beq3 hm
  clear hm
  by_cases hm : mark (x1 :: l1) = [91]
  · rw [if_pos hm] at hq
    have HX := Lib.hid (good_mark hP.good (by rw [hm]; simp))
    have HM := Lib.hid hm
    have HQ0 := Lib.hid hq
    clear hq hm
    go_enter Tryz.func69, Tryz.ntmps69
    go_wp2_with (first
      | (go_at_call 38; refine (mark_any E _ (x1 :: l1) (o) psA).mono ?_; rw [HM.out, show bs [91] = ⟨#[91]⟩ from rfl]; rintro e w1 ⟨rfl, hg1⟩; have hP1 : PS E w1 (x1 :: l1) (o) := PS.below psA hg1; have hG1 : Gr (· = E.b) w w1 := Gr.trans grA (Gr.of_below hg1); have hbl1 := hP1.lt; have hgl1 := hP1.toks.lt; have hs1 : w.heap.size + 1 ≤ w1.heap.size := (by have := hg1.size; simpa using this); have hb_z1 : Blk w1 (w.heap.size) 28 #[.int .i64 0, .int .i64 0, .int .i64 0, .string ⟨#[]⟩, .string ⟨#[]⟩, .int .i64 0, .slice none 0 0] := Blk.bel bkA hg1; have hl_z1 := hb_z1.lt)
      | (go_at_call 58; (with_reducible refine (enter_any E _ (x1 :: l1) (o) [91] ⟨#[91]⟩ _ _ psA rfl (by simp) HQ0.out).mono ?_); rintro e w2 ⟨hg2, ⟨a, k, hb, rfl⟩ | ⟨x2, l2, rfl, hq2, hP2⟩⟩; exact And.intro rfl ⟨Gr.trans grA hg2, .inl ⟨_, _, hb, rfl⟩⟩; have hG2 : Gr (· = E.b) w w2 := Gr.trans grA hg2; have HQ2 := Lib.hid hq2; clear hq2; have hbl2 := hP2.lt; have hgl2 := hP2.toks.lt; have hs2 : w1.heap.size + 0 ≤ w2.heap.size := (by have := hg2.size; simpa using this); have hb_z2 : Blk w2 (w.heap.size) 28 #[.int .i64 0, .int .i64 0, .int .i64 0, .string ⟨#[]⟩, .string ⟨#[]⟩, .int .i64 0, .slice none 0 0] := Blk.call (b := E.b) bkA hg2 (by omega); have hl_z2 := hb_z2.lt)
      | (go_at_call 59; (with_reducible refine (leave_any E _ l2 (o) [93] ⟨#[93]⟩ _ _ psA rfl (by simp) HQ2.out).mono ?_); rintro e w3 ⟨hg3, ⟨a, k, hb, rfl⟩ | ⟨x3, l3, rfl, hq3, hP3⟩⟩; exact And.intro rfl ⟨Gr.trans grA hg3, .inl ⟨_, _, hb, rfl⟩⟩; have hG3 : Gr (· = E.b) w w3 := Gr.trans grA hg3; have HQ3 := Lib.hid hq3; clear hq3; have hbl3 := hP3.lt; have hgl3 := hP3.toks.lt; have hs3 : w2.heap.size + 0 ≤ w3.heap.size := (by have := hg3.size; simpa using this); have hb_z3 : Blk w3 (w.heap.size) 28 #[.int .i64 0, .int .i64 0, .int .i64 0, .string ⟨#[]⟩, .string ⟨#[]⟩, .int .i64 0, .slice none 0 0] := Blk.call (b := E.b) bkA hg3 (by omega); have hl_z3 := hb_z3.lt)
      | (go_at_call 69; refine (Hn.typeOf E _ l3 (o) _ r psA HQ3.out HR.out).mono ?_; rintro e w4 ⟨hg4, ⟨a, k, hb, rfl⟩ | ⟨k4, op4, m4, p4, t4, a4, ks4, A4, c4, l4, rfl, hq4, hk_44, hn4, hP4⟩⟩; exact And.intro rfl ⟨Gr.trans grA hg4, .inl ⟨_, _, hb, rfl⟩⟩; have hG4 : Gr (· = E.b) w w4 := Gr.trans grA hg4; have HQ4 := Lib.hid hq4; clear hq4; have hbl4 := hP4.lt; have hgl4 := hP4.toks.lt; have hs4 : w3.heap.size + 0 ≤ w4.heap.size := (by have := hg4.size; simpa using this); have hb_z4 : Blk w4 (w.heap.size) 28 #[.int .i64 0, .int .i64 0, .int .i64 0, .string ⟨#[]⟩, .string ⟨#[]⟩, .int .i64 0, .slice none 0 0] := Blk.call (b := E.b) bkA hg4 (by omega); have hl_z4 := hb_z4.lt; obtain ⟨_, z4_0, z4_1, z4_2, z4_3, z4_4, z4_5, z4_6, z4_f⟩ := hb_z4.all7; have hk_44 := Kid.mono (lo' := w3.heap.size + 0) hk_44 (by simp)))
    exact ret7 Tryz.results69 rfl rfl b7A ⟨grA, .inr ⟨15, 0, 0, [], [], x2.2, [Tr.mk k4 op4 m4 p4 t4 a4 ks4], some ⟨w4.heap.size, 0, none⟩, 1, l4, rfl, HQ4.out, Kid.mono (lo := w3.heap.size + 0) (Kid.lit1_at (k := k4) (op := op4) (m := m4) (p := p4) (t := t4) (a := a4) (A := A4) (c := c4) kdA (by simp; omega) (by simp)) (by omega), by simp [LIM], psA⟩⟩
  rw [if_neg hm] at hq
  have hm_5b := bs_beq3 hm
  clear hm
  by_cases hm : mark (x1 :: l1) = [102, 117, 110, 99]
  · rw [if_pos hm, takeR_cons] at hq
    have HX := Lib.hid (good_mark hP.good (by rw [hm]; simp))
    have HM := Lib.hid hm
    have HQ0 := Lib.hid hq
    clear hq hm
    go_enter Tryz.func69, Tryz.ntmps69
    go_wp2_with (first
      | (go_at_call 38; refine (mark_any E _ (x1 :: l1) (o) psA).mono ?_; rw [HM.out, show bs [102, 117, 110, 99] = ⟨#[102, 117, 110, 99]⟩ from rfl]; rintro e w1 ⟨rfl, hg1⟩; have hP1 : PS E w1 (x1 :: l1) (o) := PS.below psA hg1; have hG1 : Gr (· = E.b) w w1 := Gr.trans grA (Gr.of_below hg1); have hbl1 := hP1.lt; have hgl1 := hP1.toks.lt; have hs1 : w.heap.size + 1 ≤ w1.heap.size := (by have := hg1.size; simpa using this); have hb_z1 : Blk w1 (w.heap.size) 28 #[.int .i64 0, .int .i64 0, .int .i64 0, .string ⟨#[]⟩, .string ⟨#[]⟩, .int .i64 0, .slice none 0 0] := Blk.bel bkA hg1; have hl_z1 := hb_z1.lt)
      | (go_at_call 40; refine (take_any E _ x1 l1 (o) psA HX.out).mono ?_; rintro e w2 ⟨rfl, hg2, hP2⟩; have hG2 : Gr (· = E.b) w w2 := Gr.trans grA hg2; have hbl2 := hP2.lt; have hgl2 := hP2.toks.lt; have hs2 : w1.heap.size + 0 ≤ w2.heap.size := (by have := hg2.size; simpa using this); have hb_z2 : Blk w2 (w.heap.size) 28 #[.int .i64 0, .int .i64 0, .int .i64 0, .string ⟨#[]⟩, .string ⟨#[]⟩, .int .i64 0, .slice none 0 0] := Blk.call (b := E.b) bkA hg2 (by omega); have hl_z2 := hb_z2.lt)
      | (go_at_call 63; refine (Hn.head .typeOf E _ l1 (o) (w2.heap.size + 1) (w2.heap.size) _ r 16 0 0 [] [] x1.2 ([] : List Tr) none 0 _ rfl psA (by omega) (by omega) (by omega) (by omega) (by omega) (by simp; try omega) (by simp) (show Blk _ (w2.heap.size) 28 #[.int .i64 16, .int .i64 0, .int .i64 0, .string ⟨#[]⟩, .string ⟨#[]⟩, .int .i64 x1.2, .slice none 0 0] from bkA) (KidX.kid (h := w2.heap.size) kxA) (head_num HQ0.out) HR.out).mono ?_; rintro e w3 ⟨hg3, ⟨a, k, hb, rfl⟩ | ⟨m3, ks3, A3, c3, l3, rfl, hq3, hP3, hn3, hk_33, hb_n3⟩⟩; exact And.intro rfl ⟨Gr.wide grA hg3 (fun q hq hs => by (rcases hs with hs | hs | hs; exact hs; omega; omega)), .inl ⟨_, _, hb, rfl⟩⟩; have hG3 : Gr (· = E.b) w w3 := Gr.wide grA hg3 (fun q hq hs => by (rcases hs with hs | hs | hs; exact hs; omega; omega)); have hm3 : m3 = 0 ∨ m3 = 1 := (Decidable.byContradiction fun hc => HR.out (by rw [← hq3]; exact if_neg hc)); simp only [Tr.num, hm3, if_true] at hq3; have hme3 : (if m3 = 1 then (1 : Int) else 0) = m3 := (by rcases hm3 with h | h <;> simp [h]); rw [hme3] at hb_n3; clear hme3 hm3; have HQ3 := Lib.hid hq3; clear hq3; have hbl3 := hP3.lt; have hgl3 := hP3.toks.lt; have hl_n3 := hb_n3.lt; have hb_n3 : Blk w3 (w2.heap.size) 28 #[.int .i64 16, .int .i64 0, .int .i64 m3, .string ⟨#[]⟩, .string ⟨#[]⟩, .int .i64 x1.2, .slice A3 (([] : List Tr) ++ ks3).length c3] := hb_n3; have hs3 : w2.heap.size + 1 ≤ w3.heap.size := (by have := hg3.size; simpa using this); have hb_z3 : Blk w3 (w.heap.size) 28 #[.int .i64 0, .int .i64 0, .int .i64 0, .string ⟨#[]⟩, .string ⟨#[]⟩, .int .i64 0, .slice none 0 0] := Blk.gr bkA hg3 (by (rintro (h | h | h) <;> omega)); have hl_z3 := hb_z3.lt; obtain ⟨_, z3_0, z3_1, z3_2, z3_3, z3_4, z3_5, z3_6, z3_f⟩ := hb_z3.all7; have hk_n3 : KidX w3 (w2.heap.size + 1) (w2.heap.size) (.slice A3 (([] : List Tr) ++ ks3).length c3) (([] : List Tr) ++ ks3) := Kid.x hk_33 (by omega); obtain ⟨_, n3_0, n3_1, n3_2, n3_3, n3_4, n3_5, n3_6, n3_f⟩ := hb_n3.all7))
    exact ret7 Tryz.results69 rfl rfl b7A ⟨grA, .inr ⟨16, 0, m3, [], [], x1.2, (([] : List Tr) ++ ks3), A3, c3, l3, rfl, HQ3.out, Kid.mono (lo := w2.heap.size + 1) (v := .slice A3 (([] : List Tr) ++ ks3).length c3) (ks := (([] : List Tr) ++ ks3)) (KidX.kid (h := w2.heap.size) kxA) (by omega), (by unfold LIM at *; simp; omega), psA⟩⟩
  rw [if_neg hm] at hq
  have hm_66756e63 := bs_beq3 hm
  clear hm
  have HQ0 := Lib.hid hq
  clear hq
  go_enter Tryz.func69, Tryz.ntmps69
  go_wp2_with (first
    | (go_at_call 38; refine (mark_any E _ (x1 :: l1) (o) psA).mono ?_; rintro e w1 ⟨rfl, hg1⟩; have hP1 : PS E w1 (x1 :: l1) (o) := PS.below psA hg1; have hG1 : Gr (· = E.b) w w1 := Gr.trans grA (Gr.of_below hg1); have hbl1 := hP1.lt; have hgl1 := hP1.toks.lt; have hs1 : w.heap.size + 1 ≤ w1.heap.size := (by have := hg1.size; simpa using this); have hb_z1 : Blk w1 (w.heap.size) 28 #[.int .i64 0, .int .i64 0, .int .i64 0, .string ⟨#[]⟩, .string ⟨#[]⟩, .int .i64 0, .slice none 0 0] := Blk.bel bkA hg1; have hl_z1 := hb_z1.lt)
    | (go_at_call 71; refine (Hn.typeName E _ (x1 :: l1) (o) _ r psA HQ0.out HR.out).mono ?_; rintro e w2 ⟨hg2, ⟨a, k, hb, rfl⟩ | ⟨k2, op2, m2, p2, t2, a2, ks2, A2, c2, l2, rfl, hq2, hk_22, hn2, hP2⟩⟩; exact And.intro rfl ⟨Gr.trans grA hg2, .inl ⟨_, _, hb, rfl⟩⟩; have hG2 : Gr (· = E.b) w w2 := Gr.trans grA hg2; have HQ2 := Lib.hid hq2; clear hq2; have hbl2 := hP2.lt; have hgl2 := hP2.toks.lt; have hs2 : w1.heap.size + 0 ≤ w2.heap.size := (by have := hg2.size; simpa using this); have hb_z2 : Blk w2 (w.heap.size) 28 #[.int .i64 0, .int .i64 0, .int .i64 0, .string ⟨#[]⟩, .string ⟨#[]⟩, .int .i64 0, .slice none 0 0] := Blk.call (b := E.b) bkA hg2 (by omega); have hl_z2 := hb_z2.lt; obtain ⟨_, z2_0, z2_1, z2_2, z2_3, z2_4, z2_5, z2_6, z2_f⟩ := hb_z2.all7; have hk_22 := Kid.mono (lo' := w1.heap.size + 0) hk_22 (by simp)))
  exact ret7 Tryz.results69 rfl rfl b7A ⟨grA, .inr ⟨k2, op2, m2, p2, t2, a2, ks2, A2, c2, l2, rfl, HQ2.out, Kid.mono (lo := w1.heap.size + 0) kdA (by omega), hn2, psA⟩⟩
end Go.Proofs.YtihnnbeepfgphaaGreatDoor

/-! ## PF36: Heads of functions: walks. -/
namespace Go.Proofs.YtihnnbeepfgphaaGreatDoor
open Go.RowKit
set_option linter.unusedVariables false
set_option linter.unusedSimpArgs false
attribute [local go_sem ↓] tok_f0 tok_f1 tok_f2 tok_f3

set_option maxRecDepth 100000 in
set_option maxHeartbeats 4000000 in
theorem head_step (n : Nat) (hn : n ≤ LIM) (H : ∀ m, m ≤ n → AllN m) (p : Pt) : CH (n + 1) p := by
  intro E w l o lo h g r k op m pk t a ks A c fv hfv hP hbl hgl hhl hhb hhg hlo hlen hB hK hq hr
  subst hfv
  simp only [go, bnd_bnd, bnd_ite, bnd_ok] at hq
  have hlt := hP.lt
  have hgt := hP.toks.lt
  have hne := hP.ne
  have hhw := hB.lt
  have HR := Lib.hid hr
  have Hn := H n (Nat.le_refl _)
  have HQ0 := Lib.hid hq
  have HB := Lib.hid hB
  obtain ⟨_, n0_0, n0_1, n0_2, n0_3, n0_4, n0_5, n0_6, n0_f⟩ := hB.all7
  have hkx := hK.x hhl
  have hG0 : Gr (fun q => q = E.b ∨ q = h ∨ lo ≤ q) w w := Gr.refl w
  clear hr hq
  go_enter Tryz.func63, Tryz.ntmps63
  go_wp2_with fail
  refine region_E3 11 9 10 4 E.b lo h (· = h) 36 (fun i => match i with | 0 => .pointer (some ⟨h, 0, none⟩) | 1 => .pointer (some ⟨h, 0, none⟩) | 2 => .pointer (some ⟨h, 0, none⟩) | 3 => .pointer (some ⟨h, 6, none⟩) | 4 => .slice A ks.length c | 5 => .pointer (some ⟨E.b, 0, none⟩) | 6 => .pointer (some ⟨E.b, 0, none⟩) | 7 => .pointer (some ⟨E.b, 0, none⟩) | 8 => .func (Fn.func p.fn) #[.pointer (some ⟨E.b, 0, none⟩)] #[] | _ => undef) (.slice A ks.length c) ks 72 #[.pointer (some ⟨E.b, 0, none⟩), .string ⟨#[40]⟩, .string ⟨#[41]⟩, .func (Fn.func p.fn) #[.pointer (some ⟨E.b, 0, none⟩)] #[]] (TellB r) (TellDL E o _ r) (by kernel_rfl) rfl (by kernel_rfl) (by decide) (by decide) (by decide) (by decide) (by decide) (by decide) rfl rfl rfl rfl ⟨_, rfl, rfl⟩ rfl (by kernel_rfl) (by kernel_rfl) rfl
    (fun a w hev => by
      have e7 := hev 7 _ _ (by omega) rfl rfl (by kernel_rfl) (by omega) (by omega)
      have e8 := hev 8 _ _ (by omega) rfl rfl (by kernel_rfl) (by omega) (by omega)
      simp [Act.eval] at e7 e8
      unfold execOp; go_simp)
    (fun i o hoi hi h1 h2 a w hcw hun hev => by
      rcases (show i = 0 ∨ i = 1 ∨ i = 2 ∨ i = 3 ∨ i = 4 ∨ i = 5 ∨ i = 6 ∨ i = 7 ∨ i = 8 ∨ i = 9 ∨ i = 10 by omega) with rfl | rfl | rfl | rfl | rfl | rfl | rfl | rfl | rfl | rfl | rfl
      · obtain rfl := Option.some.inj hoi; exact x_move _ _ _ _ _ _ _ _ ((hun 1 (noput_all (by kernel_rfl))).trans rfl)
      · obtain rfl := Option.some.inj hoi; exact x_move _ _ _ _ _ _ _ _ ((hun 1 (noput_all (by kernel_rfl))).trans rfl)
      · obtain rfl := Option.some.inj hoi; exact x_nil _ _ _ _ _ _ _ _ (hev 1 _ _ (by omega) rfl rfl (by kernel_rfl))
      · obtain rfl := Option.some.inj hoi; exact x_kids _ _ _ _ _ _ _ _ (hev 2 _ _ (by omega) rfl rfl (by kernel_rfl))
      · obtain rfl := Option.some.inj hoi; exact x_loadS _ _ _ _ _ _ _ _ 6 _ (hev 3 _ _ (by omega) rfl rfl (by kernel_rfl)) hcw
      · obtain rfl := Option.some.inj hoi; exact x_move _ _ _ _ _ _ _ _ ((hun 0 (noput_all (by kernel_rfl))).trans rfl)
      · obtain rfl := Option.some.inj hoi; exact x_nil _ _ _ _ _ _ _ _ (hev 5 _ _ (by omega) rfl rfl (by kernel_rfl))
      · obtain rfl := Option.some.inj hoi; exact x_reader _ _ _ _ _ _ _ _ (hev 6 _ _ (by omega) rfl rfl (by kernel_rfl))
      · obtain rfl := Option.some.inj hoi; exact x_move _ _ _ _ _ _ _ _ ((hun 2 (noput_all (by kernel_rfl))).trans rfl)
      · exact absurd rfl h1
      · exact absurd rfl h2)
    (fun i hi h1 h2 => by
      rcases (show i = 0 ∨ i = 1 ∨ i = 2 ∨ i = 3 ∨ i = 4 ∨ i = 5 ∨ i = 6 ∨ i = 7 ∨ i = 8 ∨ i = 9 ∨ i = 10 by omega) with rfl | rfl | rfl | rfl | rfl | rfl | rfl | rfl | rfl | rfl | rfl <;> first | exact absurd rfl h1 | exact absurd rfl h2 | exact ⟨by kernel_rfl, by kernel_rfl⟩) ⟨by kernel_rfl, by kernel_rfl⟩
    rfl (by decide) (by decide) ⟨0, _, by decide, by decide, by decide, rfl, rfl, rfl⟩ rfl (by decide) (by decide) rfl rfl (by kernel_rfl) (by kernel_rfl) (by kernel_rfl) (by kernel_rfl) hkx hkx.p (fun q hq => by have h9 : q = h := hq; omega) n0_6 (n0_f 6) (by omega) (by omega) (by omega) (by omega) (by unfold LIM at *; omega) (calm_TellDL E _ o _ r (by omega) (by omega))
    ((Hn.within p E _ l o [40] [41] _ _ _ r _ rfl hP.drew rfl rfl (by simp) (by simp) HQ0.out HR.out).mono fun e w' h => tellsL h) ?_ ?_
  · rintro a w' c had ⟨at_, k, hb, rfl⟩ hg
    exact And.intro had ⟨hg.mono fun q _ hq => .inl hq, .inl ⟨_, _, hb, rfl⟩⟩
  rintro vals w' A1 c1 us ⟨l1, hq1, hPx⟩ hul hKx hKz hgx hgy
  obtain ⟨w1, hW⟩ : ∃ W, W = w'.setCell ⟨h, 6, none⟩ (.slice A1 (ks ++ us).length c1) := ⟨_, rfl⟩
  have hP1 : PS E w1 l1 (o) := by rw [hW]; exact psA
  have hsx := hgx.size
  have hG1 : Gr (fun q => q = E.b ∨ q = h ∨ lo ≤ q) w w1 := by rw [hW]; exact Gr.setCell (S := fun q => q = E.b ∨ q = h ∨ lo ≤ q) (p := ⟨h, 6, none⟩) (hgx.mono fun q _ hq => hq.elim .inl fun e => .inr (.inr e.1)) (.inr (.inr (.inl rfl))) _
  have hb_n1 : Blk w1 (h) 28 #[.int .i64 k, .int .i64 op, .int .i64 m, .string (bs pk), .string (bs t), .int .i64 a, .slice A1 (ks ++ us).length c1] := by rw [hW]; exact Blk.set6 (Blk.wr HB.out hgx (by omega) (.inr rfl)) _
  have hk_n1 : KidX w1 (lo) (h) (.slice A1 (ks ++ us).length c1) (ks ++ us) := by rw [hW]; exact hKx.setCell (.inr rfl) _
  dsimp only [putAll, List.take_succ_cons, List.take_zero, List.take_nil]
  rw [← hW]
  have hs1 : w.heap.size ≤ w1.heap.size := by rw [hW]; simpa using hsx
  clear hW hPx hKx hKz hgx hgy hsx
  have hbl1 := hP1.lt
  have hgl1 := hP1.toks.lt
  have HQ1 := Lib.hid hq1
  clear hq1
  obtain ⟨bg, hbg⟩ : ∃ b, begins l1 = b := ⟨_, rfl⟩
  have HBG := Lib.hid hbg
  cases bg with
  | false =>
    have HQx := HQ1.out
    dsimp only at HQx
    rw [if_neg (show ¬ begins l1 = true by rw [hbg]; decide)] at HQx
    have HQ2 := Lib.hid HQx
    clear hbg HQx HQ1
    go_wp2_with (go_at_call 73; refine (beginsType_any E _ l1 o hP1).mono ?_; rw [HBG.out]; rintro e w2 ⟨rfl, hb2⟩; have hP2 := hP1.below hb2; have hG2 : Gr (fun q => q = E.b ∨ q = h ∨ lo ≤ q) w w2 := hG1.trans (Gr.of_below hb2); have hb_n2 := hb_n1.bel hb2; have hk_n2 := hk_n1.bel hb2)
    go_end0
    exact ⟨hG2, .inr ⟨0, us, A1, c1, l1, rfl, HQ2.out, hP2, by omega, hk_n2.kid, by simpa using hb_n2⟩⟩
  | true =>
    have HQx := HQ1.out
    dsimp only at HQx
    rw [if_pos hbg] at HQx
    have HQ2 := Lib.hid HQx
    clear hbg HQx HQ1
    go_wp2_with (go_at_call 73; refine (beginsType_any E _ l1 o hP1).mono ?_; rw [HBG.out]; rintro e w2 ⟨rfl, hb2⟩; have hP2 := hP1.below hb2; have hG2 : Gr (fun q => q = E.b ∨ q = h ∨ lo ≤ q) w w2 := hG1.trans (Gr.of_below hb2); have hb_n2 := hb_n1.bel hb2; have hk_n2 := hk_n1.bel hb2; have hs2 := hb2.size; have hbl2 := hP2.lt; have hgl2 := hP2.toks.lt; have hl_n2 := hb_n2.lt)
    obtain ⟨_, n2_0, n2_1, n2_2, n2_3, n2_4, n2_5, n2_6, n2_f⟩ := hb_n2.all7
    refine region_B 14 5 7 8 9 10 13 3 6 12 E.b (lo) (h) 36 (fun i => match i with | 0 => .pointer (some ⟨h, 0, none⟩) | 1 => .pointer (some ⟨h, 0, none⟩) | 2 => .pointer (some ⟨h, 6, none⟩) | 3 => (.slice A1 (ks ++ us).length c1) | 4 => .pointer (some ⟨E.b, 0, none⟩) | 6 => .int .i64 ((ks ++ us) : List Tr).length | 11 => .pointer (some ⟨h, 0, none⟩) | 12 => .pointer (some ⟨h, 6, none⟩) | _ => undef) (.int .i64 k) (.int .i64 op) (.int .i64 m) (.string (bs pk)) (.string (bs t)) (.int .i64 a) (.slice A1 (ks ++ us).length c1) (ks ++ us) 69 #[.pointer (some ⟨E.b, 0, none⟩)] (TellB r) (fun W => PS E W l1 (o)) (TellD E (o) _ r) rfl (by kernel_rfl) (by kernel_rfl) rfl (by kernel_rfl) (by decide) (by decide) (by decide) (by decide) rfl rfl rfl rfl rfl rfl rfl rfl rfl rfl rfl rfl ⟨_, rfl, rfl⟩ ⟨_, rfl, rfl⟩ ⟨_, rfl, rfl⟩ ⟨_, _, _, rfl⟩ rfl ⟨_, _, _, rfl⟩ ⟨_, _, _, rfl⟩ ⟨_, _, _, rfl⟩ (by kernel_rfl) (by kernel_rfl) (by kernel_rfl) (by kernel_rfl) (by kernel_rfl) (by kernel_rfl) (by kernel_rfl) (by kernel_rfl) (by kernel_rfl) rfl rfl rfl
      (fun a w hun hev => by
        have e4 := hev 4 _ _ (by omega) rfl rfl (by kernel_rfl) (by decide)
        simp [Act.eval] at e4
        unfold execOp; go_simp)
      (fun i o hoi hi hx a w hgr hun hev => by
        rcases (show i = 0 ∨ i = 1 ∨ i = 2 ∨ i = 3 ∨ i = 4 ∨ i = 5 ∨ i = 6 ∨ i = 7 ∨ i = 8 ∨ i = 9 ∨ i = 10 ∨ i = 11 ∨ i = 12 ∨ i = 13 by omega) with rfl | rfl | rfl | rfl | rfl | rfl | rfl | rfl | rfl | rfl | rfl | rfl | rfl | rfl
        · obtain rfl := Option.some.inj hoi; exact x_move _ _ _ _ _ _ _ _ ((hun 1 (noput_all (by kernel_rfl))).trans rfl)
        · obtain rfl := Option.some.inj hoi; exact x_nil _ _ _ _ _ _ _ _ (hev 0 _ _ (by omega) rfl rfl (by kernel_rfl) (by decide))
        · obtain rfl := Option.some.inj hoi; exact x_kids _ _ _ _ _ _ _ _ (hev 1 _ _ (by omega) rfl rfl (by kernel_rfl) (by decide))
        · obtain rfl := Option.some.inj hoi; exact x_loadS _ _ _ _ _ _ _ _ 6 _ (hev 2 _ _ (by omega) rfl rfl (by kernel_rfl) (by decide)) (((hgr rfl).cell (p := ⟨h, 6, none⟩) (by show h < _; omega) (by show ¬ Wr _ _ _ (h); unfold Wr; omega)).trans n2_6)
        · obtain rfl := Option.some.inj hoi; exact x_move _ _ _ _ _ _ _ _ ((hun 0 (noput_all (by kernel_rfl))).trans rfl)
        · exact absurd (by decide) hx
        · obtain rfl := Option.some.inj hoi; exact x_len _ _ _ _ _ _ _ _ _ _ 0 (hev 3 _ _ (by omega) rfl rfl (by kernel_rfl) (by decide))
        · exact absurd (by decide) hx
        · exact absurd (by decide) hx
        · exact absurd (by decide) hx
        · exact absurd (by decide) hx
        · obtain rfl := Option.some.inj hoi; exact x_nil _ _ _ _ _ _ _ _ (hev 0 _ _ (by omega) rfl rfl (by kernel_rfl) (by decide))
        · obtain rfl := Option.some.inj hoi; exact x_kids _ _ _ _ _ _ _ _ (hev 11 _ _ (by omega) rfl rfl (by kernel_rfl) (by decide))
        · exact absurd (by decide) hx)
      hk_n2 hb_n2 (by omega) (by omega) (by omega) (by omega) (by simp; unfold LIM at *; omega) (calm_PS E _ _ (o) (by omega) (by omega)) hP2 (calm_TellD E _ (o) _ r (by omega) (by omega)) (fun t w u hd => by obtain ⟨l9, h1, h2⟩ := hd; exact ⟨l9, h1, h2.setCell (by show h ≠ _; omega) (by show h ≠ _; omega) u⟩) (fun W hW => (Hn.typeOf E W l1 (o) _ r hW HQ2.out HR.out).mono fun e w' h => tells h) ?_ ?_
    · rintro a w' c had ⟨at_, k, hb, rfl⟩ hg
      exact And.intro had ⟨hG2.trans (hg.mono fun q _ hq => .inl hq), .inl ⟨_, _, hb, rfl⟩⟩
    rintro vals w3 A3 c3 u3 ⟨l3, hq3, hP3⟩ hk_n3 hgx hb_n3
    have hsx := hgx.size
    have hG3 : Gr (fun q => q = E.b ∨ q = h ∨ lo ≤ q) w w3 := hG2.trans hgx
    have hl_n3 := hb_n3.lt
    have hbl3 := hP3.lt
    have hgl3 := hP3.toks.lt
    dsimp only [putAll, List.take_succ_cons, List.take_zero, List.take_nil]
    have HQ3 := Lib.hid hq3
    clear hq3 hgx
    obtain ⟨_, n3_0, n3_1, n3_2, n3_3, n3_4, n3_5, n3_6, n3_f⟩ := hb_n3.all7
    go_wp2
    go_end0
    have hl : (ks ++ (us ++ [u3])).length = (ks ++ us).length + 1 := by simp; omega
    refine ⟨Gr.setCell (S := fun q => q = E.b ∨ q = h ∨ lo ≤ q) (p := ⟨h, 2, none⟩) hG3 (.inr (.inr (.inl rfl))) _, .inr ⟨1, us ++ [u3], A3, c3, l3, rfl, HQ3.out, hP3.setCell (by show h ≠ _; omega) (by show h ≠ _; omega) _, by simp; omega, ?_, ?_⟩⟩
    · rw [hl, ← List.append_assoc]
      exact (KidX.setCell hk_n3 (.inr rfl) _).kid
    · rw [hl]
      exact Blk.set2 hb_n3 _
end Go.Proofs.YtihnnbeepfgphaaGreatDoor

/-! ## PF37: A text as a whole: a walk. -/
namespace Go.Proofs.YtihnnbeepfgphaaGreatDoor
open Go.RowKit
set_option linter.unusedVariables false
set_option linter.unusedSimpArgs false
attribute [local go_sem ↓] tok_f0 tok_f1 tok_f2 tok_f3

def CF (n : Nat) : Prop := ∀ (E : Env) (w : World) (l : List T) (o : Nat) (g : Tr → List T → R) (r : R), PS E w l o → bnd (go n .file l o) g = r → r ≠ .out →
  Calls Tryz.prog 20 #[.pointer (some ⟨E.b, 0, none⟩)] w (NodeP E w w.heap.size o g r)
set_option maxRecDepth 100000 in
set_option maxHeartbeats 4000000 in
theorem file_step (n : Nat) (hn : n ≤ LIM) (H : ∀ m, m ≤ n → AllN m) : CF (n + 1) := by
  intro E w l o g r hP hq hr
  simp only [go, bnd_want, bnd_wantK, bnd_bnd, bnd_ok] at hq
  have hlt := hP.lt
  have hgt := hP.toks.lt
  have hne := hP.ne
  have HR := Lib.hid hr
  have HN := Lib.hid hn
  have HQ0 := Lib.hid hq
  clear hr hq hn
  go_enter Tryz.func20, Tryz.ntmps20
  go_wp2_with (first
    | (go_at_call 24; (with_reducible refine (want_any E _ l (o) [112, 97, 99, 107, 97, 103, 101] ⟨#[112, 97, 99, 107, 97, 103, 101]⟩ _ _ psA rfl (by simp) HQ0.out).mono ?_); rintro e w1 ⟨hg1, ⟨a, k, hb, rfl⟩ | ⟨x1, l1, rfl, hq1, hP1⟩⟩; exact And.intro rfl ⟨Gr.trans grA hg1, .inl ⟨_, _, hb, rfl⟩⟩; have hG1 : Gr (· = E.b) w w1 := Gr.trans grA hg1; have HQ1 := Lib.hid hq1; clear hq1; have hbl1 := hP1.lt; have hgl1 := hP1.toks.lt; have hs1 : w.heap.size + 1 ≤ w1.heap.size := (by have := hg1.size; simpa using this); have hb_z1 : Blk w1 (w.heap.size) 28 #[.int .i64 0, .int .i64 0, .int .i64 0, .string ⟨#[]⟩, .string ⟨#[]⟩, .int .i64 0, .slice none 0 0] := Blk.call (b := E.b) bkA hg1 (by omega); have hl_z1 := hb_z1.lt)
    | (go_at_call 25; (with_reducible refine (name_any E _ l1 (o) _ _ psA HQ1.out).mono ?_); rintro e w2 ⟨hg2, ⟨a, k, hb, rfl⟩ | ⟨x2, l2, rfl, hq2, hP2⟩⟩; exact And.intro rfl ⟨Gr.trans grA hg2, .inl ⟨_, _, hb, rfl⟩⟩; have hG2 : Gr (· = E.b) w w2 := Gr.trans grA hg2; have HQ2 := Lib.hid hq2; clear hq2; have hbl2 := hP2.lt; have hgl2 := hP2.toks.lt; have hs2 : w1.heap.size + 1 ≤ w2.heap.size := (by have := hg2.size; simpa using this); have hb_z2 : Blk w2 (w.heap.size) 28 #[.int .i64 0, .int .i64 0, .int .i64 0, .string ⟨#[]⟩, .string ⟨#[]⟩, .int .i64 0, .slice none 0 0] := Blk.call (b := E.b) bkA hg2 (by omega); have hl_z2 := hb_z2.lt; have hb_n2 : Blk w2 (w1.heap.size) 28 #[.int .i64 1, .int .i64 0, .int .i64 0, .string ⟨#[]⟩, .string ⟨#[]⟩, .int .i64 x1.2, .slice none 0 0] := Blk.call (b := E.b) bkA hg2 (by omega); have hl_n2 := hb_n2.lt; obtain ⟨_, n2_0, n2_1, n2_2, n2_3, n2_4, n2_5, n2_6, n2_f⟩ := hb_n2.all7)
    | (go_at_call 24; (with_reducible refine (want_any E _ l2 (o) [59] ⟨#[59]⟩ _ _ psA rfl (by simp) HQ2.out).mono ?_); rintro e w3 ⟨hg3, ⟨a, k, hb, rfl⟩ | ⟨x3, l3, rfl, hq3, hP3⟩⟩; exact And.intro rfl ⟨Gr.trans grA hg3, .inl ⟨_, _, hb, rfl⟩⟩; have hG3 : Gr (· = E.b) w w3 := Gr.trans grA hg3; have HQ3 := Lib.hid hq3; clear hq3; have hbl3 := hP3.lt; have hgl3 := hP3.toks.lt; have hs3 : w2.heap.size + 0 ≤ w3.heap.size := (by have := hg3.size; simpa using this); have hb_z3 : Blk w3 (w.heap.size) 28 #[.int .i64 0, .int .i64 0, .int .i64 0, .string ⟨#[]⟩, .string ⟨#[]⟩, .int .i64 0, .slice none 0 0] := Blk.call (b := E.b) bkA hg3 (by omega); have hl_z3 := hb_z3.lt; have hb_n3 : Blk w3 (w1.heap.size) 28 #[.int .i64 1, .int .i64 0, .int .i64 0, .string ⟨#[]⟩, .string (bs x2.1.t), .int .i64 x1.2, .slice none 0 0] := Blk.call (b := E.b) bkA hg3 (by omega); have hl_n3 := hb_n3.lt))
  have hw1 : w1.heap.size + 1 ≤ w3.heap.size := by omega
  go_loopg [] n (fun gk wr => ∃ (acc : List Tr) (A : Option Addr) (c : Nat) (l4 : List T), acc.length + gk ≤ n ∧ PS E wr l4 o ∧ bnd (go gk (.imports acc) l4 o) (fun ks q => bnd (go n (.decls ks.kids) q o) fun ks q => g (tnd 1 x2.1.t x1.2 ks.kids) q) = r ∧ Gr (· = E.b) w wr ∧ Blk wr w.heap.size 28 #[.int .i64 0, .int .i64 0, .int .i64 0, .string ⟨#[]⟩, .string ⟨#[]⟩, .int .i64 0, .slice none 0 0] ∧ Blk wr w1.heap.size 28 #[.int .i64 1, .int .i64 0, .int .i64 0, .string ⟨#[]⟩, .string (bs x2.1.t), .int .i64 x1.2, .slice A acc.length c] ∧ Kid wr (w1.heap.size + 1) (.slice A acc.length c) acc ∧ w1.heap.size + 1 ≤ wr.heap.size)
  case atStart => exact ⟨[], none, 0, l3, by simp, psA, HQ3.out, grA, hb_z3, hb_n3, Kid.nil _ _ 0, hw1⟩
  case round =>
    obtain ⟨acc, A, c, l4, hac, hP4, hq4, hG4, hz4, hb4, hk4, hs4⟩ := hrel
    cases gk with
    | zero => exact absurd (by rw [← hq4]; rfl) HR.out
    | succ f =>
      simp only [go, bnd_ite, bnd_ok, bnd_bnd, bnd_takeR, bnd_wantK, bnd_want] at hq4
      have hbl4 := hP4.lt
      have hgl4 := hP4.toks.lt
      by_cases hm : mark l4 = [105, 109, 112, 111, 114, 116]
      · rw [if_pos hm] at hq4
        have HM := Lib.hid hm
        have HQ4 := Lib.hid hq4
        clear hq4 hm
        go_wp2_with (first
          | (go_at_call 26; refine (skip_yes E _ l4 o [105, 109, 112, 111, 114, 116] _ hP4 rfl (by simp) HM.out).mono ?_; rintro e w5 ⟨rfl, hg5, xs, l5, hll5, hP5⟩; have hG5 : Gr (· = E.b) w w5 := hG4.trans hg5; have hq5 := HQ4.out; rw [hll5, takeR_cons] at hq5; have HQ5 := Lib.hid hq5; clear hq5 hll5; have hz5 := hz4.call hg5 (by omega); have hb5 := hb4.call hg5 (by omega); have hk5 := hk4.call hg5 (by omega); have hs5 := hg5.size)
          | (go_at_call 25; refine (name_any E _ l5 o _ _ hP5 HQ5.out).mono ?_; rintro e w6 ⟨hg6, ⟨a, k, hb, rfl⟩ | ⟨x6, l6, rfl, hq6, hP6⟩⟩; exact And.intro rfl ⟨hG5.trans hg6, .inl ⟨_, _, hb, rfl⟩⟩; have hG6 := hG5.trans hg6; have HQ6 := Lib.hid hq6; clear hq6; have hz6 := hz5.call hg6 (by omega); have hb6 := hb5.call hg6 (by omega); have hk6 := hk5.call hg6 (by omega); have hs6 := hg6.size; have hbl6 := hP6.lt; have hgl6 := hP6.toks.lt)
          | (go_at_call 24; refine (want_any E _ l6 o [59] ⟨#[59]⟩ _ _ (PS.alloc hP6 _) rfl (by simp) HQ6.out).mono ?_; rintro e w7 ⟨hg7, ⟨a, k, hb, rfl⟩ | ⟨x7, l7, rfl, hq7, hP7⟩⟩; exact And.intro rfl ⟨(hG6.alloc _).trans hg7, .inl ⟨_, _, hb, rfl⟩⟩; have hG7 := (hG6.alloc _).trans hg7; have HQ7 := Lib.hid hq7; clear hq7; have hz7 := (hz6.alloc _).call hg7 (by omega); have hb7 := (hb6.alloc _).call hg7 (by omega); have hk7 := (hk6.alloc _).call hg7 (by omega); have hs7 : w6.heap.size + 1 ≤ w7.heap.size := (by have := hg7.size; simpa using this); have hx7 : Blk w7 w6.heap.size 58 #[.int .i64 x6.1.k, .string (bs x6.1.t), .int .i64 x6.1.n, .int .i64 x6.2] := Blk.call (b := E.b) (Blk.new _ _ _) hg7 (by omega); obtain ⟨xl, x0, x1', x2', x3', xf⟩ := hx7.all4; obtain ⟨bl, b0, b1, b2, b3, b4, b5, b6, bf⟩ := hb7.all7; have hbl7 := hP7.lt; have hgl7 := hP7.toks.lt; have hlit7 : Kid (w7.alloc (.cells #[.int .i64 2, .int .i64 0, .int .i64 0, .string ⟨#[]⟩, .string (bs x6.1.t), .int .i64 x6.2, .slice none 0 0] 28)) w7.heap.size (.slice (some ⟨w7.heap.size, 0, none⟩) 1 1) [Tr.mk 2 0 0 [] x6.1.t x6.2 []] := Kid.lit1 (lo := w7.heap.size) (k := 2) (op := 0) (m := 0) (p := []) (t := x6.1.t) (a := x6.2) (ks := []) (A := none) (c := 0) (Kid.nil w7 _ 0) (Nat.le_refl _); have hown := fun q e => (hk7.own (g := q) e))
          | (at_builtin; refine wpList_push (lo := w1.heap.size + 1) (N := w7.heap.size) (b := w1.heap.size) (v := .slice A acc.length c) (ks0 := acc) (t := Tr.mk 2 0 0 [] x6.1.t x6.2 []) rfl _ _ rfl (hk7.alloc _) (fun q e => (hown q e).2) hlit7 (by omega) (by omega) (by have := HN.out; unfold LIM at *; omega) (by simp; omega) rfl rfl ?_; intro A8 c8 w8 hK8 hg8; have hb8 : Blk w8 w1.heap.size 28 #[.int .i64 1, .int .i64 0, .int .i64 0, .string ⟨#[]⟩, .string (bs x2.1.t), .int .i64 x1.2, .slice A acc.length c] := (hb7.alloc _).gr hg8 (fun e => by have := (hown _ e).1; omega); have hbx8 := hb8.all7; obtain ⟨cl, c0, c1, c2, c3, c4, c5, c6, cf⟩ := hbx8))
        have hs8 : w7.heap.size + 1 ≤ w8.heap.size := by have := hg8.size; simpa using this
        have hP8 : PS E w8 l7 o := (hP7.alloc _).gr hg8 (fun e => by have := (hown _ e).1; omega) (fun e => by have := (hown _ e).1; omega)
        have hG8 : Gr (· = E.b) w w8 := (hG7.alloc _).wide hg8 (fun k hk e => by have := (hown _ e).1; omega)
        have hz8 : Blk w8 w.heap.size 28 #[.int .i64 0, .int .i64 0, .int .i64 0, .string ⟨#[]⟩, .string ⟨#[]⟩, .int .i64 0, .slice none 0 0] := (hz7.alloc _).gr hg8 (fun e => by have := (hown _ e).1; omega)
        go_roundg f
        case measure => omega
        case rel => exact ⟨acc ++ [Tr.mk 2 0 0 [] x6.1.t x6.2 []], A8, c8, l7, by simp; omega, psA, HQ7.out, grA, bkA, by rw [List.length_append]; exact hb8.set6 _, by rw [List.length_append]; exact hK8.setCell (by show w1.heap.size < _; omega) _, by simp; omega⟩
      · rw [if_neg hm] at hq4
        have HM := Lib.hid hm
        have HQ4 := Lib.hid hq4
        clear hq4 hm
        go_wp2_with (go_at_call 26; refine (skip_no E _ l4 o [105, 109, 112, 111, 114, 116] _ hP4 rfl HM.out).mono ?_; rintro e w5 ⟨rfl, hb5⟩; have hP5 := hP4.below hb5; have hG5 : Gr (· = E.b) w w5 := Gr.trans hG4 (Gr.of_below hb5); have hz5 := hz4.bel hb5; have hbb5 := hb4.bel hb5; have hk5 := hk4.bel hb5; have hs5 := hb5.size)
        go_loopg [] n (fun gk wr => ∃ (acc2 : List Tr) (A : Option Addr) (c : Nat) (l6 : List T), acc2.length + gk ≤ 2 * n ∧ PS E wr l6 o ∧ bnd (go gk (.decls acc2) l6 o) (fun ks q => g (tnd 1 x2.1.t x1.2 ks.kids) q) = r ∧ Gr (· = E.b) w wr ∧ Blk wr w.heap.size 28 #[.int .i64 0, .int .i64 0, .int .i64 0, .string ⟨#[]⟩, .string ⟨#[]⟩, .int .i64 0, .slice none 0 0] ∧ Blk wr w1.heap.size 28 #[.int .i64 1, .int .i64 0, .int .i64 0, .string ⟨#[]⟩, .string (bs x2.1.t), .int .i64 x1.2, .slice A acc2.length c] ∧ Kid wr (w1.heap.size + 1) (.slice A acc2.length c) acc2 ∧ w1.heap.size + 1 ≤ wr.heap.size ∧ gk ≤ n)
        case atStart => exact ⟨acc, A, c, l4, by omega, hP5, HQ4.out, hG5, hz5, hbb5, hk5, by omega, Nat.le_refl _⟩
        case round =>
          obtain ⟨acc2, A2, c2, l6, hac2, hP6, hq6, hG6, hz6, hb6, hk6, hs6, hgk⟩ := hrel
          have hal : acc2.length ≤ 3 * LIM := by have := HN.out; unfold LIM at *; omega
          cases gk with
          | zero => exact absurd (by rw [← hq6]; rfl) HR.out
          | succ f =>
            simp only [go, bnd_ite, bnd_ok, bnd_bnd] at hq6
            have hbl6 := hP6.lt
            have hgl6 := hP6.toks.lt
            obtain ⟨x6, t6, rfl⟩ := hP6.cons
            have TOKA := token_any E _ x6 t6 o hP6
            by_cases hkd : x6.1.k = 0
            · rw [if_pos (show kind (x6 :: t6) = 0 from hkd)] at hq6
              have HQ6 := Lib.hid hq6
              have hkf : (x6.1.k != 0) = false := by rw [hkd]; rfl
              clear hq6 hkd
              go_wp2_with (go_at_call 27; refine TOKA.mono ?_; rintro e w7 ⟨rfl, hb7⟩; have hP7 := hP6.below hb7; have hG7 : Gr (· = E.b) w w7 := Gr.trans hG6 (Gr.of_below hb7); have hz7 := hz6.bel hb7; have hbb7 := hb6.bel hb7; have hk7 := hk6.bel hb7; obtain ⟨zl, z0, z1, z2, z3, z4, z5, z6, zf⟩ := hz7.all7; obtain ⟨bl, b0, b1, b2, b3, b4, b5, b6, bf⟩ := hbb7.all7)
              exact ret7 Tryz.results20 rfl rfl b7A ⟨grA, .inr ⟨1, 0, 0, [], x2.1.t, x1.2, acc2, A2, c2, (x6 :: t6), rfl, HQ6.out, Kid.mono (lo := w1.heap.size + 1) kdA (by omega), hal, psA⟩⟩
            · rw [if_neg (show ¬ kind (x6 :: t6) = 0 from hkd)] at hq6
              have HQ6 := Lib.hid hq6
              have hkf : (x6.1.k != 0) = true := by simpa using hkd
              clear hq6 hkd
              go_wp2_with (go_at_call 27; refine TOKA.mono ?_; rintro e w7 ⟨rfl, hb7⟩; have hP7 := hP6.below hb7; have hG7 : Gr (· = E.b) w w7 := Gr.trans hG6 (Gr.of_below hb7); have hz7 := hz6.bel hb7; have hbb7 := hb6.bel hb7; have hk7 := hk6.bel hb7; have hs7 := hb7.size; have hbl7 := hP7.lt; have hgl7 := hP7.toks.lt; have hl7 := hbb7.lt; obtain ⟨bl, b0, b1, b2, b3, b4, b5, b6, bf⟩ := hbb7.all7)
              have Hf := H f (by omega)
              refine region_A E.b (w1.heap.size + 1) w1.heap.size 57 (.slice A2 acc2.length c2) acc2 28 #[.pointer (some ⟨E.b, 0, none⟩)] (TellB r) (TellD E o (fun t l => bnd (go f (.decls (acc2 ++ [t])) l o) (fun ks q => g (tnd 1 x2.1.t x1.2 ks.kids) q)) r) rfl (by kernel_rfl) rfl (by kernel_rfl) (by kernel_rfl) (by kernel_rfl) (by decide) (by kernel_rfl) (by kernel_rfl) (by kernel_rfl) (by kernel_rfl) (by kernel_rfl) (by kernel_rfl) (by kernel_rfl) (by kernel_rfl)
                (fun a w h => by simp [Act.eval] at h; unfold execOp; go_simp) rfl rfl (hk7.x (by omega)) b6 (bf 6) (by omega) (by omega) (by omega) (by omega) hal (calm_TellD E _ _ _ r (by omega) (by omega)) (calm_TellD E _ _ _ r (by omega) (by omega)) ((Hf.decl E _ (x6 :: t6) o _ r hP7.drew HQ6.out HR.out).mono fun e w' h => tells h) ?_ ?_
              · rintro a w' c had ⟨at_, k, hb, rfl⟩ hg
                exact And.intro had ⟨hG7.trans hg, .inl ⟨_, _, hb, rfl⟩⟩
              · rintro vals w' A9 c9 t ⟨l9, hq9, hP9⟩ hK9 hg9 _ _
                go_wp2
                go_roundg f
                case measure => omega
                case rel => exact ⟨acc2 ++ [t], A9, c9, l9, by simp; omega, psA, hq9, Gr.setCell (wide_b hG7 hg9 (by omega)) (.inl (by show w.heap.size ≤ w1.heap.size; omega)) _, Blk.far (hz7.wr hg9 (by omega) (.inl (by omega))) (by show w.heap.size ≠ w1.heap.size; omega) _, by rw [List.length_append]; exact (hbb7.wr hg9 (by omega) (.inr rfl)).set6 _, by rw [List.length_append]; exact hK9.kid.setCell (by show w1.heap.size < _; omega) _, by have := hg9.size; simp; omega, by omega⟩

end Go.Proofs.YtihnnbeepfgphaaGreatDoor

/-! ## PF38: Types declared: walks. -/
namespace Go.Proofs.YtihnnbeepfgphaaGreatDoor
open Go.RowKit
set_option linter.unusedVariables false
set_option linter.unusedSimpArgs false
attribute [local go_sem ↓] tok_f0 tok_f1 tok_f2 tok_f3

set_option maxRecDepth 100000 in
set_option maxHeartbeats 4000000 in
theorem declaredType_step (n : Nat) (hn : n ≤ LIM) (H : ∀ m, m ≤ n → AllN m) : C0 (n + 1) 44 .declaredType := by
  intro E w l o g r hP hq hr
  simp only [go, bnd_enter, bnd_want, bnd_wantK, bnd_takeR, bnd_ite, bnd_refuse, bnd_bnd, bnd_ok] at hq
  have hlt := hP.lt
  have hgt := hP.toks.lt
  have hne := hP.ne
  have HR := Lib.hid hr
  have Hn := H n (Nat.le_refl _)
  clear hr
  have HQ0 := Lib.hid hq
  clear hq
  go_enter Tryz.func44, Tryz.ntmps44
  have HN := Lib.hid hn
  go_wp2_with (first
    | (go_at_call 24; (with_reducible refine (want_any E _ l (o) [116, 121, 112, 101] ⟨#[116, 121, 112, 101]⟩ _ _ psA rfl (by simp) HQ0.out).mono ?_); rintro e w1 ⟨hg1, ⟨a, k, hb, rfl⟩ | ⟨x1, l1, rfl, hq1, hP1⟩⟩; exact And.intro rfl ⟨Gr.trans grA hg1, .inl ⟨_, _, hb, rfl⟩⟩; have hG1 : Gr (· = E.b) w w1 := Gr.trans grA hg1; have HQ1 := Lib.hid hq1; clear hq1; have hbl1 := hP1.lt; have hgl1 := hP1.toks.lt; have hs1 : w.heap.size + 1 ≤ w1.heap.size := (by have := hg1.size; simpa using this); have hb_z1 : Blk w1 (w.heap.size) 28 #[.int .i64 0, .int .i64 0, .int .i64 0, .string ⟨#[]⟩, .string ⟨#[]⟩, .int .i64 0, .slice none 0 0] := Blk.call (b := E.b) bkA hg1 (by omega); have hl_z1 := hb_z1.lt)
    | (go_at_call 25; (with_reducible refine (name_any E _ l1 (o) _ _ psA HQ1.out).mono ?_); rintro e w2 ⟨hg2, ⟨a, k, hb, rfl⟩ | ⟨x2, l2, rfl, hq2, hP2⟩⟩; exact And.intro rfl ⟨Gr.trans grA hg2, .inl ⟨_, _, hb, rfl⟩⟩; have hG2 : Gr (· = E.b) w w2 := Gr.trans grA hg2; have HQ2 := Lib.hid hq2; clear hq2; have hbl2 := hP2.lt; have hgl2 := hP2.toks.lt; have hs2 : w1.heap.size + 0 ≤ w2.heap.size := (by have := hg2.size; simpa using this); have hb_z2 : Blk w2 (w.heap.size) 28 #[.int .i64 0, .int .i64 0, .int .i64 0, .string ⟨#[]⟩, .string ⟨#[]⟩, .int .i64 0, .slice none 0 0] := Blk.call (b := E.b) bkA hg2 (by omega); have hl_z2 := hb_z2.lt))
  obtain ⟨y, l4, rfl⟩ := hP2.cons
  by_cases hm : mark (y :: l4) = [115, 116, 114, 117, 99, 116]
  · have HQx := HQ2.out
    rw [if_pos hm, takeR_cons] at HQx
    have HX := Lib.hid (good_mark hP2.good (by rw [hm]; simp))
    have HM := Lib.hid hm
    clear HQ2 hm
    have HQ2 := Lib.hid HQx
    clear HQx
    go_wp2_with (first
      | (go_at_call 38; refine (mark_any E _ (y :: l4) (o) psA).mono ?_; rw [HM.out, show bs [115, 116, 114, 117, 99, 116] = ⟨#[115, 116, 114, 117, 99, 116]⟩ from rfl]; rintro e w3 ⟨rfl, hg3⟩; have hP3 : PS E w3 (y :: l4) (o) := PS.below psA hg3; have hG3 : Gr (· = E.b) w w3 := Gr.trans grA (Gr.of_below hg3); have hbl3 := hP3.lt; have hgl3 := hP3.toks.lt; have hs3 : w2.heap.size + 2 ≤ w3.heap.size := (by have := hg3.size; simpa using this); have hb_z3 : Blk w3 (w.heap.size) 28 #[.int .i64 0, .int .i64 0, .int .i64 0, .string ⟨#[]⟩, .string ⟨#[]⟩, .int .i64 0, .slice none 0 0] := Blk.bel bkA hg3; have hl_z3 := hb_z3.lt; have hb_x3 : Blk w3 (w2.heap.size) 58 #[.int .i64 x2.1.k, .string (bs x2.1.t), .int .i64 x2.1.n, .int .i64 x2.2] := Blk.bel bkA hg3; have hl_x3 := hb_x3.lt; have hb_n3 : Blk w3 (w2.heap.size + 1) 28 #[.int .i64 0, .int .i64 0, .int .i64 0, .string ⟨#[]⟩, .string (bs x2.1.t), .int .i64 x2.2, .slice none 0 0] := Blk.bel bkA hg3; have hl_n3 := hb_n3.lt; obtain ⟨_, n3_0, n3_1, n3_2, n3_3, n3_4, n3_5, n3_6, n3_f⟩ := hb_n3.all7)
      | (go_at_call 40; refine (take_any E _ y l4 (o) psA HX.out).mono ?_; rintro e w4 ⟨rfl, hg4, hP4⟩; have hG4 : Gr (· = E.b) w w4 := Gr.trans grA hg4; have hbl4 := hP4.lt; have hgl4 := hP4.toks.lt; have hs4 : w3.heap.size + 0 ≤ w4.heap.size := (by have := hg4.size; simpa using this); have hb_z4 : Blk w4 (w.heap.size) 28 #[.int .i64 0, .int .i64 0, .int .i64 0, .string ⟨#[]⟩, .string ⟨#[]⟩, .int .i64 0, .slice none 0 0] := Blk.call (b := E.b) bkA hg4 (by omega); have hl_z4 := hb_z4.lt; have hb_x4 : Blk w4 (w2.heap.size) 58 #[.int .i64 x2.1.k, .string (bs x2.1.t), .int .i64 x2.1.n, .int .i64 x2.2] := Blk.call (b := E.b) bkA hg4 (by omega); have hl_x4 := hb_x4.lt; have hb_n4 : Blk w4 (w2.heap.size + 1) 28 #[.int .i64 5, .int .i64 0, .int .i64 0, .string ⟨#[]⟩, .string (bs x2.1.t), .int .i64 x2.2, .slice none 0 0] := Blk.call (b := E.b) bkA hg4 (by omega); have hl_n4 := hb_n4.lt)
      | (go_at_call 58; (with_reducible refine (enter_any E _ l4 (o) [123] ⟨#[123]⟩ _ _ psA rfl (by simp) HQ2.out).mono ?_); rintro e w5 ⟨hg5, ⟨a, k, hb, rfl⟩ | ⟨x5, l5, rfl, hq5, hP5⟩⟩; exact And.intro rfl ⟨Gr.trans grA hg5, .inl ⟨_, _, hb, rfl⟩⟩; have hG5 : Gr (· = E.b) w w5 := Gr.trans grA hg5; have HQ5 := Lib.hid hq5; clear hq5; have hbl5 := hP5.lt; have hgl5 := hP5.toks.lt; have hs5 : w4.heap.size + 0 ≤ w5.heap.size := (by have := hg5.size; simpa using this); have hb_z5 : Blk w5 (w.heap.size) 28 #[.int .i64 0, .int .i64 0, .int .i64 0, .string ⟨#[]⟩, .string ⟨#[]⟩, .int .i64 0, .slice none 0 0] := Blk.call (b := E.b) bkA hg5 (by omega); have hl_z5 := hb_z5.lt; have hb_x5 : Blk w5 (w2.heap.size) 58 #[.int .i64 x2.1.k, .string (bs x2.1.t), .int .i64 x2.1.n, .int .i64 x2.2] := Blk.call (b := E.b) bkA hg5 (by omega); have hl_x5 := hb_x5.lt; have hb_n5 : Blk w5 (w2.heap.size + 1) 28 #[.int .i64 5, .int .i64 0, .int .i64 0, .string ⟨#[]⟩, .string (bs x2.1.t), .int .i64 x2.2, .slice none 0 0] := Blk.call (b := E.b) bkA hg5 (by omega); have hl_n5 := hb_n5.lt))
    have hw2 : w2.heap.size + 2 ≤ w5.heap.size := by omega
    go_loopg [] n (fun gk wr => ∃ (acc : List Tr) (A : Option Addr) (c : Nat) (l6 : List T), acc.length + gk ≤ n ∧ PS E wr l6 (o + 1) ∧ bnd (go gk (.parts .field acc) l6 (o + 1)) (fun t l => want [125] l fun _ q => g (tnd 5 x2.1.t x2.2 t.kids) q) = r ∧ Gr (· = E.b) w wr ∧ Blk wr w.heap.size 28 #[.int .i64 0, .int .i64 0, .int .i64 0, .string ⟨#[]⟩, .string ⟨#[]⟩, .int .i64 0, .slice none 0 0] ∧ Blk wr (w2.heap.size + 1) 28 #[.int .i64 5, .int .i64 0, .int .i64 0, .string ⟨#[]⟩, .string (bs x2.1.t), .int .i64 x2.2, .slice A acc.length c] ∧ Kid wr (w2.heap.size + 2) (.slice A acc.length c) acc ∧ w2.heap.size + 2 ≤ wr.heap.size)
    case atStart => exact ⟨[], none, 0, l5, by simp, psA, HQ5.out, grA, hb_z5, hb_n5, Kid.nil _ _ 0, hw2⟩
    case round =>
      obtain ⟨acc, A, c, l6, hac, hP6, hq6, hG6, hz6, hb6, hk6, hs6⟩ := hrel
      have hal : acc.length ≤ 3 * LIM := by have := HN.out; unfold LIM at *; omega
      cases gk with
      | zero => exact absurd (by rw [← hq6]; rfl) HR.out
      | succ f =>
        simp only [go, bnd_ite, bnd_ok, bnd_bnd] at hq6
        have hbl6 := hP6.lt
        have hgl6 := hP6.toks.lt
        by_cases hm : mark l6 = [125]
        · rw [if_pos hm] at hq6
          have HM6 := Lib.hid hm
          have HQ6 := Lib.hid hq6
          clear hq6 hm
          go_wp2_with (first
            | (go_at_call 38; refine (mark_any E _ _ _ hP6).mono ?_; rw [HM6.out, show bs [125] = ⟨#[125]⟩ from rfl]; rintro e w7 ⟨rfl, hb7⟩; have hP7 := hP6.below hb7; have hG7 : Gr (· = E.b) w w7 := Gr.trans hG6 (Gr.of_below hb7); have hz7 := hz6.bel hb7; have hbb7 := hb6.bel hb7; have hk7 := hk6.bel hb7)
            | (go_at_call 59; refine (leave_any E _ _ _ [125] _ _ _ hP7 rfl (by simp) HQ6.out).mono ?_; rintro e w8 ⟨hg8, ⟨a, k, hb, rfl⟩ | ⟨y8, l8, rfl, hq8, hP8⟩⟩; exact And.intro rfl ⟨Gr.trans hG7 hg8, .inl ⟨_, _, hb, rfl⟩⟩; have hG8 := hG7.trans hg8; have HQ8 := Lib.hid hq8; clear hq8; have hz8 := hz7.call hg8 (by omega); have hb8 := hbb7.call hg8 (by omega); have hk8 := hk7.call hg8 (by omega); obtain ⟨zl, z0, z1, z2, z3, z4, z5, z6, zf⟩ := hz8.all7; obtain ⟨bl, b0, b1, b2, b3, b4, b5, b6, bf⟩ := hb8.all7))
          exact ret7 Tryz.results44 rfl rfl b7A ⟨grA, .inr ⟨5, 0, 0, [], x2.1.t, x2.2, acc, A, c, l8, rfl, HQ8.out, Kid.mono (lo := w2.heap.size + 2) kdA (by omega), hal, psA⟩⟩
        · rw [if_neg hm] at hq6
          have hmn := bs_beq3 hm
          have HQ6 := Lib.hid hq6
          clear hq6 hm
          go_wp2_with (go_at_call 38; refine (mark_any E _ _ _ hP6).mono ?_; rintro e w7 ⟨rfl, hb7⟩; have hP7 := hP6.below hb7; have hG7 : Gr (· = E.b) w w7 := Gr.trans hG6 (Gr.of_below hb7); have hz7 := hz6.bel hb7; have hbb7 := hb6.bel hb7; have hk7 := hk6.bel hb7; have hs7 := hb7.size; have hbl7 := hP7.lt; have hgl7 := hP7.toks.lt; have hl7 := hbb7.lt)
          have Hf := H f (by omega)
          obtain ⟨bl, b0, b1, b2, b3, b4, b5, b6, bf⟩ := hbb7.all7
          refine region_A2 E.b (w2.heap.size + 2) (w2.heap.size + 1) (· = w2.heap.size + 1) (.func (Fn.func 56) #[.pointer (some ⟨E.b, 0, none⟩)] #[]) 62 (.slice A acc.length c) acc 56 #[.pointer (some ⟨E.b, 0, none⟩)] (TellB r) (TellD E (o + 1) (fun t l => bnd (go f (.parts .field (acc ++ [t])) l (o + 1)) fun t l => want [125] l fun _ q => g (tnd 5 x2.1.t x2.2 t.kids) q) r) rfl (by kernel_rfl) rfl (by kernel_rfl) (by kernel_rfl) (by kernel_rfl) (by decide) (by kernel_rfl) (by kernel_rfl) (by kernel_rfl) (by kernel_rfl) (by kernel_rfl) (by kernel_rfl) (by kernel_rfl) (by kernel_rfl)
            (fun a w h => by simp [Act.eval] at h; unfold execOp; go_simp) rfl rfl (hk7.x (by omega)) (hk7.x (by omega)).p (fun q hq => by have h9 : q = w2.heap.size + 1 := hq; omega) b6 (bf 6) (by omega) (by omega) (by omega) (by omega) hal (calm_TellD E _ _ _ r (by omega) (by omega)) (calm_TellD E _ _ _ r (by omega) (by omega)) ((Hf.field E _ l6 (o + 1) _ r hP7.drew HQ6.out HR.out).mono fun e w' h => tells h) ?_ ?_
          · rintro a w' c had ⟨at_, k, hb, rfl⟩ hg
            exact And.intro had ⟨hG7.trans hg, .inl ⟨_, _, hb, rfl⟩⟩
          · rintro vals w' A9 c9 t ⟨l9, hq9, hP9⟩ hK9 _ hg9 _ _
            go_wp2
            go_roundg f
            case measure => omega
            case rel => exact ⟨acc ++ [t], A9, c9, l9, by simp; omega, psA, hq9, Gr.setCell (wide_b hG7 hg9 (by omega)) (.inl (by show w.heap.size ≤ w2.heap.size + 1; omega)) _, Blk.far (hz7.wr hg9 (by omega) (.inl (by omega))) (by show w.heap.size ≠ w2.heap.size + 1; omega) _, by rw [List.length_append]; exact (hbb7.wr hg9 (by omega) (.inr rfl)).set6 _, by rw [List.length_append]; exact hK9.kid.setCell (by show w2.heap.size + 1 < _; omega) _, by have := hg9.size; simp; omega⟩
  have HQx := HQ2.out
  rw [if_neg hm] at HQx
  have hm_struct := bs_beq3 hm
  clear HQ2 hm
  have HQ2 := Lib.hid HQx
  clear HQx
  by_cases hm : mark (y :: l4) = [105, 110, 116, 101, 114, 102, 97, 99, 101]
  · have HQx := HQ2.out
    rw [if_pos hm, takeR_cons] at HQx
    have HX := Lib.hid (good_mark hP2.good (by rw [hm]; simp))
    have HM := Lib.hid hm
    clear HQ2 hm
    have HQ2 := Lib.hid HQx
    clear HQx
    go_wp2_with (first
      | (go_at_call 38; refine (mark_any E _ (y :: l4) (o) psA).mono ?_; rw [HM.out, show bs [105, 110, 116, 101, 114, 102, 97, 99, 101] = ⟨#[105, 110, 116, 101, 114, 102, 97, 99, 101]⟩ from rfl]; rintro e w3 ⟨rfl, hg3⟩; have hP3 : PS E w3 (y :: l4) (o) := PS.below psA hg3; have hG3 : Gr (· = E.b) w w3 := Gr.trans grA (Gr.of_below hg3); have hbl3 := hP3.lt; have hgl3 := hP3.toks.lt; have hs3 : w2.heap.size + 2 ≤ w3.heap.size := (by have := hg3.size; simpa using this); have hb_z3 : Blk w3 (w.heap.size) 28 #[.int .i64 0, .int .i64 0, .int .i64 0, .string ⟨#[]⟩, .string ⟨#[]⟩, .int .i64 0, .slice none 0 0] := Blk.bel bkA hg3; have hl_z3 := hb_z3.lt; have hb_x3 : Blk w3 (w2.heap.size) 58 #[.int .i64 x2.1.k, .string (bs x2.1.t), .int .i64 x2.1.n, .int .i64 x2.2] := Blk.bel bkA hg3; have hl_x3 := hb_x3.lt; have hb_n3 : Blk w3 (w2.heap.size + 1) 28 #[.int .i64 0, .int .i64 0, .int .i64 0, .string ⟨#[]⟩, .string (bs x2.1.t), .int .i64 x2.2, .slice none 0 0] := Blk.bel bkA hg3; have hl_n3 := hb_n3.lt; obtain ⟨_, n3_0, n3_1, n3_2, n3_3, n3_4, n3_5, n3_6, n3_f⟩ := hb_n3.all7)
      | (go_at_call 40; refine (take_any E _ y l4 (o) psA HX.out).mono ?_; rintro e w4 ⟨rfl, hg4, hP4⟩; have hG4 : Gr (· = E.b) w w4 := Gr.trans grA hg4; have hbl4 := hP4.lt; have hgl4 := hP4.toks.lt; have hs4 : w3.heap.size + 0 ≤ w4.heap.size := (by have := hg4.size; simpa using this); have hb_z4 : Blk w4 (w.heap.size) 28 #[.int .i64 0, .int .i64 0, .int .i64 0, .string ⟨#[]⟩, .string ⟨#[]⟩, .int .i64 0, .slice none 0 0] := Blk.call (b := E.b) bkA hg4 (by omega); have hl_z4 := hb_z4.lt; have hb_x4 : Blk w4 (w2.heap.size) 58 #[.int .i64 x2.1.k, .string (bs x2.1.t), .int .i64 x2.1.n, .int .i64 x2.2] := Blk.call (b := E.b) bkA hg4 (by omega); have hl_x4 := hb_x4.lt; have hb_n4 : Blk w4 (w2.heap.size + 1) 28 #[.int .i64 7, .int .i64 0, .int .i64 0, .string ⟨#[]⟩, .string (bs x2.1.t), .int .i64 x2.2, .slice none 0 0] := Blk.call (b := E.b) bkA hg4 (by omega); have hl_n4 := hb_n4.lt)
      | (go_at_call 58; (with_reducible refine (enter_any E _ l4 (o) [123] ⟨#[123]⟩ _ _ psA rfl (by simp) HQ2.out).mono ?_); rintro e w5 ⟨hg5, ⟨a, k, hb, rfl⟩ | ⟨x5, l5, rfl, hq5, hP5⟩⟩; exact And.intro rfl ⟨Gr.trans grA hg5, .inl ⟨_, _, hb, rfl⟩⟩; have hG5 : Gr (· = E.b) w w5 := Gr.trans grA hg5; have HQ5 := Lib.hid hq5; clear hq5; have hbl5 := hP5.lt; have hgl5 := hP5.toks.lt; have hs5 : w4.heap.size + 0 ≤ w5.heap.size := (by have := hg5.size; simpa using this); have hb_z5 : Blk w5 (w.heap.size) 28 #[.int .i64 0, .int .i64 0, .int .i64 0, .string ⟨#[]⟩, .string ⟨#[]⟩, .int .i64 0, .slice none 0 0] := Blk.call (b := E.b) bkA hg5 (by omega); have hl_z5 := hb_z5.lt; have hb_x5 : Blk w5 (w2.heap.size) 58 #[.int .i64 x2.1.k, .string (bs x2.1.t), .int .i64 x2.1.n, .int .i64 x2.2] := Blk.call (b := E.b) bkA hg5 (by omega); have hl_x5 := hb_x5.lt; have hb_n5 : Blk w5 (w2.heap.size + 1) 28 #[.int .i64 7, .int .i64 0, .int .i64 0, .string ⟨#[]⟩, .string (bs x2.1.t), .int .i64 x2.2, .slice none 0 0] := Blk.call (b := E.b) bkA hg5 (by omega); have hl_n5 := hb_n5.lt))
    have hw2 : w2.heap.size + 2 ≤ w5.heap.size := by omega
    go_loopg [] n (fun gk wr => ∃ (acc : List Tr) (A : Option Addr) (c : Nat) (l6 : List T), acc.length + gk ≤ n ∧ PS E wr l6 (o + 1) ∧ bnd (go gk (.parts .sig acc) l6 (o + 1)) (fun t l => want [125] l fun _ q => g (tnd 7 x2.1.t x2.2 t.kids) q) = r ∧ Gr (· = E.b) w wr ∧ Blk wr w.heap.size 28 #[.int .i64 0, .int .i64 0, .int .i64 0, .string ⟨#[]⟩, .string ⟨#[]⟩, .int .i64 0, .slice none 0 0] ∧ Blk wr (w2.heap.size + 1) 28 #[.int .i64 7, .int .i64 0, .int .i64 0, .string ⟨#[]⟩, .string (bs x2.1.t), .int .i64 x2.2, .slice A acc.length c] ∧ Kid wr (w2.heap.size + 2) (.slice A acc.length c) acc ∧ w2.heap.size + 2 ≤ wr.heap.size)
    case atStart => exact ⟨[], none, 0, l5, by simp, psA, HQ5.out, grA, hb_z5, hb_n5, Kid.nil _ _ 0, hw2⟩
    case round =>
      obtain ⟨acc, A, c, l6, hac, hP6, hq6, hG6, hz6, hb6, hk6, hs6⟩ := hrel
      have hal : acc.length ≤ 3 * LIM := by have := HN.out; unfold LIM at *; omega
      cases gk with
      | zero => exact absurd (by rw [← hq6]; rfl) HR.out
      | succ f =>
        simp only [go, bnd_ite, bnd_ok, bnd_bnd] at hq6
        have hbl6 := hP6.lt
        have hgl6 := hP6.toks.lt
        by_cases hm : mark l6 = [125]
        · rw [if_pos hm] at hq6
          have HM6 := Lib.hid hm
          have HQ6 := Lib.hid hq6
          clear hq6 hm
          go_wp2_with (first
            | (go_at_call 38; refine (mark_any E _ _ _ hP6).mono ?_; rw [HM6.out, show bs [125] = ⟨#[125]⟩ from rfl]; rintro e w7 ⟨rfl, hb7⟩; have hP7 := hP6.below hb7; have hG7 : Gr (· = E.b) w w7 := Gr.trans hG6 (Gr.of_below hb7); have hz7 := hz6.bel hb7; have hbb7 := hb6.bel hb7; have hk7 := hk6.bel hb7)
            | (go_at_call 59; refine (leave_any E _ _ _ [125] _ _ _ hP7 rfl (by simp) HQ6.out).mono ?_; rintro e w8 ⟨hg8, ⟨a, k, hb, rfl⟩ | ⟨y8, l8, rfl, hq8, hP8⟩⟩; exact And.intro rfl ⟨Gr.trans hG7 hg8, .inl ⟨_, _, hb, rfl⟩⟩; have hG8 := hG7.trans hg8; have HQ8 := Lib.hid hq8; clear hq8; have hz8 := hz7.call hg8 (by omega); have hb8 := hbb7.call hg8 (by omega); have hk8 := hk7.call hg8 (by omega); obtain ⟨zl, z0, z1, z2, z3, z4, z5, z6, zf⟩ := hz8.all7; obtain ⟨bl, b0, b1, b2, b3, b4, b5, b6, bf⟩ := hb8.all7))
          exact ret7 Tryz.results44 rfl rfl b7A ⟨grA, .inr ⟨7, 0, 0, [], x2.1.t, x2.2, acc, A, c, l8, rfl, HQ8.out, Kid.mono (lo := w2.heap.size + 2) kdA (by omega), hal, psA⟩⟩
        · rw [if_neg hm] at hq6
          have hmn := bs_beq3 hm
          have HQ6 := Lib.hid hq6
          clear hq6 hm
          go_wp2_with (go_at_call 38; refine (mark_any E _ _ _ hP6).mono ?_; rintro e w7 ⟨rfl, hb7⟩; have hP7 := hP6.below hb7; have hG7 : Gr (· = E.b) w w7 := Gr.trans hG6 (Gr.of_below hb7); have hz7 := hz6.bel hb7; have hbb7 := hb6.bel hb7; have hk7 := hk6.bel hb7; have hs7 := hb7.size; have hbl7 := hP7.lt; have hgl7 := hP7.toks.lt; have hl7 := hbb7.lt)
          have Hf := H f (by omega)
          obtain ⟨bl, b0, b1, b2, b3, b4, b5, b6, bf⟩ := hbb7.all7
          refine region_A2 E.b (w2.heap.size + 2) (w2.heap.size + 1) (· = w2.heap.size + 1) (.func (Fn.func 57) #[.pointer (some ⟨E.b, 0, none⟩)] #[]) 62 (.slice A acc.length c) acc 57 #[.pointer (some ⟨E.b, 0, none⟩)] (TellB r) (TellD E (o + 1) (fun t l => bnd (go f (.parts .sig (acc ++ [t])) l (o + 1)) fun t l => want [125] l fun _ q => g (tnd 7 x2.1.t x2.2 t.kids) q) r) rfl (by kernel_rfl) rfl (by kernel_rfl) (by kernel_rfl) (by kernel_rfl) (by decide) (by kernel_rfl) (by kernel_rfl) (by kernel_rfl) (by kernel_rfl) (by kernel_rfl) (by kernel_rfl) (by kernel_rfl) (by kernel_rfl)
            (fun a w h => by simp [Act.eval] at h; unfold execOp; go_simp) rfl rfl (hk7.x (by omega)) (hk7.x (by omega)).p (fun q hq => by have h9 : q = w2.heap.size + 1 := hq; omega) b6 (bf 6) (by omega) (by omega) (by omega) (by omega) hal (calm_TellD E _ _ _ r (by omega) (by omega)) (calm_TellD E _ _ _ r (by omega) (by omega)) ((Hf.sig E _ l6 (o + 1) _ r hP7.drew HQ6.out HR.out).mono fun e w' h => tells h) ?_ ?_
          · rintro a w' c had ⟨at_, k, hb, rfl⟩ hg
            exact And.intro had ⟨hG7.trans hg, .inl ⟨_, _, hb, rfl⟩⟩
          · rintro vals w' A9 c9 t ⟨l9, hq9, hP9⟩ hK9 _ hg9 _ _
            go_wp2
            go_roundg f
            case measure => omega
            case rel => exact ⟨acc ++ [t], A9, c9, l9, by simp; omega, psA, hq9, Gr.setCell (wide_b hG7 hg9 (by omega)) (.inl (by show w.heap.size ≤ w2.heap.size + 1; omega)) _, Blk.far (hz7.wr hg9 (by omega) (.inl (by omega))) (by show w.heap.size ≠ w2.heap.size + 1; omega) _, by rw [List.length_append]; exact (hbb7.wr hg9 (by omega) (.inr rfl)).set6 _, by rw [List.length_append]; exact hK9.kid.setCell (by show w2.heap.size + 1 < _; omega) _, by have := hg9.size; simp; omega⟩
  have HQx := HQ2.out
  rw [if_neg hm] at HQx
  have hm_interface := bs_beq3 hm
  clear HQ2 hm
  have HQ2 := Lib.hid HQx
  clear HQx
  have HQx := HQ2.out
  rw [refuse_cons] at HQx
  have HQ2 := Lib.hid HQx
  clear HQx
  go_wp2_with (first
    | (go_at_call 38; refine (mark_any E _ (y :: l4) (o) psA).mono ?_; rintro e w3 ⟨rfl, hg3⟩; have hP3 : PS E w3 (y :: l4) (o) := PS.below psA hg3; have hG3 : Gr (· = E.b) w w3 := Gr.trans grA (Gr.of_below hg3); have hbl3 := hP3.lt; have hgl3 := hP3.toks.lt; have hs3 : w2.heap.size + 2 ≤ w3.heap.size := (by have := hg3.size; simpa using this); have hb_z3 : Blk w3 (w.heap.size) 28 #[.int .i64 0, .int .i64 0, .int .i64 0, .string ⟨#[]⟩, .string ⟨#[]⟩, .int .i64 0, .slice none 0 0] := Blk.bel bkA hg3; have hl_z3 := hb_z3.lt; have hb_x3 : Blk w3 (w2.heap.size) 58 #[.int .i64 x2.1.k, .string (bs x2.1.t), .int .i64 x2.1.n, .int .i64 x2.2] := Blk.bel bkA hg3; have hl_x3 := hb_x3.lt; have hb_n3 : Blk w3 (w2.heap.size + 1) 28 #[.int .i64 0, .int .i64 0, .int .i64 0, .string ⟨#[]⟩, .string (bs x2.1.t), .int .i64 x2.2, .slice none 0 0] := Blk.bel bkA hg3; have hl_n3 := hb_n3.lt)
    | (go_at_call 39; refine (refuse_any E _ y l4 o psA).mono ?_; rintro e w9 ⟨rfl, hg9⟩))
  refine And.intro rfl ?_
  exact ⟨Gr.trans hG3 (Gr.of_below hg9), .inl ⟨_, _, HQ2.out.symm, rfl⟩⟩
end Go.Proofs.YtihnnbeepfgphaaGreatDoor

/-! ## PF39: Variables defined: walks. -/
namespace Go.Proofs.YtihnnbeepfgphaaGreatDoor
open Go.RowKit
set_option linter.unusedVariables false
set_option linter.unusedSimpArgs false
attribute [local go_sem ↓] tok_f0 tok_f1 tok_f2 tok_f3

set_option maxRecDepth 100000 in
set_option maxHeartbeats 4000000 in
theorem define_step (n : Nat) (hn : n ≤ LIM) (H : ∀ m, m ≤ n → AllN m) : C0 (n + 1) 87 .define := by
  intro E w l o g r hP hq hr
  simp only [go, bnd_want, bnd_wantK, bnd_bnd, bnd_ok] at hq
  have hlt := hP.lt
  have hgt := hP.toks.lt
  have hne := hP.ne
  have HR := Lib.hid hr
  have Hn := H n (Nat.le_refl _)
  clear hr
  have HQ0 := Lib.hid hq
  clear hq
  go_enter Tryz.func87, Tryz.ntmps87
  go_wp2_with (first
    | (go_at_call 25; (with_reducible refine (name_any E _ l (o) _ _ psA HQ0.out).mono ?_); rintro e w1 ⟨hg1, ⟨a, k, hb, rfl⟩ | ⟨x1, l1, rfl, hq1, hP1⟩⟩; exact And.intro rfl ⟨Gr.trans grA hg1, .inl ⟨_, _, hb, rfl⟩⟩; have hG1 : Gr (· = E.b) w w1 := Gr.trans grA hg1; have HQ1 := Lib.hid hq1; clear hq1; have hbl1 := hP1.lt; have hgl1 := hP1.toks.lt; have hs1 : w.heap.size + 1 ≤ w1.heap.size := (by have := hg1.size; simpa using this); have hb_z1 : Blk w1 (w.heap.size) 28 #[.int .i64 0, .int .i64 0, .int .i64 0, .string ⟨#[]⟩, .string ⟨#[]⟩, .int .i64 0, .slice none 0 0] := Blk.call (b := E.b) bkA hg1 (by omega); have hl_z1 := hb_z1.lt)
    | (go_at_call 24; (with_reducible refine (want_any E _ l1 (o) [58, 61] ⟨#[58, 61]⟩ _ _ psA rfl (by simp) HQ1.out).mono ?_); rintro e w2 ⟨hg2, ⟨a, k, hb, rfl⟩ | ⟨x2, l2, rfl, hq2, hP2⟩⟩; exact And.intro rfl ⟨Gr.trans grA hg2, .inl ⟨_, _, hb, rfl⟩⟩; have hG2 : Gr (· = E.b) w w2 := Gr.trans grA hg2; have HQ2 := Lib.hid hq2; clear hq2; have hbl2 := hP2.lt; have hgl2 := hP2.toks.lt; have hs2 : w1.heap.size + 1 ≤ w2.heap.size := (by have := hg2.size; simpa using this); have hb_z2 : Blk w2 (w.heap.size) 28 #[.int .i64 0, .int .i64 0, .int .i64 0, .string ⟨#[]⟩, .string ⟨#[]⟩, .int .i64 0, .slice none 0 0] := Blk.call (b := E.b) bkA hg2 (by omega); have hl_z2 := hb_z2.lt; have hb_x2 : Blk w2 (w1.heap.size) 58 #[.int .i64 x1.1.k, .string (bs x1.1.t), .int .i64 x1.1.n, .int .i64 x1.2] := Blk.call (b := E.b) bkA hg2 (by omega); have hl_x2 := hb_x2.lt))
  refine region_D E.b 26 w1.heap.size 18 x1 55 #[.pointer (some ⟨E.b, 0, none⟩)] (TellB r) (fun W => PS E W l2 o) (TellD E o _ r) rfl (by kernel_rfl) rfl (by kernel_rfl) (by kernel_rfl) (by kernel_rfl) (by kernel_rfl) (by kernel_rfl) (by kernel_rfl) (by kernel_rfl) (by kernel_rfl) (by kernel_rfl) (by kernel_rfl) (by kernel_rfl) (by kernel_rfl) (by kernel_rfl) 
    (fun a w h => by simp [Act.eval] at h; unfold execOp; go_simp) rfl rfl hb_x2 (by omega) (by omega) (calm_PS E _ _ o (by omega) (by omega)) hP2 (calm_TellD E _ o _ r (by omega) (by omega)) (fun W hW => (Hn.expr E W l2 o _ r hW HQ2.out HR.out).mono fun e w' h => tells h) ?_ ?_
  · rintro a w' c had ⟨at_, k, hb, rfl⟩ hg
    exact And.intro had ⟨hG2.trans hg, .inl ⟨_, _, hb, rfl⟩⟩
  rintro vals w3 u3 zz gg hv8 hzz ⟨l3, hq3, hP3⟩ hg3 hb_n3 hk_n3
  have hG3 : Gr (· = E.b) w w3 := hG2.trans hg3
  have hb_z3 : Blk w3 (w.heap.size) 28 #[.int .i64 0, .int .i64 0, .int .i64 0, .string ⟨#[]⟩, .string ⟨#[]⟩, .int .i64 0, .slice none 0 0] := hb_z2.gr hg3 (by omega)
  have hl_z3 := hb_z3.lt
  have hl_n3 := hb_n3.lt
  have hbl3 := hP3.lt
  have hgl3 := hP3.toks.lt
  have hs3 := hg3.size
  dsimp only [putAll, List.take_succ_cons, List.take_zero, List.take_nil]
  rw [hv8]
  clear hv8 hg3
  have HQ3 := Lib.hid hq3
  clear hq3
  go_wp2_with (first
    | (go_at_call 24; (with_reducible refine (want_any E _ l3 (o) [59] ⟨#[59]⟩ _ _ psA rfl (by simp) HQ3.out).mono ?_); rintro e w4 ⟨hg4, ⟨a, k, hb, rfl⟩ | ⟨x4, l4, rfl, hq4, hP4⟩⟩; exact And.intro rfl ⟨Gr.trans grA hg4, .inl ⟨_, _, hb, rfl⟩⟩; have hG4 : Gr (· = E.b) w w4 := Gr.trans grA hg4; have HQ4 := Lib.hid hq4; clear hq4; have hbl4 := hP4.lt; have hgl4 := hP4.toks.lt; have hs4 : w3.heap.size + 0 ≤ w4.heap.size := (by have := hg4.size; simpa using this); have hb_z4 : Blk w4 (w.heap.size) 28 #[.int .i64 0, .int .i64 0, .int .i64 0, .string ⟨#[]⟩, .string ⟨#[]⟩, .int .i64 0, .slice none 0 0] := Blk.call (b := E.b) bkA hg4 (by omega); have hl_z4 := hb_z4.lt; obtain ⟨_, z4_0, z4_1, z4_2, z4_3, z4_4, z4_5, z4_6, z4_f⟩ := hb_z4.all7; have hb_n4 : Blk w4 (zz) 28 #[.int .i64 18, .int .i64 0, .int .i64 0, .string ⟨#[]⟩, .string (bs x1.1.t), .int .i64 x1.2, .slice (some ⟨gg, 0, none⟩) 1 1] := Blk.call (b := E.b) bkA hg4 (by omega); have hl_n4 := hb_n4.lt; obtain ⟨_, n4_0, n4_1, n4_2, n4_3, n4_4, n4_5, n4_6, n4_f⟩ := hb_n4.all7; have hk_n4 : KidX w4 (w2.heap.size) (zz) (.slice (some ⟨gg, 0, none⟩) 1 1) [u3] := KidX.call (b := E.b) kxA hg4 (by omega)))
  exact ret7 Tryz.results87 rfl rfl b7A ⟨grA, .inr ⟨18, 0, 0, [], x1.1.t, x1.2, [u3], _, 1, l4, rfl, HQ4.out, Kid.mono (lo := w2.heap.size) (v := .slice (some ⟨gg, 0, none⟩) 1 1) (ks := [u3]) (KidX.kid (h := zz) kxA) (by omega), (by simp [LIM]), psA⟩⟩
end Go.Proofs.YtihnnbeepfgphaaGreatDoor

/-! ## PF40: Functions declared: walks. -/
namespace Go.Proofs.YtihnnbeepfgphaaGreatDoor
open Go.RowKit
set_option linter.unusedVariables false
set_option linter.unusedSimpArgs false
attribute [local go_sem ↓] tok_f0 tok_f1 tok_f2 tok_f3

theorem op_int {Q : Exit → Act → World → Prop} {K : Act → World → Prop} {w : World} {a : Act} {ty : TypeId} {pos : String} {after : Array Edge} (x y : Operand) (v : Int) {z i : Nat} {u : Value}
    (hx : a.eval x = .pointer (some ⟨z, i, none⟩)) (hy : a.eval y = .int .i64 v) (hc : w.cell? ⟨z, i, none⟩ = some u) (hf : w.frozen? ⟨z, i, none⟩ = false) (hk : K (a.put none undef) (w.setCell ⟨z, i, none⟩ (.int .i64 v))) :
    ({ dst := none, op := .store 3 x y, type := ty, pos := pos, after := after, guard := none } : Oper).wp Tryz.prog a w K Q := by
  have : (execOp a.eval { dst := none, op := .store 3 x y, type := ty, pos := pos, after := after, guard := none }).run Tryz.prog w = .ok .skip (w.setCell ⟨z, i, none⟩ (.int .i64 v)) := by
    unfold execOp; simp only [hx, hy]; go_simp
  unfold Oper.wp
  rw [this]
  exact hk
set_option maxRecDepth 100000 in
set_option maxHeartbeats 4000000 in
theorem declaredFunc_step (n : Nat) (hn : n ≤ LIM) (H : ∀ m, m ≤ n → AllN m) : C0 (n + 1) 45 .declaredFunc := by
  intro E w l o g r hP hq hr
  simp only [go, bnd_enter, bnd_want, bnd_wantK, bnd_ite, bnd_bnd, bnd_ok] at hq
  have hlt := hP.lt
  have hgt := hP.toks.lt
  have hne := hP.ne
  have HR := Lib.hid hr
  have Hn := H n (Nat.le_refl _)
  clear hr
  have HQ0 := Lib.hid hq
  clear hq
  go_enter Tryz.func45, Tryz.ntmps45
  go_wp2_with (first
    | (go_at_call 24; (with_reducible refine (want_any E _ l (o) [102, 117, 110, 99] ⟨#[102, 117, 110, 99]⟩ _ _ psA rfl (by simp) HQ0.out).mono ?_); rintro e w1 ⟨hg1, ⟨a, k, hb, rfl⟩ | ⟨x1, l1, rfl, hq1, hP1⟩⟩; exact And.intro rfl ⟨Gr.trans grA hg1, .inl ⟨_, _, hb, rfl⟩⟩; have hG1 : Gr (· = E.b) w w1 := Gr.trans grA hg1; have HQ1 := Lib.hid hq1; clear hq1; have hbl1 := hP1.lt; have hgl1 := hP1.toks.lt; have hs1 : w.heap.size + 1 ≤ w1.heap.size := (by have := hg1.size; simpa using this); have hb_z1 : Blk w1 (w.heap.size) 28 #[.int .i64 0, .int .i64 0, .int .i64 0, .string ⟨#[]⟩, .string ⟨#[]⟩, .int .i64 0, .slice none 0 0] := Blk.call (b := E.b) bkA hg1 (by omega); have hl_z1 := hb_z1.lt))
  by_cases hm : mark l1 = [40]
  · skip
    have HQx := HQ1.out
    rw [if_pos hm] at HQx
    have HM := Lib.hid hm
    clear HQ1 hm
    have HQ1 := Lib.hid HQx
    clear HQx
    go_wp2_with (first
      | (go_at_call 38; refine (mark_any E _ l1 (o) psA).mono ?_; rw [HM.out, show bs [40] = ⟨#[40]⟩ from rfl]; rintro e w2 ⟨rfl, hg2⟩; have hP2 : PS E w2 l1 (o) := PS.below psA hg2; have hG2 : Gr (· = E.b) w w2 := Gr.trans grA (Gr.of_below hg2); have hbl2 := hP2.lt; have hgl2 := hP2.toks.lt; have hs2 : w1.heap.size + 1 ≤ w2.heap.size := (by have := hg2.size; simpa using this); have hb_z2 : Blk w2 (w.heap.size) 28 #[.int .i64 0, .int .i64 0, .int .i64 0, .string ⟨#[]⟩, .string ⟨#[]⟩, .int .i64 0, .slice none 0 0] := Blk.bel bkA hg2; have hl_z2 := hb_z2.lt; have hb_n2 : Blk w2 (w1.heap.size) 28 #[.int .i64 9, .int .i64 0, .int .i64 0, .string ⟨#[]⟩, .string ⟨#[]⟩, .int .i64 0, .slice none 0 0] := Blk.bel bkA hg2; have hl_n2 := hb_n2.lt)
      | (go_at_call 60; refine (Hn.receiver E _ l1 (o) _ r psA HQ1.out HR.out).mono ?_; rintro e w3 ⟨hg3, ⟨a, k, hb, rfl⟩ | ⟨k3, op3, m3, p3, t3, a3, ks3, A3, c3, l3, rfl, hq3, hk_33, hn3, hP3⟩⟩; exact And.intro rfl ⟨Gr.trans grA hg3, .inl ⟨_, _, hb, rfl⟩⟩; have hG3 : Gr (· = E.b) w w3 := Gr.trans grA hg3; have HQ3 := Lib.hid hq3; clear hq3; have hbl3 := hP3.lt; have hgl3 := hP3.toks.lt; have hs3 : w2.heap.size + 0 ≤ w3.heap.size := (by have := hg3.size; simpa using this); have hb_z3 : Blk w3 (w.heap.size) 28 #[.int .i64 0, .int .i64 0, .int .i64 0, .string ⟨#[]⟩, .string ⟨#[]⟩, .int .i64 0, .slice none 0 0] := Blk.call (b := E.b) bkA hg3 (by omega); have hl_z3 := hb_z3.lt; have hb_n3 : Blk w3 (w1.heap.size) 28 #[.int .i64 9, .int .i64 0, .int .i64 0, .string ⟨#[]⟩, .string ⟨#[]⟩, .int .i64 0, .slice none 0 0] := Blk.call (b := E.b) bkA hg3 (by omega); have hl_n3 := hb_n3.lt; obtain ⟨_, n3_0, n3_1, n3_2, n3_3, n3_4, n3_5, n3_6, n3_f⟩ := hb_n3.all7; have hk_33 := Kid.mono (lo' := w2.heap.size + 0) hk_33 (by simp)))
    obtain ⟨w4, hW⟩ : ∃ W, W = (((((((w3.setCell ⟨w1.heap.size, 0, none⟩ (.int .i64 10)).setCell ⟨w1.heap.size, 1, none⟩ (.int .i64 0)).setCell ⟨w1.heap.size, 2, none⟩ (.int .i64 0)).setCell ⟨w1.heap.size, 3, none⟩ (.string ⟨#[]⟩)).setCell ⟨w1.heap.size, 4, none⟩ (.string ⟨#[]⟩)).setCell ⟨w1.heap.size, 5, none⟩ (.int .i64 0)).setCell ⟨w1.heap.size, 6, none⟩ (.slice (some ⟨w3.heap.size, 0, none⟩) 1 1)).alloc (.cells #[.int .i64 k3, .int .i64 op3, .int .i64 m3, .string (bs p3), .string (bs t3), .int .i64 a3, .slice A3 ks3.length c3] 28) := ⟨_, rfl⟩
    have hP4 : PS E w4 l3 (o) := by rw [hW]; exact psA
    have hG4 : Gr (· = E.b) w w4 := by rw [hW]; exact grA
    have hb_z4 : Blk w4 (w.heap.size) 28 #[.int .i64 0, .int .i64 0, .int .i64 0, .string ⟨#[]⟩, .string ⟨#[]⟩, .int .i64 0, .slice none 0 0] := by rw [hW]; exact bkA
    have hl_z4 := hb_z4.lt
    have hb_n4 : Blk w4 (w1.heap.size) 28 #[.int .i64 10, .int .i64 0, .int .i64 0, .string ⟨#[]⟩, .string ⟨#[]⟩, .int .i64 0, .slice (some ⟨w3.heap.size, 0, none⟩) 1 1] := by rw [hW]; exact b7A
    have hl_n4 := hb_n4.lt
    have hkV : Kid (((((((w3.setCell ⟨w1.heap.size, 0, none⟩ (.int .i64 10)).setCell ⟨w1.heap.size, 1, none⟩ (.int .i64 0)).setCell ⟨w1.heap.size, 2, none⟩ (.int .i64 0)).setCell ⟨w1.heap.size, 3, none⟩ (.string ⟨#[]⟩)).setCell ⟨w1.heap.size, 4, none⟩ (.string ⟨#[]⟩)).setCell ⟨w1.heap.size, 5, none⟩ (.int .i64 0)).setCell ⟨w1.heap.size, 6, none⟩ (.slice (some ⟨w3.heap.size, 0, none⟩) 1 1)) (w2.heap.size + 0) (.slice A3 ks3.length c3) ks3 := kdA
    have hk_n4 : KidX w4 (w1.heap.size + 1) (w1.heap.size) (.slice (some ⟨w3.heap.size, 0, none⟩) 1 1) [(Tr.mk k3 op3 m3 p3 t3 a3 ks3)] := by rw [hW]; exact Kid.x (Kid.lit1_at (lo := w1.heap.size + 1) (k := k3) (op := op3) (m := m3) (p := p3) (t := t3) (a := a3) (A := A3) (c := c3) (Kid.mono hkV (by omega)) (by simp; omega) (by simp)) (by omega)
    have hs4 : w3.heap.size ≤ w4.heap.size := by rw [hW]; first | (simp; done) | (simp; omega)
    rw [← hW]
    clear hkV hW
    have hbl4 := hP4.lt
    have hgl4 := hP4.toks.lt
    go_wp2_with (first
      | (go_at_call 25; (with_reducible refine (name_any E _ l3 (o) _ _ psA HQ3.out).mono ?_); rintro e w5 ⟨hg5, ⟨a, k, hb, rfl⟩ | ⟨x5, l5, rfl, hq5, hP5⟩⟩; exact And.intro rfl ⟨Gr.trans grA hg5, .inl ⟨_, _, hb, rfl⟩⟩; have hG5 : Gr (· = E.b) w w5 := Gr.trans grA hg5; have HQ5 := Lib.hid hq5; clear hq5; have hbl5 := hP5.lt; have hgl5 := hP5.toks.lt; have hs5 : w4.heap.size + 0 ≤ w5.heap.size := (by have := hg5.size; simpa using this); have hb_z5 : Blk w5 (w.heap.size) 28 #[.int .i64 0, .int .i64 0, .int .i64 0, .string ⟨#[]⟩, .string ⟨#[]⟩, .int .i64 0, .slice none 0 0] := Blk.call (b := E.b) bkA hg5 (by omega); have hl_z5 := hb_z5.lt; have hb_n5 : Blk w5 (w1.heap.size) 28 #[.int .i64 10, .int .i64 0, .int .i64 0, .string ⟨#[]⟩, .string ⟨#[]⟩, .int .i64 0, .slice (some ⟨w3.heap.size, 0, none⟩) 1 1] := Blk.call (b := E.b) bkA hg5 (by omega); have hl_n5 := hb_n5.lt; have hk_n5 : KidX w5 (w1.heap.size + 1) (w1.heap.size) (.slice (some ⟨w3.heap.size, 0, none⟩) 1 1) [(Tr.mk k3 op3 m3 p3 t3 a3 ks3)] := KidX.call (b := E.b) kxA hg5 (by omega)))
    obtain ⟨w6, hW⟩ : ∃ W, W = w5.alloc (.cells #[.int .i64 x5.1.k, .string (bs x5.1.t), .int .i64 x5.1.n, .int .i64 x5.2] 58) := ⟨_, rfl⟩
    have hP6 : PS E w6 l5 (o) := by rw [hW]; exact psA
    have hG6 : Gr (· = E.b) w w6 := by rw [hW]; exact grA
    have hb_z6 : Blk w6 (w.heap.size) 28 #[.int .i64 0, .int .i64 0, .int .i64 0, .string ⟨#[]⟩, .string ⟨#[]⟩, .int .i64 0, .slice none 0 0] := by rw [hW]; exact bkA
    have hl_z6 := hb_z6.lt
    have hb_n6 : Blk w6 (w1.heap.size) 28 #[.int .i64 10, .int .i64 0, .int .i64 0, .string ⟨#[]⟩, .string ⟨#[]⟩, .int .i64 0, .slice (some ⟨w3.heap.size, 0, none⟩) 1 1] := by rw [hW]; exact bkA
    have hl_n6 := hb_n6.lt
    have hb_x6 : Blk w6 (w5.heap.size) 58 #[.int .i64 x5.1.k, .string (bs x5.1.t), .int .i64 x5.1.n, .int .i64 x5.2] := by rw [hW]; exact bkA
    have hl_x6 := hb_x6.lt
    have hk_n6 : KidX w6 (w1.heap.size + 1) (w1.heap.size) (.slice (some ⟨w3.heap.size, 0, none⟩) 1 1) [(Tr.mk k3 op3 m3 p3 t3 a3 ks3)] := by rw [hW]; exact kxA
    have hs6 : w5.heap.size ≤ w6.heap.size := by rw [hW]; first | (simp; done) | (simp; omega)
    rw [← hW]
    have hbl6 := hP6.lt
    have hgl6 := hP6.toks.lt
    clear hW
    refine wp_region_held_drew (S := fun W => Blk W (w5.heap.size) 58 #[.int .i64 x5.1.k, .string (bs x5.1.t), .int .i64 x5.1.n, .int .i64 x5.2]) (by kernel_rfl) hb_x6 (fun hS0 => ?_)
    refine wpAnyH_take (i := 0) (v := .pointer (some ⟨w5.heap.size, 1, none⟩)) rfl (by kernel_rfl) (by kernel_rfl) (by kernel_rfl) (fun _ _ _ h => h) (Or.inl ⟨rfl, fun w' hS => by ((try obtain ⟨_, s0, s1, s2, s3, sf⟩ := hS.all4); unfold execOp; go_simp)⟩) hS0 ?_
    simp only [Act.put, List.getElem_toArray, List.getElem_cons_zero, List.getElem_cons_succ, List.setIfInBounds_toArray, List.set_cons_zero, List.set_cons_succ]
    refine wpAnyH_take (i := 1) (v := .string (bs x5.1.t)) rfl (by kernel_rfl) (by kernel_rfl) (by kernel_rfl) (fun _ _ _ h => h) (Or.inl ⟨rfl, fun w' hS => by ((try obtain ⟨_, s0, s1, s2, s3, sf⟩ := hS.all4); unfold execOp; go_simp)⟩) hS0 ?_
    simp only [Act.put, List.getElem_toArray, List.getElem_cons_zero, List.getElem_cons_succ, List.setIfInBounds_toArray, List.set_cons_zero, List.set_cons_succ]
    refine wpAnyH_take (i := 2) (v := .pointer (some ⟨w5.heap.size, 3, none⟩)) rfl (by kernel_rfl) (by kernel_rfl) (by kernel_rfl) (fun _ _ _ h => h) (Or.inl ⟨rfl, fun w' hS => by ((try obtain ⟨_, s0, s1, s2, s3, sf⟩ := hS.all4); unfold execOp; go_simp)⟩) hS0 ?_
    simp only [Act.put, List.getElem_toArray, List.getElem_cons_zero, List.getElem_cons_succ, List.setIfInBounds_toArray, List.set_cons_zero, List.set_cons_succ]
    refine wpAnyH_take (i := 3) (v := .int .i64 x5.2) rfl (by kernel_rfl) (by kernel_rfl) (by kernel_rfl) (fun _ _ _ h => h) (Or.inl ⟨rfl, fun w' hS => by ((try obtain ⟨_, s0, s1, s2, s3, sf⟩ := hS.all4); unfold execOp; go_simp)⟩) hS0 ?_
    simp only [Act.put, List.getElem_toArray, List.getElem_cons_zero, List.getElem_cons_succ, List.setIfInBounds_toArray, List.set_cons_zero, List.set_cons_succ]
    refine wpAnyH_take (i := 4) (v := .pointer (some ⟨w1.heap.size, 4, none⟩)) rfl (by kernel_rfl) (by kernel_rfl) (by kernel_rfl) (fun _ _ _ h => h) (Or.inl ⟨rfl, fun w' hS => by ((try obtain ⟨_, s0, s1, s2, s3, sf⟩ := hS.all4); unfold execOp; go_simp)⟩) hS0 ?_
    simp only [Act.put, List.getElem_toArray, List.getElem_cons_zero, List.getElem_cons_succ, List.setIfInBounds_toArray, List.set_cons_zero, List.set_cons_succ]
    refine wpAnyH_one (i := 5) (by kernel_rfl) rfl rfl (op_str _ _ (bs x5.1.t) rfl rfl (hb_n6.drew.cell 4) (hb_n6.drew.frozen 4) (And.intro (Blk.far hb_x6.drew (by simp; omega) _) ?_))
    simp only [Act.put, List.getElem_toArray, List.getElem_cons_zero, List.getElem_cons_succ, List.setIfInBounds_toArray, List.set_cons_zero, List.set_cons_succ]
    refine wpAnyH_one (i := 6) (by kernel_rfl) rfl rfl (op_same (.pointer (some ⟨w1.heap.size, 5, none⟩)) (by unfold execOp; go_simp) (And.intro (Blk.far hb_x6.drew (by simp; omega) _) ?_))
    simp only [Act.put, List.getElem_toArray, List.getElem_cons_zero, List.getElem_cons_succ, List.setIfInBounds_toArray, List.set_cons_zero, List.set_cons_succ]
    refine wpAnyH_one (i := 7) (by kernel_rfl) rfl rfl (op_int _ _ x5.2 rfl rfl ((Blk.set4 hb_n6.drew _).cell 5) ((Blk.set4 hb_n6.drew _).frozen 5) (And.intro (Blk.far (Blk.far hb_x6.drew (by simp; omega) _) (by simp; omega) _) ?_))
    simp only [Act.put, List.getElem_toArray, List.getElem_cons_zero, List.getElem_cons_succ, List.setIfInBounds_toArray, List.set_cons_zero, List.set_cons_succ]
    refine wpAnyH_done (by kernel_rfl) ?_ _
    obtain ⟨w7, hW⟩ : ∃ W, W = (w6.drew.setCell ⟨w1.heap.size, 4, none⟩ (.string (bs x5.1.t))).setCell ⟨w1.heap.size, 5, none⟩ (.int .i64 x5.2) := ⟨_, rfl⟩
    have hP7 : PS E w7 l5 (o) := by rw [hW]; exact psA
    have hG7 : Gr (· = E.b) w w7 := by rw [hW]; exact grA
    have hb_z7 : Blk w7 (w.heap.size) 28 #[.int .i64 0, .int .i64 0, .int .i64 0, .string ⟨#[]⟩, .string ⟨#[]⟩, .int .i64 0, .slice none 0 0] := by rw [hW]; exact bkA
    have hl_z7 := hb_z7.lt
    have hb_n7 : Blk w7 (w1.heap.size) 28 #[.int .i64 10, .int .i64 0, .int .i64 0, .string ⟨#[]⟩, .string (bs x5.1.t), .int .i64 x5.2, .slice (some ⟨w3.heap.size, 0, none⟩) 1 1] := by rw [hW]; exact bkA
    have hl_n7 := hb_n7.lt
    have hk_n7 : KidX w7 (w1.heap.size + 1) (w1.heap.size) (.slice (some ⟨w3.heap.size, 0, none⟩) 1 1) [(Tr.mk k3 op3 m3 p3 t3 a3 ks3)] := by rw [hW]; exact kxA
    have hs7 : w6.heap.size ≤ w7.heap.size := by rw [hW]; first | (simp; done) | (simp; omega)
    rw [← hW]
    have hbl7 := hP7.lt
    have hgl7 := hP7.toks.lt
    clear hW
    obtain ⟨_, n7_0, n7_1, n7_2, n7_3, n7_4, n7_5, n7_6, n7_f⟩ := hb_n7.all7
    go_wp2_with (first
      | (go_at_call 63; refine (Hn.head .param E _ l5 (o) (w1.heap.size + 1) (w1.heap.size) _ r 10 0 0 [] x5.1.t x5.2 [(Tr.mk k3 op3 m3 p3 t3 a3 ks3)] (some ⟨w3.heap.size, 0, none⟩) 1 _ rfl psA (by omega) (by omega) (by omega) (by omega) (by omega) (by first | omega | (simp; done) | (simp; omega)) (by simp [LIM]) (show Blk _ (w1.heap.size) 28 #[.int .i64 10, .int .i64 0, .int .i64 0, .string ⟨#[]⟩, .string (bs x5.1.t), .int .i64 x5.2, .slice (some ⟨w3.heap.size, 0, none⟩) 1 1] from bkA) (KidX.kid (h := w1.heap.size) (v := .slice (some ⟨w3.heap.size, 0, none⟩) 1 1) (ks := [(Tr.mk k3 op3 m3 p3 t3 a3 ks3)]) kxA) (head_num HQ5.out) HR.out).mono ?_; rintro e w8 ⟨hg8, ⟨a, k, hb, rfl⟩ | ⟨m8, ks8, A8, c8, l8, rfl, hq8, hP8, hn8, hk_88, hb_n8⟩⟩; exact And.intro rfl ⟨Gr.wide grA hg8 (fun q hq hs => by (rcases hs with hs | hs | hs; exact hs; omega; omega)), .inl ⟨_, _, hb, rfl⟩⟩; have hG8 : Gr (· = E.b) w w8 := Gr.wide grA hg8 (fun q hq hs => by (rcases hs with hs | hs | hs; exact hs; omega; omega)); have hm8 : m8 = 0 ∨ m8 = 1 := (Decidable.byContradiction fun hc => HR.out (by rw [← hq8]; exact if_neg hc)); simp only [Tr.num, hm8, if_true] at hq8; have hme8 : (if m8 = 1 then (1 : Int) else 0) = m8 := (by rcases hm8 with h | h <;> simp [h]); rw [hme8] at hb_n8; clear hme8 hm8; have HQ8 := Lib.hid hq8; clear hq8; have hbl8 := hP8.lt; have hgl8 := hP8.toks.lt; have hl_n8 := hb_n8.lt; have hb_n8 : Blk w8 (w1.heap.size) 28 #[.int .i64 10, .int .i64 0, .int .i64 m8, .string ⟨#[]⟩, .string (bs x5.1.t), .int .i64 x5.2, .slice A8 ([(Tr.mk k3 op3 m3 p3 t3 a3 ks3)] ++ ks8).length c8] := hb_n8; have hs8 : w7.heap.size + 0 ≤ w8.heap.size := (by have := hg8.size; simpa using this); have hb_z8 : Blk w8 (w.heap.size) 28 #[.int .i64 0, .int .i64 0, .int .i64 0, .string ⟨#[]⟩, .string ⟨#[]⟩, .int .i64 0, .slice none 0 0] := Blk.gr bkA hg8 (by (rintro (h | h | h) <;> omega)); have hl_z8 := hb_z8.lt; have hk_n8 : KidX w8 (w1.heap.size + 1) (w1.heap.size) (.slice A8 ([(Tr.mk k3 op3 m3 p3 t3 a3 ks3)] ++ ks8).length c8) ([(Tr.mk k3 op3 m3 p3 t3 a3 ks3)] ++ ks8) := Kid.x hk_88 (by omega)))
    have hln := hn8
    unfold LIM at hln
    obtain ⟨_, n8_0, n8_1, n8_2, n8_3, n8_4, n8_5, n8_6, n8_f⟩ := hb_n8.all7
    refine region_B 11 3 5 6 7 8 10 1 4 9 E.b (w1.heap.size + 1) (w1.heap.size) 68 (fun i => match i with | 0 => .pointer (some ⟨w1.heap.size, 6, none⟩) | 1 => (.slice A8 ([(Tr.mk k3 op3 m3 p3 t3 a3 ks3)] ++ ks8).length c8) | 2 => .pointer (some ⟨E.b, 0, none⟩) | 4 => .int .i64 (([(Tr.mk k3 op3 m3 p3 t3 a3 ks3)] ++ ks8) : List Tr).length | 9 => .pointer (some ⟨w1.heap.size, 6, none⟩) | _ => undef) (.int .i64 10) (.int .i64 0) (.int .i64 m8) (.string ⟨#[]⟩) (.string (bs x5.1.t)) (.int .i64 x5.2) (.slice A8 ([(Tr.mk k3 op3 m3 p3 t3 a3 ks3)] ++ ks8).length c8) ([(Tr.mk k3 op3 m3 p3 t3 a3 ks3)] ++ ks8) 65 #[.pointer (some ⟨E.b, 0, none⟩)] (TellB r) (fun W => PS E W l8 (o)) (TellD E (o) _ r) rfl (by kernel_rfl) (by kernel_rfl) rfl (by kernel_rfl) (by decide) (by decide) (by decide) (by decide) rfl rfl rfl rfl rfl rfl rfl rfl rfl rfl rfl rfl ⟨_, rfl, rfl⟩ ⟨_, rfl, rfl⟩ ⟨_, rfl, rfl⟩ ⟨_, _, _, rfl⟩ rfl ⟨_, _, _, rfl⟩ ⟨_, _, _, rfl⟩ ⟨_, _, _, rfl⟩ (by kernel_rfl) (by kernel_rfl) (by kernel_rfl) (by kernel_rfl) (by kernel_rfl) (by kernel_rfl) (by kernel_rfl) (by kernel_rfl) (by kernel_rfl) rfl rfl rfl
      (fun a w hun hev => by
        have e2 := hev 2 _ _ (by omega) rfl rfl (by kernel_rfl) (by decide)
        simp [Act.eval] at e2
        unfold execOp; go_simp)
      (fun i o hoi hi hx a w hgr hun hev => by
        rcases (show i = 0 ∨ i = 1 ∨ i = 2 ∨ i = 3 ∨ i = 4 ∨ i = 5 ∨ i = 6 ∨ i = 7 ∨ i = 8 ∨ i = 9 ∨ i = 10 by omega) with rfl | rfl | rfl | rfl | rfl | rfl | rfl | rfl | rfl | rfl | rfl
        · obtain rfl := Option.some.inj hoi; exact x_kids _ _ _ _ _ _ _ _ ((hun 3 (noput_all (by kernel_rfl))).trans rfl)
        · obtain rfl := Option.some.inj hoi; exact x_loadS _ _ _ _ _ _ _ _ 6 _ (hev 0 _ _ (by omega) rfl rfl (by kernel_rfl) (by decide)) (((hgr rfl).cell (p := ⟨w1.heap.size, 6, none⟩) (by show w1.heap.size < _; omega) (by show ¬ Wr _ _ _ (w1.heap.size); unfold Wr; omega)).trans n8_6)
        · obtain rfl := Option.some.inj hoi; exact x_move _ _ _ _ _ _ _ _ ((hun 0 (noput_all (by kernel_rfl))).trans rfl)
        · exact absurd (by decide) hx
        · obtain rfl := Option.some.inj hoi; exact x_len _ _ _ _ _ _ _ _ _ _ 0 (hev 1 _ _ (by omega) rfl rfl (by kernel_rfl) (by decide))
        · exact absurd (by decide) hx
        · exact absurd (by decide) hx
        · exact absurd (by decide) hx
        · exact absurd (by decide) hx
        · obtain rfl := Option.some.inj hoi; exact x_kids _ _ _ _ _ _ _ _ ((hun 3 (noput_all (by kernel_rfl))).trans rfl)
        · exact absurd (by decide) hx)
      hk_n8 hb_n8 (by omega) (by omega) (by omega) (by omega) (by simp [LIM]; omega) (calm_PS E _ _ (o) (by omega) (by omega)) hP8 (calm_TellD E _ (o) _ r (by omega) (by omega)) (fun t w u hd => by obtain ⟨l9, h1, h2⟩ := hd; exact ⟨l9, h1, h2.setCell (by show w1.heap.size ≠ _; omega) (by show w1.heap.size ≠ _; omega) u⟩) (fun W hW => (Hn.block E W l8 (o) _ r hW HQ8.out HR.out).mono fun e w' h => tells h) ?_ ?_
    · rintro a w' c had ⟨at_, k, hb, rfl⟩ hg
      exact And.intro had ⟨hG8.trans hg, .inl ⟨_, _, hb, rfl⟩⟩
    rintro vals w9 A9 c9 ub ⟨l9, hq9, hP9⟩ hk_n9 hgx hb_n9
    have hsx := hgx.size
    have hG9 : Gr (· = E.b) w w9 := Gr.wide hG8 hgx (fun q hq hs => by
      rcases hs with hs | hs | hs
      · exact hs
      · omega
      · omega)
    have hb_z9 : Blk w9 (w.heap.size) 28 #[.int .i64 0, .int .i64 0, .int .i64 0, .string ⟨#[]⟩, .string ⟨#[]⟩, .int .i64 0, .slice none 0 0] := Blk.gr hb_z8 hgx (by rintro (h | h | h) <;> omega)
    have hl_z9 := hb_z9.lt
    have hl_n9 := hb_n9.lt
    have hbl9 := hP9.lt
    have hgl9 := hP9.toks.lt
    dsimp only [putAll, List.take_succ_cons, List.take_zero, List.take_nil]
    have HQ9 := Lib.hid hq9
    clear hq9 hgx
    obtain ⟨_, n9_0, n9_1, n9_2, n9_3, n9_4, n9_5, n9_6, n9_f⟩ := hb_n9.all7
    obtain ⟨_, z9_0, z9_1, z9_2, z9_3, z9_4, z9_5, z9_6, z9_f⟩ := hb_z9.all7
    go_wp2
    have hl := (show ([(Tr.mk k3 op3 m3 p3 t3 a3 ks3)] ++ ks8 ++ [ub]).length = ([(Tr.mk k3 op3 m3 p3 t3 a3 ks3)] ++ ks8).length + 1 by first | (simp; done) | (simp; omega))
    exact ret7 Tryz.results45 rfl rfl b7A ⟨grA, .inr ⟨10, 0, m8, [], x5.1.t, x5.2, (([(Tr.mk k3 op3 m3 p3 t3 a3 ks3)] ++ ks8) ++ [ub]), A9, c9, l9, (by rw [hl]; first | done | rfl | (simp only [List.length_append]; rfl)), HQ9.out, (by rw [hl]; exact Kid.mono (lo := w1.heap.size + 1) (v := .slice A9 (([(Tr.mk k3 op3 m3 p3 t3 a3 ks3)] ++ ks8).length + 1) c9) (ks := (([(Tr.mk k3 op3 m3 p3 t3 a3 ks3)] ++ ks8) ++ [ub])) (KidX.kid (h := w1.heap.size) kxA) (by omega)), (by simp [LIM]; omega), psA⟩⟩
  · skip
    have HQx := HQ1.out
    rw [if_neg hm] at HQx
    have hmn1 := bs_beq3 hm
    have HM := Lib.hid hm
    clear HQ1 hm
    have HQ1 := Lib.hid HQx
    clear HQx
    go_wp2_with (first
      | (go_at_call 38; refine (mark_any E _ l1 (o) psA).mono ?_; rintro e w2 ⟨rfl, hg2⟩; have hP2 : PS E w2 l1 (o) := PS.below psA hg2; have hG2 : Gr (· = E.b) w w2 := Gr.trans grA (Gr.of_below hg2); have hbl2 := hP2.lt; have hgl2 := hP2.toks.lt; have hs2 : w1.heap.size + 1 ≤ w2.heap.size := (by have := hg2.size; simpa using this); have hb_z2 : Blk w2 (w.heap.size) 28 #[.int .i64 0, .int .i64 0, .int .i64 0, .string ⟨#[]⟩, .string ⟨#[]⟩, .int .i64 0, .slice none 0 0] := Blk.bel bkA hg2; have hl_z2 := hb_z2.lt; have hb_n2 : Blk w2 (w1.heap.size) 28 #[.int .i64 9, .int .i64 0, .int .i64 0, .string ⟨#[]⟩, .string ⟨#[]⟩, .int .i64 0, .slice none 0 0] := Blk.bel bkA hg2; have hl_n2 := hb_n2.lt; obtain ⟨_, n2_0, n2_1, n2_2, n2_3, n2_4, n2_5, n2_6, n2_f⟩ := hb_n2.all7; have hk_n2 : KidX w2 (w1.heap.size + 1) (w1.heap.size) (.slice none 0 0) ([] : List Tr) := KidX.bel kxA hg2)
      | (go_at_call 25; (with_reducible refine (name_any E _ l1 (o) _ _ psA HQ1.out).mono ?_); rintro e w3 ⟨hg3, ⟨a, k, hb, rfl⟩ | ⟨x3, l3, rfl, hq3, hP3⟩⟩; exact And.intro rfl ⟨Gr.trans grA hg3, .inl ⟨_, _, hb, rfl⟩⟩; have hG3 : Gr (· = E.b) w w3 := Gr.trans grA hg3; have HQ3 := Lib.hid hq3; clear hq3; have hbl3 := hP3.lt; have hgl3 := hP3.toks.lt; have hs3 : w2.heap.size + 0 ≤ w3.heap.size := (by have := hg3.size; simpa using this); have hb_z3 : Blk w3 (w.heap.size) 28 #[.int .i64 0, .int .i64 0, .int .i64 0, .string ⟨#[]⟩, .string ⟨#[]⟩, .int .i64 0, .slice none 0 0] := Blk.call (b := E.b) bkA hg3 (by omega); have hl_z3 := hb_z3.lt; have hb_n3 : Blk w3 (w1.heap.size) 28 #[.int .i64 9, .int .i64 0, .int .i64 0, .string ⟨#[]⟩, .string ⟨#[]⟩, .int .i64 0, .slice none 0 0] := Blk.call (b := E.b) bkA hg3 (by omega); have hl_n3 := hb_n3.lt; have hk_n3 : KidX w3 (w1.heap.size + 1) (w1.heap.size) (.slice none 0 0) ([] : List Tr) := KidX.call (b := E.b) kxA hg3 (by omega)))
    obtain ⟨w4, hW⟩ : ∃ W, W = w3.alloc (.cells #[.int .i64 x3.1.k, .string (bs x3.1.t), .int .i64 x3.1.n, .int .i64 x3.2] 58) := ⟨_, rfl⟩
    have hP4 : PS E w4 l3 (o) := by rw [hW]; exact psA
    have hG4 : Gr (· = E.b) w w4 := by rw [hW]; exact grA
    have hb_z4 : Blk w4 (w.heap.size) 28 #[.int .i64 0, .int .i64 0, .int .i64 0, .string ⟨#[]⟩, .string ⟨#[]⟩, .int .i64 0, .slice none 0 0] := by rw [hW]; exact bkA
    have hl_z4 := hb_z4.lt
    have hb_n4 : Blk w4 (w1.heap.size) 28 #[.int .i64 9, .int .i64 0, .int .i64 0, .string ⟨#[]⟩, .string ⟨#[]⟩, .int .i64 0, .slice none 0 0] := by rw [hW]; exact bkA
    have hl_n4 := hb_n4.lt
    have hb_x4 : Blk w4 (w3.heap.size) 58 #[.int .i64 x3.1.k, .string (bs x3.1.t), .int .i64 x3.1.n, .int .i64 x3.2] := by rw [hW]; exact bkA
    have hl_x4 := hb_x4.lt
    have hk_n4 : KidX w4 (w1.heap.size + 1) (w1.heap.size) (.slice none 0 0) ([] : List Tr) := by rw [hW]; exact kxA
    have hs4 : w3.heap.size ≤ w4.heap.size := by rw [hW]; first | (simp; done) | (simp; omega)
    rw [← hW]
    have hbl4 := hP4.lt
    have hgl4 := hP4.toks.lt
    clear hW
    refine wp_region_held_drew (S := fun W => Blk W (w3.heap.size) 58 #[.int .i64 x3.1.k, .string (bs x3.1.t), .int .i64 x3.1.n, .int .i64 x3.2]) (by kernel_rfl) hb_x4 (fun hS0 => ?_)
    refine wpAnyH_take (i := 0) (v := .pointer (some ⟨w3.heap.size, 1, none⟩)) rfl (by kernel_rfl) (by kernel_rfl) (by kernel_rfl) (fun _ _ _ h => h) (Or.inl ⟨rfl, fun w' hS => by ((try obtain ⟨_, s0, s1, s2, s3, sf⟩ := hS.all4); unfold execOp; go_simp)⟩) hS0 ?_
    simp only [Act.put, List.getElem_toArray, List.getElem_cons_zero, List.getElem_cons_succ, List.setIfInBounds_toArray, List.set_cons_zero, List.set_cons_succ]
    refine wpAnyH_take (i := 1) (v := .string (bs x3.1.t)) rfl (by kernel_rfl) (by kernel_rfl) (by kernel_rfl) (fun _ _ _ h => h) (Or.inl ⟨rfl, fun w' hS => by ((try obtain ⟨_, s0, s1, s2, s3, sf⟩ := hS.all4); unfold execOp; go_simp)⟩) hS0 ?_
    simp only [Act.put, List.getElem_toArray, List.getElem_cons_zero, List.getElem_cons_succ, List.setIfInBounds_toArray, List.set_cons_zero, List.set_cons_succ]
    refine wpAnyH_take (i := 2) (v := .pointer (some ⟨w3.heap.size, 3, none⟩)) rfl (by kernel_rfl) (by kernel_rfl) (by kernel_rfl) (fun _ _ _ h => h) (Or.inl ⟨rfl, fun w' hS => by ((try obtain ⟨_, s0, s1, s2, s3, sf⟩ := hS.all4); unfold execOp; go_simp)⟩) hS0 ?_
    simp only [Act.put, List.getElem_toArray, List.getElem_cons_zero, List.getElem_cons_succ, List.setIfInBounds_toArray, List.set_cons_zero, List.set_cons_succ]
    refine wpAnyH_take (i := 3) (v := .int .i64 x3.2) rfl (by kernel_rfl) (by kernel_rfl) (by kernel_rfl) (fun _ _ _ h => h) (Or.inl ⟨rfl, fun w' hS => by ((try obtain ⟨_, s0, s1, s2, s3, sf⟩ := hS.all4); unfold execOp; go_simp)⟩) hS0 ?_
    simp only [Act.put, List.getElem_toArray, List.getElem_cons_zero, List.getElem_cons_succ, List.setIfInBounds_toArray, List.set_cons_zero, List.set_cons_succ]
    refine wpAnyH_take (i := 4) (v := .pointer (some ⟨w1.heap.size, 4, none⟩)) rfl (by kernel_rfl) (by kernel_rfl) (by kernel_rfl) (fun _ _ _ h => h) (Or.inl ⟨rfl, fun w' hS => by ((try obtain ⟨_, s0, s1, s2, s3, sf⟩ := hS.all4); unfold execOp; go_simp)⟩) hS0 ?_
    simp only [Act.put, List.getElem_toArray, List.getElem_cons_zero, List.getElem_cons_succ, List.setIfInBounds_toArray, List.set_cons_zero, List.set_cons_succ]
    refine wpAnyH_one (i := 5) (by kernel_rfl) rfl rfl (op_str _ _ (bs x3.1.t) rfl rfl (hb_n4.drew.cell 4) (hb_n4.drew.frozen 4) (And.intro (Blk.far hb_x4.drew (by simp; omega) _) ?_))
    simp only [Act.put, List.getElem_toArray, List.getElem_cons_zero, List.getElem_cons_succ, List.setIfInBounds_toArray, List.set_cons_zero, List.set_cons_succ]
    refine wpAnyH_one (i := 6) (by kernel_rfl) rfl rfl (op_same (.pointer (some ⟨w1.heap.size, 5, none⟩)) (by unfold execOp; go_simp) (And.intro (Blk.far hb_x4.drew (by simp; omega) _) ?_))
    simp only [Act.put, List.getElem_toArray, List.getElem_cons_zero, List.getElem_cons_succ, List.setIfInBounds_toArray, List.set_cons_zero, List.set_cons_succ]
    refine wpAnyH_one (i := 7) (by kernel_rfl) rfl rfl (op_int _ _ x3.2 rfl rfl ((Blk.set4 hb_n4.drew _).cell 5) ((Blk.set4 hb_n4.drew _).frozen 5) (And.intro (Blk.far (Blk.far hb_x4.drew (by simp; omega) _) (by simp; omega) _) ?_))
    simp only [Act.put, List.getElem_toArray, List.getElem_cons_zero, List.getElem_cons_succ, List.setIfInBounds_toArray, List.set_cons_zero, List.set_cons_succ]
    refine wpAnyH_done (by kernel_rfl) ?_ _
    obtain ⟨w5, hW⟩ : ∃ W, W = (w4.drew.setCell ⟨w1.heap.size, 4, none⟩ (.string (bs x3.1.t))).setCell ⟨w1.heap.size, 5, none⟩ (.int .i64 x3.2) := ⟨_, rfl⟩
    have hP5 : PS E w5 l3 (o) := by rw [hW]; exact psA
    have hG5 : Gr (· = E.b) w w5 := by rw [hW]; exact grA
    have hb_z5 : Blk w5 (w.heap.size) 28 #[.int .i64 0, .int .i64 0, .int .i64 0, .string ⟨#[]⟩, .string ⟨#[]⟩, .int .i64 0, .slice none 0 0] := by rw [hW]; exact bkA
    have hl_z5 := hb_z5.lt
    have hb_n5 : Blk w5 (w1.heap.size) 28 #[.int .i64 9, .int .i64 0, .int .i64 0, .string ⟨#[]⟩, .string (bs x3.1.t), .int .i64 x3.2, .slice none 0 0] := by rw [hW]; exact bkA
    have hl_n5 := hb_n5.lt
    have hk_n5 : KidX w5 (w1.heap.size + 1) (w1.heap.size) (.slice none 0 0) ([] : List Tr) := by rw [hW]; exact kxA
    have hs5 : w4.heap.size ≤ w5.heap.size := by rw [hW]; first | (simp; done) | (simp; omega)
    rw [← hW]
    have hbl5 := hP5.lt
    have hgl5 := hP5.toks.lt
    clear hW
    obtain ⟨_, n5_0, n5_1, n5_2, n5_3, n5_4, n5_5, n5_6, n5_f⟩ := hb_n5.all7
    by_cases hm : mark l3 = [91]
    · skip
      have HQx := HQ3.out
      rw [if_pos hm] at HQx
      have HM := Lib.hid hm
      have HQy := Lib.hid HQx
      clear hm HQx
      go_wp2_with (first
        | (go_at_call 38; refine (mark_any E _ l3 (o) psA).mono ?_; rw [HM.out, show bs [91] = ⟨#[91]⟩ from rfl]; rintro e w6 ⟨rfl, hg6⟩; have hP6 : PS E w6 l3 (o) := PS.below psA hg6; have hG6 : Gr (· = E.b) w w6 := Gr.trans grA (Gr.of_below hg6); have hbl6 := hP6.lt; have hgl6 := hP6.toks.lt; have hs6 : w5.heap.size + 0 ≤ w6.heap.size := (by have := hg6.size; simpa using this); have hb_z6 : Blk w6 (w.heap.size) 28 #[.int .i64 0, .int .i64 0, .int .i64 0, .string ⟨#[]⟩, .string ⟨#[]⟩, .int .i64 0, .slice none 0 0] := Blk.bel bkA hg6; have hl_z6 := hb_z6.lt; have hb_n6 : Blk w6 (w1.heap.size) 28 #[.int .i64 9, .int .i64 0, .int .i64 0, .string ⟨#[]⟩, .string (bs x3.1.t), .int .i64 x3.2, .slice none 0 0] := Blk.bel bkA hg6; have hl_n6 := hb_n6.lt; have hk_n6 : KidX w6 (w1.heap.size + 1) (w1.heap.size) (.slice none 0 0) ([] : List Tr) := KidX.bel kxA hg6)
        | (go_at_call 58; (with_reducible refine (enter_any E _ l3 (o) [91] ⟨#[91]⟩ _ _ psA rfl (by simp) HQy.out).mono ?_); rintro e w7 ⟨hg7, ⟨a, k, hb, rfl⟩ | ⟨x7, l7, rfl, hq7, hP7⟩⟩; exact And.intro rfl ⟨Gr.trans grA hg7, .inl ⟨_, _, hb, rfl⟩⟩; have hG7 : Gr (· = E.b) w w7 := Gr.trans grA hg7; have HQ7 := Lib.hid hq7; clear hq7; have hbl7 := hP7.lt; have hgl7 := hP7.toks.lt; have hs7 : w6.heap.size + 0 ≤ w7.heap.size := (by have := hg7.size; simpa using this); have hb_z7 : Blk w7 (w.heap.size) 28 #[.int .i64 0, .int .i64 0, .int .i64 0, .string ⟨#[]⟩, .string ⟨#[]⟩, .int .i64 0, .slice none 0 0] := Blk.call (b := E.b) bkA hg7 (by omega); have hl_z7 := hb_z7.lt; have hb_n7 : Blk w7 (w1.heap.size) 28 #[.int .i64 9, .int .i64 0, .int .i64 0, .string ⟨#[]⟩, .string (bs x3.1.t), .int .i64 x3.2, .slice none 0 0] := Blk.call (b := E.b) bkA hg7 (by omega); have hl_n7 := hb_n7.lt; have hk_n7 : KidX w7 (w1.heap.size + 1) (w1.heap.size) (.slice none 0 0) ([] : List Tr) := KidX.call (b := E.b) kxA hg7 (by omega))
        | (go_at_call 61; refine (Hn.list .typeVar E _ l7 (o + 1) _ r _ rfl psA HQ7.out HR.out).mono ?_; rintro e w8 ⟨hg8, ⟨a, k, hb, rfl⟩ | ⟨ks8, A8, c8, l8, rfl, hq8, hk_88, hn8, hP8⟩⟩; exact And.intro rfl ⟨Gr.trans grA hg8, .inl ⟨_, _, hb, rfl⟩⟩; have hG8 : Gr (· = E.b) w w8 := Gr.trans grA hg8; have HQ8 := Lib.hid hq8; clear hq8; have hbl8 := hP8.lt; have hgl8 := hP8.toks.lt; have hs8 : w7.heap.size + 0 ≤ w8.heap.size := (by have := hg8.size; simpa using this); have hb_z8 : Blk w8 (w.heap.size) 28 #[.int .i64 0, .int .i64 0, .int .i64 0, .string ⟨#[]⟩, .string ⟨#[]⟩, .int .i64 0, .slice none 0 0] := Blk.call (b := E.b) bkA hg8 (by omega); have hl_z8 := hb_z8.lt; have hb_n8 : Blk w8 (w1.heap.size) 28 #[.int .i64 9, .int .i64 0, .int .i64 0, .string ⟨#[]⟩, .string (bs x3.1.t), .int .i64 x3.2, .slice none 0 0] := Blk.call (b := E.b) bkA hg8 (by omega); have hl_n8 := hb_n8.lt; obtain ⟨_, n8_0, n8_1, n8_2, n8_3, n8_4, n8_5, n8_6, n8_f⟩ := hb_n8.all7; have hk_88 := Kid.mono (lo' := w1.heap.size + 1) hk_88 (by omega))
        | (go_at_call 59; (with_reducible refine (leave_any E _ l8 (o) [93] ⟨#[93]⟩ _ _ psA rfl (by simp) HQ8.out).mono ?_); rintro e w9 ⟨hg9, ⟨a, k, hb, rfl⟩ | ⟨x9, l9, rfl, hq9, hP9⟩⟩; exact And.intro rfl ⟨Gr.trans grA hg9, .inl ⟨_, _, hb, rfl⟩⟩; have hG9 : Gr (· = E.b) w w9 := Gr.trans grA hg9; have HQ9 := Lib.hid hq9; clear hq9; have hbl9 := hP9.lt; have hgl9 := hP9.toks.lt; have hs9 : w8.heap.size + 0 ≤ w9.heap.size := (by have := hg9.size; simpa using this); have hb_z9 : Blk w9 (w.heap.size) 28 #[.int .i64 0, .int .i64 0, .int .i64 0, .string ⟨#[]⟩, .string ⟨#[]⟩, .int .i64 0, .slice none 0 0] := Blk.call (b := E.b) bkA hg9 (by omega); have hl_z9 := hb_z9.lt; have hb_n9 : Blk w9 (w1.heap.size) 28 #[.int .i64 9, .int .i64 0, .int .i64 0, .string ⟨#[]⟩, .string (bs x3.1.t), .int .i64 x3.2, .slice A8 ks8.length c8] := Blk.call (b := E.b) bkA hg9 (by omega); have hl_n9 := hb_n9.lt; have hk_89 : Kid w9 (w1.heap.size + 1) (.slice A8 ks8.length c8) ks8 := Kid.call (b := E.b) kdA hg9 (by omega); have hk_n9 : KidX w9 (w1.heap.size + 1) (w1.heap.size) (.slice A8 ks8.length c8) ks8 := Kid.x hk_89 (by omega))
        | (go_at_call 63; refine (Hn.head .param E _ l9 (o) (w1.heap.size + 1) (w1.heap.size) _ r 9 0 0 [] x3.1.t x3.2 ks8 A8 c8 _ rfl psA (by omega) (by omega) (by omega) (by omega) (by omega) (by first | omega | (simp; done) | (simp; omega)) hn8 (show Blk _ (w1.heap.size) 28 #[.int .i64 9, .int .i64 0, .int .i64 0, .string ⟨#[]⟩, .string (bs x3.1.t), .int .i64 x3.2, .slice A8 ks8.length c8] from bkA) (KidX.kid (h := w1.heap.size) (v := .slice A8 ks8.length c8) (ks := ks8) kxA) (head_num HQ9.out) HR.out).mono ?_; rintro e w10 ⟨hg10, ⟨a, k, hb, rfl⟩ | ⟨m10, ks10, A10, c10, l10, rfl, hq10, hP10, hn10, hk_1010, hb_n10⟩⟩; exact And.intro rfl ⟨Gr.wide grA hg10 (fun q hq hs => by (rcases hs with hs | hs | hs; exact hs; omega; omega)), .inl ⟨_, _, hb, rfl⟩⟩; have hG10 : Gr (· = E.b) w w10 := Gr.wide grA hg10 (fun q hq hs => by (rcases hs with hs | hs | hs; exact hs; omega; omega)); have hm10 : m10 = 0 ∨ m10 = 1 := (Decidable.byContradiction fun hc => HR.out (by rw [← hq10]; exact if_neg hc)); simp only [Tr.num, hm10, if_true] at hq10; have hme10 : (if m10 = 1 then (1 : Int) else 0) = m10 := (by rcases hm10 with h | h <;> simp [h]); rw [hme10] at hb_n10; clear hme10 hm10; have HQ10 := Lib.hid hq10; clear hq10; have hbl10 := hP10.lt; have hgl10 := hP10.toks.lt; have hl_n10 := hb_n10.lt; have hb_n10 : Blk w10 (w1.heap.size) 28 #[.int .i64 9, .int .i64 0, .int .i64 m10, .string ⟨#[]⟩, .string (bs x3.1.t), .int .i64 x3.2, .slice A10 (ks8 ++ ks10).length c10] := hb_n10; have hs10 : w9.heap.size + 0 ≤ w10.heap.size := (by have := hg10.size; simpa using this); have hb_z10 : Blk w10 (w.heap.size) 28 #[.int .i64 0, .int .i64 0, .int .i64 0, .string ⟨#[]⟩, .string ⟨#[]⟩, .int .i64 0, .slice none 0 0] := Blk.gr bkA hg10 (by (rintro (h | h | h) <;> omega)); have hl_z10 := hb_z10.lt; have hk_n10 : KidX w10 (w1.heap.size + 1) (w1.heap.size) (.slice A10 (ks8 ++ ks10).length c10) (ks8 ++ ks10) := Kid.x hk_1010 (by omega)))
      have hln := hn10
      unfold LIM at hln
      obtain ⟨_, n10_0, n10_1, n10_2, n10_3, n10_4, n10_5, n10_6, n10_f⟩ := hb_n10.all7
      refine region_B 11 3 5 6 7 8 10 1 4 9 E.b (w1.heap.size + 1) (w1.heap.size) 68 (fun i => match i with | 0 => .pointer (some ⟨w1.heap.size, 6, none⟩) | 1 => (.slice A10 (ks8 ++ ks10).length c10) | 2 => .pointer (some ⟨E.b, 0, none⟩) | 4 => .int .i64 ((ks8 ++ ks10) : List Tr).length | 9 => .pointer (some ⟨w1.heap.size, 6, none⟩) | _ => undef) (.int .i64 9) (.int .i64 0) (.int .i64 m10) (.string ⟨#[]⟩) (.string (bs x3.1.t)) (.int .i64 x3.2) (.slice A10 (ks8 ++ ks10).length c10) (ks8 ++ ks10) 65 #[.pointer (some ⟨E.b, 0, none⟩)] (TellB r) (fun W => PS E W l10 (o)) (TellD E (o) _ r) rfl (by kernel_rfl) (by kernel_rfl) rfl (by kernel_rfl) (by decide) (by decide) (by decide) (by decide) rfl rfl rfl rfl rfl rfl rfl rfl rfl rfl rfl rfl ⟨_, rfl, rfl⟩ ⟨_, rfl, rfl⟩ ⟨_, rfl, rfl⟩ ⟨_, _, _, rfl⟩ rfl ⟨_, _, _, rfl⟩ ⟨_, _, _, rfl⟩ ⟨_, _, _, rfl⟩ (by kernel_rfl) (by kernel_rfl) (by kernel_rfl) (by kernel_rfl) (by kernel_rfl) (by kernel_rfl) (by kernel_rfl) (by kernel_rfl) (by kernel_rfl) rfl rfl rfl
        (fun a w hun hev => by
          have e2 := hev 2 _ _ (by omega) rfl rfl (by kernel_rfl) (by decide)
          simp [Act.eval] at e2
          unfold execOp; go_simp)
        (fun i o hoi hi hx a w hgr hun hev => by
          rcases (show i = 0 ∨ i = 1 ∨ i = 2 ∨ i = 3 ∨ i = 4 ∨ i = 5 ∨ i = 6 ∨ i = 7 ∨ i = 8 ∨ i = 9 ∨ i = 10 by omega) with rfl | rfl | rfl | rfl | rfl | rfl | rfl | rfl | rfl | rfl | rfl
          · obtain rfl := Option.some.inj hoi; exact x_kids _ _ _ _ _ _ _ _ ((hun 3 (noput_all (by kernel_rfl))).trans rfl)
          · obtain rfl := Option.some.inj hoi; exact x_loadS _ _ _ _ _ _ _ _ 6 _ (hev 0 _ _ (by omega) rfl rfl (by kernel_rfl) (by decide)) (((hgr rfl).cell (p := ⟨w1.heap.size, 6, none⟩) (by show w1.heap.size < _; omega) (by show ¬ Wr _ _ _ (w1.heap.size); unfold Wr; omega)).trans n10_6)
          · obtain rfl := Option.some.inj hoi; exact x_move _ _ _ _ _ _ _ _ ((hun 0 (noput_all (by kernel_rfl))).trans rfl)
          · exact absurd (by decide) hx
          · obtain rfl := Option.some.inj hoi; exact x_len _ _ _ _ _ _ _ _ _ _ 0 (hev 1 _ _ (by omega) rfl rfl (by kernel_rfl) (by decide))
          · exact absurd (by decide) hx
          · exact absurd (by decide) hx
          · exact absurd (by decide) hx
          · exact absurd (by decide) hx
          · obtain rfl := Option.some.inj hoi; exact x_kids _ _ _ _ _ _ _ _ ((hun 3 (noput_all (by kernel_rfl))).trans rfl)
          · exact absurd (by decide) hx)
        hk_n10 hb_n10 (by omega) (by omega) (by omega) (by omega) (by have h9 := hn8; unfold LIM at *; simp; omega) (calm_PS E _ _ (o) (by omega) (by omega)) hP10 (calm_TellD E _ (o) _ r (by omega) (by omega)) (fun t w u hd => by obtain ⟨l9, h1, h2⟩ := hd; exact ⟨l9, h1, h2.setCell (by show w1.heap.size ≠ _; omega) (by show w1.heap.size ≠ _; omega) u⟩) (fun W hW => (Hn.block E W l10 (o) _ r hW HQ10.out HR.out).mono fun e w' h => tells h) ?_ ?_
      · rintro a w' c had ⟨at_, k, hb, rfl⟩ hg
        exact And.intro had ⟨hG10.trans hg, .inl ⟨_, _, hb, rfl⟩⟩
      rintro vals w11 A11 c11 ub ⟨l11, hq11, hP11⟩ hk_n11 hgx hb_n11
      have hsx := hgx.size
      have hG11 : Gr (· = E.b) w w11 := Gr.wide hG10 hgx (fun q hq hs => by
        rcases hs with hs | hs | hs
        · exact hs
        · omega
        · omega)
      have hb_z11 : Blk w11 (w.heap.size) 28 #[.int .i64 0, .int .i64 0, .int .i64 0, .string ⟨#[]⟩, .string ⟨#[]⟩, .int .i64 0, .slice none 0 0] := Blk.gr hb_z10 hgx (by rintro (h | h | h) <;> omega)
      have hl_z11 := hb_z11.lt
      have hl_n11 := hb_n11.lt
      have hbl11 := hP11.lt
      have hgl11 := hP11.toks.lt
      dsimp only [putAll, List.take_succ_cons, List.take_zero, List.take_nil]
      have HQ11 := Lib.hid hq11
      clear hq11 hgx
      obtain ⟨_, n11_0, n11_1, n11_2, n11_3, n11_4, n11_5, n11_6, n11_f⟩ := hb_n11.all7
      obtain ⟨_, z11_0, z11_1, z11_2, z11_3, z11_4, z11_5, z11_6, z11_f⟩ := hb_z11.all7
      go_wp2
      have hl := (show (ks8 ++ ks10 ++ [ub]).length = (ks8 ++ ks10).length + 1 by first | (simp; done) | (simp; omega))
      exact ret7 Tryz.results45 rfl rfl b7A ⟨grA, .inr ⟨9, 0, m10, [], x3.1.t, x3.2, ((ks8 ++ ks10) ++ [ub]), A11, c11, l11, (by rw [hl]; first | done | rfl | (simp only [List.length_append]; rfl)), HQ11.out, (by rw [hl]; exact Kid.mono (lo := w1.heap.size + 1) (v := .slice A11 ((ks8 ++ ks10).length + 1) c11) (ks := ((ks8 ++ ks10) ++ [ub])) (KidX.kid (h := w1.heap.size) kxA) (by omega)), (by have h9 := hn8; unfold LIM at *; simp; omega), psA⟩⟩
    · skip
      have HQx := HQ3.out
      rw [if_neg hm] at HQx
      have hmn9 := bs_beq3 hm
      have HQy := Lib.hid HQx
      clear hm HQx
      go_wp2_with (first
        | (go_at_call 38; refine (mark_any E _ l3 (o) psA).mono ?_; rintro e w6 ⟨rfl, hg6⟩; have hP6 : PS E w6 l3 (o) := PS.below psA hg6; have hG6 : Gr (· = E.b) w w6 := Gr.trans grA (Gr.of_below hg6); have hbl6 := hP6.lt; have hgl6 := hP6.toks.lt; have hs6 : w5.heap.size + 0 ≤ w6.heap.size := (by have := hg6.size; simpa using this); have hb_z6 : Blk w6 (w.heap.size) 28 #[.int .i64 0, .int .i64 0, .int .i64 0, .string ⟨#[]⟩, .string ⟨#[]⟩, .int .i64 0, .slice none 0 0] := Blk.bel bkA hg6; have hl_z6 := hb_z6.lt; have hb_n6 : Blk w6 (w1.heap.size) 28 #[.int .i64 9, .int .i64 0, .int .i64 0, .string ⟨#[]⟩, .string (bs x3.1.t), .int .i64 x3.2, .slice none 0 0] := Blk.bel bkA hg6; have hl_n6 := hb_n6.lt; have hk_n6 : KidX w6 (w1.heap.size + 1) (w1.heap.size) (.slice none 0 0) ([] : List Tr) := KidX.bel kxA hg6)
        | (go_at_call 63; refine (Hn.head .param E _ l3 (o) (w1.heap.size + 1) (w1.heap.size) _ r 9 0 0 [] x3.1.t x3.2 ([] : List Tr) none 0 _ rfl psA (by omega) (by omega) (by omega) (by omega) (by omega) (by first | omega | (simp; done) | (simp; omega)) (by simp) (show Blk _ (w1.heap.size) 28 #[.int .i64 9, .int .i64 0, .int .i64 0, .string ⟨#[]⟩, .string (bs x3.1.t), .int .i64 x3.2, .slice none 0 0] from bkA) (KidX.kid (h := w1.heap.size) (v := .slice none 0 0) (ks := ([] : List Tr)) kxA) (head_num HQy.out) HR.out).mono ?_; rintro e w7 ⟨hg7, ⟨a, k, hb, rfl⟩ | ⟨m7, ks7, A7, c7, l7, rfl, hq7, hP7, hn7, hk_77, hb_n7⟩⟩; exact And.intro rfl ⟨Gr.wide grA hg7 (fun q hq hs => by (rcases hs with hs | hs | hs; exact hs; omega; omega)), .inl ⟨_, _, hb, rfl⟩⟩; have hG7 : Gr (· = E.b) w w7 := Gr.wide grA hg7 (fun q hq hs => by (rcases hs with hs | hs | hs; exact hs; omega; omega)); have hm7 : m7 = 0 ∨ m7 = 1 := (Decidable.byContradiction fun hc => HR.out (by rw [← hq7]; exact if_neg hc)); simp only [Tr.num, hm7, if_true] at hq7; have hme7 : (if m7 = 1 then (1 : Int) else 0) = m7 := (by rcases hm7 with h | h <;> simp [h]); rw [hme7] at hb_n7; clear hme7 hm7; have HQ7 := Lib.hid hq7; clear hq7; have hbl7 := hP7.lt; have hgl7 := hP7.toks.lt; have hl_n7 := hb_n7.lt; have hb_n7 : Blk w7 (w1.heap.size) 28 #[.int .i64 9, .int .i64 0, .int .i64 m7, .string ⟨#[]⟩, .string (bs x3.1.t), .int .i64 x3.2, .slice A7 (([] : List Tr) ++ ks7).length c7] := hb_n7; have hs7 : w6.heap.size + 0 ≤ w7.heap.size := (by have := hg7.size; simpa using this); have hb_z7 : Blk w7 (w.heap.size) 28 #[.int .i64 0, .int .i64 0, .int .i64 0, .string ⟨#[]⟩, .string ⟨#[]⟩, .int .i64 0, .slice none 0 0] := Blk.gr bkA hg7 (by (rintro (h | h | h) <;> omega)); have hl_z7 := hb_z7.lt; have hk_n7 : KidX w7 (w1.heap.size + 1) (w1.heap.size) (.slice A7 (([] : List Tr) ++ ks7).length c7) (([] : List Tr) ++ ks7) := Kid.x hk_77 (by omega)))
      have hln := hn7
      unfold LIM at hln
      obtain ⟨_, n7_0, n7_1, n7_2, n7_3, n7_4, n7_5, n7_6, n7_f⟩ := hb_n7.all7
      refine region_B 11 3 5 6 7 8 10 1 4 9 E.b (w1.heap.size + 1) (w1.heap.size) 68 (fun i => match i with | 0 => .pointer (some ⟨w1.heap.size, 6, none⟩) | 1 => (.slice A7 (([] : List Tr) ++ ks7).length c7) | 2 => .pointer (some ⟨E.b, 0, none⟩) | 4 => .int .i64 ((([] : List Tr) ++ ks7) : List Tr).length | 9 => .pointer (some ⟨w1.heap.size, 6, none⟩) | _ => undef) (.int .i64 9) (.int .i64 0) (.int .i64 m7) (.string ⟨#[]⟩) (.string (bs x3.1.t)) (.int .i64 x3.2) (.slice A7 (([] : List Tr) ++ ks7).length c7) (([] : List Tr) ++ ks7) 65 #[.pointer (some ⟨E.b, 0, none⟩)] (TellB r) (fun W => PS E W l7 (o)) (TellD E (o) _ r) rfl (by kernel_rfl) (by kernel_rfl) rfl (by kernel_rfl) (by decide) (by decide) (by decide) (by decide) rfl rfl rfl rfl rfl rfl rfl rfl rfl rfl rfl rfl ⟨_, rfl, rfl⟩ ⟨_, rfl, rfl⟩ ⟨_, rfl, rfl⟩ ⟨_, _, _, rfl⟩ rfl ⟨_, _, _, rfl⟩ ⟨_, _, _, rfl⟩ ⟨_, _, _, rfl⟩ (by kernel_rfl) (by kernel_rfl) (by kernel_rfl) (by kernel_rfl) (by kernel_rfl) (by kernel_rfl) (by kernel_rfl) (by kernel_rfl) (by kernel_rfl) rfl rfl rfl
        (fun a w hun hev => by
          have e2 := hev 2 _ _ (by omega) rfl rfl (by kernel_rfl) (by decide)
          simp [Act.eval] at e2
          unfold execOp; go_simp)
        (fun i o hoi hi hx a w hgr hun hev => by
          rcases (show i = 0 ∨ i = 1 ∨ i = 2 ∨ i = 3 ∨ i = 4 ∨ i = 5 ∨ i = 6 ∨ i = 7 ∨ i = 8 ∨ i = 9 ∨ i = 10 by omega) with rfl | rfl | rfl | rfl | rfl | rfl | rfl | rfl | rfl | rfl | rfl
          · obtain rfl := Option.some.inj hoi; exact x_kids _ _ _ _ _ _ _ _ ((hun 3 (noput_all (by kernel_rfl))).trans rfl)
          · obtain rfl := Option.some.inj hoi; exact x_loadS _ _ _ _ _ _ _ _ 6 _ (hev 0 _ _ (by omega) rfl rfl (by kernel_rfl) (by decide)) (((hgr rfl).cell (p := ⟨w1.heap.size, 6, none⟩) (by show w1.heap.size < _; omega) (by show ¬ Wr _ _ _ (w1.heap.size); unfold Wr; omega)).trans n7_6)
          · obtain rfl := Option.some.inj hoi; exact x_move _ _ _ _ _ _ _ _ ((hun 0 (noput_all (by kernel_rfl))).trans rfl)
          · exact absurd (by decide) hx
          · obtain rfl := Option.some.inj hoi; exact x_len _ _ _ _ _ _ _ _ _ _ 0 (hev 1 _ _ (by omega) rfl rfl (by kernel_rfl) (by decide))
          · exact absurd (by decide) hx
          · exact absurd (by decide) hx
          · exact absurd (by decide) hx
          · exact absurd (by decide) hx
          · obtain rfl := Option.some.inj hoi; exact x_kids _ _ _ _ _ _ _ _ ((hun 3 (noput_all (by kernel_rfl))).trans rfl)
          · exact absurd (by decide) hx)
        hk_n7 hb_n7 (by omega) (by omega) (by omega) (by omega) (by simp [LIM]; omega) (calm_PS E _ _ (o) (by omega) (by omega)) hP7 (calm_TellD E _ (o) _ r (by omega) (by omega)) (fun t w u hd => by obtain ⟨l9, h1, h2⟩ := hd; exact ⟨l9, h1, h2.setCell (by show w1.heap.size ≠ _; omega) (by show w1.heap.size ≠ _; omega) u⟩) (fun W hW => (Hn.block E W l7 (o) _ r hW HQ7.out HR.out).mono fun e w' h => tells h) ?_ ?_
      · rintro a w' c had ⟨at_, k, hb, rfl⟩ hg
        exact And.intro had ⟨hG7.trans hg, .inl ⟨_, _, hb, rfl⟩⟩
      rintro vals w8 A8 c8 ub ⟨l8, hq8, hP8⟩ hk_n8 hgx hb_n8
      have hsx := hgx.size
      have hG8 : Gr (· = E.b) w w8 := Gr.wide hG7 hgx (fun q hq hs => by
        rcases hs with hs | hs | hs
        · exact hs
        · omega
        · omega)
      have hb_z8 : Blk w8 (w.heap.size) 28 #[.int .i64 0, .int .i64 0, .int .i64 0, .string ⟨#[]⟩, .string ⟨#[]⟩, .int .i64 0, .slice none 0 0] := Blk.gr hb_z7 hgx (by rintro (h | h | h) <;> omega)
      have hl_z8 := hb_z8.lt
      have hl_n8 := hb_n8.lt
      have hbl8 := hP8.lt
      have hgl8 := hP8.toks.lt
      dsimp only [putAll, List.take_succ_cons, List.take_zero, List.take_nil]
      have HQ8 := Lib.hid hq8
      clear hq8 hgx
      obtain ⟨_, n8_0, n8_1, n8_2, n8_3, n8_4, n8_5, n8_6, n8_f⟩ := hb_n8.all7
      obtain ⟨_, z8_0, z8_1, z8_2, z8_3, z8_4, z8_5, z8_6, z8_f⟩ := hb_z8.all7
      go_wp2
      have hl := (show (([] : List Tr) ++ ks7 ++ [ub]).length = (([] : List Tr) ++ ks7).length + 1 by first | (simp; done) | (simp; omega))
      exact ret7 Tryz.results45 rfl rfl b7A ⟨grA, .inr ⟨9, 0, m7, [], x3.1.t, x3.2, ((([] : List Tr) ++ ks7) ++ [ub]), A8, c8, l8, (by rw [hl]; first | done | rfl | (simp only [List.length_append]; rfl)), HQ8.out, (by rw [hl]; exact Kid.mono (lo := w1.heap.size + 1) (v := .slice A8 ((([] : List Tr) ++ ks7).length + 1) c8) (ks := ((([] : List Tr) ++ ks7) ++ [ub])) (KidX.kid (h := w1.heap.size) kxA) (by omega)), (by simp [LIM]; omega), psA⟩⟩
end Go.Proofs.YtihnnbeepfgphaaGreatDoor
