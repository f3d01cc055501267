/-
  Methods of the parser, the first fourteen: walks.
-/
import Derived.Test.YtihnnbeepfgphaaGreatDoorParC
import Derived.Test.YtihnnbeepfgphaaGreatDoorParE
/-! ## PF1: Parts that stand for others: walks. -/
namespace Go.Proofs.YtihnnbeepfgphaaGreatDoor
open Go.RowKit
set_option linter.unusedVariables false
set_option linter.unusedSimpArgs false
attribute [local go_sem ↓] tok_f0 tok_f1 tok_f2 tok_f3

set_option maxRecDepth 100000 in
set_option maxHeartbeats 4000000 in
theorem expr_step (n : Nat) (hn : n ≤ LIM) (H : ∀ m, m ≤ n → AllN m) : C0 (n + 1) 55 .expr := by
  intro E w l o g r hP hq hr
  simp only [go] at hq
  have hlt := hP.lt
  have hgt := hP.toks.lt
  have hne := hP.ne
  have HR := Lib.hid hr
  have Hn := H n (Nat.le_refl _)
  clear hr
  have HQ0 := Lib.hid hq
  clear hq
  go_enter Tryz.func55, Tryz.ntmps55
  go_wp2_with (first
    | (go_at_call 70; refine (Hn.binary 1 (by omega) (by omega) E _ l (o) _ r psA HQ0.out HR.out).mono ?_; rintro e w1 ⟨hg1, ⟨a, k, hb, rfl⟩ | ⟨k1, op1, m1, p1, t1, a1, ks1, A1, c1, l1, rfl, hq1, hk_11, hn1, hP1⟩⟩; exact And.intro rfl ⟨Gr.trans grA hg1, .inl ⟨_, _, hb, rfl⟩⟩; have hG1 : Gr (· = E.b) w w1 := Gr.trans grA hg1; have HQ1 := Lib.hid hq1; clear hq1; have hbl1 := hP1.lt; have hgl1 := hP1.toks.lt; have hs1 : w.heap.size + 1 ≤ w1.heap.size := (by have := hg1.size; simpa using this); have hb_z1 : Blk w1 w.heap.size 28 #[.int .i64 0, .int .i64 0, .int .i64 0, .string ⟨#[]⟩, .string ⟨#[]⟩, .int .i64 0, .slice none 0 0] := Blk.call (b := E.b) bkA hg1 (by omega); have hl_z1 := hb_z1.lt; obtain ⟨_, z1_0, z1_1, z1_2, z1_3, z1_4, z1_5, z1_6, z1_f⟩ := hb_z1.all7; have hk_11 := Kid.mono (lo' := w.heap.size + 1) hk_11 (by simp)))
  exact ret7 Tryz.results55 rfl rfl b7A ⟨grA, .inr ⟨k1, op1, m1, p1, t1, a1, ks1, A1, c1, l1, rfl, HQ1.out, Kid.mono (lo := w.heap.size + 1) kdA (by omega), hn1, psA⟩⟩
set_option maxRecDepth 100000 in
set_option maxHeartbeats 4000000 in
theorem param_step (n : Nat) (hn : n ≤ LIM) (H : ∀ m, m ≤ n → AllN m) : C0 (n + 1) 64 .param := by
  intro E w l o g r hP hq hr
  simp only [go] at hq
  have hlt := hP.lt
  have hgt := hP.toks.lt
  have hne := hP.ne
  have HR := Lib.hid hr
  have Hn := H n (Nat.le_refl _)
  clear hr
  have HQ0 := Lib.hid hq
  clear hq
  go_enter Tryz.func64, Tryz.ntmps64
  go_wp2_with (first
    | (go_at_call 54; refine (Hn.named 12 E _ l (o) _ r psA HQ0.out HR.out).mono ?_; rintro e w1 ⟨hg1, ⟨a, k, hb, rfl⟩ | ⟨k1, op1, m1, p1, t1, a1, ks1, A1, c1, l1, rfl, hq1, hk_11, hn1, hP1⟩⟩; exact And.intro rfl ⟨Gr.trans grA hg1, .inl ⟨_, _, hb, rfl⟩⟩; have hG1 : Gr (· = E.b) w w1 := Gr.trans grA hg1; have HQ1 := Lib.hid hq1; clear hq1; have hbl1 := hP1.lt; have hgl1 := hP1.toks.lt; have hs1 : w.heap.size + 1 ≤ w1.heap.size := (by have := hg1.size; simpa using this); have hb_z1 : Blk w1 w.heap.size 28 #[.int .i64 0, .int .i64 0, .int .i64 0, .string ⟨#[]⟩, .string ⟨#[]⟩, .int .i64 0, .slice none 0 0] := Blk.call (b := E.b) bkA hg1 (by omega); have hl_z1 := hb_z1.lt; obtain ⟨_, z1_0, z1_1, z1_2, z1_3, z1_4, z1_5, z1_6, z1_f⟩ := hb_z1.all7; have hk_11 := Kid.mono (lo' := w.heap.size + 1) hk_11 (by simp)))
  exact ret7 Tryz.results64 rfl rfl b7A ⟨grA, .inr ⟨k1, op1, m1, p1, t1, a1, ks1, A1, c1, l1, rfl, HQ1.out, Kid.mono (lo := w.heap.size + 1) kdA (by omega), hn1, psA⟩⟩
set_option maxRecDepth 100000 in
set_option maxHeartbeats 4000000 in
theorem otherwise_step (n : Nat) (hn : n ≤ LIM) (H : ∀ m, m ≤ n → AllN m) : C0 (n + 1) 99 .otherwise := by
  intro E w l o g r hP hq hr
  simp only [go, bnd_ite] at hq
  have hlt := hP.lt
  have hgt := hP.toks.lt
  have hne := hP.ne
  have HR := Lib.hid hr
  have Hn := H n (Nat.le_refl _)
  clear hr
  by_cases hm : mark l = [105, 102]
  · rw [if_pos hm] at hq
    have HM := Lib.hid hm
    have HQ0 := Lib.hid hq
    clear hq hm
    go_enter Tryz.func99, Tryz.ntmps99
    go_wp2_with (first
      | (go_at_call 38; refine (mark_any E _ l (o) psA).mono ?_; rw [HM.out, show bs [105, 102] = ⟨#[105, 102]⟩ from rfl]; rintro e w1 ⟨rfl, hg1⟩; have hP1 : PS E w1 l (o) := PS.below psA hg1; have hG1 : Gr (· = E.b) w w1 := Gr.trans grA (Gr.of_below hg1); have hbl1 := hP1.lt; have hgl1 := hP1.toks.lt; have hs1 : w.heap.size + 1 ≤ w1.heap.size := (by have := hg1.size; simpa using this); have hb_z1 : Blk w1 w.heap.size 28 #[.int .i64 0, .int .i64 0, .int .i64 0, .string ⟨#[]⟩, .string ⟨#[]⟩, .int .i64 0, .slice none 0 0] := Blk.bel bkA hg1; have hl_z1 := hb_z1.lt)
      | (go_at_call 82; refine (Hn.branch E _ l (o) _ r psA HQ0.out HR.out).mono ?_; rintro e w2 ⟨hg2, ⟨a, k, hb, rfl⟩ | ⟨k2, op2, m2, p2, t2, a2, ks2, A2, c2, l2, rfl, hq2, hk_22, hn2, hP2⟩⟩; exact And.intro rfl ⟨Gr.trans grA hg2, .inl ⟨_, _, hb, rfl⟩⟩; have hG2 : Gr (· = E.b) w w2 := Gr.trans grA hg2; have HQ2 := Lib.hid hq2; clear hq2; have hbl2 := hP2.lt; have hgl2 := hP2.toks.lt; have hs2 : w1.heap.size + 0 ≤ w2.heap.size := (by have := hg2.size; simpa using this); have hb_z2 : Blk w2 w.heap.size 28 #[.int .i64 0, .int .i64 0, .int .i64 0, .string ⟨#[]⟩, .string ⟨#[]⟩, .int .i64 0, .slice none 0 0] := Blk.call (b := E.b) bkA hg2 (by omega); have hl_z2 := hb_z2.lt; obtain ⟨_, z2_0, z2_1, z2_2, z2_3, z2_4, z2_5, z2_6, z2_f⟩ := hb_z2.all7; have hk_22 := Kid.mono (lo' := w1.heap.size + 0) hk_22 (by simp)))
    exact ret7 Tryz.results99 rfl rfl b7A ⟨grA, .inr ⟨k2, op2, m2, p2, t2, a2, ks2, A2, c2, l2, rfl, HQ2.out, Kid.mono (lo := w1.heap.size + 0) kdA (by omega), hn2, psA⟩⟩
  rw [if_neg hm] at hq
  have hm_6966 := bs_beq3 hm
  clear hm
  have HQ0 := Lib.hid hq
  clear hq
  go_enter Tryz.func99, Tryz.ntmps99
  go_wp2_with (first
    | (go_at_call 38; refine (mark_any E _ l (o) psA).mono ?_; rintro e w1 ⟨rfl, hg1⟩; have hP1 : PS E w1 l (o) := PS.below psA hg1; have hG1 : Gr (· = E.b) w w1 := Gr.trans grA (Gr.of_below hg1); have hbl1 := hP1.lt; have hgl1 := hP1.toks.lt; have hs1 : w.heap.size + 1 ≤ w1.heap.size := (by have := hg1.size; simpa using this); have hb_z1 : Blk w1 w.heap.size 28 #[.int .i64 0, .int .i64 0, .int .i64 0, .string ⟨#[]⟩, .string ⟨#[]⟩, .int .i64 0, .slice none 0 0] := Blk.bel bkA hg1; have hl_z1 := hb_z1.lt)
    | (go_at_call 65; refine (Hn.block E _ l (o) _ r psA HQ0.out HR.out).mono ?_; rintro e w2 ⟨hg2, ⟨a, k, hb, rfl⟩ | ⟨k2, op2, m2, p2, t2, a2, ks2, A2, c2, l2, rfl, hq2, hk_22, hn2, hP2⟩⟩; exact And.intro rfl ⟨Gr.trans grA hg2, .inl ⟨_, _, hb, rfl⟩⟩; have hG2 : Gr (· = E.b) w w2 := Gr.trans grA hg2; have HQ2 := Lib.hid hq2; clear hq2; have hbl2 := hP2.lt; have hgl2 := hP2.toks.lt; have hs2 : w1.heap.size + 0 ≤ w2.heap.size := (by have := hg2.size; simpa using this); have hb_z2 : Blk w2 w.heap.size 28 #[.int .i64 0, .int .i64 0, .int .i64 0, .string ⟨#[]⟩, .string ⟨#[]⟩, .int .i64 0, .slice none 0 0] := Blk.call (b := E.b) bkA hg2 (by omega); have hl_z2 := hb_z2.lt; obtain ⟨_, z2_0, z2_1, z2_2, z2_3, z2_4, z2_5, z2_6, z2_f⟩ := hb_z2.all7; have hk_22 := Kid.mono (lo' := w1.heap.size + 0) hk_22 (by simp)))
  exact ret7 Tryz.results99 rfl rfl b7A ⟨grA, .inr ⟨k2, op2, m2, p2, t2, a2, ks2, A2, c2, l2, rfl, HQ2.out, Kid.mono (lo := w1.heap.size + 0) kdA (by omega), hn2, psA⟩⟩
set_option maxRecDepth 100000 in
set_option maxHeartbeats 4000000 in
theorem decl_step (n : Nat) (hn : n ≤ LIM) (H : ∀ m, m ≤ n → AllN m) : C0 (n + 1) 28 .decl := by
  intro E w l o g r hP hq hr
  simp only [go, bnd_ite, bnd_refuse] at hq
  have hlt := hP.lt
  have hgt := hP.toks.lt
  have hne := hP.ne
  have HR := Lib.hid hr
  have Hn := H n (Nat.le_refl _)
  clear hr
  by_cases hm : mark l = [99, 111, 110, 115, 116]
  · rw [if_pos hm] at hq
    have HM := Lib.hid hm
    have HQ0 := Lib.hid hq
    clear hq hm
    go_enter Tryz.func28, Tryz.ntmps28
    go_wp2_with (first
      | (go_at_call 38; refine (mark_any E _ l (o) psA).mono ?_; rw [HM.out, show bs [99, 111, 110, 115, 116] = ⟨#[99, 111, 110, 115, 116]⟩ from rfl]; rintro e w1 ⟨rfl, hg1⟩; have hP1 : PS E w1 l (o) := PS.below psA hg1; have hG1 : Gr (· = E.b) w w1 := Gr.trans grA (Gr.of_below hg1); have hbl1 := hP1.lt; have hgl1 := hP1.toks.lt; have hs1 : w.heap.size + 1 ≤ w1.heap.size := (by have := hg1.size; simpa using this); have hb_z1 : Blk w1 w.heap.size 28 #[.int .i64 0, .int .i64 0, .int .i64 0, .string ⟨#[]⟩, .string ⟨#[]⟩, .int .i64 0, .slice none 0 0] := Blk.bel bkA hg1; have hl_z1 := hb_z1.lt)
      | (go_at_call 42; refine (Hn.constant E _ l (o) _ r psA HQ0.out HR.out).mono ?_; rintro e w2 ⟨hg2, ⟨a, k, hb, rfl⟩ | ⟨k2, op2, m2, p2, t2, a2, ks2, A2, c2, l2, rfl, hq2, hk_22, hn2, hP2⟩⟩; exact And.intro rfl ⟨Gr.trans grA hg2, .inl ⟨_, _, hb, rfl⟩⟩; have hG2 : Gr (· = E.b) w w2 := Gr.trans grA hg2; have HQ2 := Lib.hid hq2; clear hq2; have hbl2 := hP2.lt; have hgl2 := hP2.toks.lt; have hs2 : w1.heap.size + 0 ≤ w2.heap.size := (by have := hg2.size; simpa using this); have hb_z2 : Blk w2 w.heap.size 28 #[.int .i64 0, .int .i64 0, .int .i64 0, .string ⟨#[]⟩, .string ⟨#[]⟩, .int .i64 0, .slice none 0 0] := Blk.call (b := E.b) bkA hg2 (by omega); have hl_z2 := hb_z2.lt; obtain ⟨_, z2_0, z2_1, z2_2, z2_3, z2_4, z2_5, z2_6, z2_f⟩ := hb_z2.all7; have hk_22 := Kid.mono (lo' := w1.heap.size + 0) hk_22 (by simp)))
    exact ret7 Tryz.results28 rfl rfl b7A ⟨grA, .inr ⟨k2, op2, m2, p2, t2, a2, ks2, A2, c2, l2, rfl, HQ2.out, Kid.mono (lo := w1.heap.size + 0) kdA (by omega), hn2, psA⟩⟩
  rw [if_neg hm] at hq
  have hm_636f6e7374 := bs_beq3 hm
  clear hm
  by_cases hm : mark l = [118, 97, 114]
  · rw [if_pos hm] at hq
    have HM := Lib.hid hm
    have HQ0 := Lib.hid hq
    clear hq hm
    go_enter Tryz.func28, Tryz.ntmps28
    go_wp2_with (first
      | (go_at_call 38; refine (mark_any E _ l (o) psA).mono ?_; rw [HM.out, show bs [118, 97, 114] = ⟨#[118, 97, 114]⟩ from rfl]; rintro e w1 ⟨rfl, hg1⟩; have hP1 : PS E w1 l (o) := PS.below psA hg1; have hG1 : Gr (· = E.b) w w1 := Gr.trans grA (Gr.of_below hg1); have hbl1 := hP1.lt; have hgl1 := hP1.toks.lt; have hs1 : w.heap.size + 1 ≤ w1.heap.size := (by have := hg1.size; simpa using this); have hb_z1 : Blk w1 w.heap.size 28 #[.int .i64 0, .int .i64 0, .int .i64 0, .string ⟨#[]⟩, .string ⟨#[]⟩, .int .i64 0, .slice none 0 0] := Blk.bel bkA hg1; have hl_z1 := hb_z1.lt)
      | (go_at_call 43; refine (Hn.variable_ E _ l (o) _ r psA HQ0.out HR.out).mono ?_; rintro e w2 ⟨hg2, ⟨a, k, hb, rfl⟩ | ⟨k2, op2, m2, p2, t2, a2, ks2, A2, c2, l2, rfl, hq2, hk_22, hn2, hP2⟩⟩; exact And.intro rfl ⟨Gr.trans grA hg2, .inl ⟨_, _, hb, rfl⟩⟩; have hG2 : Gr (· = E.b) w w2 := Gr.trans grA hg2; have HQ2 := Lib.hid hq2; clear hq2; have hbl2 := hP2.lt; have hgl2 := hP2.toks.lt; have hs2 : w1.heap.size + 0 ≤ w2.heap.size := (by have := hg2.size; simpa using this); have hb_z2 : Blk w2 w.heap.size 28 #[.int .i64 0, .int .i64 0, .int .i64 0, .string ⟨#[]⟩, .string ⟨#[]⟩, .int .i64 0, .slice none 0 0] := Blk.call (b := E.b) bkA hg2 (by omega); have hl_z2 := hb_z2.lt; obtain ⟨_, z2_0, z2_1, z2_2, z2_3, z2_4, z2_5, z2_6, z2_f⟩ := hb_z2.all7; have hk_22 := Kid.mono (lo' := w1.heap.size + 0) hk_22 (by simp)))
    exact ret7 Tryz.results28 rfl rfl b7A ⟨grA, .inr ⟨k2, op2, m2, p2, t2, a2, ks2, A2, c2, l2, rfl, HQ2.out, Kid.mono (lo := w1.heap.size + 0) kdA (by omega), hn2, psA⟩⟩
  rw [if_neg hm] at hq
  have hm_766172 := bs_beq3 hm
  clear hm
  by_cases hm : mark l = [116, 121, 112, 101]
  · rw [if_pos hm] at hq
    have HM := Lib.hid hm
    have HQ0 := Lib.hid hq
    clear hq hm
    go_enter Tryz.func28, Tryz.ntmps28
    go_wp2_with (first
      | (go_at_call 38; refine (mark_any E _ l (o) psA).mono ?_; rw [HM.out, show bs [116, 121, 112, 101] = ⟨#[116, 121, 112, 101]⟩ from rfl]; rintro e w1 ⟨rfl, hg1⟩; have hP1 : PS E w1 l (o) := PS.below psA hg1; have hG1 : Gr (· = E.b) w w1 := Gr.trans grA (Gr.of_below hg1); have hbl1 := hP1.lt; have hgl1 := hP1.toks.lt; have hs1 : w.heap.size + 1 ≤ w1.heap.size := (by have := hg1.size; simpa using this); have hb_z1 : Blk w1 w.heap.size 28 #[.int .i64 0, .int .i64 0, .int .i64 0, .string ⟨#[]⟩, .string ⟨#[]⟩, .int .i64 0, .slice none 0 0] := Blk.bel bkA hg1; have hl_z1 := hb_z1.lt)
      | (go_at_call 44; refine (Hn.declaredType E _ l (o) _ r psA HQ0.out HR.out).mono ?_; rintro e w2 ⟨hg2, ⟨a, k, hb, rfl⟩ | ⟨k2, op2, m2, p2, t2, a2, ks2, A2, c2, l2, rfl, hq2, hk_22, hn2, hP2⟩⟩; exact And.intro rfl ⟨Gr.trans grA hg2, .inl ⟨_, _, hb, rfl⟩⟩; have hG2 : Gr (· = E.b) w w2 := Gr.trans grA hg2; have HQ2 := Lib.hid hq2; clear hq2; have hbl2 := hP2.lt; have hgl2 := hP2.toks.lt; have hs2 : w1.heap.size + 0 ≤ w2.heap.size := (by have := hg2.size; simpa using this); have hb_z2 : Blk w2 w.heap.size 28 #[.int .i64 0, .int .i64 0, .int .i64 0, .string ⟨#[]⟩, .string ⟨#[]⟩, .int .i64 0, .slice none 0 0] := Blk.call (b := E.b) bkA hg2 (by omega); have hl_z2 := hb_z2.lt; obtain ⟨_, z2_0, z2_1, z2_2, z2_3, z2_4, z2_5, z2_6, z2_f⟩ := hb_z2.all7; have hk_22 := Kid.mono (lo' := w1.heap.size + 0) hk_22 (by simp)))
    exact ret7 Tryz.results28 rfl rfl b7A ⟨grA, .inr ⟨k2, op2, m2, p2, t2, a2, ks2, A2, c2, l2, rfl, HQ2.out, Kid.mono (lo := w1.heap.size + 0) kdA (by omega), hn2, psA⟩⟩
  rw [if_neg hm] at hq
  have hm_74797065 := bs_beq3 hm
  clear hm
  by_cases hm : mark l = [102, 117, 110, 99]
  · rw [if_pos hm] at hq
    have HM := Lib.hid hm
    have HQ0 := Lib.hid hq
    clear hq hm
    go_enter Tryz.func28, Tryz.ntmps28
    go_wp2_with (first
      | (go_at_call 38; refine (mark_any E _ l (o) psA).mono ?_; rw [HM.out, show bs [102, 117, 110, 99] = ⟨#[102, 117, 110, 99]⟩ from rfl]; rintro e w1 ⟨rfl, hg1⟩; have hP1 : PS E w1 l (o) := PS.below psA hg1; have hG1 : Gr (· = E.b) w w1 := Gr.trans grA (Gr.of_below hg1); have hbl1 := hP1.lt; have hgl1 := hP1.toks.lt; have hs1 : w.heap.size + 1 ≤ w1.heap.size := (by have := hg1.size; simpa using this); have hb_z1 : Blk w1 w.heap.size 28 #[.int .i64 0, .int .i64 0, .int .i64 0, .string ⟨#[]⟩, .string ⟨#[]⟩, .int .i64 0, .slice none 0 0] := Blk.bel bkA hg1; have hl_z1 := hb_z1.lt)
      | (go_at_call 45; refine (Hn.declaredFunc E _ l (o) _ r psA HQ0.out HR.out).mono ?_; rintro e w2 ⟨hg2, ⟨a, k, hb, rfl⟩ | ⟨k2, op2, m2, p2, t2, a2, ks2, A2, c2, l2, rfl, hq2, hk_22, hn2, hP2⟩⟩; exact And.intro rfl ⟨Gr.trans grA hg2, .inl ⟨_, _, hb, rfl⟩⟩; have hG2 : Gr (· = E.b) w w2 := Gr.trans grA hg2; have HQ2 := Lib.hid hq2; clear hq2; have hbl2 := hP2.lt; have hgl2 := hP2.toks.lt; have hs2 : w1.heap.size + 0 ≤ w2.heap.size := (by have := hg2.size; simpa using this); have hb_z2 : Blk w2 w.heap.size 28 #[.int .i64 0, .int .i64 0, .int .i64 0, .string ⟨#[]⟩, .string ⟨#[]⟩, .int .i64 0, .slice none 0 0] := Blk.call (b := E.b) bkA hg2 (by omega); have hl_z2 := hb_z2.lt; obtain ⟨_, z2_0, z2_1, z2_2, z2_3, z2_4, z2_5, z2_6, z2_f⟩ := hb_z2.all7; have hk_22 := Kid.mono (lo' := w1.heap.size + 0) hk_22 (by simp)))
    exact ret7 Tryz.results28 rfl rfl b7A ⟨grA, .inr ⟨k2, op2, m2, p2, t2, a2, ks2, A2, c2, l2, rfl, HQ2.out, Kid.mono (lo := w1.heap.size + 0) kdA (by omega), hn2, psA⟩⟩
  rw [if_neg hm] at hq
  have hm_66756e63 := bs_beq3 hm
  clear hm
  obtain ⟨x, t, rfl⟩ := hP.cons
  rw [refuse_cons] at hq
  have HQ0 := Lib.hid hq
  clear hq
  go_enter Tryz.func28, Tryz.ntmps28
  go_wp2_with (first
    | (go_at_call 38; refine (mark_any E _ (x :: t) (o) psA).mono ?_; rintro e w1 ⟨rfl, hg1⟩; have hP1 : PS E w1 (x :: t) (o) := PS.below psA hg1; have hG1 : Gr (· = E.b) w w1 := Gr.trans grA (Gr.of_below hg1); have hbl1 := hP1.lt; have hgl1 := hP1.toks.lt; have hs1 : w.heap.size + 1 ≤ w1.heap.size := (by have := hg1.size; simpa using this); have hb_z1 : Blk w1 w.heap.size 28 #[.int .i64 0, .int .i64 0, .int .i64 0, .string ⟨#[]⟩, .string ⟨#[]⟩, .int .i64 0, .slice none 0 0] := Blk.bel bkA hg1; have hl_z1 := hb_z1.lt)
    | (go_at_call 39; refine (refuse_any E _ x t o psA).mono ?_; rintro e w9 ⟨rfl, hg9⟩))
  refine And.intro rfl ?_
  exact ⟨Gr.trans hG1 (Gr.of_below hg9), .inl ⟨_, _, HQ0.out.symm, rfl⟩⟩
end Go.Proofs.YtihnnbeepfgphaaGreatDoor

/-! ## PF2: Fields: walks. -/
namespace Go.Proofs.YtihnnbeepfgphaaGreatDoor
open Go.RowKit
set_option linter.unusedVariables false
set_option linter.unusedSimpArgs false
attribute [local go_sem ↓] tok_f0 tok_f1 tok_f2 tok_f3

set_option maxRecDepth 100000 in
set_option maxHeartbeats 4000000 in
theorem field_step (n : Nat) (hn : n ≤ LIM) (H : ∀ m, m ≤ n → AllN m) : C0 (n + 1) 56 .field := by
  intro E w l o g r hP hq hr
  simp only [go, bnd_want, bnd_bnd, bnd_ok] at hq
  have hlt := hP.lt
  have hgt := hP.toks.lt
  have hne := hP.ne
  have HR := Lib.hid hr
  have Hn := H n (Nat.le_refl _)
  clear hr
  have HQ0 := Lib.hid hq
  clear hq
  go_enter Tryz.func56, Tryz.ntmps56
  go_wp2_with (first
    | (go_at_call 54; refine (Hn.named 6 E _ l (o) _ r psA HQ0.out HR.out).mono ?_; rintro e w1 ⟨hg1, ⟨a, k, hb, rfl⟩ | ⟨k1, op1, m1, p1, t1, a1, ks1, A1, c1, l1, rfl, hq1, hk_11, hn1, hP1⟩⟩; exact And.intro rfl ⟨Gr.trans grA hg1, .inl ⟨_, _, hb, rfl⟩⟩; have hG1 : Gr (· = E.b) w w1 := Gr.trans grA hg1; have HQ1 := Lib.hid hq1; clear hq1; have hbl1 := hP1.lt; have hgl1 := hP1.toks.lt; have hs1 : w.heap.size + 1 ≤ w1.heap.size := (by have := hg1.size; simpa using this); have hb_z1 : Blk w1 (w.heap.size) 28 #[.int .i64 0, .int .i64 0, .int .i64 0, .string ⟨#[]⟩, .string ⟨#[]⟩, .int .i64 0, .slice none 0 0] := Blk.call (b := E.b) bkA hg1 (by omega); have hl_z1 := hb_z1.lt; have hk_11 := Kid.mono (lo' := w.heap.size + 1) hk_11 (by simp))
    | (go_at_call 24; refine (want_any E _ l1 (o) [59] _ _ _ psA rfl (by simp) HQ1.out).mono ?_; rintro e w2 ⟨hg2, ⟨a, k, hb, rfl⟩ | ⟨x2, l2, rfl, hq2, hP2⟩⟩; exact And.intro rfl ⟨Gr.trans grA hg2, .inl ⟨_, _, hb, rfl⟩⟩; have hG2 : Gr (· = E.b) w w2 := Gr.trans grA hg2; have HQ2 := Lib.hid hq2; clear hq2; have hbl2 := hP2.lt; have hgl2 := hP2.toks.lt; have hs2 : w1.heap.size + 1 ≤ w2.heap.size := (by have := hg2.size; simpa using this); have hb_z2 : Blk w2 (w.heap.size) 28 #[.int .i64 0, .int .i64 0, .int .i64 0, .string ⟨#[]⟩, .string ⟨#[]⟩, .int .i64 0, .slice none 0 0] := Blk.call (b := E.b) bkA hg2 (by omega); have hl_z2 := hb_z2.lt; obtain ⟨_, z2_0, z2_1, z2_2, z2_3, z2_4, z2_5, z2_6, z2_f⟩ := hb_z2.all7; have hb_n2 : Blk w2 (w1.heap.size) 28 #[.int .i64 k1, .int .i64 op1, .int .i64 m1, .string (bs p1), .string (bs t1), .int .i64 a1, .slice A1 ks1.length c1] := Blk.call (b := E.b) bkA hg2 (by omega); have hl_n2 := hb_n2.lt; obtain ⟨_, n2_0, n2_1, n2_2, n2_3, n2_4, n2_5, n2_6, n2_f⟩ := hb_n2.all7; have hk_12 : Kid w2 (w.heap.size + 1) (.slice A1 ks1.length c1) ks1 := Kid.call (b := E.b) kdA hg2 (by omega)))
  exact ret7 Tryz.results56 rfl rfl b7A ⟨grA, .inr ⟨k1, op1, m1, p1, t1, a1, ks1, A1, c1, l2, rfl, HQ2.out, Kid.mono (lo := w.heap.size + 1) kdA (by omega), hn1, psA⟩⟩
end Go.Proofs.YtihnnbeepfgphaaGreatDoor

/-! ## PF3: Names with their types: walks. -/
namespace Go.Proofs.YtihnnbeepfgphaaGreatDoor
open Go.RowKit
set_option linter.unusedVariables false
set_option linter.unusedSimpArgs false
attribute [local go_sem ↓] tok_f0 tok_f1 tok_f2 tok_f3

set_option maxRecDepth 100000 in
set_option maxHeartbeats 4000000 in
theorem named_step (n : Nat) (hn : n ≤ LIM) (H : ∀ m, m ≤ n → AllN m) (kk : Int) : C1 (n + 1) 54 kk (.named kk) := by
  intro E w l o g r hP hq hr
  simp only [go, bnd_wantK, bnd_bnd, bnd_ok] at hq
  have hlt := hP.lt
  have hgt := hP.toks.lt
  have hne := hP.ne
  have HR := Lib.hid hr
  have Hn := H n (Nat.le_refl _)
  clear hr
  have HQ0 := Lib.hid hq
  clear hq
  go_enter Tryz.func54, Tryz.ntmps54
  go_wp2_with (first
    | (go_at_call 25; refine (name_any E _ l (o) _ _ psA HQ0.out).mono ?_; rintro e w1 ⟨hg1, ⟨a, k, hb, rfl⟩ | ⟨x1, l1, rfl, hq1, hP1⟩⟩; exact And.intro rfl ⟨Gr.trans grA hg1, .inl ⟨_, _, hb, rfl⟩⟩; have hG1 : Gr (· = E.b) w w1 := Gr.trans grA hg1; have HQ1 := Lib.hid hq1; clear hq1; have hbl1 := hP1.lt; have hgl1 := hP1.toks.lt; have hs1 : w.heap.size + 1 ≤ w1.heap.size := (by have := hg1.size; simpa using this); have hb_z1 : Blk w1 w.heap.size 28 #[.int .i64 0, .int .i64 0, .int .i64 0, .string ⟨#[]⟩, .string ⟨#[]⟩, .int .i64 0, .slice none 0 0] := Blk.call (b := E.b) bkA hg1 (by omega); have hl_z1 := hb_z1.lt))
  refine wp_region_held_drew (S := fun W => Blk W w1.heap.size 58 #[.int .i64 x1.1.k, .string (bs x1.1.t), .int .i64 x1.1.n, .int .i64 x1.2]) (by kernel_rfl) bkA (fun hS0 => ?_)
  refine wpAnyH_take (i := 0) (v := .int .i64 kk) rfl (by kernel_rfl) (by kernel_rfl) (by kernel_rfl) (fun _ _ _ h => h) (Or.inl ⟨rfl, fun w' hS => by ((try obtain ⟨_, s0, s1, s2, s3, sf⟩ := hS.all4); (try obtain ⟨_, s0, s1, s2, s3, s4, s5, s6, sf⟩ := hS.all7); unfold execOp; go_simp)⟩) hS0 ?_
  simp only [Act.put, List.getElem_toArray, List.getElem_cons_zero, List.getElem_cons_succ, List.setIfInBounds_toArray, List.set_cons_zero, List.set_cons_succ]
  refine wpAnyH_take (i := 1) (v := .pointer (some ⟨w1.heap.size, 1, none⟩)) rfl (by kernel_rfl) (by kernel_rfl) (by kernel_rfl) (fun _ _ _ h => h) (Or.inl ⟨rfl, fun w' hS => by ((try obtain ⟨_, s0, s1, s2, s3, sf⟩ := hS.all4); (try obtain ⟨_, s0, s1, s2, s3, s4, s5, s6, sf⟩ := hS.all7); unfold execOp; go_simp)⟩) hS0 ?_
  simp only [Act.put, List.getElem_toArray, List.getElem_cons_zero, List.getElem_cons_succ, List.setIfInBounds_toArray, List.set_cons_zero, List.set_cons_succ]
  refine wpAnyH_take (i := 2) (v := .string (bs x1.1.t)) rfl (by kernel_rfl) (by kernel_rfl) (by kernel_rfl) (fun _ _ _ h => h) (Or.inl ⟨rfl, fun w' hS => by ((try obtain ⟨_, s0, s1, s2, s3, sf⟩ := hS.all4); (try obtain ⟨_, s0, s1, s2, s3, s4, s5, s6, sf⟩ := hS.all7); unfold execOp; go_simp)⟩) hS0 ?_
  simp only [Act.put, List.getElem_toArray, List.getElem_cons_zero, List.getElem_cons_succ, List.setIfInBounds_toArray, List.set_cons_zero, List.set_cons_succ]
  refine wpAnyH_take (i := 3) (v := .pointer (some ⟨w1.heap.size, 3, none⟩)) rfl (by kernel_rfl) (by kernel_rfl) (by kernel_rfl) (fun _ _ _ h => h) (Or.inl ⟨rfl, fun w' hS => by ((try obtain ⟨_, s0, s1, s2, s3, sf⟩ := hS.all4); (try obtain ⟨_, s0, s1, s2, s3, s4, s5, s6, sf⟩ := hS.all7); unfold execOp; go_simp)⟩) hS0 ?_
  simp only [Act.put, List.getElem_toArray, List.getElem_cons_zero, List.getElem_cons_succ, List.setIfInBounds_toArray, List.set_cons_zero, List.set_cons_succ]
  refine wpAnyH_take (i := 4) (v := .int .i64 x1.2) rfl (by kernel_rfl) (by kernel_rfl) (by kernel_rfl) (fun _ _ _ h => h) (Or.inl ⟨rfl, fun w' hS => by ((try obtain ⟨_, s0, s1, s2, s3, sf⟩ := hS.all4); (try obtain ⟨_, s0, s1, s2, s3, s4, s5, s6, sf⟩ := hS.all7); unfold execOp; go_simp)⟩) hS0 ?_
  simp only [Act.put, List.getElem_toArray, List.getElem_cons_zero, List.getElem_cons_succ, List.setIfInBounds_toArray, List.set_cons_zero, List.set_cons_succ]
  refine wpAnyH_take (i := 5) (v := .pointer (some ⟨E.b, 0, none⟩)) rfl (by kernel_rfl) (by kernel_rfl) (by kernel_rfl) (fun _ _ _ h => h) (Or.inl ⟨rfl, fun w' hS => by ((try obtain ⟨_, s0, s1, s2, s3, sf⟩ := hS.all4); (try obtain ⟨_, s0, s1, s2, s3, s4, s5, s6, sf⟩ := hS.all7); unfold execOp; go_simp)⟩) hS0 ?_
  simp only [Act.put, List.getElem_toArray, List.getElem_cons_zero, List.getElem_cons_succ, List.setIfInBounds_toArray, List.set_cons_zero, List.set_cons_succ]
  refine wpAnyH_one (i := 6) (by kernel_rfl) rfl rfl (op_call (args := #[.pointer (some ⟨E.b, 0, none⟩)]) (f := 69) (by unfold execOp; go_simp) ((Hn.typeOf E _ l1 (o) _ r (by exact psA) HQ1.out HR.out).mono ?_))
  rintro e w2 ⟨hg2, ⟨a, k, hb, rfl⟩ | ⟨k2, op2, m2, p2, t2, a2, ks2, A2, c2, l2, rfl, hq2, hk2, hn2, hP2⟩⟩
  · exact And.intro rfl ⟨Gr.trans grA hg2, .inl ⟨_, _, hb, rfl⟩⟩
  have hx2 : Blk w2 w1.heap.size 58 #[.int .i64 x1.1.k, .string (bs x1.1.t), .int .i64 x1.1.n, .int .i64 x1.2] := Blk.call (b := E.b) bkA hg2 (by omega)
  refine And.intro hx2 ?_
  simp only [Act.put, List.getElem_toArray, List.getElem_cons_zero, List.getElem_cons_succ, List.setIfInBounds_toArray, List.set_cons_zero, List.set_cons_succ]
  have hs2 : w1.heap.size + 1 ≤ w2.heap.size := by have := hg2.size; simpa using this
  have hk2' : Kid w2 (w1.heap.size + 1) (.slice A2 ks2.length c2) ks2 := Kid.mono hk2 (by simp)
  have hz2 : Blk w2 w.heap.size 28 #[.int .i64 0, .int .i64 0, .int .i64 0, .string ⟨#[]⟩, .string ⟨#[]⟩, .int .i64 0, .slice none 0 0] := Blk.call (b := E.b) bkA hg2 (by omega)
  have hG2 : Gr (· = E.b) w w2 := Gr.trans grA hg2
  have hlit := Kid.lit1 (k := k2) (op := op2) (m := m2) (p := p2) (t := t2) (a := a2) hk2' hs2
  refine wpAnyH_one (i := 7) (by kernel_rfl) rfl rfl (op_val (x_one _ _ _ _ _ _ _ _ _ _ _ _ _ A2 ks2.length c2 rfl) (And.intro bkA ?_))
  simp only [Act.put, List.getElem_toArray, List.getElem_cons_zero, List.getElem_cons_succ, List.setIfInBounds_toArray, List.set_cons_zero, List.set_cons_succ]
  refine wpAnyH_one (i := 8) (by kernel_rfl) rfl rfl (op_same (.agg #[.int .i64 kk, .int .i64 0, .int .i64 0, .string ⟨#[]⟩, .string (bs x1.1.t), .int .i64 x1.2, .slice (some ⟨w2.heap.size, 0, none⟩) 1 1]) (by unfold execOp; go_simp) (And.intro bkA ?_))
  simp only [Act.put, List.getElem_toArray, List.getElem_cons_zero, List.getElem_cons_succ, List.setIfInBounds_toArray, List.set_cons_zero, List.set_cons_succ]
  refine wpAnyH_one (i := 9) (by kernel_rfl) rfl rfl (op_box _ _ kk 0 0 [] x1.1.t x1.2 1 1 _ rfl rfl (Blk.alloc hz2 _) fun w3 hz3 hg3 => And.intro (Blk.gr bkA hg3 (by omega)) ?_)
  refine wpAnyH_done (by kernel_rfl) ?_ _
  simp only [Act.put, List.getElem_toArray, List.getElem_cons_zero, List.getElem_cons_succ, List.setIfInBounds_toArray, List.set_cons_zero, List.set_cons_succ]
  go_wp2
  exact ret7 Tryz.results54 rfl rfl hz3 ⟨hg3.one (hG2.alloc _) (Nat.le_refl _), .inr ⟨kk, 0, 0, [], x1.1.t, x1.2, [.mk k2 op2 m2 p2 t2 a2 ks2], _, 1, l2, rfl, hq2, Kid.mono (hlit.one hg3 (by omega)) (by omega), by simp [LIM], (hP2.alloc _).one hg3 (by omega) (by omega)⟩⟩
end Go.Proofs.YtihnnbeepfgphaaGreatDoor

/-! ## PF4: Loops, ends of functions: walks. -/
namespace Go.Proofs.YtihnnbeepfgphaaGreatDoor
open Go.RowKit
set_option linter.unusedVariables false
set_option linter.unusedSimpArgs false
attribute [local go_sem ↓] tok_f0 tok_f1 tok_f2 tok_f3

set_option maxRecDepth 100000 in
set_option maxHeartbeats 4000000 in
theorem giveBack_step (n : Nat) (hn : n ≤ LIM) (H : ∀ m, m ≤ n → AllN m) : C0 (n + 1) 85 .giveBack := by
  intro E w l o g r hP hq hr
  simp only [go, bnd_want, bnd_takeR, bnd_ite, bnd_bnd, bnd_ok] at hq
  have hlt := hP.lt
  have hgt := hP.toks.lt
  have hne := hP.ne
  have HR := Lib.hid hr
  have Hn := H n (Nat.le_refl _)
  clear hr
  have HQ0 := Lib.hid hq
  clear hq
  go_enter Tryz.func85, Tryz.ntmps85
  go_wp2_with (first
    | (go_at_call 24; refine (want_any E _ l (o) [114, 101, 116, 117, 114, 110] _ _ _ psA rfl (by simp) HQ0.out).mono ?_; rintro e w1 ⟨hg1, ⟨a, k, hb, rfl⟩ | ⟨x1, l1, rfl, hq1, hP1⟩⟩; exact And.intro rfl ⟨Gr.trans grA hg1, .inl ⟨_, _, hb, rfl⟩⟩; have hG1 : Gr (· = E.b) w w1 := Gr.trans grA hg1; have HQ1 := Lib.hid hq1; clear hq1; have hbl1 := hP1.lt; have hgl1 := hP1.toks.lt; have hs1 : w.heap.size + 1 ≤ w1.heap.size := (by have := hg1.size; simpa using this); have hb_z1 : Blk w1 (w.heap.size) 28 #[.int .i64 0, .int .i64 0, .int .i64 0, .string ⟨#[]⟩, .string ⟨#[]⟩, .int .i64 0, .slice none 0 0] := Blk.call (b := E.b) bkA hg1 (by omega); have hl_z1 := hb_z1.lt))
  by_cases hm : mark l1 = [59]
  · have HQ1x := HQ1.out
    rw [if_pos hm] at HQ1x
    obtain ⟨y, t, hly⟩ := hP1.cons
    have HQ1 : Hid (want [59] l1 (fun _ q => g (nd 25 x1.2 []) q) = r) := Lib.hid (by rw [← HQ1x, want, if_pos hm])
    have HM := Lib.hid hm
    clear HQ1x hm hly
    go_wp2_with (first
      | (go_at_call 38; refine (mark_any E _ l1 (o) psA).mono ?_; rw [HM.out, show bs [59] = ⟨#[59]⟩ from rfl]; rintro e w2 ⟨rfl, hg2⟩; have hP2 : PS E w2 l1 (o) := PS.below psA hg2; have hG2 : Gr (· = E.b) w w2 := Gr.trans grA (Gr.of_below hg2); have hbl2 := hP2.lt; have hgl2 := hP2.toks.lt; have hs2 : w1.heap.size + 1 ≤ w2.heap.size := (by have := hg2.size; simpa using this); have hb_z2 : Blk w2 (w.heap.size) 28 #[.int .i64 0, .int .i64 0, .int .i64 0, .string ⟨#[]⟩, .string ⟨#[]⟩, .int .i64 0, .slice none 0 0] := Blk.bel bkA hg2; have hl_z2 := hb_z2.lt; have hb_n2 : Blk w2 (w1.heap.size) 28 #[.int .i64 25, .int .i64 0, .int .i64 0, .string ⟨#[]⟩, .string ⟨#[]⟩, .int .i64 x1.2, .slice none 0 0] := Blk.bel bkA hg2; have hl_n2 := hb_n2.lt; have hk_n2 : KidX w2 (w1.heap.size + 1) (w1.heap.size) (.slice none 0 0) ([] : List Tr) := KidX.bel kxA hg2)
      | (go_at_call 24; refine (want_any E _ l1 (o) [59] _ _ _ psA rfl (by simp) HQ1.out).mono ?_; rintro e w3 ⟨hg3, ⟨a, k, hb, rfl⟩ | ⟨x3, l3, rfl, hq3, hP3⟩⟩; exact And.intro rfl ⟨Gr.trans grA hg3, .inl ⟨_, _, hb, rfl⟩⟩; have hG3 : Gr (· = E.b) w w3 := Gr.trans grA hg3; have HQ3 := Lib.hid hq3; clear hq3; have hbl3 := hP3.lt; have hgl3 := hP3.toks.lt; have hs3 : w2.heap.size + 0 ≤ w3.heap.size := (by have := hg3.size; simpa using this); have hb_z3 : Blk w3 (w.heap.size) 28 #[.int .i64 0, .int .i64 0, .int .i64 0, .string ⟨#[]⟩, .string ⟨#[]⟩, .int .i64 0, .slice none 0 0] := Blk.call (b := E.b) bkA hg3 (by omega); have hl_z3 := hb_z3.lt; obtain ⟨_, z3_0, z3_1, z3_2, z3_3, z3_4, z3_5, z3_6, z3_f⟩ := hb_z3.all7; have hb_n3 : Blk w3 (w1.heap.size) 28 #[.int .i64 25, .int .i64 0, .int .i64 0, .string ⟨#[]⟩, .string ⟨#[]⟩, .int .i64 x1.2, .slice none 0 0] := Blk.call (b := E.b) bkA hg3 (by omega); have hl_n3 := hb_n3.lt; obtain ⟨_, n3_0, n3_1, n3_2, n3_3, n3_4, n3_5, n3_6, n3_f⟩ := hb_n3.all7; have hk_n3 : KidX w3 (w1.heap.size + 1) (w1.heap.size) (.slice none 0 0) ([] : List Tr) := KidX.call (b := E.b) kxA hg3 (by omega)))
    exact ret7 Tryz.results85 rfl rfl b7A ⟨grA, .inr ⟨25, 0, 0, [], [], x1.2, [], none, 0, l3, rfl, HQ3.out, Kid.mono (lo := w1.heap.size + 1) (v := .slice none 0 0) (ks := ([] : List Tr)) (KidX.kid (h := w1.heap.size) kxA) (by omega), (by simp [LIM]), psA⟩⟩
  · have HQ1x := HQ1.out
    rw [if_neg hm] at HQ1x
    have HQ1 := Lib.hid HQ1x
    have hmn := bs_beq3 hm
    clear HQ1x hm
    go_wp2_with (first
      | (go_at_call 38; refine (mark_any E _ l1 (o) psA).mono ?_; rintro e w2 ⟨rfl, hg2⟩; have hP2 : PS E w2 l1 (o) := PS.below psA hg2; have hG2 : Gr (· = E.b) w w2 := Gr.trans grA (Gr.of_below hg2); have hbl2 := hP2.lt; have hgl2 := hP2.toks.lt; have hs2 : w1.heap.size + 1 ≤ w2.heap.size := (by have := hg2.size; simpa using this); have hb_z2 : Blk w2 (w.heap.size) 28 #[.int .i64 0, .int .i64 0, .int .i64 0, .string ⟨#[]⟩, .string ⟨#[]⟩, .int .i64 0, .slice none 0 0] := Blk.bel bkA hg2; have hl_z2 := hb_z2.lt; have hb_n2 : Blk w2 (w1.heap.size) 28 #[.int .i64 25, .int .i64 0, .int .i64 0, .string ⟨#[]⟩, .string ⟨#[]⟩, .int .i64 x1.2, .slice none 0 0] := Blk.bel bkA hg2; have hl_n2 := hb_n2.lt; have hk_n2 : KidX w2 (w1.heap.size + 1) (w1.heap.size) (.slice none 0 0) ([] : List Tr) := KidX.bel kxA hg2))
    obtain ⟨_, n2_0, n2_1, n2_2, n2_3, n2_4, n2_5, n2_6, n2_f⟩ := hb_n2.all7
    refine region_A E.b (w1.heap.size + 1) (w1.heap.size) 27 (.slice none 0 0) ([] : List Tr) 55 #[.pointer (some ⟨E.b, 0, none⟩)] _ _ rfl (by kernel_rfl) rfl (by kernel_rfl) (by kernel_rfl) (by kernel_rfl) (by decide) (by kernel_rfl) (by kernel_rfl) (by kernel_rfl) (by kernel_rfl) (by kernel_rfl) (by kernel_rfl) (by kernel_rfl) (by kernel_rfl)
      (fun a w h => by simp [Act.eval] at h; unfold execOp; go_simp) rfl rfl hk_n2 n2_6 (n2_f 6) (by omega) (by omega) (by omega) (by omega) (by simp [LIM]) (calm_TellD E _ (o) _ r (by omega) (by omega)) (calm_TellD E _ (o) _ r (by omega) (by omega)) ((Hn.expr E _ l1 (o) _ r hP2.drew HQ1.out HR.out).mono fun e w' h => tells h) ?_ ?_
    · rintro a w' c had ⟨at_, k, hb, rfl⟩ hg
      exact And.intro had ⟨hG2.trans hg, .inl ⟨_, _, hb, rfl⟩⟩
    rintro vals w' A3 c3 t3 ⟨l3, hq3, hPx⟩ hKx hgx hgy hgo
    obtain ⟨w3, hW⟩ : ∃ W, W = w'.setCell ⟨w1.heap.size, 6, none⟩ (.slice A3 (([] : List Tr).length + 1) c3) := ⟨_, rfl⟩
    have hP3 : PS E w3 l3 (o) := by rw [hW]; exact psA
    have hsx := hgx.size
    have hG3 : Gr (· = E.b) w w3 := by rw [hW]; exact Gr.setCell (wide_b hG2 hgx (by omega)) (.inl (by first | (simp; done) | (simp; omega))) _
    have hb_z3 : Blk w3 (w.heap.size) 28 #[.int .i64 0, .int .i64 0, .int .i64 0, .string ⟨#[]⟩, .string ⟨#[]⟩, .int .i64 0, .slice none 0 0] := by rw [hW]; exact Blk.far (Blk.wr hb_z2 hgx (by omega) (.inl (by omega))) (by first | (simp; done) | (simp; omega)) _
    have hl_z3 := hb_z3.lt
    have hb_n3 : Blk w3 (w1.heap.size) 28 #[.int .i64 25, .int .i64 0, .int .i64 0, .string ⟨#[]⟩, .string ⟨#[]⟩, .int .i64 x1.2, .slice A3 (([] : List Tr).length + 1) c3] := by rw [hW]; exact Blk.set6 (Blk.wr hb_n2 hgx (by omega) (.inr rfl)) _
    have hl_n3 := hb_n3.lt
    have hk_n3 : KidX w3 (w1.heap.size + 1) (w1.heap.size) (.slice A3 (([] : List Tr).length + 1) c3) (([] : List Tr) ++ [t3]) := by rw [hW]; exact hKx.setCell (.inr rfl) _
    rw [← hW]
    have hbl3 := hP3.lt
    have hgl3 := hP3.toks.lt
    have hs3 : w2.heap.size ≤ w3.heap.size := by rw [hW]; simpa using hsx
    clear hW hPx hKx hgx hgy hgo hsx
    have HQ3 := Lib.hid hq3
    clear hq3
    go_wp2_with (first
      | (go_at_call 24; refine (want_any E _ l3 (o) [59] _ _ _ psA rfl (by simp) HQ3.out).mono ?_; rintro e w4 ⟨hg4, ⟨a, k, hb, rfl⟩ | ⟨x4, l4, rfl, hq4, hP4⟩⟩; exact And.intro rfl ⟨Gr.trans grA hg4, .inl ⟨_, _, hb, rfl⟩⟩; have hG4 : Gr (· = E.b) w w4 := Gr.trans grA hg4; have HQ4 := Lib.hid hq4; clear hq4; have hbl4 := hP4.lt; have hgl4 := hP4.toks.lt; have hs4 : w3.heap.size + 0 ≤ w4.heap.size := (by have := hg4.size; simpa using this); have hb_z4 : Blk w4 (w.heap.size) 28 #[.int .i64 0, .int .i64 0, .int .i64 0, .string ⟨#[]⟩, .string ⟨#[]⟩, .int .i64 0, .slice none 0 0] := Blk.call (b := E.b) bkA hg4 (by omega); have hl_z4 := hb_z4.lt; obtain ⟨_, z4_0, z4_1, z4_2, z4_3, z4_4, z4_5, z4_6, z4_f⟩ := hb_z4.all7; have hb_n4 : Blk w4 (w1.heap.size) 28 #[.int .i64 25, .int .i64 0, .int .i64 0, .string ⟨#[]⟩, .string ⟨#[]⟩, .int .i64 x1.2, .slice A3 (([] : List Tr).length + 1) c3] := Blk.call (b := E.b) bkA hg4 (by omega); have hl_n4 := hb_n4.lt; obtain ⟨_, n4_0, n4_1, n4_2, n4_3, n4_4, n4_5, n4_6, n4_f⟩ := hb_n4.all7; have hk_n4 : KidX w4 (w1.heap.size + 1) (w1.heap.size) (.slice A3 (([] : List Tr).length + 1) c3) (([] : List Tr) ++ [t3]) := KidX.call (b := E.b) kxA hg4 (by omega)))
    exact ret7 Tryz.results85 rfl rfl b7A ⟨grA, .inr ⟨25, 0, 0, [], [], x1.2, (([] : List Tr) ++ [t3]), A3, c3, l4, rfl, HQ4.out, Kid.mono (lo := w1.heap.size + 1) (v := .slice A3 (([] : List Tr).length + 1) c3) (ks := (([] : List Tr) ++ [t3])) (KidX.kid (h := w1.heap.size) kxA) (by omega), (by simp [LIM]), psA⟩⟩
end Go.Proofs.YtihnnbeepfgphaaGreatDoor

/-! ## PF5: Loops, branches, variables: walks. -/
namespace Go.Proofs.YtihnnbeepfgphaaGreatDoor
open Go.RowKit
set_option linter.unusedVariables false
set_option linter.unusedSimpArgs false
attribute [local go_sem ↓] tok_f0 tok_f1 tok_f2 tok_f3

set_option maxRecDepth 100000 in
set_option maxHeartbeats 4000000 in
theorem loop_step (n : Nat) (hn : n ≤ LIM) (H : ∀ m, m ≤ n → AllN m) : C0 (n + 1) 83 .loop := by
  intro E w l o g r hP hq hr
  simp only [go, bnd_want, bnd_ite, bnd_bnd, bnd_ok] at hq
  have hlt := hP.lt
  have hgt := hP.toks.lt
  have hne := hP.ne
  have HR := Lib.hid hr
  have Hn := H n (Nat.le_refl _)
  clear hr
  have HQ0 := Lib.hid hq
  clear hq
  go_enter Tryz.func83, Tryz.ntmps83
  go_wp2_with (first
    | (go_at_call 24; refine (want_any E _ l (o) [102, 111, 114] _ _ _ psA rfl (by simp) HQ0.out).mono ?_; rintro e w1 ⟨hg1, ⟨a, k, hb, rfl⟩ | ⟨x1, l1, rfl, hq1, hP1⟩⟩; exact And.intro rfl ⟨Gr.trans grA hg1, .inl ⟨_, _, hb, rfl⟩⟩; have hG1 : Gr (· = E.b) w w1 := Gr.trans grA hg1; have HQ1 := Lib.hid hq1; clear hq1; have hbl1 := hP1.lt; have hgl1 := hP1.toks.lt; have hs1 : w.heap.size + 1 ≤ w1.heap.size := (by have := hg1.size; simpa using this); have hb_z1 : Blk w1 (w.heap.size) 28 #[.int .i64 0, .int .i64 0, .int .i64 0, .string ⟨#[]⟩, .string ⟨#[]⟩, .int .i64 0, .slice none 0 0] := Blk.call (b := E.b) bkA hg1 (by omega); have hl_z1 := hb_z1.lt))
  by_cases hm : mark l1 = [123]
  · skip
    have HQx := HQ1.out
    rw [if_pos hm] at HQx
    have HM := Lib.hid hm
    clear HQ1 hm
    have HQ1 := Lib.hid HQx
    clear HQx
    go_wp2_with (first
      | (go_at_call 38; refine (mark_any E _ l1 (o) psA).mono ?_; rw [HM.out, show bs [123] = ⟨#[123]⟩ from rfl]; rintro e w2 ⟨rfl, hg2⟩; have hP2 : PS E w2 l1 (o) := PS.below psA hg2; have hG2 : Gr (· = E.b) w w2 := Gr.trans grA (Gr.of_below hg2); have hbl2 := hP2.lt; have hgl2 := hP2.toks.lt; have hs2 : w1.heap.size + 1 ≤ w2.heap.size := (by have := hg2.size; simpa using this); have hb_z2 : Blk w2 (w.heap.size) 28 #[.int .i64 0, .int .i64 0, .int .i64 0, .string ⟨#[]⟩, .string ⟨#[]⟩, .int .i64 0, .slice none 0 0] := Blk.bel bkA hg2; have hl_z2 := hb_z2.lt; have hb_n2 : Blk w2 (w1.heap.size) 28 #[.int .i64 22, .int .i64 0, .int .i64 0, .string ⟨#[]⟩, .string ⟨#[]⟩, .int .i64 x1.2, .slice none 0 0] := Blk.bel bkA hg2; have hl_n2 := hb_n2.lt; have hk_n2 : KidX w2 (w1.heap.size + 1) (w1.heap.size) (.slice none 0 0) ([] : List Tr) := KidX.bel kxA hg2))
    obtain ⟨_, n2_0, n2_1, n2_2, n2_3, n2_4, n2_5, n2_6, n2_f⟩ := hb_n2.all7
    refine region_A E.b (w1.heap.size + 1) (w1.heap.size) 31 (.slice none 0 0) ([] : List Tr) 65 #[.pointer (some ⟨E.b, 0, none⟩)] _ _ rfl (by kernel_rfl) rfl (by kernel_rfl) (by kernel_rfl) (by kernel_rfl) (by decide) (by kernel_rfl) (by kernel_rfl) (by kernel_rfl) (by kernel_rfl) (by kernel_rfl) (by kernel_rfl) (by kernel_rfl) (by kernel_rfl)
      (fun a w h => by simp [Act.eval] at h; unfold execOp; go_simp) rfl rfl hk_n2 n2_6 (n2_f 6) (by omega) (by omega) (by omega) (by omega) (by simp [LIM]) (calm_TellD E _ (o) _ r (by omega) (by omega)) (calm_TellD E _ (o) _ r (by omega) (by omega)) ((Hn.block E _ l1 (o) _ r hP2.drew HQ1.out HR.out).mono fun e w' h => tells h) ?_ ?_
    · rintro a w' c had ⟨at_, k, hb, rfl⟩ hg
      exact And.intro had ⟨hG2.trans hg, .inl ⟨_, _, hb, rfl⟩⟩
    rintro vals w' A3 c3 u3 ⟨l3, hq3, hPx⟩ hKx hgx hgy hgo
    obtain ⟨w3, hW⟩ : ∃ W, W = w'.setCell ⟨w1.heap.size, 6, none⟩ (.slice A3 (([] : List Tr).length + 1) c3) := ⟨_, rfl⟩
    have hP3 : PS E w3 l3 (o) := by rw [hW]; exact psA
    have hsx := hgx.size
    have hG3 : Gr (· = E.b) w w3 := by rw [hW]; exact Gr.setCell (wide_b hG2 hgx (by omega)) (.inl (by first | (simp; done) | (simp; omega))) _
    have hb_z3 : Blk w3 (w.heap.size) 28 #[.int .i64 0, .int .i64 0, .int .i64 0, .string ⟨#[]⟩, .string ⟨#[]⟩, .int .i64 0, .slice none 0 0] := by rw [hW]; exact Blk.far (Blk.wr hb_z2 hgx (by omega) (.inl (by omega))) (by first | (simp; done) | (simp; omega)) _
    have hl_z3 := hb_z3.lt
    have hb_n3 : Blk w3 (w1.heap.size) 28 #[.int .i64 22, .int .i64 0, .int .i64 0, .string ⟨#[]⟩, .string ⟨#[]⟩, .int .i64 x1.2, .slice A3 (([] : List Tr).length + 1) c3] := by rw [hW]; exact Blk.set6 (Blk.wr hb_n2 hgx (by omega) (.inr rfl)) _
    have hl_n3 := hb_n3.lt
    have hk_n3 : KidX w3 (w1.heap.size + 1) (w1.heap.size) (.slice A3 (([] : List Tr).length + 1) c3) (([] : List Tr) ++ [u3]) := by rw [hW]; exact hKx.setCell (.inr rfl) _
    rw [← hW]
    have hbl3 := hP3.lt
    have hgl3 := hP3.toks.lt
    have hs3 : w2.heap.size ≤ w3.heap.size := by rw [hW]; simpa using hsx
    clear hW hPx hKx hgx hgy hgo hsx
    have HQ3 := Lib.hid hq3
    clear hq3
    obtain ⟨_, n3_0, n3_1, n3_2, n3_3, n3_4, n3_5, n3_6, n3_f⟩ := hb_n3.all7
    obtain ⟨_, z3_0, z3_1, z3_2, z3_3, z3_4, z3_5, z3_6, z3_f⟩ := hb_z3.all7
    go_wp2
    exact ret7 Tryz.results83 rfl rfl b7A ⟨grA, .inr ⟨22, 0, 0, [], [], x1.2, (([] : List Tr) ++ [u3]), A3, c3, l3, rfl, HQ3.out, Kid.mono (lo := w1.heap.size + 1) (v := .slice A3 (([] : List Tr).length + 1) c3) (ks := (([] : List Tr) ++ [u3])) (KidX.kid (h := w1.heap.size) kxA) (by omega), (by simp [LIM]), psA⟩⟩
  · skip
    have HQx := HQ1.out
    rw [if_neg hm] at HQx
    have hmn1 := bs_beq3 hm
    have HM := Lib.hid hm
    clear HQ1 hm
    have HQ1 := Lib.hid HQx
    clear HQx
    go_wp2_with (first
      | (go_at_call 38; refine (mark_any E _ l1 (o) psA).mono ?_; rintro e w2 ⟨rfl, hg2⟩; have hP2 : PS E w2 l1 (o) := PS.below psA hg2; have hG2 : Gr (· = E.b) w w2 := Gr.trans grA (Gr.of_below hg2); have hbl2 := hP2.lt; have hgl2 := hP2.toks.lt; have hs2 : w1.heap.size + 1 ≤ w2.heap.size := (by have := hg2.size; simpa using this); have hb_z2 : Blk w2 (w.heap.size) 28 #[.int .i64 0, .int .i64 0, .int .i64 0, .string ⟨#[]⟩, .string ⟨#[]⟩, .int .i64 0, .slice none 0 0] := Blk.bel bkA hg2; have hl_z2 := hb_z2.lt; have hb_n2 : Blk w2 (w1.heap.size) 28 #[.int .i64 22, .int .i64 0, .int .i64 0, .string ⟨#[]⟩, .string ⟨#[]⟩, .int .i64 x1.2, .slice none 0 0] := Blk.bel bkA hg2; have hl_n2 := hb_n2.lt; have hk_n2 : KidX w2 (w1.heap.size + 1) (w1.heap.size) (.slice none 0 0) ([] : List Tr) := KidX.bel kxA hg2))
    obtain ⟨_, n2_0, n2_1, n2_2, n2_3, n2_4, n2_5, n2_6, n2_f⟩ := hb_n2.all7
    refine region_A E.b (w1.heap.size + 1) (w1.heap.size) 31 (.slice none 0 0) ([] : List Tr) 55 #[.pointer (some ⟨E.b, 0, none⟩)] _ _ rfl (by kernel_rfl) rfl (by kernel_rfl) (by kernel_rfl) (by kernel_rfl) (by decide) (by kernel_rfl) (by kernel_rfl) (by kernel_rfl) (by kernel_rfl) (by kernel_rfl) (by kernel_rfl) (by kernel_rfl) (by kernel_rfl)
      (fun a w h => by simp [Act.eval] at h; unfold execOp; go_simp) rfl rfl hk_n2 n2_6 (n2_f 6) (by omega) (by omega) (by omega) (by omega) (by simp [LIM]) (calm_TellD E _ (o) _ r (by omega) (by omega)) (calm_TellD E _ (o) _ r (by omega) (by omega)) ((Hn.expr E _ l1 (o) _ r hP2.drew HQ1.out HR.out).mono fun e w' h => tells h) ?_ ?_
    · rintro a w' c had ⟨at_, k, hb, rfl⟩ hg
      exact And.intro had ⟨hG2.trans hg, .inl ⟨_, _, hb, rfl⟩⟩
    rintro vals w' A3 c3 u3 ⟨l3, hq3, hPx⟩ hKx hgx hgy hgo
    obtain ⟨w3, hW⟩ : ∃ W, W = w'.setCell ⟨w1.heap.size, 6, none⟩ (.slice A3 (([] : List Tr).length + 1) c3) := ⟨_, rfl⟩
    have hP3 : PS E w3 l3 (o) := by rw [hW]; exact psA
    have hsx := hgx.size
    have hG3 : Gr (· = E.b) w w3 := by rw [hW]; exact Gr.setCell (wide_b hG2 hgx (by omega)) (.inl (by first | (simp; done) | (simp; omega))) _
    have hb_z3 : Blk w3 (w.heap.size) 28 #[.int .i64 0, .int .i64 0, .int .i64 0, .string ⟨#[]⟩, .string ⟨#[]⟩, .int .i64 0, .slice none 0 0] := by rw [hW]; exact Blk.far (Blk.wr hb_z2 hgx (by omega) (.inl (by omega))) (by first | (simp; done) | (simp; omega)) _
    have hl_z3 := hb_z3.lt
    have hb_n3 : Blk w3 (w1.heap.size) 28 #[.int .i64 22, .int .i64 0, .int .i64 0, .string ⟨#[]⟩, .string ⟨#[]⟩, .int .i64 x1.2, .slice A3 (([] : List Tr).length + 1) c3] := by rw [hW]; exact Blk.set6 (Blk.wr hb_n2 hgx (by omega) (.inr rfl)) _
    have hl_n3 := hb_n3.lt
    have hk_n3 : KidX w3 (w1.heap.size + 1) (w1.heap.size) (.slice A3 (([] : List Tr).length + 1) c3) (([] : List Tr) ++ [u3]) := by rw [hW]; exact hKx.setCell (.inr rfl) _
    rw [← hW]
    have hbl3 := hP3.lt
    have hgl3 := hP3.toks.lt
    have hs3 : w2.heap.size ≤ w3.heap.size := by rw [hW]; simpa using hsx
    clear hW hPx hKx hgx hgy hgo hsx
    have HQ3 := Lib.hid hq3
    clear hq3
    obtain ⟨_, n3_0, n3_1, n3_2, n3_3, n3_4, n3_5, n3_6, n3_f⟩ := hb_n3.all7
    go_wp2
    obtain ⟨w4, hW⟩ : ∃ W, W = w3.setCell ⟨w1.heap.size, 2, none⟩ (.int .i64 1) := ⟨_, rfl⟩
    have hP4 : PS E w4 l3 (o) := by rw [hW]; exact psA
    have hG4 : Gr (· = E.b) w w4 := by rw [hW]; exact grA
    have hb_z4 : Blk w4 (w.heap.size) 28 #[.int .i64 0, .int .i64 0, .int .i64 0, .string ⟨#[]⟩, .string ⟨#[]⟩, .int .i64 0, .slice none 0 0] := by rw [hW]; exact bkA
    have hl_z4 := hb_z4.lt
    have hb_n4 : Blk w4 (w1.heap.size) 28 #[.int .i64 22, .int .i64 0, .int .i64 1, .string ⟨#[]⟩, .string ⟨#[]⟩, .int .i64 x1.2, .slice A3 (([] : List Tr).length + 1) c3] := by rw [hW]; exact bkA
    have hl_n4 := hb_n4.lt
    have hk_n4 : KidX w4 (w1.heap.size + 1) (w1.heap.size) (.slice A3 (([] : List Tr).length + 1) c3) (([] : List Tr) ++ [u3]) := by rw [hW]; exact kxA
    have hs4 : w3.heap.size ≤ w4.heap.size := by rw [hW]; simp
    rw [← hW]
    have hbl4 := hP4.lt
    have hgl4 := hP4.toks.lt
    clear hW
    obtain ⟨_, n4_0, n4_1, n4_2, n4_3, n4_4, n4_5, n4_6, n4_f⟩ := hb_n4.all7
    refine region_A E.b (w1.heap.size + 1) (w1.heap.size) 31 (.slice A3 (([] : List Tr).length + 1) c3) (([] : List Tr) ++ [u3]) 65 #[.pointer (some ⟨E.b, 0, none⟩)] _ _ rfl (by kernel_rfl) rfl (by kernel_rfl) (by kernel_rfl) (by kernel_rfl) (by decide) (by kernel_rfl) (by kernel_rfl) (by kernel_rfl) (by kernel_rfl) (by kernel_rfl) (by kernel_rfl) (by kernel_rfl) (by kernel_rfl)
      (fun a w h => by simp [Act.eval] at h; unfold execOp; go_simp) rfl rfl hk_n4 n4_6 (n4_f 6) (by omega) (by omega) (by omega) (by omega) (by simp [LIM]) (calm_TellD E _ (o) _ r (by omega) (by omega)) (calm_TellD E _ (o) _ r (by omega) (by omega)) ((Hn.block E _ l3 (o) _ r hP4.drew HQ3.out HR.out).mono fun e w' h => tells h) ?_ ?_
    · rintro a w' c had ⟨at_, k, hb, rfl⟩ hg
      exact And.intro had ⟨hG4.trans hg, .inl ⟨_, _, hb, rfl⟩⟩
    rintro vals w' A5 c5 u5 ⟨l5, hq5, hPx⟩ hKx hgx hgy hgo
    obtain ⟨w5, hW⟩ : ∃ W, W = w'.setCell ⟨w1.heap.size, 6, none⟩ (.slice A5 ((([] : List Tr) ++ [u3]).length + 1) c5) := ⟨_, rfl⟩
    have hP5 : PS E w5 l5 (o) := by rw [hW]; exact psA
    have hsx := hgx.size
    have hG5 : Gr (· = E.b) w w5 := by rw [hW]; exact Gr.setCell (wide_b hG4 hgx (by omega)) (.inl (by first | (simp; done) | (simp; omega))) _
    have hb_z5 : Blk w5 (w.heap.size) 28 #[.int .i64 0, .int .i64 0, .int .i64 0, .string ⟨#[]⟩, .string ⟨#[]⟩, .int .i64 0, .slice none 0 0] := by rw [hW]; exact Blk.far (Blk.wr hb_z4 hgx (by omega) (.inl (by omega))) (by first | (simp; done) | (simp; omega)) _
    have hl_z5 := hb_z5.lt
    have hb_n5 : Blk w5 (w1.heap.size) 28 #[.int .i64 22, .int .i64 0, .int .i64 1, .string ⟨#[]⟩, .string ⟨#[]⟩, .int .i64 x1.2, .slice A5 ((([] : List Tr) ++ [u3]).length + 1) c5] := by rw [hW]; exact Blk.set6 (Blk.wr hb_n4 hgx (by omega) (.inr rfl)) _
    have hl_n5 := hb_n5.lt
    have hk_n5 : KidX w5 (w1.heap.size + 1) (w1.heap.size) (.slice A5 ((([] : List Tr) ++ [u3]).length + 1) c5) ((([] : List Tr) ++ [u3]) ++ [u5]) := by rw [hW]; exact hKx.setCell (.inr rfl) _
    rw [← hW]
    have hbl5 := hP5.lt
    have hgl5 := hP5.toks.lt
    have hs5 : w4.heap.size ≤ w5.heap.size := by rw [hW]; simpa using hsx
    clear hW hPx hKx hgx hgy hgo hsx
    have HQ5 := Lib.hid hq5
    clear hq5
    obtain ⟨_, n5_0, n5_1, n5_2, n5_3, n5_4, n5_5, n5_6, n5_f⟩ := hb_n5.all7
    obtain ⟨_, z5_0, z5_1, z5_2, z5_3, z5_4, z5_5, z5_6, z5_f⟩ := hb_z5.all7
    go_wp2
    exact ret7 Tryz.results83 rfl rfl b7A ⟨grA, .inr ⟨22, 0, 1, [], [], x1.2, ((([] : List Tr) ++ [u3]) ++ [u5]), A5, c5, l5, rfl, HQ5.out, Kid.mono (lo := w1.heap.size + 1) (v := .slice A5 ((([] : List Tr) ++ [u3]).length + 1) c5) (ks := ((([] : List Tr) ++ [u3]) ++ [u5])) (KidX.kid (h := w1.heap.size) kxA) (by omega), (by simp [LIM]), psA⟩⟩
end Go.Proofs.YtihnnbeepfgphaaGreatDoor

/-! ## PF6: Branches: walks. -/
namespace Go.Proofs.YtihnnbeepfgphaaGreatDoor
open Go.RowKit
set_option linter.unusedVariables false
set_option linter.unusedSimpArgs false
attribute [local go_sem ↓] tok_f0 tok_f1 tok_f2 tok_f3

set_option maxRecDepth 100000 in
set_option maxHeartbeats 4000000 in
theorem branch_step (n : Nat) (hn : n ≤ LIM) (H : ∀ m, m ≤ n → AllN m) : C0 (n + 1) 82 .branch := by
  intro E w l o g r hP hq hr
  simp only [go, bnd_want, bnd_takeR, bnd_ite, bnd_bnd, bnd_ok] at hq
  have hlt := hP.lt
  have hgt := hP.toks.lt
  have hne := hP.ne
  have HR := Lib.hid hr
  have Hn := H n (Nat.le_refl _)
  clear hr
  have HQ0 := Lib.hid hq
  clear hq
  go_enter Tryz.func82, Tryz.ntmps82
  go_wp2_with (first
    | (go_at_call 24; refine (want_any E _ l (o) [105, 102] _ _ _ psA rfl (by simp) HQ0.out).mono ?_; rintro e w1 ⟨hg1, ⟨a, k, hb, rfl⟩ | ⟨x1, l1, rfl, hq1, hP1⟩⟩; exact And.intro rfl ⟨Gr.trans grA hg1, .inl ⟨_, _, hb, rfl⟩⟩; have hG1 : Gr (· = E.b) w w1 := Gr.trans grA hg1; have HQ1 := Lib.hid hq1; clear hq1; have hbl1 := hP1.lt; have hgl1 := hP1.toks.lt; have hs1 : w.heap.size + 1 ≤ w1.heap.size := (by have := hg1.size; simpa using this); have hb_z1 : Blk w1 (w.heap.size) 28 #[.int .i64 0, .int .i64 0, .int .i64 0, .string ⟨#[]⟩, .string ⟨#[]⟩, .int .i64 0, .slice none 0 0] := Blk.call (b := E.b) bkA hg1 (by omega); have hl_z1 := hb_z1.lt)
    | (go_at_call 55; refine (Hn.expr E _ l1 (o) _ r psA HQ1.out HR.out).mono ?_; rintro e w2 ⟨hg2, ⟨a, k, hb, rfl⟩ | ⟨k2, op2, m2, p2, t2, a2, ks2, A2, c2, l2, rfl, hq2, hk_22, hn2, hP2⟩⟩; exact And.intro rfl ⟨Gr.trans grA hg2, .inl ⟨_, _, hb, rfl⟩⟩; have hG2 : Gr (· = E.b) w w2 := Gr.trans grA hg2; have HQ2 := Lib.hid hq2; clear hq2; have hbl2 := hP2.lt; have hgl2 := hP2.toks.lt; have hs2 : w1.heap.size + 0 ≤ w2.heap.size := (by have := hg2.size; simpa using this); have hb_z2 : Blk w2 (w.heap.size) 28 #[.int .i64 0, .int .i64 0, .int .i64 0, .string ⟨#[]⟩, .string ⟨#[]⟩, .int .i64 0, .slice none 0 0] := Blk.call (b := E.b) bkA hg2 (by omega); have hl_z2 := hb_z2.lt; have hk_22 := Kid.mono (lo' := w1.heap.size + 0) hk_22 (by simp))
    | (go_at_call 65; refine (Hn.block E _ l2 (o) _ r psA HQ2.out HR.out).mono ?_; rintro e w3 ⟨hg3, ⟨a, k, hb, rfl⟩ | ⟨k3, op3, m3, p3, t3, a3, ks3, A3, c3, l3, rfl, hq3, hk_33, hn3, hP3⟩⟩; exact And.intro rfl ⟨Gr.trans grA hg3, .inl ⟨_, _, hb, rfl⟩⟩; have hG3 : Gr (· = E.b) w w3 := Gr.trans grA hg3; have HQ3 := Lib.hid hq3; clear hq3; have hbl3 := hP3.lt; have hgl3 := hP3.toks.lt; have hs3 : w2.heap.size + 0 ≤ w3.heap.size := (by have := hg3.size; simpa using this); have hb_z3 : Blk w3 (w.heap.size) 28 #[.int .i64 0, .int .i64 0, .int .i64 0, .string ⟨#[]⟩, .string ⟨#[]⟩, .int .i64 0, .slice none 0 0] := Blk.call (b := E.b) bkA hg3 (by omega); have hl_z3 := hb_z3.lt; have hk_23 : Kid w3 (w1.heap.size + 0) (.slice A2 ks2.length c2) ks2 := Kid.call (b := E.b) kdA hg3 (by omega); have hk_33 := Kid.mono (lo' := w2.heap.size + 0) hk_33 (by simp); have hlit := Kid.lit2 (lo := w1.heap.size) (k := k2) (op := op2) (m := m2) (p := p2) (t := t2) (a := a2) (k' := k3) (op' := op3) (m' := m3) (p' := p3) (t' := t3) (a' := a3) (Kid.mono hk_23 (by omega)) (Kid.mono hk_33 (by omega)) (by omega)))
  by_cases hm : mark l3 = [101, 108, 115, 101]
  · skip
    have HQx := HQ3.out
    rw [if_pos hm] at HQx
    have HM := Lib.hid hm
    clear HQ3 hm
    have HQ3 := Lib.hid HQx
    clear HQx
    go_wp2_with (first
      | (go_at_call 26; refine (skip_yes E _ l3 (o) [101, 108, 115, 101] _ psA rfl (by simp) HM.out).mono ?_; rintro e w4 ⟨rfl, hg4, xs, l4, hll4, hP4⟩; have hG4 : Gr (· = E.b) w w4 := Gr.trans grA hg4; have hq4 := HQ3.out; rw [hll4, takeR_cons] at hq4; have HQ4 := Lib.hid hq4; clear hq4 hll4; have hbl4 := hP4.lt; have hgl4 := hP4.toks.lt; have hs4 : w3.heap.size + 2 ≤ w4.heap.size := (by have := hg4.size; simpa using this); have hb_z4 : Blk w4 (w.heap.size) 28 #[.int .i64 0, .int .i64 0, .int .i64 0, .string ⟨#[]⟩, .string ⟨#[]⟩, .int .i64 0, .slice none 0 0] := Blk.call (b := E.b) bkA hg4 (by omega); have hl_z4 := hb_z4.lt; have hb_n4 : Blk w4 (w3.heap.size + 1) 28 #[.int .i64 21, .int .i64 0, .int .i64 0, .string ⟨#[]⟩, .string ⟨#[]⟩, .int .i64 x1.2, .slice (some ⟨w3.heap.size, 0, none⟩) 2 2] := Blk.call (b := E.b) bkA hg4 (by omega); have hl_n4 := hb_n4.lt; have hk_n4 : KidX w4 (w1.heap.size) (w3.heap.size + 1) (.slice (some ⟨w3.heap.size, 0, none⟩) 2 2) [Tr.mk k2 op2 m2 p2 t2 a2 ks2, Tr.mk k3 op3 m3 p3 t3 a3 ks3] := KidX.call (b := E.b) kxA hg4 (by omega)))
    obtain ⟨_, n4_0, n4_1, n4_2, n4_3, n4_4, n4_5, n4_6, n4_f⟩ := hb_n4.all7
    refine region_A E.b (w1.heap.size) (w3.heap.size + 1) 29 (.slice (some ⟨w3.heap.size, 0, none⟩) 2 2) [Tr.mk k2 op2 m2 p2 t2 a2 ks2, Tr.mk k3 op3 m3 p3 t3 a3 ks3] 99 #[.pointer (some ⟨E.b, 0, none⟩)] _ _ rfl (by kernel_rfl) rfl (by kernel_rfl) (by kernel_rfl) (by kernel_rfl) (by decide) (by kernel_rfl) (by kernel_rfl) (by kernel_rfl) (by kernel_rfl) (by kernel_rfl) (by kernel_rfl) (by kernel_rfl) (by kernel_rfl)
      (fun a w h => by simp [Act.eval] at h; unfold execOp; go_simp) rfl rfl hk_n4 n4_6 (n4_f 6) (by omega) (by omega) (by omega) (by omega) (by simp [LIM]) (calm_TellD E _ (o) _ r (by omega) (by omega)) (calm_TellD E _ (o) _ r (by omega) (by omega)) ((Hn.otherwise E _ l4 (o) _ r hP4.drew HQ4.out HR.out).mono fun e w' h => tells h) ?_ ?_
    · rintro a w' c had ⟨at_, k, hb, rfl⟩ hg
      exact And.intro had ⟨hG4.trans hg, .inl ⟨_, _, hb, rfl⟩⟩
    rintro vals w' A5 c5 u5 ⟨l5, hq5, hPx⟩ hKx hgx hgy hgo
    obtain ⟨w5, hW⟩ : ∃ W, W = w'.setCell ⟨w3.heap.size + 1, 6, none⟩ (.slice A5 ([Tr.mk k2 op2 m2 p2 t2 a2 ks2, Tr.mk k3 op3 m3 p3 t3 a3 ks3].length + 1) c5) := ⟨_, rfl⟩
    have hP5 : PS E w5 l5 (o) := by rw [hW]; exact psA
    have hsx := hgx.size
    have hG5 : Gr (· = E.b) w w5 := by rw [hW]; exact Gr.setCell (wide_b hG4 hgx (by omega)) (.inl (by first | (simp; done) | (simp; omega))) _
    have hb_z5 : Blk w5 (w.heap.size) 28 #[.int .i64 0, .int .i64 0, .int .i64 0, .string ⟨#[]⟩, .string ⟨#[]⟩, .int .i64 0, .slice none 0 0] := by rw [hW]; exact Blk.far (Blk.wr hb_z4 hgx (by omega) (.inl (by omega))) (by first | (simp; done) | (simp; omega)) _
    have hl_z5 := hb_z5.lt
    have hb_n5 : Blk w5 (w3.heap.size + 1) 28 #[.int .i64 21, .int .i64 0, .int .i64 0, .string ⟨#[]⟩, .string ⟨#[]⟩, .int .i64 x1.2, .slice A5 ([Tr.mk k2 op2 m2 p2 t2 a2 ks2, Tr.mk k3 op3 m3 p3 t3 a3 ks3].length + 1) c5] := by rw [hW]; exact Blk.set6 (Blk.wr hb_n4 hgx (by omega) (.inr rfl)) _
    have hl_n5 := hb_n5.lt
    have hk_n5 : KidX w5 (w1.heap.size) (w3.heap.size + 1) (.slice A5 ([Tr.mk k2 op2 m2 p2 t2 a2 ks2, Tr.mk k3 op3 m3 p3 t3 a3 ks3].length + 1) c5) ([Tr.mk k2 op2 m2 p2 t2 a2 ks2, Tr.mk k3 op3 m3 p3 t3 a3 ks3] ++ [u5]) := by rw [hW]; exact hKx.setCell (.inr rfl) _
    rw [← hW]
    have hbl5 := hP5.lt
    have hgl5 := hP5.toks.lt
    have hs5 : w4.heap.size ≤ w5.heap.size := by rw [hW]; simpa using hsx
    clear hW hPx hKx hgx hgy hgo hsx
    have HQ5 := Lib.hid hq5
    clear hq5
    obtain ⟨_, n5_0, n5_1, n5_2, n5_3, n5_4, n5_5, n5_6, n5_f⟩ := hb_n5.all7
    obtain ⟨_, z5_0, z5_1, z5_2, z5_3, z5_4, z5_5, z5_6, z5_f⟩ := hb_z5.all7
    go_wp2
    exact ret7 Tryz.results82 rfl rfl b7A ⟨grA, .inr ⟨21, 0, 0, [], [], x1.2, ([Tr.mk k2 op2 m2 p2 t2 a2 ks2, Tr.mk k3 op3 m3 p3 t3 a3 ks3] ++ [u5]), A5, c5, l5, rfl, HQ5.out, Kid.mono (lo := w1.heap.size) (v := .slice A5 ([Tr.mk k2 op2 m2 p2 t2 a2 ks2, Tr.mk k3 op3 m3 p3 t3 a3 ks3].length + 1) c5) (ks := ([Tr.mk k2 op2 m2 p2 t2 a2 ks2, Tr.mk k3 op3 m3 p3 t3 a3 ks3] ++ [u5])) (KidX.kid (h := w3.heap.size + 1) kxA) (by omega), (by simp [LIM]), psA⟩⟩
  · skip
    have HQx := HQ3.out
    rw [if_neg hm] at HQx
    have hmn3 := bs_beq3 hm
    have HM := Lib.hid hm
    clear HQ3 hm
    have HQ3 := Lib.hid HQx
    clear HQx
    go_wp2_with (first
      | (go_at_call 26; refine (skip_no E _ l3 (o) [101, 108, 115, 101] _ psA rfl HM.out).mono ?_; rintro e w4 ⟨rfl, hg4⟩; have hP4 : PS E w4 l3 (o) := PS.below psA hg4; have hG4 : Gr (· = E.b) w w4 := Gr.trans grA (Gr.of_below hg4); have hbl4 := hP4.lt; have hgl4 := hP4.toks.lt; have hs4 : w3.heap.size + 2 ≤ w4.heap.size := (by have := hg4.size; simpa using this); have hb_z4 : Blk w4 (w.heap.size) 28 #[.int .i64 0, .int .i64 0, .int .i64 0, .string ⟨#[]⟩, .string ⟨#[]⟩, .int .i64 0, .slice none 0 0] := Blk.bel bkA hg4; have hl_z4 := hb_z4.lt; obtain ⟨_, z4_0, z4_1, z4_2, z4_3, z4_4, z4_5, z4_6, z4_f⟩ := hb_z4.all7; have hb_n4 : Blk w4 (w3.heap.size + 1) 28 #[.int .i64 21, .int .i64 0, .int .i64 0, .string ⟨#[]⟩, .string ⟨#[]⟩, .int .i64 x1.2, .slice (some ⟨w3.heap.size, 0, none⟩) 2 2] := Blk.bel bkA hg4; have hl_n4 := hb_n4.lt; obtain ⟨_, n4_0, n4_1, n4_2, n4_3, n4_4, n4_5, n4_6, n4_f⟩ := hb_n4.all7; have hk_n4 : KidX w4 (w1.heap.size) (w3.heap.size + 1) (.slice (some ⟨w3.heap.size, 0, none⟩) 2 2) [Tr.mk k2 op2 m2 p2 t2 a2 ks2, Tr.mk k3 op3 m3 p3 t3 a3 ks3] := KidX.bel kxA hg4))
    exact ret7 Tryz.results82 rfl rfl b7A ⟨grA, .inr ⟨21, 0, 0, [], [], x1.2, [Tr.mk k2 op2 m2 p2 t2 a2 ks2, Tr.mk k3 op3 m3 p3 t3 a3 ks3], _, 2, l3, rfl, HQ3.out, Kid.mono (lo := w1.heap.size) (v := .slice (some ⟨w3.heap.size, 0, none⟩) 2 2) (ks := [Tr.mk k2 op2 m2 p2 t2 a2 ks2, Tr.mk k3 op3 m3 p3 t3 a3 ks3]) (KidX.kid (h := w3.heap.size + 1) kxA) (by omega), (by simp [LIM]), psA⟩⟩
end Go.Proofs.YtihnnbeepfgphaaGreatDoor

/-! ## PF7: Variables: walks. -/
namespace Go.Proofs.YtihnnbeepfgphaaGreatDoor
open Go.RowKit
set_option linter.unusedVariables false
set_option linter.unusedSimpArgs false
attribute [local go_sem ↓] tok_f0 tok_f1 tok_f2 tok_f3

theorem named_len {n : Nat} {k : Int} {l l' : List T} {o : Nat} {t : Tr} (h : go n (.named k) l o = .ok t l') : t.kids.length = 1 := by
  cases n with
  | zero => cases h
  | succ n =>
    simp only [go] at h
    unfold wantK at h
    split at h
    · cases l with
      | nil => cases h
      | cons x r =>
        rw [takeR_cons] at h
        cases hg : go n .typeOf r o with
        | ok u q => rw [hg] at h; simp only [bnd_ok] at h; injection h with h1 h2; subst h1; rfl
        | bad a e => rw [hg] at h; cases h
        | out => rw [hg] at h; cases h
    · cases l with
      | nil => cases h
      | cons x r => cases h
set_option maxRecDepth 100000 in
set_option maxHeartbeats 4000000 in
theorem variable_step (n : Nat) (hn : n ≤ LIM) (H : ∀ m, m ≤ n → AllN m) : C0 (n + 1) 43 .variable_ := by
  intro E w l o g r hP hq hr
  simp only [go, bnd_want, bnd_takeR, bnd_ite, bnd_bnd, bnd_ok] at hq
  have hlt := hP.lt
  have hgt := hP.toks.lt
  have hne := hP.ne
  have HR := Lib.hid hr
  have Hn := H n (Nat.le_refl _)
  clear hr
  have HQ0 := Lib.hid hq
  clear hq
  go_enter Tryz.func43, Tryz.ntmps43
  go_wp2_with (first
    | (go_at_call 24; refine (want_any E _ l (o) [118, 97, 114] _ _ _ psA rfl (by simp) HQ0.out).mono ?_; rintro e w1 ⟨hg1, ⟨a, k, hb, rfl⟩ | ⟨x1, l1, rfl, hq1, hP1⟩⟩; exact And.intro rfl ⟨Gr.trans grA hg1, .inl ⟨_, _, hb, rfl⟩⟩; have hG1 : Gr (· = E.b) w w1 := Gr.trans grA hg1; have HQ1 := Lib.hid hq1; clear hq1; have hbl1 := hP1.lt; have hgl1 := hP1.toks.lt; have hs1 : w.heap.size + 1 ≤ w1.heap.size := (by have := hg1.size; simpa using this); have hb_z1 : Blk w1 (w.heap.size) 28 #[.int .i64 0, .int .i64 0, .int .i64 0, .string ⟨#[]⟩, .string ⟨#[]⟩, .int .i64 0, .slice none 0 0] := Blk.call (b := E.b) bkA hg1 (by omega); have hl_z1 := hb_z1.lt)
    | (go_at_call 54; refine (Hn.named 4 E _ l1 (o) R.ok _ psA (bnd_self _) (some_bnd HQ1.out HR.out)).mono ?_; rintro e w2 ⟨hg2, ⟨a, k, hb, rfl⟩ | ⟨k2, op2, m2, p2, t2, a2, ks2, A2, c2, l2, rfl, hq2, hk_22, hn2, hP2⟩⟩; exact And.intro rfl ⟨Gr.trans grA hg2, .inl ⟨_, _, by rw [← HQ1.out, hb]; rfl, rfl⟩⟩; have hks2 := named_len hq2.symm; have hq2 := HQ1.out.symm.trans (congrArg (fun x => bnd x _) hq2.symm) |>.symm; rw [bnd_ok] at hq2; have hG2 : Gr (· = E.b) w w2 := Gr.trans grA hg2; have HQ2 := Lib.hid hq2; clear hq2; have hbl2 := hP2.lt; have hgl2 := hP2.toks.lt; have hs2 : w1.heap.size + 0 ≤ w2.heap.size := (by have := hg2.size; simpa using this); have hb_z2 : Blk w2 (w.heap.size) 28 #[.int .i64 0, .int .i64 0, .int .i64 0, .string ⟨#[]⟩, .string ⟨#[]⟩, .int .i64 0, .slice none 0 0] := Blk.call (b := E.b) bkA hg2 (by omega); have hl_z2 := hb_z2.lt; have hk_22 := Kid.mono (lo' := w1.heap.size + 0) hk_22 (by simp); have hk_n2 := Kid.mono (lo' := w1.heap.size) hk_22 (by omega)))
  by_cases hm : mark l2 = [61]
  · skip
    have HQx := HQ2.out
    rw [if_pos hm] at HQx
    have HM := Lib.hid hm
    clear HQ2 hm
    have HQ2 := Lib.hid HQx
    clear HQx
    go_wp2_with (first
      | (go_at_call 26; refine (skip_yes E _ l2 (o) [61] _ psA rfl (by simp) HM.out).mono ?_; rintro e w3 ⟨rfl, hg3, xs, l3, hll3, hP3⟩; have hG3 : Gr (· = E.b) w w3 := Gr.trans grA hg3; have hq3 := HQ2.out; rw [hll3, takeR_cons] at hq3; have HQ3 := Lib.hid hq3; clear hq3 hll3; have hbl3 := hP3.lt; have hgl3 := hP3.toks.lt; have hs3 : w2.heap.size + 1 ≤ w3.heap.size := (by have := hg3.size; simpa using this); have hb_z3 : Blk w3 (w.heap.size) 28 #[.int .i64 0, .int .i64 0, .int .i64 0, .string ⟨#[]⟩, .string ⟨#[]⟩, .int .i64 0, .slice none 0 0] := Blk.call (b := E.b) bkA hg3 (by omega); have hl_z3 := hb_z3.lt; have hb_n3 : Blk w3 (w2.heap.size) 28 #[.int .i64 k2, .int .i64 op2, .int .i64 m2, .string (bs p2), .string (bs t2), .int .i64 a2, .slice A2 ks2.length c2] := Blk.call (b := E.b) bkA hg3 (by omega); have hl_n3 := hb_n3.lt; have hk_n3 : KidX w3 (w1.heap.size) (w2.heap.size) (.slice A2 ks2.length c2) ks2 := KidX.call (b := E.b) kxA hg3 (by omega)))
    obtain ⟨_, n3_0, n3_1, n3_2, n3_3, n3_4, n3_5, n3_6, n3_f⟩ := hb_n3.all7
    refine region_A E.b (w1.heap.size) (w2.heap.size) 26 (.slice A2 ks2.length c2) ks2 55 #[.pointer (some ⟨E.b, 0, none⟩)] _ _ rfl (by kernel_rfl) rfl (by kernel_rfl) (by kernel_rfl) (by kernel_rfl) (by decide) (by kernel_rfl) (by kernel_rfl) (by kernel_rfl) (by kernel_rfl) (by kernel_rfl) (by kernel_rfl) (by kernel_rfl) (by kernel_rfl)
      (fun a w h => by simp [Act.eval] at h; unfold execOp; go_simp) rfl rfl hk_n3 n3_6 (n3_f 6) (by omega) (by omega) (by omega) (by omega) hn2 (calm_TellD E _ (o) _ r (by omega) (by omega)) (calm_TellD E _ (o) _ r (by omega) (by omega)) ((Hn.expr E _ l3 (o) _ r hP3.drew HQ3.out HR.out).mono fun e w' h => tells h) ?_ ?_
    · rintro a w' c had ⟨at_, k, hb, rfl⟩ hg
      exact And.intro had ⟨hG3.trans hg, .inl ⟨_, _, hb, rfl⟩⟩
    rintro vals w' A4 c4 u4 ⟨l4, hq4, hPx⟩ hKx hgx hgy hgo
    obtain ⟨w4, hW⟩ : ∃ W, W = w'.setCell ⟨w2.heap.size, 6, none⟩ (.slice A4 (ks2.length + 1) c4) := ⟨_, rfl⟩
    have hP4 : PS E w4 l4 (o) := by rw [hW]; exact psA
    have hsx := hgx.size
    have hG4 : Gr (· = E.b) w w4 := by rw [hW]; exact Gr.setCell (wide_b hG3 hgx (by omega)) (.inl (by first | (simp; done) | (simp; omega))) _
    have hb_z4 : Blk w4 (w.heap.size) 28 #[.int .i64 0, .int .i64 0, .int .i64 0, .string ⟨#[]⟩, .string ⟨#[]⟩, .int .i64 0, .slice none 0 0] := by rw [hW]; exact Blk.far (Blk.wr hb_z3 hgx (by omega) (.inl (by omega))) (by first | (simp; done) | (simp; omega)) _
    have hl_z4 := hb_z4.lt
    have hb_n4 : Blk w4 (w2.heap.size) 28 #[.int .i64 k2, .int .i64 op2, .int .i64 m2, .string (bs p2), .string (bs t2), .int .i64 a2, .slice A4 (ks2.length + 1) c4] := by rw [hW]; exact Blk.set6 (Blk.wr hb_n3 hgx (by omega) (.inr rfl)) _
    have hl_n4 := hb_n4.lt
    have hk_n4 : KidX w4 (w1.heap.size) (w2.heap.size) (.slice A4 (ks2.length + 1) c4) (ks2 ++ [u4]) := by rw [hW]; exact hKx.setCell (.inr rfl) _
    rw [← hW]
    have hbl4 := hP4.lt
    have hgl4 := hP4.toks.lt
    have hs4 : w3.heap.size ≤ w4.heap.size := by rw [hW]; simpa using hsx
    clear hW hPx hKx hgx hgy hgo hsx
    have HQ4 := Lib.hid hq4
    clear hq4
    go_wp2_with (first
      | (go_at_call 24; refine (want_any E _ l4 (o) [59] _ _ _ psA rfl (by simp) HQ4.out).mono ?_; rintro e w5 ⟨hg5, ⟨a, k, hb, rfl⟩ | ⟨x5, l5, rfl, hq5, hP5⟩⟩; exact And.intro rfl ⟨Gr.trans grA hg5, .inl ⟨_, _, hb, rfl⟩⟩; have hG5 : Gr (· = E.b) w w5 := Gr.trans grA hg5; have HQ5 := Lib.hid hq5; clear hq5; have hbl5 := hP5.lt; have hgl5 := hP5.toks.lt; have hs5 : w4.heap.size + 0 ≤ w5.heap.size := (by have := hg5.size; simpa using this); have hb_z5 : Blk w5 (w.heap.size) 28 #[.int .i64 0, .int .i64 0, .int .i64 0, .string ⟨#[]⟩, .string ⟨#[]⟩, .int .i64 0, .slice none 0 0] := Blk.call (b := E.b) bkA hg5 (by omega); have hl_z5 := hb_z5.lt; obtain ⟨_, z5_0, z5_1, z5_2, z5_3, z5_4, z5_5, z5_6, z5_f⟩ := hb_z5.all7; have hb_n5 : Blk w5 (w2.heap.size) 28 #[.int .i64 k2, .int .i64 op2, .int .i64 m2, .string (bs p2), .string (bs t2), .int .i64 a2, .slice A4 (ks2.length + 1) c4] := Blk.call (b := E.b) bkA hg5 (by omega); have hl_n5 := hb_n5.lt; obtain ⟨_, n5_0, n5_1, n5_2, n5_3, n5_4, n5_5, n5_6, n5_f⟩ := hb_n5.all7; have hk_n5 : KidX w5 (w1.heap.size) (w2.heap.size) (.slice A4 (ks2.length + 1) c4) (ks2 ++ [u4]) := KidX.call (b := E.b) kxA hg5 (by omega)))
    have hl := (show (ks2 ++ [u4]).length = ks2.length + 1 by simp)
    exact ret7 Tryz.results43 rfl rfl b7A ⟨grA, .inr ⟨k2, op2, m2, p2, t2, a2, (ks2 ++ [u4]), A4, c4, l5, (by rw [hl]), HQ5.out, (by rw [hl]; exact Kid.mono (lo := w1.heap.size) (v := .slice A4 (ks2.length + 1) c4) (ks := (ks2 ++ [u4])) (KidX.kid (h := w2.heap.size) kxA) (by omega)), (by have : ks2.length = 1 := hks2; rw [hl, this]; simp [LIM]), psA⟩⟩
  · skip
    have HQx := HQ2.out
    rw [if_neg hm] at HQx
    have hmn2 := bs_beq3 hm
    have HM := Lib.hid hm
    clear HQ2 hm
    have HQ2 := Lib.hid HQx
    clear HQx
    go_wp2_with (first
      | (go_at_call 26; refine (skip_no E _ l2 (o) [61] _ psA rfl HM.out).mono ?_; rintro e w3 ⟨rfl, hg3⟩; have hP3 : PS E w3 l2 (o) := PS.below psA hg3; have hG3 : Gr (· = E.b) w w3 := Gr.trans grA (Gr.of_below hg3); have hbl3 := hP3.lt; have hgl3 := hP3.toks.lt; have hs3 : w2.heap.size + 1 ≤ w3.heap.size := (by have := hg3.size; simpa using this); have hb_z3 : Blk w3 (w.heap.size) 28 #[.int .i64 0, .int .i64 0, .int .i64 0, .string ⟨#[]⟩, .string ⟨#[]⟩, .int .i64 0, .slice none 0 0] := Blk.bel bkA hg3; have hl_z3 := hb_z3.lt; have hb_n3 : Blk w3 (w2.heap.size) 28 #[.int .i64 k2, .int .i64 op2, .int .i64 m2, .string (bs p2), .string (bs t2), .int .i64 a2, .slice A2 ks2.length c2] := Blk.bel bkA hg3; have hl_n3 := hb_n3.lt; have hk_n3 : KidX w3 (w1.heap.size) (w2.heap.size) (.slice A2 ks2.length c2) ks2 := KidX.bel kxA hg3)
      | (go_at_call 24; refine (want_any E _ l2 (o) [59] _ _ _ psA rfl (by simp) HQ2.out).mono ?_; rintro e w4 ⟨hg4, ⟨a, k, hb, rfl⟩ | ⟨x4, l4, rfl, hq4, hP4⟩⟩; exact And.intro rfl ⟨Gr.trans grA hg4, .inl ⟨_, _, hb, rfl⟩⟩; have hG4 : Gr (· = E.b) w w4 := Gr.trans grA hg4; have HQ4 := Lib.hid hq4; clear hq4; have hbl4 := hP4.lt; have hgl4 := hP4.toks.lt; have hs4 : w3.heap.size + 0 ≤ w4.heap.size := (by have := hg4.size; simpa using this); have hb_z4 : Blk w4 (w.heap.size) 28 #[.int .i64 0, .int .i64 0, .int .i64 0, .string ⟨#[]⟩, .string ⟨#[]⟩, .int .i64 0, .slice none 0 0] := Blk.call (b := E.b) bkA hg4 (by omega); have hl_z4 := hb_z4.lt; obtain ⟨_, z4_0, z4_1, z4_2, z4_3, z4_4, z4_5, z4_6, z4_f⟩ := hb_z4.all7; have hb_n4 : Blk w4 (w2.heap.size) 28 #[.int .i64 k2, .int .i64 op2, .int .i64 m2, .string (bs p2), .string (bs t2), .int .i64 a2, .slice A2 ks2.length c2] := Blk.call (b := E.b) bkA hg4 (by omega); have hl_n4 := hb_n4.lt; obtain ⟨_, n4_0, n4_1, n4_2, n4_3, n4_4, n4_5, n4_6, n4_f⟩ := hb_n4.all7; have hk_n4 : KidX w4 (w1.heap.size) (w2.heap.size) (.slice A2 ks2.length c2) ks2 := KidX.call (b := E.b) kxA hg4 (by omega)))
    exact ret7 Tryz.results43 rfl rfl b7A ⟨grA, .inr ⟨k2, op2, m2, p2, t2, a2, ks2, A2, c2, l4, rfl, HQ4.out, Kid.mono (lo := w1.heap.size) (v := .slice A2 ks2.length c2) (ks := ks2) (KidX.kid (h := w2.heap.size) kxA) (by omega), hn2, psA⟩⟩
end Go.Proofs.YtihnnbeepfgphaaGreatDoor

/-! ## PF8: Keys: walks. -/
namespace Go.Proofs.YtihnnbeepfgphaaGreatDoor
open Go.RowKit
set_option linter.unusedVariables false
set_option linter.unusedSimpArgs false
attribute [local go_sem ↓] tok_f0 tok_f1 tok_f2 tok_f3

set_option maxRecDepth 100000 in
set_option maxHeartbeats 4000000 in
theorem key_step (n : Nat) (hn : n ≤ LIM) (H : ∀ m, m ≤ n → AllN m) : C0 (n + 1) 101 .key := by
  intro E w l o g r hP hq hr
  simp only [go, bnd_want, bnd_wantK, bnd_bnd, bnd_ok] at hq
  have hlt := hP.lt
  have hgt := hP.toks.lt
  have hne := hP.ne
  have HR := Lib.hid hr
  have Hn := H n (Nat.le_refl _)
  clear hr
  have HQ0 := Lib.hid hq
  clear hq
  go_enter Tryz.func101, Tryz.ntmps101
  go_wp2_with (first
    | (go_at_call 25; refine (name_any E _ l (o) _ _ psA HQ0.out).mono ?_; rintro e w1 ⟨hg1, ⟨a, k, hb, rfl⟩ | ⟨x1, l1, rfl, hq1, hP1⟩⟩; exact And.intro rfl ⟨Gr.trans grA hg1, .inl ⟨_, _, hb, rfl⟩⟩; have hG1 : Gr (· = E.b) w w1 := Gr.trans grA hg1; have HQ1 := Lib.hid hq1; clear hq1; have hbl1 := hP1.lt; have hgl1 := hP1.toks.lt; have hs1 : w.heap.size + 1 ≤ w1.heap.size := (by have := hg1.size; simpa using this); have hb_z1 : Blk w1 (w.heap.size) 28 #[.int .i64 0, .int .i64 0, .int .i64 0, .string ⟨#[]⟩, .string ⟨#[]⟩, .int .i64 0, .slice none 0 0] := Blk.call (b := E.b) bkA hg1 (by omega); have hl_z1 := hb_z1.lt)
    | (go_at_call 24; refine (want_any E _ l1 (o) [58] _ _ _ psA rfl (by simp) HQ1.out).mono ?_; rintro e w2 ⟨hg2, ⟨a, k, hb, rfl⟩ | ⟨x2, l2, rfl, hq2, hP2⟩⟩; exact And.intro rfl ⟨Gr.trans grA hg2, .inl ⟨_, _, hb, rfl⟩⟩; have hG2 : Gr (· = E.b) w w2 := Gr.trans grA hg2; have HQ2 := Lib.hid hq2; clear hq2; have hbl2 := hP2.lt; have hgl2 := hP2.toks.lt; have hs2 : w1.heap.size + 1 ≤ w2.heap.size := (by have := hg2.size; simpa using this); have hb_z2 : Blk w2 (w.heap.size) 28 #[.int .i64 0, .int .i64 0, .int .i64 0, .string ⟨#[]⟩, .string ⟨#[]⟩, .int .i64 0, .slice none 0 0] := Blk.call (b := E.b) bkA hg2 (by omega); have hl_z2 := hb_z2.lt; have hb_x2 : Blk w2 (w1.heap.size) 58 #[.int .i64 x1.1.k, .string (bs x1.1.t), .int .i64 x1.1.n, .int .i64 x1.2] := Blk.call (b := E.b) bkA hg2 (by omega); have hl_x2 := hb_x2.lt))
  refine wp_region_held_drew (S := fun W => Blk W (w1.heap.size) 58 #[.int .i64 x1.1.k, .string (bs x1.1.t), .int .i64 x1.1.n, .int .i64 x1.2]) (by kernel_rfl) bkA (fun hS0 => ?_)
  refine wpAnyH_take (i := 0) (v := .pointer (some ⟨w1.heap.size, 1, none⟩)) rfl (by kernel_rfl) (by kernel_rfl) (by kernel_rfl) (fun _ _ _ h => h) (Or.inl ⟨rfl, fun w' hS => by ((try obtain ⟨_, s0, s1, s2, s3, sf⟩ := hS.all4); (try obtain ⟨_, s0, s1, s2, s3, s4, s5, s6, sf⟩ := hS.all7); unfold execOp; go_simp)⟩) hS0 ?_
  simp only [Act.put, List.getElem_toArray, List.getElem_cons_zero, List.getElem_cons_succ, List.setIfInBounds_toArray, List.set_cons_zero, List.set_cons_succ]
  refine wpAnyH_take (i := 1) (v := .string (bs x1.1.t)) rfl (by kernel_rfl) (by kernel_rfl) (by kernel_rfl) (fun _ _ _ h => h) (Or.inl ⟨rfl, fun w' hS => by ((try obtain ⟨_, s0, s1, s2, s3, sf⟩ := hS.all4); (try obtain ⟨_, s0, s1, s2, s3, s4, s5, s6, sf⟩ := hS.all7); unfold execOp; go_simp)⟩) hS0 ?_
  simp only [Act.put, List.getElem_toArray, List.getElem_cons_zero, List.getElem_cons_succ, List.setIfInBounds_toArray, List.set_cons_zero, List.set_cons_succ]
  refine wpAnyH_take (i := 2) (v := .pointer (some ⟨w1.heap.size, 3, none⟩)) rfl (by kernel_rfl) (by kernel_rfl) (by kernel_rfl) (fun _ _ _ h => h) (Or.inl ⟨rfl, fun w' hS => by ((try obtain ⟨_, s0, s1, s2, s3, sf⟩ := hS.all4); (try obtain ⟨_, s0, s1, s2, s3, s4, s5, s6, sf⟩ := hS.all7); unfold execOp; go_simp)⟩) hS0 ?_
  simp only [Act.put, List.getElem_toArray, List.getElem_cons_zero, List.getElem_cons_succ, List.setIfInBounds_toArray, List.set_cons_zero, List.set_cons_succ]
  refine wpAnyH_take (i := 3) (v := .int .i64 x1.2) rfl (by kernel_rfl) (by kernel_rfl) (by kernel_rfl) (fun _ _ _ h => h) (Or.inl ⟨rfl, fun w' hS => by ((try obtain ⟨_, s0, s1, s2, s3, sf⟩ := hS.all4); (try obtain ⟨_, s0, s1, s2, s3, s4, s5, s6, sf⟩ := hS.all7); unfold execOp; go_simp)⟩) hS0 ?_
  simp only [Act.put, List.getElem_toArray, List.getElem_cons_zero, List.getElem_cons_succ, List.setIfInBounds_toArray, List.set_cons_zero, List.set_cons_succ]
  refine wpAnyH_take (i := 4) (v := .pointer (some ⟨E.b, 0, none⟩)) rfl (by kernel_rfl) (by kernel_rfl) (by kernel_rfl) (fun _ _ _ h => h) (Or.inl ⟨rfl, fun w' hS => by ((try obtain ⟨_, s0, s1, s2, s3, sf⟩ := hS.all4); (try obtain ⟨_, s0, s1, s2, s3, s4, s5, s6, sf⟩ := hS.all7); unfold execOp; go_simp)⟩) hS0 ?_
  simp only [Act.put, List.getElem_toArray, List.getElem_cons_zero, List.getElem_cons_succ, List.setIfInBounds_toArray, List.set_cons_zero, List.set_cons_succ]
  refine wpAnyH_one (i := 5) (by kernel_rfl) rfl rfl (op_call (args := #[.pointer (some ⟨E.b, 0, none⟩)]) (f := 55) (by unfold execOp; go_simp) ((Hn.expr E _ l2 (o) _ r (by exact psA) HQ2.out HR.out).mono ?_))
  rintro e w3 ⟨hg3, ⟨a, k, hb, rfl⟩ | ⟨k2, op2, m2, p2, t2, a2, ks2, A2, c2, l3, rfl, hq3, hk2, hn2, hP3⟩⟩
  · exact And.intro rfl ⟨Gr.trans grA hg3, .inl ⟨_, _, hb, rfl⟩⟩
  have hx2 : Blk w3 (w1.heap.size) 58 #[.int .i64 x1.1.k, .string (bs x1.1.t), .int .i64 x1.1.n, .int .i64 x1.2] := Blk.call (b := E.b) bkA hg3 (by omega)
  refine And.intro hx2 ?_
  simp only [Act.put, List.getElem_toArray, List.getElem_cons_zero, List.getElem_cons_succ, List.setIfInBounds_toArray, List.set_cons_zero, List.set_cons_succ]
  have hs3 : w2.heap.size + 0 ≤ w3.heap.size := by have := hg3.size; simpa using this
  have hk2' : Kid w3 (w2.heap.size + 0) (.slice A2 ks2.length c2) ks2 := Kid.mono hk2 (by simp)
  have hz2 : Blk w3 w.heap.size 28 #[.int .i64 0, .int .i64 0, .int .i64 0, .string ⟨#[]⟩, .string ⟨#[]⟩, .int .i64 0, .slice none 0 0] := Blk.call (b := E.b) bkA hg3 (by omega)
  have hG3 : Gr (· = E.b) w w3 := Gr.trans grA hg3
  have hlit := Kid.lit1 (k := k2) (op := op2) (m := m2) (p := p2) (t := t2) (a := a2) hk2' hs3
  refine wpAnyH_one (i := 6) (by kernel_rfl) rfl rfl (op_val (x_one _ _ _ _ _ _ _ _ _ _ _ _ _ A2 ks2.length c2 rfl) (And.intro bkA ?_))
  simp only [Act.put, List.getElem_toArray, List.getElem_cons_zero, List.getElem_cons_succ, List.setIfInBounds_toArray, List.set_cons_zero, List.set_cons_succ]
  refine wpAnyH_one (i := 7) (by kernel_rfl) rfl rfl (op_same (.agg #[.int .i64 39, .int .i64 0, .int .i64 0, .string ⟨#[]⟩, .string (bs x1.1.t), .int .i64 x1.2, .slice (some ⟨w3.heap.size, 0, none⟩) 1 1]) (by unfold execOp; go_simp) (And.intro bkA ?_))
  simp only [Act.put, List.getElem_toArray, List.getElem_cons_zero, List.getElem_cons_succ, List.setIfInBounds_toArray, List.set_cons_zero, List.set_cons_succ]
  refine wpAnyH_one (i := 8) (by kernel_rfl) rfl rfl (op_box _ _ 39 0 0 [] x1.1.t x1.2 1 1 _ rfl rfl (Blk.alloc hz2 _) fun w9 hz3 hg9 => And.intro (Blk.gr bkA hg9 (by omega)) ?_)
  refine wpAnyH_done (by kernel_rfl) ?_ _
  simp only [Act.put]
  go_wp2
  exact ret7 Tryz.results101 rfl rfl hz3 ⟨hg9.one (hG3.alloc _) (Nat.le_refl _), .inr ⟨39, 0, 0, [], x1.1.t, x1.2, [Tr.mk k2 op2 m2 p2 t2 a2 ks2], _, 1, l3, rfl, hq3, Kid.mono (hlit.one hg9 (by omega)) (by omega), by simp [LIM], (hP3.alloc _).one hg9 (by omega) (by omega)⟩⟩
end Go.Proofs.YtihnnbeepfgphaaGreatDoor

/-! ## PF9: Receivers: walks. -/
namespace Go.Proofs.YtihnnbeepfgphaaGreatDoor
open Go.RowKit
set_option linter.unusedVariables false
set_option linter.unusedSimpArgs false
attribute [local go_sem ↓] tok_f0 tok_f1 tok_f2 tok_f3

set_option maxRecDepth 100000 in
set_option maxHeartbeats 4000000 in
theorem receiver_step (n : Nat) (hn : n ≤ LIM) (H : ∀ m, m ≤ n → AllN m) : C0 (n + 1) 60 .receiver := by
  intro E w l o g r hP hq hr
  simp only [go, bnd_enter, bnd_want, bnd_wantK, bnd_ok] at hq
  have hlt := hP.lt
  have hgt := hP.toks.lt
  have hne := hP.ne
  have HR := Lib.hid hr
  have Hn := H n (Nat.le_refl _)
  clear hr
  have HQ0 := Lib.hid hq
  clear hq
  go_enter Tryz.func60, Tryz.ntmps60
  go_wp2_with (first
    | (go_at_call 58; refine (enter_any E _ l (o) [40] _ _ _ psA rfl (by simp) HQ0.out).mono ?_; rintro e w1 ⟨hg1, ⟨a, k, hb, rfl⟩ | ⟨x1, l1, rfl, hq1, hP1⟩⟩; exact And.intro rfl ⟨Gr.trans grA hg1, .inl ⟨_, _, hb, rfl⟩⟩; have hG1 : Gr (· = E.b) w w1 := Gr.trans grA hg1; have HQ1 := Lib.hid hq1; clear hq1; have hbl1 := hP1.lt; have hgl1 := hP1.toks.lt; have hs1 : w.heap.size + 1 ≤ w1.heap.size := (by have := hg1.size; simpa using this); have hb_z1 : Blk w1 (w.heap.size) 28 #[.int .i64 0, .int .i64 0, .int .i64 0, .string ⟨#[]⟩, .string ⟨#[]⟩, .int .i64 0, .slice none 0 0] := Blk.call (b := E.b) bkA hg1 (by omega); have hl_z1 := hb_z1.lt)
    | (go_at_call 25; refine (name_any E _ l1 (o + 1) _ _ psA HQ1.out).mono ?_; rintro e w2 ⟨hg2, ⟨a, k, hb, rfl⟩ | ⟨x2, l2, rfl, hq2, hP2⟩⟩; exact And.intro rfl ⟨Gr.trans grA hg2, .inl ⟨_, _, hb, rfl⟩⟩; have hG2 : Gr (· = E.b) w w2 := Gr.trans grA hg2; have HQ2 := Lib.hid hq2; clear hq2; have hbl2 := hP2.lt; have hgl2 := hP2.toks.lt; have hs2 : w1.heap.size + 0 ≤ w2.heap.size := (by have := hg2.size; simpa using this); have hb_z2 : Blk w2 (w.heap.size) 28 #[.int .i64 0, .int .i64 0, .int .i64 0, .string ⟨#[]⟩, .string ⟨#[]⟩, .int .i64 0, .slice none 0 0] := Blk.call (b := E.b) bkA hg2 (by omega); have hl_z2 := hb_z2.lt)
    | (go_at_call 24; refine (want_any E _ l2 (o + 1) [42] _ _ _ psA rfl (by simp) HQ2.out).mono ?_; rintro e w3 ⟨hg3, ⟨a, k, hb, rfl⟩ | ⟨x3, l3, rfl, hq3, hP3⟩⟩; exact And.intro rfl ⟨Gr.trans grA hg3, .inl ⟨_, _, hb, rfl⟩⟩; have hG3 : Gr (· = E.b) w w3 := Gr.trans grA hg3; have HQ3 := Lib.hid hq3; clear hq3; have hbl3 := hP3.lt; have hgl3 := hP3.toks.lt; have hs3 : w2.heap.size + 1 ≤ w3.heap.size := (by have := hg3.size; simpa using this); have hb_z3 : Blk w3 (w.heap.size) 28 #[.int .i64 0, .int .i64 0, .int .i64 0, .string ⟨#[]⟩, .string ⟨#[]⟩, .int .i64 0, .slice none 0 0] := Blk.call (b := E.b) bkA hg3 (by omega); have hl_z3 := hb_z3.lt; have hb_x3 : Blk w3 (w2.heap.size) 58 #[.int .i64 x2.1.k, .string (bs x2.1.t), .int .i64 x2.1.n, .int .i64 x2.2] := Blk.call (b := E.b) bkA hg3 (by omega); have hl_x3 := hb_x3.lt)
    | (go_at_call 25; refine (name_any E _ l3 (o + 1) _ _ psA HQ3.out).mono ?_; rintro e w4 ⟨hg4, ⟨a, k, hb, rfl⟩ | ⟨x4, l4, rfl, hq4, hP4⟩⟩; exact And.intro rfl ⟨Gr.trans grA hg4, .inl ⟨_, _, hb, rfl⟩⟩; have hG4 : Gr (· = E.b) w w4 := Gr.trans grA hg4; have HQ4 := Lib.hid hq4; clear hq4; have hbl4 := hP4.lt; have hgl4 := hP4.toks.lt; have hs4 : w3.heap.size + 1 ≤ w4.heap.size := (by have := hg4.size; simpa using this); have hb_z4 : Blk w4 (w.heap.size) 28 #[.int .i64 0, .int .i64 0, .int .i64 0, .string ⟨#[]⟩, .string ⟨#[]⟩, .int .i64 0, .slice none 0 0] := Blk.call (b := E.b) bkA hg4 (by omega); have hl_z4 := hb_z4.lt; have hb_x4 : Blk w4 (w2.heap.size) 58 #[.int .i64 x2.1.k, .string (bs x2.1.t), .int .i64 x2.1.n, .int .i64 x2.2] := Blk.call (b := E.b) bkA hg4 (by omega); have hl_x4 := hb_x4.lt; have hb_y4 : Blk w4 (w3.heap.size) 58 #[.int .i64 x3.1.k, .string (bs x3.1.t), .int .i64 x3.1.n, .int .i64 x3.2] := Blk.call (b := E.b) bkA hg4 (by omega); have hl_y4 := hb_y4.lt)
    | (go_at_call 59; refine (leave_any E _ l4 (o) [41] _ _ _ psA rfl (by simp) HQ4.out).mono ?_; rintro e w5 ⟨hg5, ⟨a, k, hb, rfl⟩ | ⟨x5, l5, rfl, hq5, hP5⟩⟩; exact And.intro rfl ⟨Gr.trans grA hg5, .inl ⟨_, _, hb, rfl⟩⟩; have hG5 : Gr (· = E.b) w w5 := Gr.trans grA hg5; have HQ5 := Lib.hid hq5; clear hq5; have hbl5 := hP5.lt; have hgl5 := hP5.toks.lt; have hs5 : w4.heap.size + 1 ≤ w5.heap.size := (by have := hg5.size; simpa using this); have hb_z5 : Blk w5 (w.heap.size) 28 #[.int .i64 0, .int .i64 0, .int .i64 0, .string ⟨#[]⟩, .string ⟨#[]⟩, .int .i64 0, .slice none 0 0] := Blk.call (b := E.b) bkA hg5 (by omega); have hl_z5 := hb_z5.lt; obtain ⟨_, z5_0, z5_1, z5_2, z5_3, z5_4, z5_5, z5_6, z5_f⟩ := hb_z5.all7; have hb_x5 : Blk w5 (w2.heap.size) 58 #[.int .i64 x2.1.k, .string (bs x2.1.t), .int .i64 x2.1.n, .int .i64 x2.2] := Blk.call (b := E.b) bkA hg5 (by omega); have hl_x5 := hb_x5.lt; obtain ⟨_, x5_0, x5_1, x5_2, x5_3, x5_f⟩ := hb_x5.all4; have hb_y5 : Blk w5 (w3.heap.size) 58 #[.int .i64 x3.1.k, .string (bs x3.1.t), .int .i64 x3.1.n, .int .i64 x3.2] := Blk.call (b := E.b) bkA hg5 (by omega); have hl_y5 := hb_y5.lt; obtain ⟨_, y5_0, y5_1, y5_2, y5_3, y5_f⟩ := hb_y5.all4; have hb_v5 : Blk w5 (w4.heap.size) 58 #[.int .i64 x4.1.k, .string (bs x4.1.t), .int .i64 x4.1.n, .int .i64 x4.2] := Blk.call (b := E.b) bkA hg5 (by omega); have hl_v5 := hb_v5.lt; obtain ⟨_, v5_0, v5_1, v5_2, v5_3, v5_f⟩ := hb_v5.all4; have lt_x1 : w2.heap.size < w5.heap.size + 1 := (by omega); have ne_x1 : ¬ w2.heap.size = w5.heap.size + 1 := (by omega); have lt_x2 : w2.heap.size < w5.heap.size + 2 := (by omega); have ne_x2 : ¬ w2.heap.size = w5.heap.size + 2 := (by omega); have lt_x3 : w2.heap.size < w5.heap.size + 3 := (by omega); have ne_x3 : ¬ w2.heap.size = w5.heap.size + 3 := (by omega); have lt_x4 : w2.heap.size < w5.heap.size + 4 := (by omega); have ne_x4 : ¬ w2.heap.size = w5.heap.size + 4 := (by omega); have lt_x5 : w2.heap.size < w5.heap.size + 5 := (by omega); have ne_x5 : ¬ w2.heap.size = w5.heap.size + 5 := (by omega); have ne_x0 : ¬ w2.heap.size = w5.heap.size := (by omega); have lt_y1 : w3.heap.size < w5.heap.size + 1 := (by omega); have ne_y1 : ¬ w3.heap.size = w5.heap.size + 1 := (by omega); have lt_y2 : w3.heap.size < w5.heap.size + 2 := (by omega); have ne_y2 : ¬ w3.heap.size = w5.heap.size + 2 := (by omega); have lt_y3 : w3.heap.size < w5.heap.size + 3 := (by omega); have ne_y3 : ¬ w3.heap.size = w5.heap.size + 3 := (by omega); have lt_y4 : w3.heap.size < w5.heap.size + 4 := (by omega); have ne_y4 : ¬ w3.heap.size = w5.heap.size + 4 := (by omega); have lt_y5 : w3.heap.size < w5.heap.size + 5 := (by omega); have ne_y5 : ¬ w3.heap.size = w5.heap.size + 5 := (by omega); have ne_y0 : ¬ w3.heap.size = w5.heap.size := (by omega); have lt_v1 : w4.heap.size < w5.heap.size + 1 := (by omega); have ne_v1 : ¬ w4.heap.size = w5.heap.size + 1 := (by omega); have lt_v2 : w4.heap.size < w5.heap.size + 2 := (by omega); have ne_v2 : ¬ w4.heap.size = w5.heap.size + 2 := (by omega); have lt_v3 : w4.heap.size < w5.heap.size + 3 := (by omega); have ne_v3 : ¬ w4.heap.size = w5.heap.size + 3 := (by omega); have lt_v4 : w4.heap.size < w5.heap.size + 4 := (by omega); have ne_v4 : ¬ w4.heap.size = w5.heap.size + 4 := (by omega); have lt_v5 : w4.heap.size < w5.heap.size + 5 := (by omega); have ne_v5 : ¬ w4.heap.size = w5.heap.size + 5 := (by omega); have ne_v0 : ¬ w4.heap.size = w5.heap.size := (by omega); have lt_z1 : w.heap.size < w5.heap.size + 1 := (by omega); have ne_z1 : ¬ w.heap.size = w5.heap.size + 1 := (by omega); have lt_z2 : w.heap.size < w5.heap.size + 2 := (by omega); have ne_z2 : ¬ w.heap.size = w5.heap.size + 2 := (by omega); have lt_z3 : w.heap.size < w5.heap.size + 3 := (by omega); have ne_z3 : ¬ w.heap.size = w5.heap.size + 3 := (by omega); have lt_z4 : w.heap.size < w5.heap.size + 4 := (by omega); have ne_z4 : ¬ w.heap.size = w5.heap.size + 4 := (by omega); have lt_z5 : w.heap.size < w5.heap.size + 5 := (by omega); have ne_z5 : ¬ w.heap.size = w5.heap.size + 5 := (by omega); have ne_z0 : ¬ w.heap.size = w5.heap.size := (by omega)))
  obtain ⟨V, hV⟩ : ∃ V, V = ((((((w5.setCell ⟨w.heap.size, 0, none⟩ (.int .i64 12)).setCell ⟨w.heap.size, 1, none⟩ (.int .i64 0)).setCell ⟨w.heap.size, 2, none⟩ (.int .i64 0)).setCell ⟨w.heap.size, 3, none⟩ (.string ⟨#[]⟩)).setCell ⟨w.heap.size, 4, none⟩ (.string (bs x2.1.t))).setCell ⟨w.heap.size, 5, none⟩ (.int .i64 x2.2)).setCell ⟨w.heap.size, 6, none⟩ (.slice (some ⟨w5.heap.size + 1 + 1 + 1, 0, none⟩) 1 1) := ⟨_, rfl⟩
  have hPV : PS E V l5 o := by rw [hV]; exact psA
  have hGV : Gr (· = E.b) w V := by rw [hV]; exact grA
  have hZV : Blk V w.heap.size 28 #[.int .i64 12, .int .i64 0, .int .i64 0, .string ⟨#[]⟩, .string (bs x2.1.t), .int .i64 x2.2, .slice (some ⟨w5.heap.size + 1 + 1 + 1, 0, none⟩) 1 1] := by rw [hV]; exact b7A
  have hsV : V.heap.size = w5.heap.size := by rw [hV]; simp
  rw [← hV]
  clear hV
  have hk1 := Kid.lit1_at (lo := w5.heap.size) (g := w5.heap.size + 1) (k := 13) (op := 0) (m := 0) (p := []) (t := x4.1.t) (a := x4.2) (ks := []) (A := none) (c := 0) (Kid.nil (V.alloc (.cells #[.int .i64 13, .int .i64 0, .int .i64 0, .string ⟨#[]⟩, .string (bs x4.1.t), .int .i64 x4.2, .slice none 0 0] 28)) _ 0) (by simp; omega) (by simp; omega)
  have hk2 := Kid.lit1_at (lo := w5.heap.size) (g := w5.heap.size + 1 + 1 + 1) (k := 14) (op := 0) (m := 0) (p := []) (t := []) (a := x3.2) (ks := [Tr.mk 13 0 0 [] x4.1.t x4.2 []]) (A := some ⟨w5.heap.size + 1, 0, none⟩) (c := 1) (hk1.alloc (.cells #[.int .i64 14, .int .i64 0, .int .i64 0, .string ⟨#[]⟩, .string ⟨#[]⟩, .int .i64 x3.2, .slice (some ⟨w5.heap.size + 1, 0, none⟩) 1 1] 28)) (by simp; omega) (by simp; omega)
  exact ret7 (v3 := .string ⟨#[]⟩) (v6 := .slice (some ⟨w5.heap.size + 1 + 1 + 1, 0, none⟩) 1 1) Tryz.results60 rfl rfl ((((hZV.alloc _).alloc _).alloc _).alloc _) ⟨grA, .inr ⟨12, 0, 0, [], x2.1.t, x2.2, [Tr.mk 14 0 0 [] [] x3.2 [Tr.mk 13 0 0 [] x4.1.t x4.2 []]], _, 1, l5, rfl, HQ5.out, Kid.mono hk2 (by omega), by simp [LIM], psA⟩⟩
end Go.Proofs.YtihnnbeepfgphaaGreatDoor

/-! ## PF10: Brackets: walks. -/
namespace Go.Proofs.YtihnnbeepfgphaaGreatDoor
open Go.RowKit
set_option linter.unusedVariables false
set_option linter.unusedSimpArgs false
attribute [local go_sem ↓] tok_f0 tok_f1 tok_f2 tok_f3

set_option maxRecDepth 100000 in
set_option maxHeartbeats 4000000 in
theorem inBrackets_step (n : Nat) (hn : n ≤ LIM) (H : ∀ m, m ≤ n → AllN m) : C0 (n + 1) 105 .inBrackets := by
  intro E w l o g r hP hq hr
  simp only [go, bnd_enter, bnd_want, bnd_wantK, bnd_takeR, bnd_ite, bnd_bnd, bnd_ok] at hq
  have hlt := hP.lt
  have hgt := hP.toks.lt
  have hne := hP.ne
  have HR := Lib.hid hr
  have Hn := H n (Nat.le_refl _)
  clear hr
  have HQ0 := Lib.hid hq
  clear hq
  go_enter Tryz.func105, Tryz.ntmps105
  go_wp2_with (first
    | (go_at_call 58; refine (enter_any E _ l (o) [40] _ _ _ psA rfl (by simp) HQ0.out).mono ?_; rintro e w1 ⟨hg1, ⟨a, k, hb, rfl⟩ | ⟨x1, l1, rfl, hq1, hP1⟩⟩; exact And.intro rfl ⟨Gr.trans grA hg1, .inl ⟨_, _, hb, rfl⟩⟩; have hG1 : Gr (· = E.b) w w1 := Gr.trans grA hg1; have HQ1 := Lib.hid hq1; clear hq1; have hbl1 := hP1.lt; have hgl1 := hP1.toks.lt; have hs1 : w.heap.size + 1 ≤ w1.heap.size := (by have := hg1.size; simpa using this); have hb_z1 : Blk w1 (w.heap.size) 28 #[.int .i64 0, .int .i64 0, .int .i64 0, .string ⟨#[]⟩, .string ⟨#[]⟩, .int .i64 0, .slice none 0 0] := Blk.call (b := E.b) bkA hg1 (by omega); have hl_z1 := hb_z1.lt))
  by_cases hm : mark l1 = [42]
  · skip
    have HQx := HQ1.out
    rw [if_pos hm] at HQx
    have HM := Lib.hid hm
    clear HQ1 hm
    have HQ1 := Lib.hid HQx
    clear HQx
    go_wp2_with (first
      | (go_at_call 26; refine (skip_yes E _ l1 (o + 1) [42] _ psA rfl (by simp) HM.out).mono ?_; rintro e w2 ⟨rfl, hg2, xs, l2, hll2, hP2⟩; have hG2 : Gr (· = E.b) w w2 := Gr.trans grA hg2; have hq2 := HQ1.out; rw [hll2, takeR_cons] at hq2; have HQ2 := Lib.hid hq2; clear hq2 hll2; have hbl2 := hP2.lt; have hgl2 := hP2.toks.lt; have hs2 : w1.heap.size + 0 ≤ w2.heap.size := (by have := hg2.size; simpa using this); have hb_z2 : Blk w2 (w.heap.size) 28 #[.int .i64 0, .int .i64 0, .int .i64 0, .string ⟨#[]⟩, .string ⟨#[]⟩, .int .i64 0, .slice none 0 0] := Blk.call (b := E.b) bkA hg2 (by omega); have hl_z2 := hb_z2.lt)
      | (go_at_call 71; refine (Hn.typeName E _ l2 (o + 1) _ r psA HQ2.out HR.out).mono ?_; rintro e w3 ⟨hg3, ⟨a, k, hb, rfl⟩ | ⟨k3, op3, m3, p3, t3, a3, ks3, A3, c3, l3, rfl, hq3, hk_33, hn3, hP3⟩⟩; exact And.intro rfl ⟨Gr.trans grA hg3, .inl ⟨_, _, hb, rfl⟩⟩; have hG3 : Gr (· = E.b) w w3 := Gr.trans grA hg3; have HQ3 := Lib.hid hq3; clear hq3; have hbl3 := hP3.lt; have hgl3 := hP3.toks.lt; have hs3 : w2.heap.size + 0 ≤ w3.heap.size := (by have := hg3.size; simpa using this); have hb_z3 : Blk w3 (w.heap.size) 28 #[.int .i64 0, .int .i64 0, .int .i64 0, .string ⟨#[]⟩, .string ⟨#[]⟩, .int .i64 0, .slice none 0 0] := Blk.call (b := E.b) bkA hg3 (by omega); have hl_z3 := hb_z3.lt; have hk_33 := Kid.mono (lo' := w2.heap.size + 0) hk_33 (by simp); have hlit := Kid.lit1 (lo := w2.heap.size) (k := k3) (op := op3) (m := m3) (p := p3) (t := t3) (a := a3) (Kid.mono hk_33 (by omega)) (by omega))
      | (go_at_call 59; refine (leave_any E _ l3 (o) [41] _ _ _ psA rfl (by simp) HQ3.out).mono ?_; rintro e w4 ⟨hg4, ⟨a, k, hb, rfl⟩ | ⟨x4, l4, rfl, hq4, hP4⟩⟩; exact And.intro rfl ⟨Gr.trans grA hg4, .inl ⟨_, _, hb, rfl⟩⟩; have hG4 : Gr (· = E.b) w w4 := Gr.trans grA hg4; have HQ4 := Lib.hid hq4; clear hq4; have hbl4 := hP4.lt; have hgl4 := hP4.toks.lt; have hs4 : w3.heap.size + 2 ≤ w4.heap.size := (by have := hg4.size; simpa using this); have hb_z4 : Blk w4 (w.heap.size) 28 #[.int .i64 0, .int .i64 0, .int .i64 0, .string ⟨#[]⟩, .string ⟨#[]⟩, .int .i64 0, .slice none 0 0] := Blk.call (b := E.b) bkA hg4 (by omega); have hl_z4 := hb_z4.lt; have hb_n4 : Blk w4 (w3.heap.size + 1) 28 #[.int .i64 42, .int .i64 0, .int .i64 0, .string ⟨#[]⟩, .string ⟨#[]⟩, .int .i64 x1.2, .slice (some ⟨w3.heap.size, 0, none⟩) 1 1] := Blk.call (b := E.b) bkA hg4 (by omega); have hl_n4 := hb_n4.lt; have hk_n4 : KidX w4 (w2.heap.size) (w3.heap.size + 1) (.slice (some ⟨w3.heap.size, 0, none⟩) 1 1) [Tr.mk k3 op3 m3 p3 t3 a3 ks3] := KidX.call (b := E.b) kxA hg4 (by omega))
      | (go_at_call 24; refine (want_any E _ l4 (o) [46] _ _ _ psA rfl (by simp) HQ4.out).mono ?_; rintro e w5 ⟨hg5, ⟨a, k, hb, rfl⟩ | ⟨x5, l5, rfl, hq5, hP5⟩⟩; exact And.intro rfl ⟨Gr.trans grA hg5, .inl ⟨_, _, hb, rfl⟩⟩; have hG5 : Gr (· = E.b) w w5 := Gr.trans grA hg5; have HQ5 := Lib.hid hq5; clear hq5; have hbl5 := hP5.lt; have hgl5 := hP5.toks.lt; have hs5 : w4.heap.size + 0 ≤ w5.heap.size := (by have := hg5.size; simpa using this); have hb_z5 : Blk w5 (w.heap.size) 28 #[.int .i64 0, .int .i64 0, .int .i64 0, .string ⟨#[]⟩, .string ⟨#[]⟩, .int .i64 0, .slice none 0 0] := Blk.call (b := E.b) bkA hg5 (by omega); have hl_z5 := hb_z5.lt; have hb_n5 : Blk w5 (w3.heap.size + 1) 28 #[.int .i64 42, .int .i64 0, .int .i64 0, .string ⟨#[]⟩, .string ⟨#[]⟩, .int .i64 x1.2, .slice (some ⟨w3.heap.size, 0, none⟩) 1 1] := Blk.call (b := E.b) bkA hg5 (by omega); have hl_n5 := hb_n5.lt; have hk_n5 : KidX w5 (w2.heap.size) (w3.heap.size + 1) (.slice (some ⟨w3.heap.size, 0, none⟩) 1 1) [Tr.mk k3 op3 m3 p3 t3 a3 ks3] := KidX.call (b := E.b) kxA hg5 (by omega))
      | (go_at_call 25; refine (name_any E _ l5 (o) _ _ psA HQ5.out).mono ?_; rintro e w6 ⟨hg6, ⟨a, k, hb, rfl⟩ | ⟨x6, l6, rfl, hq6, hP6⟩⟩; exact And.intro rfl ⟨Gr.trans grA hg6, .inl ⟨_, _, hb, rfl⟩⟩; have hG6 : Gr (· = E.b) w w6 := Gr.trans grA hg6; have HQ6 := Lib.hid hq6; clear hq6; have hbl6 := hP6.lt; have hgl6 := hP6.toks.lt; have hs6 : w5.heap.size + 0 ≤ w6.heap.size := (by have := hg6.size; simpa using this); have hb_z6 : Blk w6 (w.heap.size) 28 #[.int .i64 0, .int .i64 0, .int .i64 0, .string ⟨#[]⟩, .string ⟨#[]⟩, .int .i64 0, .slice none 0 0] := Blk.call (b := E.b) bkA hg6 (by omega); have hl_z6 := hb_z6.lt; obtain ⟨_, z6_0, z6_1, z6_2, z6_3, z6_4, z6_5, z6_6, z6_f⟩ := hb_z6.all7; have hb_n6 : Blk w6 (w3.heap.size + 1) 28 #[.int .i64 42, .int .i64 0, .int .i64 0, .string ⟨#[]⟩, .string ⟨#[]⟩, .int .i64 x1.2, .slice (some ⟨w3.heap.size, 0, none⟩) 1 1] := Blk.call (b := E.b) bkA hg6 (by omega); have hl_n6 := hb_n6.lt; obtain ⟨_, n6_0, n6_1, n6_2, n6_3, n6_4, n6_5, n6_6, n6_f⟩ := hb_n6.all7; have hk_n6 : KidX w6 (w2.heap.size) (w3.heap.size + 1) (.slice (some ⟨w3.heap.size, 0, none⟩) 1 1) [Tr.mk k3 op3 m3 p3 t3 a3 ks3] := KidX.call (b := E.b) kxA hg6 (by omega)))
    exact ret7 Tryz.results105 rfl rfl b7A ⟨grA, .inr ⟨42, 0, 0, [], x6.1.t, x1.2, [Tr.mk k3 op3 m3 p3 t3 a3 ks3], _, 1, l6, rfl, HQ6.out, Kid.mono (lo := w2.heap.size) (v := .slice (some ⟨w3.heap.size, 0, none⟩) 1 1) (ks := [Tr.mk k3 op3 m3 p3 t3 a3 ks3]) (KidX.kid (h := w3.heap.size + 1) kxA) (by omega), (by simp [LIM]), psA⟩⟩
  · skip
    have HQx := HQ1.out
    rw [if_neg hm] at HQx
    have hmn1 := bs_beq3 hm
    have HM := Lib.hid hm
    clear HQ1 hm
    have HQ1 := Lib.hid HQx
    clear HQx
    go_wp2_with (first
      | (go_at_call 26; refine (skip_no E _ l1 (o + 1) [42] _ psA rfl HM.out).mono ?_; rintro e w2 ⟨rfl, hg2⟩; have hP2 : PS E w2 l1 (o + 1) := PS.below psA hg2; have hG2 : Gr (· = E.b) w w2 := Gr.trans grA (Gr.of_below hg2); have hbl2 := hP2.lt; have hgl2 := hP2.toks.lt; have hs2 : w1.heap.size + 0 ≤ w2.heap.size := (by have := hg2.size; simpa using this); have hb_z2 : Blk w2 (w.heap.size) 28 #[.int .i64 0, .int .i64 0, .int .i64 0, .string ⟨#[]⟩, .string ⟨#[]⟩, .int .i64 0, .slice none 0 0] := Blk.bel bkA hg2; have hl_z2 := hb_z2.lt)
      | (go_at_call 55; refine (Hn.expr E _ l1 (o + 1) _ r psA HQ1.out HR.out).mono ?_; rintro e w3 ⟨hg3, ⟨a, k, hb, rfl⟩ | ⟨k3, op3, m3, p3, t3, a3, ks3, A3, c3, l3, rfl, hq3, hk_33, hn3, hP3⟩⟩; exact And.intro rfl ⟨Gr.trans grA hg3, .inl ⟨_, _, hb, rfl⟩⟩; have hG3 : Gr (· = E.b) w w3 := Gr.trans grA hg3; have HQ3 := Lib.hid hq3; clear hq3; have hbl3 := hP3.lt; have hgl3 := hP3.toks.lt; have hs3 : w2.heap.size + 0 ≤ w3.heap.size := (by have := hg3.size; simpa using this); have hb_z3 : Blk w3 (w.heap.size) 28 #[.int .i64 0, .int .i64 0, .int .i64 0, .string ⟨#[]⟩, .string ⟨#[]⟩, .int .i64 0, .slice none 0 0] := Blk.call (b := E.b) bkA hg3 (by omega); have hl_z3 := hb_z3.lt; have hk_33 := Kid.mono (lo' := w2.heap.size + 0) hk_33 (by simp); have hk_n3 := Kid.mono (lo' := w2.heap.size) hk_33 (by omega))
      | (go_at_call 59; refine (leave_any E _ l3 (o) [41] _ _ _ psA rfl (by simp) HQ3.out).mono ?_; rintro e w4 ⟨hg4, ⟨a, k, hb, rfl⟩ | ⟨x4, l4, rfl, hq4, hP4⟩⟩; exact And.intro rfl ⟨Gr.trans grA hg4, .inl ⟨_, _, hb, rfl⟩⟩; have hG4 : Gr (· = E.b) w w4 := Gr.trans grA hg4; have HQ4 := Lib.hid hq4; clear hq4; have hbl4 := hP4.lt; have hgl4 := hP4.toks.lt; have hs4 : w3.heap.size + 1 ≤ w4.heap.size := (by have := hg4.size; simpa using this); have hb_z4 : Blk w4 (w.heap.size) 28 #[.int .i64 0, .int .i64 0, .int .i64 0, .string ⟨#[]⟩, .string ⟨#[]⟩, .int .i64 0, .slice none 0 0] := Blk.call (b := E.b) bkA hg4 (by omega); have hl_z4 := hb_z4.lt; obtain ⟨_, z4_0, z4_1, z4_2, z4_3, z4_4, z4_5, z4_6, z4_f⟩ := hb_z4.all7; have hb_n4 : Blk w4 (w3.heap.size) 28 #[.int .i64 k3, .int .i64 op3, .int .i64 m3, .string (bs p3), .string (bs t3), .int .i64 a3, .slice A3 ks3.length c3] := Blk.call (b := E.b) bkA hg4 (by omega); have hl_n4 := hb_n4.lt; obtain ⟨_, n4_0, n4_1, n4_2, n4_3, n4_4, n4_5, n4_6, n4_f⟩ := hb_n4.all7; have hk_n4 : KidX w4 (w2.heap.size) (w3.heap.size) (.slice A3 ks3.length c3) ks3 := KidX.call (b := E.b) kxA hg4 (by omega)))
    exact ret7 Tryz.results105 rfl rfl b7A ⟨grA, .inr ⟨k3, op3, m3, p3, t3, a3, ks3, A3, c3, l4, rfl, HQ4.out, Kid.mono (lo := w2.heap.size) (v := .slice A3 ks3.length c3) (ks := ks3) (KidX.kid (h := w3.heap.size) kxA) (by omega), hn3, psA⟩⟩
end Go.Proofs.YtihnnbeepfgphaaGreatDoor

/-! ## PF11: Literals of lists: walks. -/
namespace Go.Proofs.YtihnnbeepfgphaaGreatDoor
open Go.RowKit
set_option linter.unusedVariables false
set_option linter.unusedSimpArgs false
attribute [local go_sem ↓] tok_f0 tok_f1 tok_f2 tok_f3

set_option maxRecDepth 100000 in
set_option maxHeartbeats 4000000 in
theorem literalList_step (n : Nat) (hn : n ≤ LIM) (H : ∀ m, m ≤ n → AllN m) : C0 (n + 1) 106 .literalList := by
  intro E w l o g r hP hq hr
  simp only [go, bnd_enter, bnd_want, bnd_bnd, bnd_ok] at hq
  have hlt := hP.lt
  have hgt := hP.toks.lt
  have hne := hP.ne
  have HR := Lib.hid hr
  have Hn := H n (Nat.le_refl _)
  clear hr
  have HQ0 := Lib.hid hq
  clear hq
  go_enter Tryz.func106, Tryz.ntmps106
  go_wp2_with (first
    | (go_at_call 58; (with_reducible refine (enter_any E _ l (o) [91] ⟨#[91]⟩ _ _ psA rfl (by simp) HQ0.out).mono ?_); rintro e w1 ⟨hg1, ⟨a, k, hb, rfl⟩ | ⟨x1, l1, rfl, hq1, hP1⟩⟩; exact And.intro rfl ⟨Gr.trans grA hg1, .inl ⟨_, _, hb, rfl⟩⟩; have hG1 : Gr (· = E.b) w w1 := Gr.trans grA hg1; have HQ1 := Lib.hid hq1; clear hq1; have hbl1 := hP1.lt; have hgl1 := hP1.toks.lt; have hs1 : w.heap.size + 1 ≤ w1.heap.size := (by have := hg1.size; simpa using this); have hb_z1 : Blk w1 (w.heap.size) 28 #[.int .i64 0, .int .i64 0, .int .i64 0, .string ⟨#[]⟩, .string ⟨#[]⟩, .int .i64 0, .slice none 0 0] := Blk.call (b := E.b) bkA hg1 (by omega); have hl_z1 := hb_z1.lt)
    | (go_at_call 59; (with_reducible refine (leave_any E _ l1 (o) [93] ⟨#[93]⟩ _ _ psA rfl (by simp) HQ1.out).mono ?_); rintro e w2 ⟨hg2, ⟨a, k, hb, rfl⟩ | ⟨x2, l2, rfl, hq2, hP2⟩⟩; exact And.intro rfl ⟨Gr.trans grA hg2, .inl ⟨_, _, hb, rfl⟩⟩; have hG2 : Gr (· = E.b) w w2 := Gr.trans grA hg2; have HQ2 := Lib.hid hq2; clear hq2; have hbl2 := hP2.lt; have hgl2 := hP2.toks.lt; have hs2 : w1.heap.size + 1 ≤ w2.heap.size := (by have := hg2.size; simpa using this); have hb_z2 : Blk w2 (w.heap.size) 28 #[.int .i64 0, .int .i64 0, .int .i64 0, .string ⟨#[]⟩, .string ⟨#[]⟩, .int .i64 0, .slice none 0 0] := Blk.call (b := E.b) bkA hg2 (by omega); have hl_z2 := hb_z2.lt; have hb_n2 : Blk w2 (w1.heap.size) 28 #[.int .i64 40, .int .i64 0, .int .i64 0, .string ⟨#[]⟩, .string ⟨#[]⟩, .int .i64 x1.2, .slice none 0 0] := Blk.call (b := E.b) bkA hg2 (by omega); have hl_n2 := hb_n2.lt; have hk_n2 : KidX w2 (w1.heap.size + 1) (w1.heap.size) (.slice none 0 0) ([] : List Tr) := KidX.call (b := E.b) kxA hg2 (by omega)))
  obtain ⟨_, n2_0, n2_1, n2_2, n2_3, n2_4, n2_5, n2_6, n2_f⟩ := hb_n2.all7
  refine region_A E.b (w1.heap.size + 1) (w1.heap.size) 32 (.slice none 0 0) ([] : List Tr) 69 #[.pointer (some ⟨E.b, 0, none⟩)] _ _ rfl (by kernel_rfl) rfl (by kernel_rfl) (by kernel_rfl) (by kernel_rfl) (by decide) (by kernel_rfl) (by kernel_rfl) (by kernel_rfl) (by kernel_rfl) (by kernel_rfl) (by kernel_rfl) (by kernel_rfl) (by kernel_rfl)
    (fun a w h => by simp [Act.eval] at h; unfold execOp; go_simp) rfl rfl hk_n2 n2_6 (n2_f 6) (by omega) (by omega) (by omega) (by omega) (by simp [LIM]) (calm_TellD E _ (o) _ r (by omega) (by omega)) (calm_TellD E _ (o) _ r (by omega) (by omega)) ((Hn.typeOf E _ l2 (o) _ r hP2.drew HQ2.out HR.out).mono fun e w' h => tells h) ?_ ?_
  · rintro a w' c had ⟨at_, k, hb, rfl⟩ hg
    exact And.intro had ⟨hG2.trans hg, .inl ⟨_, _, hb, rfl⟩⟩
  rintro vals w' A3 c3 u3 ⟨l3, hq3, hPx⟩ hKx hgx hgy hgo
  obtain ⟨w3, hW⟩ : ∃ W, W = w'.setCell ⟨w1.heap.size, 6, none⟩ (.slice A3 (([] : List Tr).length + 1) c3) := ⟨_, rfl⟩
  have hP3 : PS E w3 l3 (o) := by rw [hW]; exact psA
  have hsx := hgx.size
  have hG3 : Gr (· = E.b) w w3 := by rw [hW]; exact Gr.setCell (wide_b hG2 hgx (by omega)) (.inl (by first | (simp; done) | (simp; omega))) _
  have hb_z3 : Blk w3 (w.heap.size) 28 #[.int .i64 0, .int .i64 0, .int .i64 0, .string ⟨#[]⟩, .string ⟨#[]⟩, .int .i64 0, .slice none 0 0] := by rw [hW]; exact Blk.far (Blk.wr hb_z2 hgx (by omega) (.inl (by omega))) (by first | (simp; done) | (simp; omega)) _
  have hl_z3 := hb_z3.lt
  have hb_n3 : Blk w3 (w1.heap.size) 28 #[.int .i64 40, .int .i64 0, .int .i64 0, .string ⟨#[]⟩, .string ⟨#[]⟩, .int .i64 x1.2, .slice A3 (([] : List Tr).length + 1) c3] := by rw [hW]; exact Blk.set6 (Blk.wr hb_n2 hgx (by omega) (.inr rfl)) _
  have hl_n3 := hb_n3.lt
  have hk_n3 : KidX w3 (w1.heap.size + 1) (w1.heap.size) (.slice A3 (([] : List Tr).length + 1) c3) (([] : List Tr) ++ [u3]) := by rw [hW]; exact hKx.setCell (.inr rfl) _
  rw [← hW]
  have hbl3 := hP3.lt
  have hgl3 := hP3.toks.lt
  have hs3 : w2.heap.size ≤ w3.heap.size := by rw [hW]; simpa using hsx
  clear hW hPx hKx hgx hgy hgo hsx
  have HQ3 := Lib.hid hq3
  clear hq3
  obtain ⟨_, n3_0, n3_1, n3_2, n3_3, n3_4, n3_5, n3_6, n3_f⟩ := hb_n3.all7
  go_wp2
  obtain ⟨_, n3_0, n3_1, n3_2, n3_3, n3_4, n3_5, n3_6, n3_f⟩ := hb_n3.all7
  refine region_E2 9 7 8 1 E.b (w1.heap.size + 1) (w1.heap.size) (· = w1.heap.size) 32 (fun i => match i with | 0 => .pointer (some ⟨w1.heap.size, 6, none⟩) | 1 => .slice A3 (([] : List Tr).length + 1) c3 | 2 => .pointer (some ⟨E.b, 0, none⟩) | 3 => .pointer (some ⟨E.b, 0, none⟩) | 4 => .pointer (some ⟨E.b, 0, none⟩) | 5 => .pointer (some ⟨E.b, 0, none⟩) | 6 => .func (Fn.func 55) #[.pointer (some ⟨E.b, 0, none⟩)] #[] | _ => undef) (.slice A3 (([] : List Tr).length + 1) c3) (([] : List Tr) ++ [u3]) 72 #[.pointer (some ⟨E.b, 0, none⟩), .string ⟨#[123]⟩, .string ⟨#[125]⟩, .func (Fn.func 55) #[.pointer (some ⟨E.b, 0, none⟩)] #[]] (TellB r) (TellDL E (o) _ r) (by kernel_rfl) rfl (by kernel_rfl) (by decide) (by decide) (by decide) (by decide) (by decide) (by decide) rfl rfl rfl rfl ⟨_, rfl, rfl⟩ rfl (by kernel_rfl) (by kernel_rfl) rfl
    (fun a w hev => by
      have e4 := hev 4 _ _ (by omega) rfl rfl (by kernel_rfl) (by omega) (by omega)
      have e6 := hev 6 _ _ (by omega) rfl rfl (by kernel_rfl) (by omega) (by omega)
      simp [Act.eval] at e4 e6
      unfold execOp; go_simp)
    (fun i o hoi hi h1 h2 a w hcw hun hev => by
      rcases (show i = 0 ∨ i = 1 ∨ i = 2 ∨ i = 3 ∨ i = 4 ∨ i = 5 ∨ i = 6 ∨ i = 7 ∨ i = 8 by omega) with rfl | rfl | rfl | rfl | rfl | rfl | rfl | rfl | rfl
      · obtain rfl := Option.some.inj hoi; exact x_kids _ _ _ _ _ _ _ _ ((hun 3 (noput_all (by kernel_rfl))).trans rfl)
      · obtain rfl := Option.some.inj hoi; exact x_loadS _ _ _ _ _ _ _ _ 6 _ (hev 0 _ _ (by omega) rfl rfl (by kernel_rfl)) hcw
      · obtain rfl := Option.some.inj hoi; exact x_move _ _ _ _ _ _ _ _ ((hun 0 (noput_all (by kernel_rfl))).trans rfl)
      · obtain rfl := Option.some.inj hoi; exact x_nil _ _ _ _ _ _ _ _ (hev 2 _ _ (by omega) rfl rfl (by kernel_rfl))
      · obtain rfl := Option.some.inj hoi; exact x_reader _ _ _ _ _ _ _ _ (hev 3 _ _ (by omega) rfl rfl (by kernel_rfl))
      · obtain rfl := Option.some.inj hoi; exact x_move _ _ _ _ _ _ _ _ ((hun 0 (noput_all (by kernel_rfl))).trans rfl)
      · obtain rfl := Option.some.inj hoi; exact x_fn _ _ _ _ _ _ _ _ _ (hev 5 _ _ (by omega) rfl rfl (by kernel_rfl))
      · exact absurd rfl h1
      · exact absurd rfl h2)
    (fun i hi h1 h2 => by
      rcases (show i = 0 ∨ i = 1 ∨ i = 2 ∨ i = 3 ∨ i = 4 ∨ i = 5 ∨ i = 6 ∨ i = 7 ∨ i = 8 by omega) with rfl | rfl | rfl | rfl | rfl | rfl | rfl | rfl | rfl <;> first | exact absurd rfl h1 | exact absurd rfl h2 | exact ⟨by kernel_rfl, by kernel_rfl⟩) ⟨by kernel_rfl, by kernel_rfl⟩
    rfl (by decide) (by decide) rfl rfl (by kernel_rfl) (by kernel_rfl) (by kernel_rfl) (by kernel_rfl) rfl hk_n3 hk_n3.p (fun q hq => by have h9 : q = w1.heap.size := hq; omega) n3_6 (n3_f 6) (by omega) (by omega) (by omega) (by omega) (by simp [LIM]) (calm_TellDL E _ (o) _ r (by omega) (by omega))
    ((Hn.within .expr E _ l3 (o) [123] [125] _ _ _ r _ rfl hP3.drew rfl rfl (by simp) (by simp) HQ3.out HR.out).mono fun e w' h => tellsL h) ?_ ?_
  · rintro a w' c had ⟨at_, k, hb, rfl⟩ hg
    exact And.intro had ⟨hG3.trans hg, .inl ⟨_, _, hb, rfl⟩⟩
  rintro vals w' A4 c4 us ⟨l4, hq4, hPx⟩ hul4 hKx hKz hgx hgy
  obtain ⟨w4, hW⟩ : ∃ W, W = w'.setCell ⟨w1.heap.size, 6, none⟩ (.slice A4 ((([] : List Tr) ++ [u3]) ++ us).length c4) := ⟨_, rfl⟩
  have hP4 : PS E w4 l4 (o) := by rw [hW]; exact psA
  have hsx := hgx.size
  have hG4 : Gr (· = E.b) w w4 := by rw [hW]; exact Gr.setCell (wide_b hG3 hgx (by omega)) (.inl (by first | (simp; done) | (simp; omega))) _
  have hb_z4 : Blk w4 (w.heap.size) 28 #[.int .i64 0, .int .i64 0, .int .i64 0, .string ⟨#[]⟩, .string ⟨#[]⟩, .int .i64 0, .slice none 0 0] := by rw [hW]; exact Blk.far (Blk.wr hb_z3 hgx (by omega) (.inl (by omega))) (by first | (simp; done) | (simp; omega)) _
  have hl_z4 := hb_z4.lt
  have hb_n4 : Blk w4 (w1.heap.size) 28 #[.int .i64 40, .int .i64 0, .int .i64 0, .string ⟨#[]⟩, .string ⟨#[]⟩, .int .i64 x1.2, .slice A4 ((([] : List Tr) ++ [u3]) ++ us).length c4] := by rw [hW]; exact Blk.set6 (Blk.wr hb_n3 hgx (by omega) (.inr rfl)) _
  have hl_n4 := hb_n4.lt
  have hk_n4 : KidX w4 (w1.heap.size + 1) (w1.heap.size) (.slice A4 ((([] : List Tr) ++ [u3]) ++ us).length c4) ((([] : List Tr) ++ [u3]) ++ us) := by rw [hW]; exact hKx.setCell (.inr rfl) _
  dsimp only [putAll, List.take_succ_cons, List.take_zero, List.take_nil]
  rw [← hW]
  have hbl4 := hP4.lt
  have hgl4 := hP4.toks.lt
  have hs4 : w3.heap.size ≤ w4.heap.size := by rw [hW]; simpa using hsx
  clear hW hPx hKx hKz hgx hgy hsx
  have HQ4 := Lib.hid hq4
  clear hq4
  obtain ⟨_, n4_0, n4_1, n4_2, n4_3, n4_4, n4_5, n4_6, n4_f⟩ := hb_n4.all7
  obtain ⟨_, z4_0, z4_1, z4_2, z4_3, z4_4, z4_5, z4_6, z4_f⟩ := hb_z4.all7
  go_wp2
  have hul := hul4
  unfold LIM at hul
  exact ret7 Tryz.results106 rfl rfl b7A ⟨grA, .inr ⟨40, 0, 0, [], [], x1.2, ((([] : List Tr) ++ [u3]) ++ us), A4, c4, l4, rfl, HQ4.out, Kid.mono (lo := w1.heap.size + 1) (v := .slice A4 ((([] : List Tr) ++ [u3]) ++ us).length c4) (ks := ((([] : List Tr) ++ [u3]) ++ us)) (KidX.kid (h := w1.heap.size) kxA) (by omega), (by simp [LIM]; omega), psA⟩⟩
end Go.Proofs.YtihnnbeepfgphaaGreatDoor

/-! ## PF12: Words that end rounds: walks. -/
namespace Go.Proofs.YtihnnbeepfgphaaGreatDoor
open Go.RowKit
set_option linter.unusedVariables false
set_option linter.unusedSimpArgs false
attribute [local go_sem ↓] tok_f0 tok_f1 tok_f2 tok_f3

set_option maxRecDepth 100000 in
set_option maxHeartbeats 4000000 in
theorem leap_step (n : Nat) (hn : n ≤ LIM) (H : ∀ m, m ≤ n → AllN m) (kk : Int) : C1m (n + 1) 84 kk (.leap kk) := by
  intro E w l o g r hm hP hq hr
  simp only [go, bnd_want, bnd_takeR, bnd_ok] at hq
  have hlt := hP.lt
  have hgt := hP.toks.lt
  have hne := hP.ne
  obtain ⟨x1, l1, rfl⟩ := hP.cons
  have HX := Lib.hid (good_mark hP.good hm)
  rw [takeR_cons] at hq
  have HQ1 := Lib.hid hq
  have HR := Lib.hid hr
  clear hr hq hm
  go_enter Tryz.func84, Tryz.ntmps84
  go_wp2_with (first
    | (go_at_call 40; refine (take_any E _ x1 l1 o psA HX.out).mono ?_; rintro e w1 ⟨rfl, hg1, hP1⟩; have hG1 : Gr (· = E.b) w w1 := Gr.trans grA hg1; have hbl1 := hP1.lt; have hgl1 := hP1.toks.lt; have hs1 : w.heap.size + 1 ≤ w1.heap.size := (by have := hg1.size; simpa using this); have hb_z1 : Blk w1 (w.heap.size) 28 #[.int .i64 0, .int .i64 0, .int .i64 0, .string ⟨#[]⟩, .string ⟨#[]⟩, .int .i64 0, .slice none 0 0] := Blk.call (b := E.b) bkA hg1 (by omega); have hl_z1 := hb_z1.lt)
    | (go_at_call 24; refine (want_any E _ l1 (o) [59] _ _ _ psA rfl (by simp) HQ1.out).mono ?_; rintro e w2 ⟨hg2, ⟨a, k, hb, rfl⟩ | ⟨x2, l2, rfl, hq2, hP2⟩⟩; exact And.intro rfl ⟨Gr.trans grA hg2, .inl ⟨_, _, hb, rfl⟩⟩; have hG2 : Gr (· = E.b) w w2 := Gr.trans grA hg2; have HQ2 := Lib.hid hq2; clear hq2; have hbl2 := hP2.lt; have hgl2 := hP2.toks.lt; have hs2 : w1.heap.size + 0 ≤ w2.heap.size := (by have := hg2.size; simpa using this); have hb_z2 : Blk w2 (w.heap.size) 28 #[.int .i64 0, .int .i64 0, .int .i64 0, .string ⟨#[]⟩, .string ⟨#[]⟩, .int .i64 0, .slice none 0 0] := Blk.call (b := E.b) bkA hg2 (by omega); have hl_z2 := hb_z2.lt; obtain ⟨_, z2_0, z2_1, z2_2, z2_3, z2_4, z2_5, z2_6, z2_f⟩ := hb_z2.all7))
  exact ret7 Tryz.results84 rfl rfl b7A ⟨grA, .inr ⟨kk, 0, 0, [], [], x1.2, [], none, 0, l2, rfl, HQ2.out, Kid.nil _ _ 0, by simp, psA⟩⟩
end Go.Proofs.YtihnnbeepfgphaaGreatDoor

/-! ## PF13: Type variables: walks. -/
namespace Go.Proofs.YtihnnbeepfgphaaGreatDoor
open Go.RowKit
set_option linter.unusedVariables false
set_option linter.unusedSimpArgs false
attribute [local go_sem ↓] tok_f0 tok_f1 tok_f2 tok_f3

set_option maxRecDepth 100000 in
set_option maxHeartbeats 4000000 in
theorem typeVar_step (n : Nat) (hn : n ≤ LIM) (H : ∀ m, m ≤ n → AllN m) : C0 (n + 1) 62 .typeVar := by
  intro E w l o g r hP hq hr
  simp only [go, bnd_wantK, bnd_takeR, bnd_ite, bnd_bnd, bnd_ok] at hq
  have hlt := hP.lt
  have hgt := hP.toks.lt
  have hne := hP.ne
  have HR := Lib.hid hr
  have Hn := H n (Nat.le_refl _)
  clear hr
  have HQ0 := Lib.hid hq
  clear hq
  go_enter Tryz.func62, Tryz.ntmps62
  go_wp2_with (first
    | (go_at_call 25; refine (name_any E _ l (o) _ _ psA HQ0.out).mono ?_; rintro e w1 ⟨hg1, ⟨a, k, hb, rfl⟩ | ⟨x1, l1, rfl, hq1, hP1⟩⟩; exact And.intro rfl ⟨Gr.trans grA hg1, .inl ⟨_, _, hb, rfl⟩⟩; have hG1 : Gr (· = E.b) w w1 := Gr.trans grA hg1; have HQ1 := Lib.hid hq1; clear hq1; have hbl1 := hP1.lt; have hgl1 := hP1.toks.lt; have hs1 : w.heap.size + 1 ≤ w1.heap.size := (by have := hg1.size; simpa using this); have hb_z1 : Blk w1 (w.heap.size) 28 #[.int .i64 0, .int .i64 0, .int .i64 0, .string ⟨#[]⟩, .string ⟨#[]⟩, .int .i64 0, .slice none 0 0] := Blk.call (b := E.b) bkA hg1 (by omega); have hl_z1 := hb_z1.lt))
  by_cases hm : mark l1 = [97, 110, 121]
  · skip
    have HQx := HQ1.out
    rw [if_pos hm] at HQx
    have HM := Lib.hid hm
    clear HQ1 hm
    have HQ1 := Lib.hid HQx
    clear HQx
    go_wp2_with (first
      | (go_at_call 26; refine (skip_yes E _ l1 (o) [97, 110, 121] _ psA rfl (by simp) HM.out).mono ?_; rintro e w2 ⟨rfl, hg2, xs, l2, hll2, hP2⟩; have hG2 : Gr (· = E.b) w w2 := Gr.trans grA hg2; have hq2 := HQ1.out; rw [hll2, takeR_cons] at hq2; have HQ2 := Lib.hid hq2; clear hq2 hll2; have hbl2 := hP2.lt; have hgl2 := hP2.toks.lt; have hs2 : w1.heap.size + 2 ≤ w2.heap.size := (by have := hg2.size; simpa using this); have hb_z2 : Blk w2 (w.heap.size) 28 #[.int .i64 0, .int .i64 0, .int .i64 0, .string ⟨#[]⟩, .string ⟨#[]⟩, .int .i64 0, .slice none 0 0] := Blk.call (b := E.b) bkA hg2 (by omega); have hl_z2 := hb_z2.lt; obtain ⟨_, z2_0, z2_1, z2_2, z2_3, z2_4, z2_5, z2_6, z2_f⟩ := hb_z2.all7; have hb_n2 : Blk w2 (w1.heap.size + 1) 28 #[.int .i64 11, .int .i64 0, .int .i64 0, .string ⟨#[]⟩, .string (bs x1.1.t), .int .i64 x1.2, .slice none 0 0] := Blk.call (b := E.b) bkA hg2 (by omega); have hl_n2 := hb_n2.lt; obtain ⟨_, n2_0, n2_1, n2_2, n2_3, n2_4, n2_5, n2_6, n2_f⟩ := hb_n2.all7; have hk_n2 : KidX w2 (w1.heap.size + 2) (w1.heap.size + 1) (.slice none 0 0) ([] : List Tr) := KidX.call (b := E.b) kxA hg2 (by omega)))
    exact ret7 Tryz.results62 rfl rfl b7A ⟨grA, .inr ⟨11, 0, 0, [], x1.1.t, x1.2, [], none, 0, l2, rfl, HQ2.out, Kid.mono (lo := w1.heap.size + 2) (v := .slice none 0 0) (ks := ([] : List Tr)) (KidX.kid (h := w1.heap.size + 1) kxA) (by omega), (by simp [LIM]), psA⟩⟩
  have HQx := HQ1.out
  rw [if_neg hm] at HQx
  have hma := Lib.hid hm
  clear HQ1 hm
  have HQ1 := Lib.hid HQx
  clear HQx
  by_cases hm : mark l1 = [99, 111, 109, 112, 97, 114, 97, 98, 108, 101]
  · skip
    have HQx := HQ1.out
    rw [if_pos hm] at HQx
    have HM := Lib.hid hm
    clear HQ1 hm
    have HQ1 := Lib.hid HQx
    clear HQx
    go_wp2_with (first
      | (go_at_call 26; ((with_reducible refine (skip_no E _ l1 (o) [97, 110, 121] ⟨#[97, 110, 121]⟩ psA rfl hma.out).mono ?_); rintro e w2 ⟨rfl, hg2⟩); have hP2 : PS E w2 l1 (o) := PS.below psA hg2; have hG2 : Gr (· = E.b) w w2 := Gr.trans grA (Gr.of_below hg2); have hbl2 := hP2.lt; have hgl2 := hP2.toks.lt; have hs2 : w1.heap.size + 2 ≤ w2.heap.size := (by have := hg2.size; simpa using this); have hb_z2 : Blk w2 (w.heap.size) 28 #[.int .i64 0, .int .i64 0, .int .i64 0, .string ⟨#[]⟩, .string ⟨#[]⟩, .int .i64 0, .slice none 0 0] := Blk.bel bkA hg2; have hl_z2 := hb_z2.lt; have hb_n2 : Blk w2 (w1.heap.size + 1) 28 #[.int .i64 11, .int .i64 0, .int .i64 0, .string ⟨#[]⟩, .string (bs x1.1.t), .int .i64 x1.2, .slice none 0 0] := Blk.bel bkA hg2; have hl_n2 := hb_n2.lt; have hk_n2 : KidX w2 (w1.heap.size + 2) (w1.heap.size + 1) (.slice none 0 0) ([] : List Tr) := KidX.bel kxA hg2)
      | (go_at_call 26; refine (skip_yes E _ l1 (o) [99, 111, 109, 112, 97, 114, 97, 98, 108, 101] _ psA rfl (by simp) HM.out).mono ?_; rintro e w3 ⟨rfl, hg3, xs, l3, hll3, hP3⟩; have hG3 : Gr (· = E.b) w w3 := Gr.trans grA hg3; have hq3 := HQ1.out; rw [hll3, takeR_cons] at hq3; have HQ3 := Lib.hid hq3; clear hq3 hll3; have hbl3 := hP3.lt; have hgl3 := hP3.toks.lt; have hs3 : w2.heap.size + 0 ≤ w3.heap.size := (by have := hg3.size; simpa using this); have hb_z3 : Blk w3 (w.heap.size) 28 #[.int .i64 0, .int .i64 0, .int .i64 0, .string ⟨#[]⟩, .string ⟨#[]⟩, .int .i64 0, .slice none 0 0] := Blk.call (b := E.b) bkA hg3 (by omega); have hl_z3 := hb_z3.lt; obtain ⟨_, z3_0, z3_1, z3_2, z3_3, z3_4, z3_5, z3_6, z3_f⟩ := hb_z3.all7; have hb_n3 : Blk w3 (w1.heap.size + 1) 28 #[.int .i64 11, .int .i64 0, .int .i64 0, .string ⟨#[]⟩, .string (bs x1.1.t), .int .i64 x1.2, .slice none 0 0] := Blk.call (b := E.b) bkA hg3 (by omega); have hl_n3 := hb_n3.lt; obtain ⟨_, n3_0, n3_1, n3_2, n3_3, n3_4, n3_5, n3_6, n3_f⟩ := hb_n3.all7; have hk_n3 : KidX w3 (w1.heap.size + 2) (w1.heap.size + 1) (.slice none 0 0) ([] : List Tr) := KidX.call (b := E.b) kxA hg3 (by omega)))
    exact ret7 Tryz.results62 rfl rfl b7A ⟨grA, .inr ⟨11, 0, 1, [], x1.1.t, x1.2, [], none, 0, l3, rfl, HQ3.out, Kid.mono (lo := w1.heap.size + 2) (v := .slice none 0 0) (ks := ([] : List Tr)) (KidX.kid (h := w1.heap.size + 1) kxA) (by omega), (by simp [LIM]), psA⟩⟩
  · skip
    have HQx := HQ1.out
    rw [if_neg hm] at HQx
    have hmn1 := bs_beq3 hm
    have HM := Lib.hid hm
    clear HQ1 hm
    have HQ1 := Lib.hid HQx
    clear HQx
    have hmc := HM
    clear HM
    go_wp2_with (first
      | (go_at_call 26; ((with_reducible refine (skip_no E _ l1 (o) [97, 110, 121] ⟨#[97, 110, 121]⟩ psA rfl hma.out).mono ?_); rintro e w2 ⟨rfl, hg2⟩); have hP2 : PS E w2 l1 (o) := PS.below psA hg2; have hG2 : Gr (· = E.b) w w2 := Gr.trans grA (Gr.of_below hg2); have hbl2 := hP2.lt; have hgl2 := hP2.toks.lt; have hs2 : w1.heap.size + 2 ≤ w2.heap.size := (by have := hg2.size; simpa using this); have hb_z2 : Blk w2 (w.heap.size) 28 #[.int .i64 0, .int .i64 0, .int .i64 0, .string ⟨#[]⟩, .string ⟨#[]⟩, .int .i64 0, .slice none 0 0] := Blk.bel bkA hg2; have hl_z2 := hb_z2.lt; have hb_n2 : Blk w2 (w1.heap.size + 1) 28 #[.int .i64 11, .int .i64 0, .int .i64 0, .string ⟨#[]⟩, .string (bs x1.1.t), .int .i64 x1.2, .slice none 0 0] := Blk.bel bkA hg2; have hl_n2 := hb_n2.lt; have hk_n2 : KidX w2 (w1.heap.size + 2) (w1.heap.size + 1) (.slice none 0 0) ([] : List Tr) := KidX.bel kxA hg2)
      | (go_at_call 26; ((with_reducible refine (skip_no E _ l1 (o) [99, 111, 109, 112, 97, 114, 97, 98, 108, 101] ⟨#[99, 111, 109, 112, 97, 114, 97, 98, 108, 101]⟩ psA rfl hmc.out).mono ?_); rintro e w3 ⟨rfl, hg3⟩); have hP3 : PS E w3 l1 (o) := PS.below psA hg3; have hG3 : Gr (· = E.b) w w3 := Gr.trans grA (Gr.of_below hg3); have hbl3 := hP3.lt; have hgl3 := hP3.toks.lt; have hs3 : w2.heap.size + 0 ≤ w3.heap.size := (by have := hg3.size; simpa using this); have hb_z3 : Blk w3 (w.heap.size) 28 #[.int .i64 0, .int .i64 0, .int .i64 0, .string ⟨#[]⟩, .string ⟨#[]⟩, .int .i64 0, .slice none 0 0] := Blk.bel bkA hg3; have hl_z3 := hb_z3.lt; have hb_n3 : Blk w3 (w1.heap.size + 1) 28 #[.int .i64 11, .int .i64 0, .int .i64 0, .string ⟨#[]⟩, .string (bs x1.1.t), .int .i64 x1.2, .slice none 0 0] := Blk.bel bkA hg3; have hl_n3 := hb_n3.lt; have hk_n3 : KidX w3 (w1.heap.size + 2) (w1.heap.size + 1) (.slice none 0 0) ([] : List Tr) := KidX.bel kxA hg3; obtain ⟨_, n3_0, n3_1, n3_2, n3_3, n3_4, n3_5, n3_6, n3_f⟩ := hb_n3.all7)
      | (go_at_call 71; refine (Hn.typeName E _ l1 (o) _ r psA HQ1.out HR.out).mono ?_; rintro e w4 ⟨hg4, ⟨a, k, hb, rfl⟩ | ⟨k4, op4, m4, p4, t4, a4, ks4, A4, c4, l4, rfl, hq4, hk_44, hn4, hP4⟩⟩; exact And.intro rfl ⟨Gr.trans grA hg4, .inl ⟨_, _, hb, rfl⟩⟩; have hG4 : Gr (· = E.b) w w4 := Gr.trans grA hg4; have HQ4 := Lib.hid hq4; clear hq4; have hbl4 := hP4.lt; have hgl4 := hP4.toks.lt; have hs4 : w3.heap.size + 0 ≤ w4.heap.size := (by have := hg4.size; simpa using this); have hb_z4 : Blk w4 (w.heap.size) 28 #[.int .i64 0, .int .i64 0, .int .i64 0, .string ⟨#[]⟩, .string ⟨#[]⟩, .int .i64 0, .slice none 0 0] := Blk.call (b := E.b) bkA hg4 (by omega); have hl_z4 := hb_z4.lt; obtain ⟨_, z4_0, z4_1, z4_2, z4_3, z4_4, z4_5, z4_6, z4_f⟩ := hb_z4.all7; have hb_n4 : Blk w4 (w1.heap.size + 1) 28 #[.int .i64 11, .int .i64 0, .int .i64 2, .string ⟨#[]⟩, .string (bs x1.1.t), .int .i64 x1.2, .slice none 0 0] := Blk.call (b := E.b) bkA hg4 (by omega); have hl_n4 := hb_n4.lt; obtain ⟨_, n4_0, n4_1, n4_2, n4_3, n4_4, n4_5, n4_6, n4_f⟩ := hb_n4.all7; have hk_44 := Kid.mono (lo' := w3.heap.size + 0) hk_44 (by simp)))
    exact ret7 Tryz.results62 rfl rfl b7A ⟨grA, .inr ⟨11, 0, 2, [], x1.1.t, x1.2, [Tr.mk k4 op4 m4 p4 t4 a4 ks4], some ⟨w4.heap.size, 0, none⟩, 1, l4, rfl, HQ4.out, Kid.mono (lo := w3.heap.size + 0) (Kid.lit1_at (k := k4) (op := op4) (m := m4) (p := p4) (t := t4) (a := a4) (A := A4) (c := c4) kdA (by simp; omega) (by simp)) (by omega), by simp [LIM], psA⟩⟩
end Go.Proofs.YtihnnbeepfgphaaGreatDoor

/-! ## PF14: Constants: walks. -/
namespace Go.Proofs.YtihnnbeepfgphaaGreatDoor
open Go.RowKit
set_option linter.unusedVariables false
set_option linter.unusedSimpArgs false
attribute [local go_sem ↓] tok_f0 tok_f1 tok_f2 tok_f3


theorem wantK_num {E : Env} {w : World} {l : List T} {o : Nat} {k : Int} {f : T → List T → R} {r : R} (hP : PS E w l o) (hq : wantK k l f = r) :
    wantK k l (fun y t => if 0 ≤ y.1.n ∧ y.1.n ≤ 9223372036854775807 then f y t else .out) = r := by
  obtain ⟨x, t, rfl⟩ := hP.cons
  have hn := hP.num
  rw [← hq]
  unfold wantK
  rw [kind_cons]
  by_cases hkd : x.1.k = k
  · rw [if_pos hkd, if_pos hkd, takeR_cons, takeR_cons, if_pos hn]
  · rw [if_neg hkd, if_neg hkd]

theorem neg_wrap {n : Int} (h : 0 ≤ n) (h2 : n ≤ 9223372036854775807) : wrap64 (-n) = -n := by
  simp only [wrap64]; omega
set_option maxRecDepth 100000 in
set_option maxHeartbeats 4000000 in
theorem constant_step (n : Nat) (hn : n ≤ LIM) (H : ∀ m, m ≤ n → AllN m) : C0 (n + 1) 42 .constant := by
  intro E w l o g r hP hq hr
  simp only [go, bnd_want, bnd_wantK, bnd_takeR, bnd_ite, bnd_ok] at hq
  have hlt := hP.lt
  have hgt := hP.toks.lt
  have hne := hP.ne
  have HR := Lib.hid hr
  have Hn := H n (Nat.le_refl _)
  clear hr
  have HQ0 := Lib.hid hq
  clear hq
  go_enter Tryz.func42, Tryz.ntmps42
  go_wp2_with (first
    | (go_at_call 24; (with_reducible refine (want_any E _ l (o) [99, 111, 110, 115, 116] ⟨#[99, 111, 110, 115, 116]⟩ _ _ psA rfl (by simp) HQ0.out).mono ?_); rintro e w1 ⟨hg1, ⟨a, k, hb, rfl⟩ | ⟨x1, l1, rfl, hq1, hP1⟩⟩; exact And.intro rfl ⟨Gr.trans grA hg1, .inl ⟨_, _, hb, rfl⟩⟩; have hG1 : Gr (· = E.b) w w1 := Gr.trans grA hg1; have HQ1 := Lib.hid hq1; clear hq1; have hbl1 := hP1.lt; have hgl1 := hP1.toks.lt; have hs1 : w.heap.size + 1 ≤ w1.heap.size := (by have := hg1.size; simpa using this); have hb_z1 : Blk w1 (w.heap.size) 28 #[.int .i64 0, .int .i64 0, .int .i64 0, .string ⟨#[]⟩, .string ⟨#[]⟩, .int .i64 0, .slice none 0 0] := Blk.call (b := E.b) bkA hg1 (by omega); have hl_z1 := hb_z1.lt)
    | (go_at_call 25; (with_reducible refine (name_any E _ l1 (o) _ _ psA HQ1.out).mono ?_); rintro e w2 ⟨hg2, ⟨a, k, hb, rfl⟩ | ⟨x2, l2, rfl, hq2, hP2⟩⟩; exact And.intro rfl ⟨Gr.trans grA hg2, .inl ⟨_, _, hb, rfl⟩⟩; have hG2 : Gr (· = E.b) w w2 := Gr.trans grA hg2; have HQ2 := Lib.hid hq2; clear hq2; have hbl2 := hP2.lt; have hgl2 := hP2.toks.lt; have hs2 : w1.heap.size + 0 ≤ w2.heap.size := (by have := hg2.size; simpa using this); have hb_z2 : Blk w2 (w.heap.size) 28 #[.int .i64 0, .int .i64 0, .int .i64 0, .string ⟨#[]⟩, .string ⟨#[]⟩, .int .i64 0, .slice none 0 0] := Blk.call (b := E.b) bkA hg2 (by omega); have hl_z2 := hb_z2.lt)
    | (go_at_call 24; (with_reducible refine (want_any E _ l2 (o) [61] ⟨#[61]⟩ _ _ psA rfl (by simp) HQ2.out).mono ?_); rintro e w3 ⟨hg3, ⟨a, k, hb, rfl⟩ | ⟨x3, l3, rfl, hq3, hP3⟩⟩; exact And.intro rfl ⟨Gr.trans grA hg3, .inl ⟨_, _, hb, rfl⟩⟩; have hG3 : Gr (· = E.b) w w3 := Gr.trans grA hg3; have HQ3 := Lib.hid hq3; clear hq3; have hbl3 := hP3.lt; have hgl3 := hP3.toks.lt; have hs3 : w2.heap.size + 1 ≤ w3.heap.size := (by have := hg3.size; simpa using this); have hb_z3 : Blk w3 (w.heap.size) 28 #[.int .i64 0, .int .i64 0, .int .i64 0, .string ⟨#[]⟩, .string ⟨#[]⟩, .int .i64 0, .slice none 0 0] := Blk.call (b := E.b) bkA hg3 (by omega); have hl_z3 := hb_z3.lt; have hb_x3 : Blk w3 (w2.heap.size) 58 #[.int .i64 x2.1.k, .string (bs x2.1.t), .int .i64 x2.1.n, .int .i64 x2.2] := Blk.call (b := E.b) bkA hg3 (by omega); have hl_x3 := hb_x3.lt))
  by_cases hm : mark l3 = [45]
  · skip
    have HQx := HQ3.out
    rw [if_pos hm] at HQx
    have HM := Lib.hid hm
    clear HQ3 hm
    have HQ3 := Lib.hid HQx
    clear HQx
    go_wp2_with (first
      | (go_at_call 26; refine (skip_yes E _ l3 (o) [45] _ psA rfl (by simp) HM.out).mono ?_; rintro e w4 ⟨rfl, hg4, xs, l4, hll4, hP4⟩; have hG4 : Gr (· = E.b) w w4 := Gr.trans grA hg4; have hq4 := HQ3.out; rw [hll4, takeR_cons] at hq4; have HQ4 := Lib.hid hq4; clear hq4 hll4; have hbl4 := hP4.lt; have hgl4 := hP4.toks.lt; have hs4 : w3.heap.size + 0 ≤ w4.heap.size := (by have := hg4.size; simpa using this); have hb_z4 : Blk w4 (w.heap.size) 28 #[.int .i64 0, .int .i64 0, .int .i64 0, .string ⟨#[]⟩, .string ⟨#[]⟩, .int .i64 0, .slice none 0 0] := Blk.call (b := E.b) bkA hg4 (by omega); have hl_z4 := hb_z4.lt; have hb_x4 : Blk w4 (w2.heap.size) 58 #[.int .i64 x2.1.k, .string (bs x2.1.t), .int .i64 x2.1.n, .int .i64 x2.2] := Blk.call (b := E.b) bkA hg4 (by omega); have hl_x4 := hb_x4.lt)
      | (go_at_call 41; (with_reducible refine (wantK_any E _ l4 (o) 3 _ _ psA (by simp) (wantK_num hP4 HQ4.out)).mono ?_); rintro e w5 ⟨hg5, ⟨a, k, hb, rfl⟩ | ⟨x5, l5, rfl, hq5, hP5⟩⟩; exact And.intro rfl ⟨Gr.trans grA hg5, .inl ⟨_, _, hb, rfl⟩⟩; have hG5 : Gr (· = E.b) w w5 := Gr.trans grA hg5; dsimp only at hq5; have hnb5 : 0 ≤ x5.1.n ∧ x5.1.n ≤ 9223372036854775807 := (Decidable.byContradiction fun hc => HR.out (by rw [if_neg hc] at hq5; exact hq5.symm)); have hq5' := hq5; rw [if_pos hnb5] at hq5'; have HQ5 := Lib.hid hq5'; clear hq5 hq5'; have hwn5 : wrap64 (-x5.1.n) = -x5.1.n := (neg_wrap hnb5.1 hnb5.2); have hbl5 := hP5.lt; have hgl5 := hP5.toks.lt; have hs5 : w4.heap.size + 0 ≤ w5.heap.size := (by have := hg5.size; simpa using this); have hb_z5 : Blk w5 (w.heap.size) 28 #[.int .i64 0, .int .i64 0, .int .i64 0, .string ⟨#[]⟩, .string ⟨#[]⟩, .int .i64 0, .slice none 0 0] := Blk.call (b := E.b) bkA hg5 (by omega); have hl_z5 := hb_z5.lt; have hb_x5 : Blk w5 (w2.heap.size) 58 #[.int .i64 x2.1.k, .string (bs x2.1.t), .int .i64 x2.1.n, .int .i64 x2.2] := Blk.call (b := E.b) bkA hg5 (by omega); have hl_x5 := hb_x5.lt)
      | (go_at_call 24; (with_reducible refine (want_any E _ l5 (o) [59] ⟨#[59]⟩ _ _ psA rfl (by simp) HQ5.out).mono ?_); rintro e w6 ⟨hg6, ⟨a, k, hb, rfl⟩ | ⟨x6, l6, rfl, hq6, hP6⟩⟩; exact And.intro rfl ⟨Gr.trans grA hg6, .inl ⟨_, _, hb, rfl⟩⟩; have hG6 : Gr (· = E.b) w w6 := Gr.trans grA hg6; have HQ6 := Lib.hid hq6; clear hq6; have hbl6 := hP6.lt; have hgl6 := hP6.toks.lt; have hs6 : w5.heap.size + 0 ≤ w6.heap.size := (by have := hg6.size; simpa using this); have hb_z6 : Blk w6 (w.heap.size) 28 #[.int .i64 0, .int .i64 0, .int .i64 0, .string ⟨#[]⟩, .string ⟨#[]⟩, .int .i64 0, .slice none 0 0] := Blk.call (b := E.b) bkA hg6 (by omega); have hl_z6 := hb_z6.lt; obtain ⟨_, z6_0, z6_1, z6_2, z6_3, z6_4, z6_5, z6_6, z6_f⟩ := hb_z6.all7; have hb_x6 : Blk w6 (w2.heap.size) 58 #[.int .i64 x2.1.k, .string (bs x2.1.t), .int .i64 x2.1.n, .int .i64 x2.2] := Blk.call (b := E.b) bkA hg6 (by omega); have hl_x6 := hb_x6.lt; obtain ⟨_, x6_0, x6_1, x6_2, x6_3, x6_f⟩ := hb_x6.all4; have lt_x1 : w2.heap.size < w6.heap.size + 1 := (by omega); have lt_z1 : w.heap.size < w6.heap.size + 1 := (by omega); have lt_x2 : w2.heap.size < w6.heap.size + 2 := (by omega); have lt_z2 : w.heap.size < w6.heap.size + 2 := (by omega); have lt_x3 : w2.heap.size < w6.heap.size + 3 := (by omega); have lt_z3 : w.heap.size < w6.heap.size + 3 := (by omega)))
    exact ret7 Tryz.results42 rfl rfl b7A ⟨grA, .inr ⟨3, 0, -x5.1.n, [], x2.1.t, x2.2, [], none, 0, l6, rfl, HQ6.out, Kid.nil _ _ 0, by simp, psA⟩⟩
  · skip
    have HQx := HQ3.out
    rw [if_neg hm] at HQx
    have hmn3 := bs_beq3 hm
    have HM := Lib.hid hm
    clear HQ3 hm
    have HQ3 := Lib.hid HQx
    clear HQx
    go_wp2_with (first
      | (go_at_call 26; refine (skip_no E _ l3 (o) [45] _ psA rfl HM.out).mono ?_; rintro e w4 ⟨rfl, hg4⟩; have hP4 : PS E w4 l3 (o) := PS.below psA hg4; have hG4 : Gr (· = E.b) w w4 := Gr.trans grA (Gr.of_below hg4); have hbl4 := hP4.lt; have hgl4 := hP4.toks.lt; have hs4 : w3.heap.size + 0 ≤ w4.heap.size := (by have := hg4.size; simpa using this); have hb_z4 : Blk w4 (w.heap.size) 28 #[.int .i64 0, .int .i64 0, .int .i64 0, .string ⟨#[]⟩, .string ⟨#[]⟩, .int .i64 0, .slice none 0 0] := Blk.bel bkA hg4; have hl_z4 := hb_z4.lt; have hb_x4 : Blk w4 (w2.heap.size) 58 #[.int .i64 x2.1.k, .string (bs x2.1.t), .int .i64 x2.1.n, .int .i64 x2.2] := Blk.bel bkA hg4; have hl_x4 := hb_x4.lt)
      | (go_at_call 41; (with_reducible refine (wantK_any E _ l3 (o) 3 _ _ psA (by simp) HQ3.out).mono ?_); rintro e w5 ⟨hg5, ⟨a, k, hb, rfl⟩ | ⟨x5, l5, rfl, hq5, hP5⟩⟩; exact And.intro rfl ⟨Gr.trans grA hg5, .inl ⟨_, _, hb, rfl⟩⟩; have hG5 : Gr (· = E.b) w w5 := Gr.trans grA hg5; have HQ5 := Lib.hid hq5; clear hq5; have hbl5 := hP5.lt; have hgl5 := hP5.toks.lt; have hs5 : w4.heap.size + 0 ≤ w5.heap.size := (by have := hg5.size; simpa using this); have hb_z5 : Blk w5 (w.heap.size) 28 #[.int .i64 0, .int .i64 0, .int .i64 0, .string ⟨#[]⟩, .string ⟨#[]⟩, .int .i64 0, .slice none 0 0] := Blk.call (b := E.b) bkA hg5 (by omega); have hl_z5 := hb_z5.lt; have hb_x5 : Blk w5 (w2.heap.size) 58 #[.int .i64 x2.1.k, .string (bs x2.1.t), .int .i64 x2.1.n, .int .i64 x2.2] := Blk.call (b := E.b) bkA hg5 (by omega); have hl_x5 := hb_x5.lt)
      | (go_at_call 24; (with_reducible refine (want_any E _ l5 (o) [59] ⟨#[59]⟩ _ _ psA rfl (by simp) HQ5.out).mono ?_); rintro e w6 ⟨hg6, ⟨a, k, hb, rfl⟩ | ⟨x6, l6, rfl, hq6, hP6⟩⟩; exact And.intro rfl ⟨Gr.trans grA hg6, .inl ⟨_, _, hb, rfl⟩⟩; have hG6 : Gr (· = E.b) w w6 := Gr.trans grA hg6; have HQ6 := Lib.hid hq6; clear hq6; have hbl6 := hP6.lt; have hgl6 := hP6.toks.lt; have hs6 : w5.heap.size + 0 ≤ w6.heap.size := (by have := hg6.size; simpa using this); have hb_z6 : Blk w6 (w.heap.size) 28 #[.int .i64 0, .int .i64 0, .int .i64 0, .string ⟨#[]⟩, .string ⟨#[]⟩, .int .i64 0, .slice none 0 0] := Blk.call (b := E.b) bkA hg6 (by omega); have hl_z6 := hb_z6.lt; obtain ⟨_, z6_0, z6_1, z6_2, z6_3, z6_4, z6_5, z6_6, z6_f⟩ := hb_z6.all7; have hb_x6 : Blk w6 (w2.heap.size) 58 #[.int .i64 x2.1.k, .string (bs x2.1.t), .int .i64 x2.1.n, .int .i64 x2.2] := Blk.call (b := E.b) bkA hg6 (by omega); have hl_x6 := hb_x6.lt; obtain ⟨_, x6_0, x6_1, x6_2, x6_3, x6_f⟩ := hb_x6.all4; have lt_x1 : w2.heap.size < w6.heap.size + 1 := (by omega); have lt_z1 : w.heap.size < w6.heap.size + 1 := (by omega); have lt_x2 : w2.heap.size < w6.heap.size + 2 := (by omega); have lt_z2 : w.heap.size < w6.heap.size + 2 := (by omega); have lt_x3 : w2.heap.size < w6.heap.size + 3 := (by omega); have lt_z3 : w.heap.size < w6.heap.size + 3 := (by omega)))
    exact ret7 Tryz.results42 rfl rfl b7A ⟨grA, .inr ⟨3, 0, x5.1.n, [], x2.1.t, x2.2, [], none, 0, l6, rfl, HQ6.out, Kid.nil _ _ 0, by simp, psA⟩⟩
end Go.Proofs.YtihnnbeepfgphaaGreatDoor
