/-
  Methods of the parser, the second nine: walks.
-/
import Derived.Test.YtihnnbeepfgphaaGreatDoorParC
import Derived.IntWalk
import Derived.Deep.LoopGhost
import Derived.Test.YtihnnbeepfgphaaGreatDoorParE
/-! ## PF15: Names, signs ahead: walks. -/
namespace Go.Proofs.YtihnnbeepfgphaaGreatDoor
open Go.RowKit
set_option linter.unusedVariables false
set_option linter.unusedSimpArgs false
attribute [local go_sem ↓] tok_f0 tok_f1 tok_f2 tok_f3

set_option maxRecDepth 100000 in
set_option maxHeartbeats 4000000 in
theorem plain_any (E : Env) (w : World) (x : T) (t : List T) (o : Nat) (hP : PS E w (x :: t) o) (hx : x.1.k ≠ 0) :
    Calls Tryz.prog 102 #[.pointer (some ⟨E.b, 0, none⟩)] w fun e w' => e = .returned (.agg #[.int .i64 30, .int .i64 0, .int .i64 0, .string ⟨#[]⟩, .string (bs x.1.t), .int .i64 x.2, .slice none 0 0]) ∧ Gr (· = E.b) w w' ∧ PS E w' t o := by
  have hlt := hP.lt
  have hgt := hP.toks.lt
  have hne := hP.ne
  have HX := Lib.hid hx
  clear hx
  go_enter Tryz.func102, Tryz.ntmps102
  go_wp2_with (first
    | (go_at_call 40; refine (take_any E _ x t (o) psA HX.out).mono ?_; rintro e w1 ⟨rfl, hg1, hP1⟩; have hG1 : Gr (· = E.b) w w1 := Gr.trans grA hg1; have hbl1 := hP1.lt; have hgl1 := hP1.toks.lt; have hs1 : w.heap.size + 1 ≤ w1.heap.size := (by have := hg1.size; simpa using this); have hb_z1 : Blk w1 (w.heap.size) 28 #[.int .i64 0, .int .i64 0, .int .i64 0, .string ⟨#[]⟩, .string ⟨#[]⟩, .int .i64 0, .slice none 0 0] := Blk.call (b := E.b) bkA hg1 (by omega); have hl_z1 := hb_z1.lt; obtain ⟨_, z1_0, z1_1, z1_2, z1_3, z1_4, z1_5, z1_6, z1_f⟩ := hb_z1.all7))
  exact ret7 Tryz.results102 rfl rfl b7A ⟨rfl, grA, psA⟩
set_option maxRecDepth 100000 in
set_option maxHeartbeats 4000000 in
theorem ofOne_any (n : Nat) (Hn : AllN n) (kk : Int) (E : Env) (w : World) (x1 : T) (l1 : List T) (o : Nat) (g : Tr → List T → R) (r : R) (hP : PS E w (x1 :: l1) o) (hx : x1.1.k ≠ 0) (hq : bnd (go n .unary l1 o) (fun t q => g (.mk 32 kk 0 [] [] x1.2 [t]) q) = r) (hr : r ≠ .out) :
    Calls Tryz.prog 93 #[.pointer (some ⟨E.b, 0, none⟩), .int .i64 kk] w (NodeP E w w.heap.size o g r) := by
  have hlt := hP.lt
  have hgt := hP.toks.lt
  have hne := hP.ne
  have HX := Lib.hid hx
  have HQ0 := Lib.hid hq
  have HR := Lib.hid hr
  clear hx hq hr
  go_enter Tryz.func93, Tryz.ntmps93
  go_wp2_with (first
    | (go_at_call 40; refine (take_any E _ x1 l1 (o) psA HX.out).mono ?_; rintro e w1 ⟨rfl, hg1, hP1⟩; have hG1 : Gr (· = E.b) w w1 := Gr.trans grA hg1; have hbl1 := hP1.lt; have hgl1 := hP1.toks.lt; have hs1 : w.heap.size + 1 ≤ w1.heap.size := (by have := hg1.size; simpa using this); have hb_z1 : Blk w1 (w.heap.size) 28 #[.int .i64 0, .int .i64 0, .int .i64 0, .string ⟨#[]⟩, .string ⟨#[]⟩, .int .i64 0, .slice none 0 0] := Blk.call (b := E.b) bkA hg1 (by omega); have hl_z1 := hb_z1.lt)
    | (go_at_call 80; refine (Hn.unary E _ l1 (o) _ r psA HQ0.out HR.out).mono ?_; rintro e w2 ⟨hg2, ⟨a, k, hb, rfl⟩ | ⟨k2, op2, m2, p2, t2, a2, ks2, A2, c2, l2, rfl, hq2, hk_22, hn2, hP2⟩⟩; exact And.intro rfl ⟨Gr.trans grA hg2, .inl ⟨_, _, hb, rfl⟩⟩; have hG2 : Gr (· = E.b) w w2 := Gr.trans grA hg2; have HQ2 := Lib.hid hq2; clear hq2; have hbl2 := hP2.lt; have hgl2 := hP2.toks.lt; have hs2 : w1.heap.size + 0 ≤ w2.heap.size := (by have := hg2.size; simpa using this); have hb_z2 : Blk w2 (w.heap.size) 28 #[.int .i64 0, .int .i64 0, .int .i64 0, .string ⟨#[]⟩, .string ⟨#[]⟩, .int .i64 0, .slice none 0 0] := Blk.call (b := E.b) bkA hg2 (by omega); have hl_z2 := hb_z2.lt; obtain ⟨_, z2_0, z2_1, z2_2, z2_3, z2_4, z2_5, z2_6, z2_f⟩ := hb_z2.all7; have hk_22 := Kid.mono (lo' := w1.heap.size + 0) hk_22 (by simp)))
  exact ret7 Tryz.results93 rfl rfl b7A ⟨grA, .inr ⟨32, kk, 0, [], [], x1.2, [Tr.mk k2 op2 m2 p2 t2 a2 ks2], some ⟨w2.heap.size, 0, none⟩, 1, l2, rfl, HQ2.out, Kid.mono (lo := w1.heap.size + 0) (Kid.lit1_at (k := k2) (op := op2) (m := m2) (p := p2) (t := t2) (a := a2) (A := A2) (c := c2) kdA (by simp; omega) (by simp)) (by omega), by simp [LIM], psA⟩⟩
end Go.Proofs.YtihnnbeepfgphaaGreatDoor

/-! ## PF16: Words and signs that begin an expression: walks. -/
namespace Go.Proofs.YtihnnbeepfgphaaGreatDoor
open Go.RowKit
set_option linter.unusedVariables false
set_option linter.unusedSimpArgs false
attribute [local go_sem ↓] tok_f0 tok_f1 tok_f2 tok_f3

set_option maxRecDepth 100000 in
set_option maxHeartbeats 4000000 in
theorem firstMark_step (n : Nat) (hn : n ≤ LIM) (H : ∀ m, m ≤ n → AllN m) : C0 (n + 1) 103 .firstMark := by
  intro E w l o g r hP hq hr
  simp only [go, bnd_takeR, bnd_ite, bnd_refuse, bnd_ok] at hq
  have hlt := hP.lt
  have hgt := hP.toks.lt
  have hne := hP.ne
  have HR := Lib.hid hr
  have Hn := H n (Nat.le_refl _)
  clear hr
  obtain ⟨x1, l1, rfl⟩ := hP.cons
  by_cases hm : mark (x1 :: l1) = [116, 114, 117, 101]
  · rw [if_pos hm] at hq
    have HX := Lib.hid (good_mark hP.good (by rw [hm]; simp))
    rw [takeR_cons] at hq
    have HM := Lib.hid hm
    have HQ0 := Lib.hid hq
    clear hq hm
    go_enter Tryz.func103, Tryz.ntmps103
    go_wp2_with (first
      | (go_at_call 38; refine (mark_any E _ (x1 :: l1) (o) psA).mono ?_; rw [HM.out, show bs [116, 114, 117, 101] = ⟨#[116, 114, 117, 101]⟩ from rfl]; rintro e w1 ⟨rfl, hg1⟩; have hP1 : PS E w1 (x1 :: l1) (o) := PS.below psA hg1; have hG1 : Gr (· = E.b) w w1 := Gr.trans grA (Gr.of_below hg1); have hbl1 := hP1.lt; have hgl1 := hP1.toks.lt; have hs1 : w.heap.size + 1 ≤ w1.heap.size := (by have := hg1.size; simpa using this); have hb_z1 : Blk w1 (w.heap.size) 28 #[.int .i64 0, .int .i64 0, .int .i64 0, .string ⟨#[]⟩, .string ⟨#[]⟩, .int .i64 0, .slice none 0 0] := Blk.bel bkA hg1; have hl_z1 := hb_z1.lt)
      | (go_at_call 40; refine (take_any E _ x1 l1 (o) psA HX.out).mono ?_; rintro e w2 ⟨rfl, hg2, hP2⟩; have hG2 : Gr (· = E.b) w w2 := Gr.trans grA hg2; have hbl2 := hP2.lt; have hgl2 := hP2.toks.lt; have hs2 : w1.heap.size + 0 ≤ w2.heap.size := (by have := hg2.size; simpa using this); have hb_z2 : Blk w2 (w.heap.size) 28 #[.int .i64 0, .int .i64 0, .int .i64 0, .string ⟨#[]⟩, .string ⟨#[]⟩, .int .i64 0, .slice none 0 0] := Blk.call (b := E.b) bkA hg2 (by omega); have hl_z2 := hb_z2.lt; obtain ⟨_, z2_0, z2_1, z2_2, z2_3, z2_4, z2_5, z2_6, z2_f⟩ := hb_z2.all7))
    exact ret7 Tryz.results103 rfl rfl b7A ⟨grA, .inr ⟨28, 0, 1, [], [], x1.2, [], none, 0, l1, rfl, HQ0.out, Kid.nil _ _ 0, by simp, psA⟩⟩
  rw [if_neg hm] at hq
  have hm_74727565 := bs_beq3 hm
  clear hm
  by_cases hm : mark (x1 :: l1) = [102, 97, 108, 115, 101]
  · rw [if_pos hm] at hq
    have HX := Lib.hid (good_mark hP.good (by rw [hm]; simp))
    rw [takeR_cons] at hq
    have HM := Lib.hid hm
    have HQ0 := Lib.hid hq
    clear hq hm
    go_enter Tryz.func103, Tryz.ntmps103
    go_wp2_with (first
      | (go_at_call 38; refine (mark_any E _ (x1 :: l1) (o) psA).mono ?_; rw [HM.out, show bs [102, 97, 108, 115, 101] = ⟨#[102, 97, 108, 115, 101]⟩ from rfl]; rintro e w1 ⟨rfl, hg1⟩; have hP1 : PS E w1 (x1 :: l1) (o) := PS.below psA hg1; have hG1 : Gr (· = E.b) w w1 := Gr.trans grA (Gr.of_below hg1); have hbl1 := hP1.lt; have hgl1 := hP1.toks.lt; have hs1 : w.heap.size + 1 ≤ w1.heap.size := (by have := hg1.size; simpa using this); have hb_z1 : Blk w1 (w.heap.size) 28 #[.int .i64 0, .int .i64 0, .int .i64 0, .string ⟨#[]⟩, .string ⟨#[]⟩, .int .i64 0, .slice none 0 0] := Blk.bel bkA hg1; have hl_z1 := hb_z1.lt)
      | (go_at_call 40; refine (take_any E _ x1 l1 (o) psA HX.out).mono ?_; rintro e w2 ⟨rfl, hg2, hP2⟩; have hG2 : Gr (· = E.b) w w2 := Gr.trans grA hg2; have hbl2 := hP2.lt; have hgl2 := hP2.toks.lt; have hs2 : w1.heap.size + 0 ≤ w2.heap.size := (by have := hg2.size; simpa using this); have hb_z2 : Blk w2 (w.heap.size) 28 #[.int .i64 0, .int .i64 0, .int .i64 0, .string ⟨#[]⟩, .string ⟨#[]⟩, .int .i64 0, .slice none 0 0] := Blk.call (b := E.b) bkA hg2 (by omega); have hl_z2 := hb_z2.lt; obtain ⟨_, z2_0, z2_1, z2_2, z2_3, z2_4, z2_5, z2_6, z2_f⟩ := hb_z2.all7))
    exact ret7 Tryz.results103 rfl rfl b7A ⟨grA, .inr ⟨28, 0, 0, [], [], x1.2, [], none, 0, l1, rfl, HQ0.out, Kid.nil _ _ 0, by simp, psA⟩⟩
  rw [if_neg hm] at hq
  have hm_66616c7365 := bs_beq3 hm
  clear hm
  by_cases hm : mark (x1 :: l1) = [110, 105, 108]
  · rw [if_pos hm] at hq
    have HX := Lib.hid (good_mark hP.good (by rw [hm]; simp))
    rw [takeR_cons] at hq
    have HM := Lib.hid hm
    have HQ0 := Lib.hid hq
    clear hq hm
    go_enter Tryz.func103, Tryz.ntmps103
    go_wp2_with (first
      | (go_at_call 38; refine (mark_any E _ (x1 :: l1) (o) psA).mono ?_; rw [HM.out, show bs [110, 105, 108] = ⟨#[110, 105, 108]⟩ from rfl]; rintro e w1 ⟨rfl, hg1⟩; have hP1 : PS E w1 (x1 :: l1) (o) := PS.below psA hg1; have hG1 : Gr (· = E.b) w w1 := Gr.trans grA (Gr.of_below hg1); have hbl1 := hP1.lt; have hgl1 := hP1.toks.lt; have hs1 : w.heap.size + 1 ≤ w1.heap.size := (by have := hg1.size; simpa using this); have hb_z1 : Blk w1 (w.heap.size) 28 #[.int .i64 0, .int .i64 0, .int .i64 0, .string ⟨#[]⟩, .string ⟨#[]⟩, .int .i64 0, .slice none 0 0] := Blk.bel bkA hg1; have hl_z1 := hb_z1.lt)
      | (go_at_call 40; refine (take_any E _ x1 l1 (o) psA HX.out).mono ?_; rintro e w2 ⟨rfl, hg2, hP2⟩; have hG2 : Gr (· = E.b) w w2 := Gr.trans grA hg2; have hbl2 := hP2.lt; have hgl2 := hP2.toks.lt; have hs2 : w1.heap.size + 0 ≤ w2.heap.size := (by have := hg2.size; simpa using this); have hb_z2 : Blk w2 (w.heap.size) 28 #[.int .i64 0, .int .i64 0, .int .i64 0, .string ⟨#[]⟩, .string ⟨#[]⟩, .int .i64 0, .slice none 0 0] := Blk.call (b := E.b) bkA hg2 (by omega); have hl_z2 := hb_z2.lt; obtain ⟨_, z2_0, z2_1, z2_2, z2_3, z2_4, z2_5, z2_6, z2_f⟩ := hb_z2.all7))
    exact ret7 Tryz.results103 rfl rfl b7A ⟨grA, .inr ⟨29, 0, 0, [], [], x1.2, [], none, 0, l1, rfl, HQ0.out, Kid.nil _ _ 0, by simp, psA⟩⟩
  rw [if_neg hm] at hq
  have hm_6e696c := bs_beq3 hm
  clear hm
  by_cases hm : mark (x1 :: l1) = [40]
  · rw [if_pos hm] at hq
    have HM := Lib.hid hm
    have HQ0 := Lib.hid hq
    clear hq hm
    go_enter Tryz.func103, Tryz.ntmps103
    go_wp2_with (first
      | (go_at_call 38; refine (mark_any E _ (x1 :: l1) (o) psA).mono ?_; rw [HM.out, show bs [40] = ⟨#[40]⟩ from rfl]; rintro e w1 ⟨rfl, hg1⟩; have hP1 : PS E w1 (x1 :: l1) (o) := PS.below psA hg1; have hG1 : Gr (· = E.b) w w1 := Gr.trans grA (Gr.of_below hg1); have hbl1 := hP1.lt; have hgl1 := hP1.toks.lt; have hs1 : w.heap.size + 1 ≤ w1.heap.size := (by have := hg1.size; simpa using this); have hb_z1 : Blk w1 (w.heap.size) 28 #[.int .i64 0, .int .i64 0, .int .i64 0, .string ⟨#[]⟩, .string ⟨#[]⟩, .int .i64 0, .slice none 0 0] := Blk.bel bkA hg1; have hl_z1 := hb_z1.lt)
      | (go_at_call 105; refine (Hn.inBrackets E _ (x1 :: l1) (o) _ r psA HQ0.out HR.out).mono ?_; rintro e w2 ⟨hg2, ⟨a, k, hb, rfl⟩ | ⟨k2, op2, m2, p2, t2, a2, ks2, A2, c2, l2, rfl, hq2, hk_22, hn2, hP2⟩⟩; exact And.intro rfl ⟨Gr.trans grA hg2, .inl ⟨_, _, hb, rfl⟩⟩; have hG2 : Gr (· = E.b) w w2 := Gr.trans grA hg2; have HQ2 := Lib.hid hq2; clear hq2; have hbl2 := hP2.lt; have hgl2 := hP2.toks.lt; have hs2 : w1.heap.size + 0 ≤ w2.heap.size := (by have := hg2.size; simpa using this); have hb_z2 : Blk w2 (w.heap.size) 28 #[.int .i64 0, .int .i64 0, .int .i64 0, .string ⟨#[]⟩, .string ⟨#[]⟩, .int .i64 0, .slice none 0 0] := Blk.call (b := E.b) bkA hg2 (by omega); have hl_z2 := hb_z2.lt; obtain ⟨_, z2_0, z2_1, z2_2, z2_3, z2_4, z2_5, z2_6, z2_f⟩ := hb_z2.all7; have hk_22 := Kid.mono (lo' := w1.heap.size + 0) hk_22 (by simp)))
    exact ret7 Tryz.results103 rfl rfl b7A ⟨grA, .inr ⟨k2, op2, m2, p2, t2, a2, ks2, A2, c2, l2, rfl, HQ2.out, Kid.mono (lo := w1.heap.size + 0) kdA (by omega), hn2, psA⟩⟩
  rw [if_neg hm] at hq
  have hm_28 := bs_beq3 hm
  clear hm
  by_cases hm : mark (x1 :: l1) = [91]
  · rw [if_pos hm] at hq
    have HM := Lib.hid hm
    have HQ0 := Lib.hid hq
    clear hq hm
    go_enter Tryz.func103, Tryz.ntmps103
    go_wp2_with (first
      | (go_at_call 38; refine (mark_any E _ (x1 :: l1) (o) psA).mono ?_; rw [HM.out, show bs [91] = ⟨#[91]⟩ from rfl]; rintro e w1 ⟨rfl, hg1⟩; have hP1 : PS E w1 (x1 :: l1) (o) := PS.below psA hg1; have hG1 : Gr (· = E.b) w w1 := Gr.trans grA (Gr.of_below hg1); have hbl1 := hP1.lt; have hgl1 := hP1.toks.lt; have hs1 : w.heap.size + 1 ≤ w1.heap.size := (by have := hg1.size; simpa using this); have hb_z1 : Blk w1 (w.heap.size) 28 #[.int .i64 0, .int .i64 0, .int .i64 0, .string ⟨#[]⟩, .string ⟨#[]⟩, .int .i64 0, .slice none 0 0] := Blk.bel bkA hg1; have hl_z1 := hb_z1.lt)
      | (go_at_call 106; refine (Hn.literalList E _ (x1 :: l1) (o) _ r psA HQ0.out HR.out).mono ?_; rintro e w2 ⟨hg2, ⟨a, k, hb, rfl⟩ | ⟨k2, op2, m2, p2, t2, a2, ks2, A2, c2, l2, rfl, hq2, hk_22, hn2, hP2⟩⟩; exact And.intro rfl ⟨Gr.trans grA hg2, .inl ⟨_, _, hb, rfl⟩⟩; have hG2 : Gr (· = E.b) w w2 := Gr.trans grA hg2; have HQ2 := Lib.hid hq2; clear hq2; have hbl2 := hP2.lt; have hgl2 := hP2.toks.lt; have hs2 : w1.heap.size + 0 ≤ w2.heap.size := (by have := hg2.size; simpa using this); have hb_z2 : Blk w2 (w.heap.size) 28 #[.int .i64 0, .int .i64 0, .int .i64 0, .string ⟨#[]⟩, .string ⟨#[]⟩, .int .i64 0, .slice none 0 0] := Blk.call (b := E.b) bkA hg2 (by omega); have hl_z2 := hb_z2.lt; obtain ⟨_, z2_0, z2_1, z2_2, z2_3, z2_4, z2_5, z2_6, z2_f⟩ := hb_z2.all7; have hk_22 := Kid.mono (lo' := w1.heap.size + 0) hk_22 (by simp)))
    exact ret7 Tryz.results103 rfl rfl b7A ⟨grA, .inr ⟨k2, op2, m2, p2, t2, a2, ks2, A2, c2, l2, rfl, HQ2.out, Kid.mono (lo := w1.heap.size + 0) kdA (by omega), hn2, psA⟩⟩
  rw [if_neg hm] at hq
  have hm_5b := bs_beq3 hm
  clear hm
  by_cases hm : mark (x1 :: l1) = [102, 117, 110, 99]
  · rw [if_pos hm] at hq
    have HM := Lib.hid hm
    have HQ0 := Lib.hid hq
    clear hq hm
    go_enter Tryz.func103, Tryz.ntmps103
    go_wp2_with (first
      | (go_at_call 38; refine (mark_any E _ (x1 :: l1) (o) psA).mono ?_; rw [HM.out, show bs [102, 117, 110, 99] = ⟨#[102, 117, 110, 99]⟩ from rfl]; rintro e w1 ⟨rfl, hg1⟩; have hP1 : PS E w1 (x1 :: l1) (o) := PS.below psA hg1; have hG1 : Gr (· = E.b) w w1 := Gr.trans grA (Gr.of_below hg1); have hbl1 := hP1.lt; have hgl1 := hP1.toks.lt; have hs1 : w.heap.size + 1 ≤ w1.heap.size := (by have := hg1.size; simpa using this); have hb_z1 : Blk w1 (w.heap.size) 28 #[.int .i64 0, .int .i64 0, .int .i64 0, .string ⟨#[]⟩, .string ⟨#[]⟩, .int .i64 0, .slice none 0 0] := Blk.bel bkA hg1; have hl_z1 := hb_z1.lt)
      | (go_at_call 107; refine (Hn.literalFunc E _ (x1 :: l1) (o) _ r psA HQ0.out HR.out).mono ?_; rintro e w2 ⟨hg2, ⟨a, k, hb, rfl⟩ | ⟨k2, op2, m2, p2, t2, a2, ks2, A2, c2, l2, rfl, hq2, hk_22, hn2, hP2⟩⟩; exact And.intro rfl ⟨Gr.trans grA hg2, .inl ⟨_, _, hb, rfl⟩⟩; have hG2 : Gr (· = E.b) w w2 := Gr.trans grA hg2; have HQ2 := Lib.hid hq2; clear hq2; have hbl2 := hP2.lt; have hgl2 := hP2.toks.lt; have hs2 : w1.heap.size + 0 ≤ w2.heap.size := (by have := hg2.size; simpa using this); have hb_z2 : Blk w2 (w.heap.size) 28 #[.int .i64 0, .int .i64 0, .int .i64 0, .string ⟨#[]⟩, .string ⟨#[]⟩, .int .i64 0, .slice none 0 0] := Blk.call (b := E.b) bkA hg2 (by omega); have hl_z2 := hb_z2.lt; obtain ⟨_, z2_0, z2_1, z2_2, z2_3, z2_4, z2_5, z2_6, z2_f⟩ := hb_z2.all7; have hk_22 := Kid.mono (lo' := w1.heap.size + 0) hk_22 (by simp)))
    exact ret7 Tryz.results103 rfl rfl b7A ⟨grA, .inr ⟨k2, op2, m2, p2, t2, a2, ks2, A2, c2, l2, rfl, HQ2.out, Kid.mono (lo := w1.heap.size + 0) kdA (by omega), hn2, psA⟩⟩
  rw [if_neg hm] at hq
  have hm_66756e63 := bs_beq3 hm
  clear hm
  by_cases hbt : builtin (mark (x1 :: l1)) = true
  · rw [if_pos hbt, takeR_cons] at hq
    have hx1 := good_mark hP.good (by intro e; rw [e] at hbt; exact absurd hbt (by decide))
    have HX := Lib.hid hx1
    have HQ0 := Lib.hid hq
    clear hx1 hq
    simp only [builtin, Bool.or_eq_true, decide_eq_true_eq] at hbt
    rcases hbt with (((hm | hm) | hm) | hm) | hm
    · have HM := Lib.hid hm
      clear hm
      go_enter Tryz.func103, Tryz.ntmps103
      go_wp2_with (first
        | (go_at_call 38; refine (mark_any E _ (x1 :: l1) (o) psA).mono ?_; rw [HM.out, show bs [108, 101, 110] = ⟨#[108, 101, 110]⟩ from rfl]; rintro e w1 ⟨rfl, hg1⟩; have hP1 : PS E w1 (x1 :: l1) (o) := PS.below psA hg1; have hG1 : Gr (· = E.b) w w1 := Gr.trans grA (Gr.of_below hg1); have hbl1 := hP1.lt; have hgl1 := hP1.toks.lt; have hs1 : w.heap.size + 1 ≤ w1.heap.size := (by have := hg1.size; simpa using this); have hb_z1 : Blk w1 (w.heap.size) 28 #[.int .i64 0, .int .i64 0, .int .i64 0, .string ⟨#[]⟩, .string ⟨#[]⟩, .int .i64 0, .slice none 0 0] := Blk.bel bkA hg1; have hl_z1 := hb_z1.lt)
        | (go_at_call 102; refine (plain_any E _ x1 l1 (o) psA HX.out).mono ?_; rintro e w2 ⟨rfl, hg2, hP2⟩; have hG2 : Gr (· = E.b) w w2 := Gr.trans grA hg2; have hbl2 := hP2.lt; have hgl2 := hP2.toks.lt; have hs2 : w1.heap.size + 0 ≤ w2.heap.size := (by have := hg2.size; simpa using this); have hb_z2 : Blk w2 (w.heap.size) 28 #[.int .i64 0, .int .i64 0, .int .i64 0, .string ⟨#[]⟩, .string ⟨#[]⟩, .int .i64 0, .slice none 0 0] := Blk.call (b := E.b) bkA hg2 (by omega); have hl_z2 := hb_z2.lt)
        | (go_at_call 96; refine (Hn.call E _ l1 (o) (w.heap.size + 1) (fun _ => False) _ r 30 0 0 [] x1.1.t x1.2 [] none 0 psA (by omega) (by omega) (by omega) nofun (Kid.p (Kid.nil _ _ 0) nofun) HQ0.out HR.out).mono ?_; rintro e w3 ⟨hg3, ⟨a, k, hb, rfl⟩ | ⟨k3, op3, m3, p3, t3, a3, ks3, A3, c3, l3, rfl, hq3, hk_33, hn3, hP3⟩⟩; exact And.intro rfl ⟨Gr.trans grA hg3, .inl ⟨_, _, hb, rfl⟩⟩; have hk_33 := hk_33.kid; have hG3 : Gr (· = E.b) w w3 := Gr.trans grA hg3; have HQ3 := Lib.hid hq3; clear hq3; have hbl3 := hP3.lt; have hgl3 := hP3.toks.lt; have hs3 : w2.heap.size + 0 ≤ w3.heap.size := (by have := hg3.size; simpa using this); have hb_z3 : Blk w3 (w.heap.size) 28 #[.int .i64 0, .int .i64 0, .int .i64 0, .string ⟨#[]⟩, .string ⟨#[]⟩, .int .i64 0, .slice none 0 0] := Blk.call (b := E.b) bkA hg3 (by omega); have hl_z3 := hb_z3.lt; obtain ⟨_, z3_0, z3_1, z3_2, z3_3, z3_4, z3_5, z3_6, z3_f⟩ := hb_z3.all7))
      exact ret7 Tryz.results103 rfl rfl b7A ⟨grA, .inr ⟨k3, op3, m3, p3, t3, a3, ks3, A3, c3, l3, rfl, HQ3.out, Kid.mono (lo := w.heap.size + 1) kdA (by omega), hn3, psA⟩⟩
    · have HM := Lib.hid hm
      clear hm
      go_enter Tryz.func103, Tryz.ntmps103
      go_wp2_with (first
        | (go_at_call 38; refine (mark_any E _ (x1 :: l1) (o) psA).mono ?_; rw [HM.out, show bs [97, 112, 112, 101, 110, 100] = ⟨#[97, 112, 112, 101, 110, 100]⟩ from rfl]; rintro e w1 ⟨rfl, hg1⟩; have hP1 : PS E w1 (x1 :: l1) (o) := PS.below psA hg1; have hG1 : Gr (· = E.b) w w1 := Gr.trans grA (Gr.of_below hg1); have hbl1 := hP1.lt; have hgl1 := hP1.toks.lt; have hs1 : w.heap.size + 1 ≤ w1.heap.size := (by have := hg1.size; simpa using this); have hb_z1 : Blk w1 (w.heap.size) 28 #[.int .i64 0, .int .i64 0, .int .i64 0, .string ⟨#[]⟩, .string ⟨#[]⟩, .int .i64 0, .slice none 0 0] := Blk.bel bkA hg1; have hl_z1 := hb_z1.lt)
        | (go_at_call 102; refine (plain_any E _ x1 l1 (o) psA HX.out).mono ?_; rintro e w2 ⟨rfl, hg2, hP2⟩; have hG2 : Gr (· = E.b) w w2 := Gr.trans grA hg2; have hbl2 := hP2.lt; have hgl2 := hP2.toks.lt; have hs2 : w1.heap.size + 0 ≤ w2.heap.size := (by have := hg2.size; simpa using this); have hb_z2 : Blk w2 (w.heap.size) 28 #[.int .i64 0, .int .i64 0, .int .i64 0, .string ⟨#[]⟩, .string ⟨#[]⟩, .int .i64 0, .slice none 0 0] := Blk.call (b := E.b) bkA hg2 (by omega); have hl_z2 := hb_z2.lt)
        | (go_at_call 96; refine (Hn.call E _ l1 (o) (w.heap.size + 1) (fun _ => False) _ r 30 0 0 [] x1.1.t x1.2 [] none 0 psA (by omega) (by omega) (by omega) nofun (Kid.p (Kid.nil _ _ 0) nofun) HQ0.out HR.out).mono ?_; rintro e w3 ⟨hg3, ⟨a, k, hb, rfl⟩ | ⟨k3, op3, m3, p3, t3, a3, ks3, A3, c3, l3, rfl, hq3, hk_33, hn3, hP3⟩⟩; exact And.intro rfl ⟨Gr.trans grA hg3, .inl ⟨_, _, hb, rfl⟩⟩; have hk_33 := hk_33.kid; have hG3 : Gr (· = E.b) w w3 := Gr.trans grA hg3; have HQ3 := Lib.hid hq3; clear hq3; have hbl3 := hP3.lt; have hgl3 := hP3.toks.lt; have hs3 : w2.heap.size + 0 ≤ w3.heap.size := (by have := hg3.size; simpa using this); have hb_z3 : Blk w3 (w.heap.size) 28 #[.int .i64 0, .int .i64 0, .int .i64 0, .string ⟨#[]⟩, .string ⟨#[]⟩, .int .i64 0, .slice none 0 0] := Blk.call (b := E.b) bkA hg3 (by omega); have hl_z3 := hb_z3.lt; obtain ⟨_, z3_0, z3_1, z3_2, z3_3, z3_4, z3_5, z3_6, z3_f⟩ := hb_z3.all7))
      exact ret7 Tryz.results103 rfl rfl b7A ⟨grA, .inr ⟨k3, op3, m3, p3, t3, a3, ks3, A3, c3, l3, rfl, HQ3.out, Kid.mono (lo := w.heap.size + 1) kdA (by omega), hn3, psA⟩⟩
    · have HM := Lib.hid hm
      clear hm
      go_enter Tryz.func103, Tryz.ntmps103
      go_wp2_with (first
        | (go_at_call 38; refine (mark_any E _ (x1 :: l1) (o) psA).mono ?_; rw [HM.out, show bs [112, 97, 110, 105, 99] = ⟨#[112, 97, 110, 105, 99]⟩ from rfl]; rintro e w1 ⟨rfl, hg1⟩; have hP1 : PS E w1 (x1 :: l1) (o) := PS.below psA hg1; have hG1 : Gr (· = E.b) w w1 := Gr.trans grA (Gr.of_below hg1); have hbl1 := hP1.lt; have hgl1 := hP1.toks.lt; have hs1 : w.heap.size + 1 ≤ w1.heap.size := (by have := hg1.size; simpa using this); have hb_z1 : Blk w1 (w.heap.size) 28 #[.int .i64 0, .int .i64 0, .int .i64 0, .string ⟨#[]⟩, .string ⟨#[]⟩, .int .i64 0, .slice none 0 0] := Blk.bel bkA hg1; have hl_z1 := hb_z1.lt)
        | (go_at_call 102; refine (plain_any E _ x1 l1 (o) psA HX.out).mono ?_; rintro e w2 ⟨rfl, hg2, hP2⟩; have hG2 : Gr (· = E.b) w w2 := Gr.trans grA hg2; have hbl2 := hP2.lt; have hgl2 := hP2.toks.lt; have hs2 : w1.heap.size + 0 ≤ w2.heap.size := (by have := hg2.size; simpa using this); have hb_z2 : Blk w2 (w.heap.size) 28 #[.int .i64 0, .int .i64 0, .int .i64 0, .string ⟨#[]⟩, .string ⟨#[]⟩, .int .i64 0, .slice none 0 0] := Blk.call (b := E.b) bkA hg2 (by omega); have hl_z2 := hb_z2.lt)
        | (go_at_call 96; refine (Hn.call E _ l1 (o) (w.heap.size + 1) (fun _ => False) _ r 30 0 0 [] x1.1.t x1.2 [] none 0 psA (by omega) (by omega) (by omega) nofun (Kid.p (Kid.nil _ _ 0) nofun) HQ0.out HR.out).mono ?_; rintro e w3 ⟨hg3, ⟨a, k, hb, rfl⟩ | ⟨k3, op3, m3, p3, t3, a3, ks3, A3, c3, l3, rfl, hq3, hk_33, hn3, hP3⟩⟩; exact And.intro rfl ⟨Gr.trans grA hg3, .inl ⟨_, _, hb, rfl⟩⟩; have hk_33 := hk_33.kid; have hG3 : Gr (· = E.b) w w3 := Gr.trans grA hg3; have HQ3 := Lib.hid hq3; clear hq3; have hbl3 := hP3.lt; have hgl3 := hP3.toks.lt; have hs3 : w2.heap.size + 0 ≤ w3.heap.size := (by have := hg3.size; simpa using this); have hb_z3 : Blk w3 (w.heap.size) 28 #[.int .i64 0, .int .i64 0, .int .i64 0, .string ⟨#[]⟩, .string ⟨#[]⟩, .int .i64 0, .slice none 0 0] := Blk.call (b := E.b) bkA hg3 (by omega); have hl_z3 := hb_z3.lt; obtain ⟨_, z3_0, z3_1, z3_2, z3_3, z3_4, z3_5, z3_6, z3_f⟩ := hb_z3.all7))
      exact ret7 Tryz.results103 rfl rfl b7A ⟨grA, .inr ⟨k3, op3, m3, p3, t3, a3, ks3, A3, c3, l3, rfl, HQ3.out, Kid.mono (lo := w.heap.size + 1) kdA (by omega), hn3, psA⟩⟩
    · have HM := Lib.hid hm
      clear hm
      go_enter Tryz.func103, Tryz.ntmps103
      go_wp2_with (first
        | (go_at_call 38; refine (mark_any E _ (x1 :: l1) (o) psA).mono ?_; rw [HM.out, show bs [112, 117, 116] = ⟨#[112, 117, 116]⟩ from rfl]; rintro e w1 ⟨rfl, hg1⟩; have hP1 : PS E w1 (x1 :: l1) (o) := PS.below psA hg1; have hG1 : Gr (· = E.b) w w1 := Gr.trans grA (Gr.of_below hg1); have hbl1 := hP1.lt; have hgl1 := hP1.toks.lt; have hs1 : w.heap.size + 1 ≤ w1.heap.size := (by have := hg1.size; simpa using this); have hb_z1 : Blk w1 (w.heap.size) 28 #[.int .i64 0, .int .i64 0, .int .i64 0, .string ⟨#[]⟩, .string ⟨#[]⟩, .int .i64 0, .slice none 0 0] := Blk.bel bkA hg1; have hl_z1 := hb_z1.lt)
        | (go_at_call 102; refine (plain_any E _ x1 l1 (o) psA HX.out).mono ?_; rintro e w2 ⟨rfl, hg2, hP2⟩; have hG2 : Gr (· = E.b) w w2 := Gr.trans grA hg2; have hbl2 := hP2.lt; have hgl2 := hP2.toks.lt; have hs2 : w1.heap.size + 0 ≤ w2.heap.size := (by have := hg2.size; simpa using this); have hb_z2 : Blk w2 (w.heap.size) 28 #[.int .i64 0, .int .i64 0, .int .i64 0, .string ⟨#[]⟩, .string ⟨#[]⟩, .int .i64 0, .slice none 0 0] := Blk.call (b := E.b) bkA hg2 (by omega); have hl_z2 := hb_z2.lt)
        | (go_at_call 96; refine (Hn.call E _ l1 (o) (w.heap.size + 1) (fun _ => False) _ r 30 0 0 [] x1.1.t x1.2 [] none 0 psA (by omega) (by omega) (by omega) nofun (Kid.p (Kid.nil _ _ 0) nofun) HQ0.out HR.out).mono ?_; rintro e w3 ⟨hg3, ⟨a, k, hb, rfl⟩ | ⟨k3, op3, m3, p3, t3, a3, ks3, A3, c3, l3, rfl, hq3, hk_33, hn3, hP3⟩⟩; exact And.intro rfl ⟨Gr.trans grA hg3, .inl ⟨_, _, hb, rfl⟩⟩; have hk_33 := hk_33.kid; have hG3 : Gr (· = E.b) w w3 := Gr.trans grA hg3; have HQ3 := Lib.hid hq3; clear hq3; have hbl3 := hP3.lt; have hgl3 := hP3.toks.lt; have hs3 : w2.heap.size + 0 ≤ w3.heap.size := (by have := hg3.size; simpa using this); have hb_z3 : Blk w3 (w.heap.size) 28 #[.int .i64 0, .int .i64 0, .int .i64 0, .string ⟨#[]⟩, .string ⟨#[]⟩, .int .i64 0, .slice none 0 0] := Blk.call (b := E.b) bkA hg3 (by omega); have hl_z3 := hb_z3.lt; obtain ⟨_, z3_0, z3_1, z3_2, z3_3, z3_4, z3_5, z3_6, z3_f⟩ := hb_z3.all7))
      exact ret7 Tryz.results103 rfl rfl b7A ⟨grA, .inr ⟨k3, op3, m3, p3, t3, a3, ks3, A3, c3, l3, rfl, HQ3.out, Kid.mono (lo := w.heap.size + 1) kdA (by omega), hn3, psA⟩⟩
    · have HM := Lib.hid hm
      clear hm
      go_enter Tryz.func103, Tryz.ntmps103
      go_wp2_with (first
        | (go_at_call 38; refine (mark_any E _ (x1 :: l1) (o) psA).mono ?_; rw [HM.out, show bs [103, 101, 116] = ⟨#[103, 101, 116]⟩ from rfl]; rintro e w1 ⟨rfl, hg1⟩; have hP1 : PS E w1 (x1 :: l1) (o) := PS.below psA hg1; have hG1 : Gr (· = E.b) w w1 := Gr.trans grA (Gr.of_below hg1); have hbl1 := hP1.lt; have hgl1 := hP1.toks.lt; have hs1 : w.heap.size + 1 ≤ w1.heap.size := (by have := hg1.size; simpa using this); have hb_z1 : Blk w1 (w.heap.size) 28 #[.int .i64 0, .int .i64 0, .int .i64 0, .string ⟨#[]⟩, .string ⟨#[]⟩, .int .i64 0, .slice none 0 0] := Blk.bel bkA hg1; have hl_z1 := hb_z1.lt)
        | (go_at_call 102; refine (plain_any E _ x1 l1 (o) psA HX.out).mono ?_; rintro e w2 ⟨rfl, hg2, hP2⟩; have hG2 : Gr (· = E.b) w w2 := Gr.trans grA hg2; have hbl2 := hP2.lt; have hgl2 := hP2.toks.lt; have hs2 : w1.heap.size + 0 ≤ w2.heap.size := (by have := hg2.size; simpa using this); have hb_z2 : Blk w2 (w.heap.size) 28 #[.int .i64 0, .int .i64 0, .int .i64 0, .string ⟨#[]⟩, .string ⟨#[]⟩, .int .i64 0, .slice none 0 0] := Blk.call (b := E.b) bkA hg2 (by omega); have hl_z2 := hb_z2.lt)
        | (go_at_call 96; refine (Hn.call E _ l1 (o) (w.heap.size + 1) (fun _ => False) _ r 30 0 0 [] x1.1.t x1.2 [] none 0 psA (by omega) (by omega) (by omega) nofun (Kid.p (Kid.nil _ _ 0) nofun) HQ0.out HR.out).mono ?_; rintro e w3 ⟨hg3, ⟨a, k, hb, rfl⟩ | ⟨k3, op3, m3, p3, t3, a3, ks3, A3, c3, l3, rfl, hq3, hk_33, hn3, hP3⟩⟩; exact And.intro rfl ⟨Gr.trans grA hg3, .inl ⟨_, _, hb, rfl⟩⟩; have hk_33 := hk_33.kid; have hG3 : Gr (· = E.b) w w3 := Gr.trans grA hg3; have HQ3 := Lib.hid hq3; clear hq3; have hbl3 := hP3.lt; have hgl3 := hP3.toks.lt; have hs3 : w2.heap.size + 0 ≤ w3.heap.size := (by have := hg3.size; simpa using this); have hb_z3 : Blk w3 (w.heap.size) 28 #[.int .i64 0, .int .i64 0, .int .i64 0, .string ⟨#[]⟩, .string ⟨#[]⟩, .int .i64 0, .slice none 0 0] := Blk.call (b := E.b) bkA hg3 (by omega); have hl_z3 := hb_z3.lt; obtain ⟨_, z3_0, z3_1, z3_2, z3_3, z3_4, z3_5, z3_6, z3_f⟩ := hb_z3.all7))
      exact ret7 Tryz.results103 rfl rfl b7A ⟨grA, .inr ⟨k3, op3, m3, p3, t3, a3, ks3, A3, c3, l3, rfl, HQ3.out, Kid.mono (lo := w.heap.size + 1) kdA (by omega), hn3, psA⟩⟩
  rw [if_neg hbt] at hq
  simp only [builtin, Bool.or_eq_true, decide_eq_true_eq, not_or] at hbt
  obtain ⟨⟨⟨⟨hb1, hb2⟩, hb3⟩, hb4⟩, hb5⟩ := hbt
  have hc1 := bs_beq3 hb1
  have hc2 := bs_beq3 hb2
  have hc3 := bs_beq3 hb3
  have hc4 := bs_beq3 hb4
  have hc5 := bs_beq3 hb5
  clear hb1 hb2 hb3 hb4 hb5
  by_cases hm : mark (x1 :: l1) = [109, 97, 107, 101]
  · rw [if_pos hm] at hq
    have hmx : mark (x1 :: l1) ≠ [] := by rw [hm]; simp
    have HMX := Lib.hid hmx
    have HM := Lib.hid hm
    have HQ0 := Lib.hid hq
    clear hq hm hmx
    go_enter Tryz.func103, Tryz.ntmps103
    go_wp2_with (first
      | (go_at_call 38; refine (mark_any E _ (x1 :: l1) (o) psA).mono ?_; rw [HM.out, show bs [109, 97, 107, 101] = ⟨#[109, 97, 107, 101]⟩ from rfl]; rintro e w1 ⟨rfl, hg1⟩; have hP1 : PS E w1 (x1 :: l1) (o) := PS.below psA hg1; have hG1 : Gr (· = E.b) w w1 := Gr.trans grA (Gr.of_below hg1); have hbl1 := hP1.lt; have hgl1 := hP1.toks.lt; have hs1 : w.heap.size + 1 ≤ w1.heap.size := (by have := hg1.size; simpa using this); have hb_z1 : Blk w1 (w.heap.size) 28 #[.int .i64 0, .int .i64 0, .int .i64 0, .string ⟨#[]⟩, .string ⟨#[]⟩, .int .i64 0, .slice none 0 0] := Blk.bel bkA hg1; have hl_z1 := hb_z1.lt)
      | (go_at_call 108; refine (Hn.makeCall E _ (x1 :: l1) (o) _ r HMX.out psA HQ0.out HR.out).mono ?_; rintro e w2 ⟨hg2, ⟨a, k, hb, rfl⟩ | ⟨k2, op2, m2, p2, t2, a2, ks2, A2, c2, l2, rfl, hq2, hk_22, hn2, hP2⟩⟩; exact And.intro rfl ⟨Gr.trans grA hg2, .inl ⟨_, _, hb, rfl⟩⟩; have hG2 : Gr (· = E.b) w w2 := Gr.trans grA hg2; have HQ2 := Lib.hid hq2; clear hq2; have hbl2 := hP2.lt; have hgl2 := hP2.toks.lt; have hs2 : w1.heap.size + 0 ≤ w2.heap.size := (by have := hg2.size; simpa using this); have hb_z2 : Blk w2 (w.heap.size) 28 #[.int .i64 0, .int .i64 0, .int .i64 0, .string ⟨#[]⟩, .string ⟨#[]⟩, .int .i64 0, .slice none 0 0] := Blk.call (b := E.b) bkA hg2 (by omega); have hl_z2 := hb_z2.lt; obtain ⟨_, z2_0, z2_1, z2_2, z2_3, z2_4, z2_5, z2_6, z2_f⟩ := hb_z2.all7; have hk_22 := Kid.mono (lo' := w1.heap.size + 0) hk_22 (by simp)))
    exact ret7 Tryz.results103 rfl rfl b7A ⟨grA, .inr ⟨k2, op2, m2, p2, t2, a2, ks2, A2, c2, l2, rfl, HQ2.out, Kid.mono (lo := w1.heap.size + 0) kdA (by omega), hn2, psA⟩⟩
  rw [if_neg hm] at hq
  have hm_6d616b65 := bs_beq3 hm
  clear hm
  rw [refuse_cons] at hq
  have HQ0 := Lib.hid hq
  clear hq
  go_enter Tryz.func103, Tryz.ntmps103
  go_wp2_with (first
    | (go_at_call 38; refine (mark_any E _ (x1 :: l1) (o) psA).mono ?_; rintro e w1 ⟨rfl, hg1⟩; have hP1 : PS E w1 (x1 :: l1) (o) := PS.below psA hg1; have hG1 : Gr (· = E.b) w w1 := Gr.trans grA (Gr.of_below hg1); have hbl1 := hP1.lt; have hgl1 := hP1.toks.lt; have hs1 : w.heap.size + 1 ≤ w1.heap.size := (by have := hg1.size; simpa using this); have hb_z1 : Blk w1 (w.heap.size) 28 #[.int .i64 0, .int .i64 0, .int .i64 0, .string ⟨#[]⟩, .string ⟨#[]⟩, .int .i64 0, .slice none 0 0] := Blk.bel bkA hg1; have hl_z1 := hb_z1.lt)
    | (go_at_call 39; refine (refuse_any E _ x1 l1 o psA).mono ?_; rintro e w9 ⟨rfl, hg9⟩))
  refine And.intro rfl ?_
  exact ⟨Gr.trans hG1 (Gr.of_below hg9), .inl ⟨_, _, HQ0.out.symm, rfl⟩⟩
end Go.Proofs.YtihnnbeepfgphaaGreatDoor

/-! ## PF17: A name and := ahead: a walk. -/
namespace Go.Proofs.YtihnnbeepfgphaaGreatDoor
open Go.RowKit
set_option linter.unusedVariables false
set_option linter.unusedSimpArgs false
attribute [local go_sem ↓] tok_f0 tok_f1 tok_f2 tok_f3

theorem x_idxT (ρ : Operand → Value) (w : World) (dst : Option Tmp) (x : Operand) (ty : TypeId) (pos : String) (after : Array Edge) (g n c i : Nat) (y : Operand) (hx : ρ x = .slice (some ⟨g, 0, none⟩) n c) (hy : ρ y = .int .i64 i) (hi : i < n) : (execOp ρ { dst := dst, op := .indexAddr 44 x y, type := ty, pos := pos, after := after, guard := none }).run Tryz.prog w = .ok (.value (.pointer (some ⟨g, i * 4, none⟩))) w := by
  have h0 : (0 : Int) ≤ (i : Int) := by omega
  have h1 : (i : Int) < (n : Int) := by omega
  unfold execOp; simp only [hx, hy]; go_simp
theorem op_box4 {Q : Exit → Act → World → Prop} {K : Act → World → Prop} {w : World} {a : Act} {ty : TypeId} {pos : String} {after : Array Edge} (x y : Operand) {z : Nat} {u0 u1 u2 u3 : Value} (k n : Int) (t : List UInt8) (at_ : Nat)
    (hx : a.eval x = .pointer (some ⟨z, 0, none⟩)) (hy : a.eval y = .agg #[.int .i64 k, .string (bs t), .int .i64 n, .int .i64 at_]) (hb : Blk w z 58 #[u0, u1, u2, u3])
    (hk : ∀ w', Blk w' z 58 #[.int .i64 k, .string (bs t), .int .i64 n, .int .i64 at_] → Gr (· = z) w w' → K (a.put none undef) w') :
    ({ dst := none, op := .store 58 x y, type := ty, pos := pos, after := after, guard := none } : Oper).wp Tryz.prog a w K Q := by
  obtain ⟨_, s0, s1, s2, s3, sf⟩ := hb.all4
  have h4 := hb.four (.int .i64 k) (.string (bs t)) (.int .i64 n) (.int .i64 at_)
  have hg : Gr (· = z) w ((((w.setCell ⟨z, 0, none⟩ (.int .i64 k)).setCell ⟨z, 1, none⟩ (.string (bs t))).setCell ⟨z, 2, none⟩ (.int .i64 n)).setCell ⟨z, 3, none⟩ (.int .i64 at_)) :=
    Gr.setCell (S := (· = z)) (p := ⟨z, 3, none⟩) (Gr.setCell (S := (· = z)) (p := ⟨z, 2, none⟩) (Gr.setCell (S := (· = z)) (p := ⟨z, 1, none⟩) (Gr.setCell (S := (· = z)) (p := ⟨z, 0, none⟩) (Gr.refl w) (.inr rfl) _) (.inr rfl) _) (.inr rfl) _) (.inr rfl) _
  have hK := hk _ h4 hg
  have : (execOp a.eval { dst := none, op := .store 58 x y, type := ty, pos := pos, after := after, guard := none }).run Tryz.prog w = .ok .skip ((((w.setCell ⟨z, 0, none⟩ (.int .i64 k)).setCell ⟨z, 1, none⟩ (.string (bs t))).setCell ⟨z, 2, none⟩ (.int .i64 n)).setCell ⟨z, 3, none⟩ (.int .i64 at_)) := by
    clear hk h4 hg hK hb
    unfold execOp; simp only [hx, hy]; go_simp
  unfold Oper.wp
  rw [this]
  exact hK
set_option maxRecDepth 100000 in
set_option maxHeartbeats 2000000 in
theorem defines_any (E : Env) (w : World) (l : List T) (o : Nat) (h : PS E w l o) :
    Calls Tryz.prog 86 #[.pointer (some ⟨E.b, 0, none⟩)] w fun e w' => e = .returned (.bool (defines l)) ∧ Below w.heap.size w w' := by
  obtain ⟨x, r, rfl⟩ := h.cons
  have hlt := h.lt
  by_cases h1 : x.1.k = 1
  · obtain ⟨y, q, rfl⟩ : ∃ y q, r = y :: q := by
      cases r with
      | nil => exact absurd h.good (by rw [good_cons, h1]; simp [good])
      | cons y q => exact ⟨y, q, rfl⟩
    have hsuf : y :: q <:+ E.ts := (List.suffix_cons x _).trans h.suf
    have hlen := h.len
    obtain ⟨j, hj⟩ : ∃ j, E.ts.length - (x :: y :: q).length = j := ⟨_, rfl⟩
    have hle := h.suf.length_le
    have hj2 : j + 1 = E.ts.length - (q.length + 1) := by simp at hj hle; omega
    have hjl : j + 1 < E.ts.length := by simp at hle; omega
    have hh : E.ts[j + 1]? = some y := by
      obtain ⟨p, hp⟩ := hsuf
      rw [hj2, ← hp]
      simp
    have htl := h.toks.lt
    obtain ⟨q0, q1, q2, q3⟩ := h.toks.cell (j + 1) _ hh
    have hbl := h.blk
    have hne := h.ne
    unfold psC at hbl
    rw [hj] at hbl
    have hd : defines (x :: y :: q) = (decide (y.1.k = 5) && decide (y.1.t = [58, 61])) := by simp [defines, h1]
    rw [hd]
    have H := Lib.hid h
    have hk : (x.1.k != 1) = false := by rw [h1]; rfl
    clear h h1 hd hh hsuf hj hj2 hle
    obtain ⟨N, hN⟩ : ∃ N, E.ts.length = N := ⟨_, rfl⟩
    rw [hN] at hbl hlen hjl
    obtain ⟨⟨yk, yt, yn⟩, yp⟩ := y
    dsimp only at q0 q1 q2 q3 ⊢
    have j0 : (0 : Int) ≤ (j : Int) := by omega
    have j1 : (j : Int) ≤ 8193 := by omega
    have jw : IntKind.i64.wrap ((j : Int) + 1) = ((j + 1 : Nat) : Int) := by rw [IntWalk.i64_in _ (by omega)]; omega
    clear hN
    go_enter Tryz.func86, Tryz.ntmps86
    go_wp2_with (go_at_call 27; refine (token_any E _ _ _ _ H.out).mono ?_; rintro e w1 ⟨rfl, hb⟩)
    have r0 := (hb.cell (p := ⟨E.b, 0, none⟩) hlt).trans (hbl.cell 0)
    have r1 := (hb.cell (p := ⟨E.b, 1, none⟩) hlt).trans (hbl.cell 1)
    have r2 := (hb.cell (p := ⟨E.g, (j + 1) * 4, none⟩) htl).trans q0
    have r3 := (hb.cell (p := ⟨E.g, (j + 1) * 4 + 1, none⟩) htl).trans q1
    have r4 := (hb.cell (p := ⟨E.g, (j + 1) * 4 + 2, none⟩) htl).trans q2
    have r5 := (hb.cell (p := ⟨E.g, (j + 1) * 4 + 3, none⟩) htl).trans q3
    simp only [List.getElem?_toArray, List.getElem?_cons_zero, List.getElem?_cons_succ] at r0 r1
    refine wp_region_held_drew (S := fun W => W.cell? ⟨E.b, 0, none⟩ = some (.slice (some ⟨E.g, 0, none⟩) N E.c) ∧ W.cell? ⟨E.b, 1, none⟩ = some (.int .i64 (j : Int)) ∧ W.cell? ⟨E.g, (j + 1) * 4, none⟩ = some (.int .i64 yk) ∧ W.cell? ⟨E.g, (j + 1) * 4 + 1, none⟩ = some (.string (bs yt)) ∧ W.cell? ⟨E.g, (j + 1) * 4 + 2, none⟩ = some (.int .i64 yn) ∧ W.cell? ⟨E.g, (j + 1) * 4 + 3, none⟩ = some (.int .i64 (yp : Int))) (by kernel_rfl) ⟨r0, r1, r2, r3, r4, r5⟩ (fun hS0 => ?_)
    refine wpAnyH_take (i := 0) (v := .pointer (some ⟨E.b, 0, none⟩)) rfl (by kernel_rfl) (by kernel_rfl) (by kernel_rfl) (fun _ _ _ h => h) (Or.inl ⟨rfl, fun w' hS => by (obtain ⟨s0, s1, s2, s3, s4, s5⟩ := hS; unfold execOp; go_simp)⟩) hS0 ?_
    simp only [Act.put, List.getElem_toArray, List.getElem_cons_zero, List.getElem_cons_succ, List.setIfInBounds_toArray, List.set_cons_zero, List.set_cons_succ]
    refine wpAnyH_take (i := 1) (v := .pointer (some ⟨E.b, 0, none⟩)) rfl (by kernel_rfl) (by kernel_rfl) (by kernel_rfl) (fun _ _ _ h => h) (Or.inl ⟨rfl, fun w' hS => by (obtain ⟨s0, s1, s2, s3, s4, s5⟩ := hS; unfold execOp; go_simp)⟩) hS0 ?_
    simp only [Act.put, List.getElem_toArray, List.getElem_cons_zero, List.getElem_cons_succ, List.setIfInBounds_toArray, List.set_cons_zero, List.set_cons_succ]
    refine wpAnyH_take (i := 2) (v := .pointer (some ⟨E.b, 0, none⟩)) rfl (by kernel_rfl) (by kernel_rfl) (by kernel_rfl) (fun _ _ _ h => h) (Or.inl ⟨rfl, fun w' hS => by (obtain ⟨s0, s1, s2, s3, s4, s5⟩ := hS; unfold execOp; go_simp)⟩) hS0 ?_
    simp only [Act.put, List.getElem_toArray, List.getElem_cons_zero, List.getElem_cons_succ, List.setIfInBounds_toArray, List.set_cons_zero, List.set_cons_succ]
    refine wpAnyH_take (i := 3) (v := .pointer (some ⟨E.b, 0, none⟩)) rfl (by kernel_rfl) (by kernel_rfl) (by kernel_rfl) (fun _ _ _ h => h) (Or.inl ⟨rfl, fun w' hS => by (obtain ⟨s0, s1, s2, s3, s4, s5⟩ := hS; unfold execOp; go_simp)⟩) hS0 ?_
    simp only [Act.put, List.getElem_toArray, List.getElem_cons_zero, List.getElem_cons_succ, List.setIfInBounds_toArray, List.set_cons_zero, List.set_cons_succ]
    refine wpAnyH_take (i := 4) (v := .slice (some ⟨E.g, 0, none⟩) N E.c) rfl (by kernel_rfl) (by kernel_rfl) (by kernel_rfl) (fun _ _ _ h => h) (Or.inl ⟨rfl, fun w' hS => by (obtain ⟨s0, s1, s2, s3, s4, s5⟩ := hS; unfold execOp; go_simp)⟩) hS0 ?_
    simp only [Act.put, List.getElem_toArray, List.getElem_cons_zero, List.getElem_cons_succ, List.setIfInBounds_toArray, List.set_cons_zero, List.set_cons_succ]
    refine wpAnyH_take (i := 5) (v := .pointer (some ⟨E.b, 0, none⟩)) rfl (by kernel_rfl) (by kernel_rfl) (by kernel_rfl) (fun _ _ _ h => h) (Or.inl ⟨rfl, fun w' hS => by (obtain ⟨s0, s1, s2, s3, s4, s5⟩ := hS; unfold execOp; go_simp)⟩) hS0 ?_
    simp only [Act.put, List.getElem_toArray, List.getElem_cons_zero, List.getElem_cons_succ, List.setIfInBounds_toArray, List.set_cons_zero, List.set_cons_succ]
    refine wpAnyH_take (i := 6) (v := .pointer (some ⟨E.b, 0, none⟩)) rfl (by kernel_rfl) (by kernel_rfl) (by kernel_rfl) (fun _ _ _ h => h) (Or.inl ⟨rfl, fun w' hS => by (obtain ⟨s0, s1, s2, s3, s4, s5⟩ := hS; unfold execOp; go_simp)⟩) hS0 ?_
    simp only [Act.put, List.getElem_toArray, List.getElem_cons_zero, List.getElem_cons_succ, List.setIfInBounds_toArray, List.set_cons_zero, List.set_cons_succ]
    refine wpAnyH_take (i := 7) (v := .pointer (some ⟨E.b, 0, none⟩)) rfl (by kernel_rfl) (by kernel_rfl) (by kernel_rfl) (fun _ _ _ h => h) (Or.inl ⟨rfl, fun w' hS => by (obtain ⟨s0, s1, s2, s3, s4, s5⟩ := hS; unfold execOp; go_simp)⟩) hS0 ?_
    simp only [Act.put, List.getElem_toArray, List.getElem_cons_zero, List.getElem_cons_succ, List.setIfInBounds_toArray, List.set_cons_zero, List.set_cons_succ]
    refine wpAnyH_take (i := 8) (v := .pointer (some ⟨E.b, 1, none⟩)) rfl (by kernel_rfl) (by kernel_rfl) (by kernel_rfl) (fun _ _ _ h => h) (Or.inl ⟨rfl, fun w' hS => by (obtain ⟨s0, s1, s2, s3, s4, s5⟩ := hS; unfold execOp; go_simp)⟩) hS0 ?_
    simp only [Act.put, List.getElem_toArray, List.getElem_cons_zero, List.getElem_cons_succ, List.setIfInBounds_toArray, List.set_cons_zero, List.set_cons_succ]
    refine wpAnyH_take (i := 9) (v := .int .i64 (j : Int)) rfl (by kernel_rfl) (by kernel_rfl) (by kernel_rfl) (fun _ _ _ h => h) (Or.inl ⟨rfl, fun w' hS => by (obtain ⟨s0, s1, s2, s3, s4, s5⟩ := hS; unfold execOp; go_simp)⟩) hS0 ?_
    simp only [Act.put, List.getElem_toArray, List.getElem_cons_zero, List.getElem_cons_succ, List.setIfInBounds_toArray, List.set_cons_zero, List.set_cons_succ]
    refine wpAnyH_take (i := 10) (v := .int .i64 ((j + 1 : Nat) : Int)) rfl (by kernel_rfl) (by kernel_rfl) (by kernel_rfl) (fun _ _ _ h => h) (Or.inl ⟨rfl, fun w' hS => by (obtain ⟨s0, s1, s2, s3, s4, s5⟩ := hS; unfold execOp; go_simp)⟩) hS0 ?_
    simp only [Act.put, List.getElem_toArray, List.getElem_cons_zero, List.getElem_cons_succ, List.setIfInBounds_toArray, List.set_cons_zero, List.set_cons_succ]
    refine wpAnyH_take (i := 11) (v := .pointer (some ⟨E.g, (j + 1) * 4, none⟩)) rfl (by kernel_rfl) (by kernel_rfl) (by kernel_rfl) (fun _ _ _ h => h) (Or.inl ⟨rfl, fun w' hS => by (obtain ⟨s0, s1, s2, s3, s4, s5⟩ := hS; exact x_idxT _ _ _ _ _ _ _ E.g N E.c (j + 1) _ rfl rfl hjl)⟩) hS0 ?_
    simp only [Act.put, List.getElem_toArray, List.getElem_cons_zero, List.getElem_cons_succ, List.setIfInBounds_toArray, List.set_cons_zero, List.set_cons_succ]
    refine wpAnyH_take (i := 12) (v := .agg #[.int .i64 yk, .string (bs yt), .int .i64 yn, .int .i64 yp]) rfl (by kernel_rfl) (by kernel_rfl) (by kernel_rfl) (fun _ _ _ h => h) (Or.inl ⟨rfl, fun w' hS => by (obtain ⟨s0, s1, s2, s3, s4, s5⟩ := hS; unfold execOp; go_simp)⟩) hS0 ?_
    simp only [Act.put, List.getElem_toArray, List.getElem_cons_zero, List.getElem_cons_succ, List.setIfInBounds_toArray, List.set_cons_zero, List.set_cons_succ]
    have hb1 : E.b < w1.heap.size := Nat.lt_of_lt_of_le hlt hb.size
    have hg1 : E.g < w1.heap.size := Nat.lt_of_lt_of_le htl hb.size
    have hA := (Below.refl _ w1.drew).alloc (Nat.le_refl _) (.cells #[.int .i64 0, .string ⟨#[]⟩, .int .i64 0, .int .i64 0] 58)
    refine wpAnyH_one (i := 13) (by kernel_rfl) rfl rfl (op_val (v := .pointer (some ⟨w1.heap.size, 0, none⟩)) (w' := w1.drew.alloc (.cells #[.int .i64 0, .string ⟨#[]⟩, .int .i64 0, .int .i64 0] 58)) (by unfold execOp; go_simp) (And.intro ⟨(hA.cell (p := ⟨E.b, 0, none⟩) hb1).trans r0, (hA.cell (p := ⟨E.b, 1, none⟩) hb1).trans r1, (hA.cell (p := ⟨E.g, (j + 1) * 4, none⟩) hg1).trans r2, (hA.cell (p := ⟨E.g, (j + 1) * 4 + 1, none⟩) hg1).trans r3, (hA.cell (p := ⟨E.g, (j + 1) * 4 + 2, none⟩) hg1).trans r4, (hA.cell (p := ⟨E.g, (j + 1) * 4 + 3, none⟩) hg1).trans r5⟩ ?_))
    simp only [Act.put, List.getElem_toArray, List.getElem_cons_zero, List.getElem_cons_succ, List.setIfInBounds_toArray, List.set_cons_zero, List.set_cons_succ]
    refine wpAnyH_one (i := 14) (by kernel_rfl) rfl rfl (op_box4 _ _ yk yn yt yp rfl rfl (Blk.new w1.drew _ _) fun w9 hz9 hg9 => And.intro ⟨(hg9.cell (p := ⟨E.b, 0, none⟩) (Nat.lt_of_lt_of_le hb1 hA.size) (Nat.ne_of_lt hb1)).trans ((hA.cell (p := ⟨E.b, 0, none⟩) hb1).trans r0), (hg9.cell (p := ⟨E.b, 1, none⟩) (Nat.lt_of_lt_of_le hb1 hA.size) (Nat.ne_of_lt hb1)).trans ((hA.cell (p := ⟨E.b, 1, none⟩) hb1).trans r1), (hg9.cell (p := ⟨E.g, (j + 1) * 4, none⟩) (Nat.lt_of_lt_of_le hg1 hA.size) (Nat.ne_of_lt hg1)).trans ((hA.cell (p := ⟨E.g, (j + 1) * 4, none⟩) hg1).trans r2), (hg9.cell (p := ⟨E.g, (j + 1) * 4 + 1, none⟩) (Nat.lt_of_lt_of_le hg1 hA.size) (Nat.ne_of_lt hg1)).trans ((hA.cell (p := ⟨E.g, (j + 1) * 4 + 1, none⟩) hg1).trans r3), (hg9.cell (p := ⟨E.g, (j + 1) * 4 + 2, none⟩) (Nat.lt_of_lt_of_le hg1 hA.size) (Nat.ne_of_lt hg1)).trans ((hA.cell (p := ⟨E.g, (j + 1) * 4 + 2, none⟩) hg1).trans r4), (hg9.cell (p := ⟨E.g, (j + 1) * 4 + 3, none⟩) (Nat.lt_of_lt_of_le hg1 hA.size) (Nat.ne_of_lt hg1)).trans ((hA.cell (p := ⟨E.g, (j + 1) * 4 + 3, none⟩) hg1).trans r5)⟩ ?_)
    refine wpAnyH_done (by kernel_rfl) ?_ _
    simp only [Act.put, List.getElem_toArray, List.getElem_cons_zero, List.getElem_cons_succ, List.setIfInBounds_toArray, List.set_cons_zero, List.set_cons_succ]
    have hB9 : Below w.heap.size w w9 := Gr.below (((Gr.of_below hb (S := fun _ => False)).drew.alloc _).wide hg9 (fun n hn hs => by
      have h1 : n = w1.heap.size := hs
      have := hb.size
      omega)) (fun _ _ h => h)
    obtain ⟨_, z0, z1, z2, z3, zf⟩ := hz9.all4
    clear hz9 hg9 hA hS0 r0 r1 r2 r3 r4 r5 q0 q1 q2 q3 hbl jw
    by_cases h5 : yk = 5
    · subst h5
      by_cases ht : yt = [58, 61]
      · subst ht
        go_wp2
        go_ret
        refine ⟨?_, hB9⟩
        show Ending.returned (.bool ((bs [58, 61]).toList == [58, 61])) = _
        rw [bs_list2]
        rfl
      · have hmn := bs_beq3 ht
        have HT := Lib.hid ht
        clear ht
        go_wp2
        go_ret
        exact ⟨by have := HT.out; simp [this], hB9⟩
    · have hk5 : (yk == 5) = false := by simpa using h5
      have H5 := Lib.hid h5
      clear h5
      go_wp2
      go_ret
      exact ⟨by have := H5.out; simp [this], hB9⟩
  · have hd : defines (x :: r) = false := by
      cases r with
      | nil => rfl
      | cons y q => simp [defines, h1]
    rw [hd]
    have hk : (x.1.k != 1) = true := by simpa using h1
    have H := Lib.hid h
    clear h h1 hd
    go_enter Tryz.func86, Tryz.ntmps86
    go_wp2_with (go_at_call 27; refine (token_any E _ _ _ _ (by first | exact PS.alloc H.out _ | exact H.out)).mono ?_; rintro e w1 ⟨rfl, hb⟩)
    go_ret
    exact ⟨rfl, by first | exact hb | exact ((Below.refl _ _).alloc (Nat.le_refl _) _).trans (hb.mono (by simp))⟩
end Go.Proofs.YtihnnbeepfgphaaGreatDoor

/-! ## PF18: Statements: walks. -/
namespace Go.Proofs.YtihnnbeepfgphaaGreatDoor
open Go.RowKit
set_option linter.unusedVariables false
set_option linter.unusedSimpArgs false
attribute [local go_sem ↓] tok_f0 tok_f1 tok_f2 tok_f3

set_option maxRecDepth 100000 in
set_option maxHeartbeats 4000000 in
theorem stat_step (n : Nat) (hn : n ≤ LIM) (H : ∀ m, m ≤ n → AllN m) : C0 (n + 1) 74 .stat := by
  intro E w l o g r hP hq hr
  simp only [go, bnd_ite] at hq
  have hlt := hP.lt
  have hgt := hP.toks.lt
  have hne := hP.ne
  have HR := Lib.hid hr
  have Hn := H n (Nat.le_refl _)
  clear hr
  by_cases hm : mark l = [118, 97, 114]
  · rw [if_pos hm] at hq
    have HM := Lib.hid hm
    have HQ0 := Lib.hid hq
    clear hq hm
    go_enter Tryz.func74, Tryz.ntmps74
    go_wp2_with (first
      | (go_at_call 38; refine (mark_any E _ l (o) psA).mono ?_; rw [HM.out, show bs [118, 97, 114] = ⟨#[118, 97, 114]⟩ from rfl]; rintro e w1 ⟨rfl, hg1⟩; have hP1 : PS E w1 l (o) := PS.below psA hg1; have hG1 : Gr (· = E.b) w w1 := Gr.trans grA (Gr.of_below hg1); have hbl1 := hP1.lt; have hgl1 := hP1.toks.lt; have hs1 : w.heap.size + 1 ≤ w1.heap.size := (by have := hg1.size; simpa using this); have hb_z1 : Blk w1 (w.heap.size) 28 #[.int .i64 0, .int .i64 0, .int .i64 0, .string ⟨#[]⟩, .string ⟨#[]⟩, .int .i64 0, .slice none 0 0] := Blk.bel bkA hg1; have hl_z1 := hb_z1.lt)
      | (go_at_call 43; refine (Hn.variable_ E _ l (o) _ r psA HQ0.out HR.out).mono ?_; rintro e w2 ⟨hg2, ⟨a, k, hb, rfl⟩ | ⟨k2, op2, m2, p2, t2, a2, ks2, A2, c2, l2, rfl, hq2, hk_22, hn2, hP2⟩⟩; exact And.intro rfl ⟨Gr.trans grA hg2, .inl ⟨_, _, hb, rfl⟩⟩; have hG2 : Gr (· = E.b) w w2 := Gr.trans grA hg2; have HQ2 := Lib.hid hq2; clear hq2; have hbl2 := hP2.lt; have hgl2 := hP2.toks.lt; have hs2 : w1.heap.size + 0 ≤ w2.heap.size := (by have := hg2.size; simpa using this); have hb_z2 : Blk w2 (w.heap.size) 28 #[.int .i64 0, .int .i64 0, .int .i64 0, .string ⟨#[]⟩, .string ⟨#[]⟩, .int .i64 0, .slice none 0 0] := Blk.call (b := E.b) bkA hg2 (by omega); have hl_z2 := hb_z2.lt; obtain ⟨_, z2_0, z2_1, z2_2, z2_3, z2_4, z2_5, z2_6, z2_f⟩ := hb_z2.all7; have hk_22 := Kid.mono (lo' := w1.heap.size + 0) hk_22 (by simp)))
    exact ret7 Tryz.results74 rfl rfl b7A ⟨grA, .inr ⟨k2, op2, m2, p2, t2, a2, ks2, A2, c2, l2, rfl, HQ2.out, Kid.mono (lo := w1.heap.size + 0) kdA (by omega), hn2, psA⟩⟩
  rw [if_neg hm] at hq
  have hm_766172 := bs_beq3 hm
  clear hm
  by_cases hm : mark l = [105, 102]
  · rw [if_pos hm] at hq
    have HM := Lib.hid hm
    have HQ0 := Lib.hid hq
    clear hq hm
    go_enter Tryz.func74, Tryz.ntmps74
    go_wp2_with (first
      | (go_at_call 38; refine (mark_any E _ l (o) psA).mono ?_; rw [HM.out, show bs [105, 102] = ⟨#[105, 102]⟩ from rfl]; rintro e w1 ⟨rfl, hg1⟩; have hP1 : PS E w1 l (o) := PS.below psA hg1; have hG1 : Gr (· = E.b) w w1 := Gr.trans grA (Gr.of_below hg1); have hbl1 := hP1.lt; have hgl1 := hP1.toks.lt; have hs1 : w.heap.size + 1 ≤ w1.heap.size := (by have := hg1.size; simpa using this); have hb_z1 : Blk w1 (w.heap.size) 28 #[.int .i64 0, .int .i64 0, .int .i64 0, .string ⟨#[]⟩, .string ⟨#[]⟩, .int .i64 0, .slice none 0 0] := Blk.bel bkA hg1; have hl_z1 := hb_z1.lt)
      | (go_at_call 82; refine (Hn.branch E _ l (o) _ r psA HQ0.out HR.out).mono ?_; rintro e w2 ⟨hg2, ⟨a, k, hb, rfl⟩ | ⟨k2, op2, m2, p2, t2, a2, ks2, A2, c2, l2, rfl, hq2, hk_22, hn2, hP2⟩⟩; exact And.intro rfl ⟨Gr.trans grA hg2, .inl ⟨_, _, hb, rfl⟩⟩; have hG2 : Gr (· = E.b) w w2 := Gr.trans grA hg2; have HQ2 := Lib.hid hq2; clear hq2; have hbl2 := hP2.lt; have hgl2 := hP2.toks.lt; have hs2 : w1.heap.size + 0 ≤ w2.heap.size := (by have := hg2.size; simpa using this); have hb_z2 : Blk w2 (w.heap.size) 28 #[.int .i64 0, .int .i64 0, .int .i64 0, .string ⟨#[]⟩, .string ⟨#[]⟩, .int .i64 0, .slice none 0 0] := Blk.call (b := E.b) bkA hg2 (by omega); have hl_z2 := hb_z2.lt; obtain ⟨_, z2_0, z2_1, z2_2, z2_3, z2_4, z2_5, z2_6, z2_f⟩ := hb_z2.all7; have hk_22 := Kid.mono (lo' := w1.heap.size + 0) hk_22 (by simp)))
    exact ret7 Tryz.results74 rfl rfl b7A ⟨grA, .inr ⟨k2, op2, m2, p2, t2, a2, ks2, A2, c2, l2, rfl, HQ2.out, Kid.mono (lo := w1.heap.size + 0) kdA (by omega), hn2, psA⟩⟩
  rw [if_neg hm] at hq
  have hm_6966 := bs_beq3 hm
  clear hm
  by_cases hm : mark l = [102, 111, 114]
  · rw [if_pos hm] at hq
    have HM := Lib.hid hm
    have HQ0 := Lib.hid hq
    clear hq hm
    go_enter Tryz.func74, Tryz.ntmps74
    go_wp2_with (first
      | (go_at_call 38; refine (mark_any E _ l (o) psA).mono ?_; rw [HM.out, show bs [102, 111, 114] = ⟨#[102, 111, 114]⟩ from rfl]; rintro e w1 ⟨rfl, hg1⟩; have hP1 : PS E w1 l (o) := PS.below psA hg1; have hG1 : Gr (· = E.b) w w1 := Gr.trans grA (Gr.of_below hg1); have hbl1 := hP1.lt; have hgl1 := hP1.toks.lt; have hs1 : w.heap.size + 1 ≤ w1.heap.size := (by have := hg1.size; simpa using this); have hb_z1 : Blk w1 (w.heap.size) 28 #[.int .i64 0, .int .i64 0, .int .i64 0, .string ⟨#[]⟩, .string ⟨#[]⟩, .int .i64 0, .slice none 0 0] := Blk.bel bkA hg1; have hl_z1 := hb_z1.lt)
      | (go_at_call 83; refine (Hn.loop E _ l (o) _ r psA HQ0.out HR.out).mono ?_; rintro e w2 ⟨hg2, ⟨a, k, hb, rfl⟩ | ⟨k2, op2, m2, p2, t2, a2, ks2, A2, c2, l2, rfl, hq2, hk_22, hn2, hP2⟩⟩; exact And.intro rfl ⟨Gr.trans grA hg2, .inl ⟨_, _, hb, rfl⟩⟩; have hG2 : Gr (· = E.b) w w2 := Gr.trans grA hg2; have HQ2 := Lib.hid hq2; clear hq2; have hbl2 := hP2.lt; have hgl2 := hP2.toks.lt; have hs2 : w1.heap.size + 0 ≤ w2.heap.size := (by have := hg2.size; simpa using this); have hb_z2 : Blk w2 (w.heap.size) 28 #[.int .i64 0, .int .i64 0, .int .i64 0, .string ⟨#[]⟩, .string ⟨#[]⟩, .int .i64 0, .slice none 0 0] := Blk.call (b := E.b) bkA hg2 (by omega); have hl_z2 := hb_z2.lt; obtain ⟨_, z2_0, z2_1, z2_2, z2_3, z2_4, z2_5, z2_6, z2_f⟩ := hb_z2.all7; have hk_22 := Kid.mono (lo' := w1.heap.size + 0) hk_22 (by simp)))
    exact ret7 Tryz.results74 rfl rfl b7A ⟨grA, .inr ⟨k2, op2, m2, p2, t2, a2, ks2, A2, c2, l2, rfl, HQ2.out, Kid.mono (lo := w1.heap.size + 0) kdA (by omega), hn2, psA⟩⟩
  rw [if_neg hm] at hq
  have hm_666f72 := bs_beq3 hm
  clear hm
  by_cases hm : mark l = [98, 114, 101, 97, 107]
  · rw [if_pos hm] at hq
    have hmx : mark l ≠ [] := by rw [hm]; simp
    have HMX := Lib.hid hmx
    clear hmx
    have HM := Lib.hid hm
    have HQ0 := Lib.hid hq
    clear hq hm
    go_enter Tryz.func74, Tryz.ntmps74
    go_wp2_with (first
      | (go_at_call 38; refine (mark_any E _ l (o) psA).mono ?_; rw [HM.out, show bs [98, 114, 101, 97, 107] = ⟨#[98, 114, 101, 97, 107]⟩ from rfl]; rintro e w1 ⟨rfl, hg1⟩; have hP1 : PS E w1 l (o) := PS.below psA hg1; have hG1 : Gr (· = E.b) w w1 := Gr.trans grA (Gr.of_below hg1); have hbl1 := hP1.lt; have hgl1 := hP1.toks.lt; have hs1 : w.heap.size + 1 ≤ w1.heap.size := (by have := hg1.size; simpa using this); have hb_z1 : Blk w1 (w.heap.size) 28 #[.int .i64 0, .int .i64 0, .int .i64 0, .string ⟨#[]⟩, .string ⟨#[]⟩, .int .i64 0, .slice none 0 0] := Blk.bel bkA hg1; have hl_z1 := hb_z1.lt)
      | (go_at_call 84; refine (Hn.leap 23 E _ l (o) _ r HMX.out psA HQ0.out HR.out).mono ?_; rintro e w2 ⟨hg2, ⟨a, k, hb, rfl⟩ | ⟨k2, op2, m2, p2, t2, a2, ks2, A2, c2, l2, rfl, hq2, hk_22, hn2, hP2⟩⟩; exact And.intro rfl ⟨Gr.trans grA hg2, .inl ⟨_, _, hb, rfl⟩⟩; have hG2 : Gr (· = E.b) w w2 := Gr.trans grA hg2; have HQ2 := Lib.hid hq2; clear hq2; have hbl2 := hP2.lt; have hgl2 := hP2.toks.lt; have hs2 : w1.heap.size + 0 ≤ w2.heap.size := (by have := hg2.size; simpa using this); have hb_z2 : Blk w2 (w.heap.size) 28 #[.int .i64 0, .int .i64 0, .int .i64 0, .string ⟨#[]⟩, .string ⟨#[]⟩, .int .i64 0, .slice none 0 0] := Blk.call (b := E.b) bkA hg2 (by omega); have hl_z2 := hb_z2.lt; obtain ⟨_, z2_0, z2_1, z2_2, z2_3, z2_4, z2_5, z2_6, z2_f⟩ := hb_z2.all7; have hk_22 := Kid.mono (lo' := w1.heap.size + 0) hk_22 (by simp)))
    exact ret7 Tryz.results74 rfl rfl b7A ⟨grA, .inr ⟨k2, op2, m2, p2, t2, a2, ks2, A2, c2, l2, rfl, HQ2.out, Kid.mono (lo := w1.heap.size + 0) kdA (by omega), hn2, psA⟩⟩
  rw [if_neg hm] at hq
  have hm_627265616b := bs_beq3 hm
  clear hm
  by_cases hm : mark l = [99, 111, 110, 116, 105, 110, 117, 101]
  · rw [if_pos hm] at hq
    have hmx : mark l ≠ [] := by rw [hm]; simp
    have HMX := Lib.hid hmx
    clear hmx
    have HM := Lib.hid hm
    have HQ0 := Lib.hid hq
    clear hq hm
    go_enter Tryz.func74, Tryz.ntmps74
    go_wp2_with (first
      | (go_at_call 38; refine (mark_any E _ l (o) psA).mono ?_; rw [HM.out, show bs [99, 111, 110, 116, 105, 110, 117, 101] = ⟨#[99, 111, 110, 116, 105, 110, 117, 101]⟩ from rfl]; rintro e w1 ⟨rfl, hg1⟩; have hP1 : PS E w1 l (o) := PS.below psA hg1; have hG1 : Gr (· = E.b) w w1 := Gr.trans grA (Gr.of_below hg1); have hbl1 := hP1.lt; have hgl1 := hP1.toks.lt; have hs1 : w.heap.size + 1 ≤ w1.heap.size := (by have := hg1.size; simpa using this); have hb_z1 : Blk w1 (w.heap.size) 28 #[.int .i64 0, .int .i64 0, .int .i64 0, .string ⟨#[]⟩, .string ⟨#[]⟩, .int .i64 0, .slice none 0 0] := Blk.bel bkA hg1; have hl_z1 := hb_z1.lt)
      | (go_at_call 84; refine (Hn.leap 24 E _ l (o) _ r HMX.out psA HQ0.out HR.out).mono ?_; rintro e w2 ⟨hg2, ⟨a, k, hb, rfl⟩ | ⟨k2, op2, m2, p2, t2, a2, ks2, A2, c2, l2, rfl, hq2, hk_22, hn2, hP2⟩⟩; exact And.intro rfl ⟨Gr.trans grA hg2, .inl ⟨_, _, hb, rfl⟩⟩; have hG2 : Gr (· = E.b) w w2 := Gr.trans grA hg2; have HQ2 := Lib.hid hq2; clear hq2; have hbl2 := hP2.lt; have hgl2 := hP2.toks.lt; have hs2 : w1.heap.size + 0 ≤ w2.heap.size := (by have := hg2.size; simpa using this); have hb_z2 : Blk w2 (w.heap.size) 28 #[.int .i64 0, .int .i64 0, .int .i64 0, .string ⟨#[]⟩, .string ⟨#[]⟩, .int .i64 0, .slice none 0 0] := Blk.call (b := E.b) bkA hg2 (by omega); have hl_z2 := hb_z2.lt; obtain ⟨_, z2_0, z2_1, z2_2, z2_3, z2_4, z2_5, z2_6, z2_f⟩ := hb_z2.all7; have hk_22 := Kid.mono (lo' := w1.heap.size + 0) hk_22 (by simp)))
    exact ret7 Tryz.results74 rfl rfl b7A ⟨grA, .inr ⟨k2, op2, m2, p2, t2, a2, ks2, A2, c2, l2, rfl, HQ2.out, Kid.mono (lo := w1.heap.size + 0) kdA (by omega), hn2, psA⟩⟩
  rw [if_neg hm] at hq
  have hm_636f6e74696e7565 := bs_beq3 hm
  clear hm
  by_cases hm : mark l = [114, 101, 116, 117, 114, 110]
  · rw [if_pos hm] at hq
    have HM := Lib.hid hm
    have HQ0 := Lib.hid hq
    clear hq hm
    go_enter Tryz.func74, Tryz.ntmps74
    go_wp2_with (first
      | (go_at_call 38; refine (mark_any E _ l (o) psA).mono ?_; rw [HM.out, show bs [114, 101, 116, 117, 114, 110] = ⟨#[114, 101, 116, 117, 114, 110]⟩ from rfl]; rintro e w1 ⟨rfl, hg1⟩; have hP1 : PS E w1 l (o) := PS.below psA hg1; have hG1 : Gr (· = E.b) w w1 := Gr.trans grA (Gr.of_below hg1); have hbl1 := hP1.lt; have hgl1 := hP1.toks.lt; have hs1 : w.heap.size + 1 ≤ w1.heap.size := (by have := hg1.size; simpa using this); have hb_z1 : Blk w1 (w.heap.size) 28 #[.int .i64 0, .int .i64 0, .int .i64 0, .string ⟨#[]⟩, .string ⟨#[]⟩, .int .i64 0, .slice none 0 0] := Blk.bel bkA hg1; have hl_z1 := hb_z1.lt)
      | (go_at_call 85; refine (Hn.giveBack E _ l (o) _ r psA HQ0.out HR.out).mono ?_; rintro e w2 ⟨hg2, ⟨a, k, hb, rfl⟩ | ⟨k2, op2, m2, p2, t2, a2, ks2, A2, c2, l2, rfl, hq2, hk_22, hn2, hP2⟩⟩; exact And.intro rfl ⟨Gr.trans grA hg2, .inl ⟨_, _, hb, rfl⟩⟩; have hG2 : Gr (· = E.b) w w2 := Gr.trans grA hg2; have HQ2 := Lib.hid hq2; clear hq2; have hbl2 := hP2.lt; have hgl2 := hP2.toks.lt; have hs2 : w1.heap.size + 0 ≤ w2.heap.size := (by have := hg2.size; simpa using this); have hb_z2 : Blk w2 (w.heap.size) 28 #[.int .i64 0, .int .i64 0, .int .i64 0, .string ⟨#[]⟩, .string ⟨#[]⟩, .int .i64 0, .slice none 0 0] := Blk.call (b := E.b) bkA hg2 (by omega); have hl_z2 := hb_z2.lt; obtain ⟨_, z2_0, z2_1, z2_2, z2_3, z2_4, z2_5, z2_6, z2_f⟩ := hb_z2.all7; have hk_22 := Kid.mono (lo' := w1.heap.size + 0) hk_22 (by simp)))
    exact ret7 Tryz.results74 rfl rfl b7A ⟨grA, .inr ⟨k2, op2, m2, p2, t2, a2, ks2, A2, c2, l2, rfl, HQ2.out, Kid.mono (lo := w1.heap.size + 0) kdA (by omega), hn2, psA⟩⟩
  rw [if_neg hm] at hq
  have hm_72657475726e := bs_beq3 hm
  clear hm
  by_cases hm : mark l = [123]
  · rw [if_pos hm] at hq
    have HM := Lib.hid hm
    have HQ0 := Lib.hid hq
    clear hq hm
    go_enter Tryz.func74, Tryz.ntmps74
    go_wp2_with (first
      | (go_at_call 38; refine (mark_any E _ l (o) psA).mono ?_; rw [HM.out, show bs [123] = ⟨#[123]⟩ from rfl]; rintro e w1 ⟨rfl, hg1⟩; have hP1 : PS E w1 l (o) := PS.below psA hg1; have hG1 : Gr (· = E.b) w w1 := Gr.trans grA (Gr.of_below hg1); have hbl1 := hP1.lt; have hgl1 := hP1.toks.lt; have hs1 : w.heap.size + 1 ≤ w1.heap.size := (by have := hg1.size; simpa using this); have hb_z1 : Blk w1 (w.heap.size) 28 #[.int .i64 0, .int .i64 0, .int .i64 0, .string ⟨#[]⟩, .string ⟨#[]⟩, .int .i64 0, .slice none 0 0] := Blk.bel bkA hg1; have hl_z1 := hb_z1.lt)
      | (go_at_call 65; refine (Hn.block E _ l (o) _ r psA HQ0.out HR.out).mono ?_; rintro e w2 ⟨hg2, ⟨a, k, hb, rfl⟩ | ⟨k2, op2, m2, p2, t2, a2, ks2, A2, c2, l2, rfl, hq2, hk_22, hn2, hP2⟩⟩; exact And.intro rfl ⟨Gr.trans grA hg2, .inl ⟨_, _, hb, rfl⟩⟩; have hG2 : Gr (· = E.b) w w2 := Gr.trans grA hg2; have HQ2 := Lib.hid hq2; clear hq2; have hbl2 := hP2.lt; have hgl2 := hP2.toks.lt; have hs2 : w1.heap.size + 0 ≤ w2.heap.size := (by have := hg2.size; simpa using this); have hb_z2 : Blk w2 (w.heap.size) 28 #[.int .i64 0, .int .i64 0, .int .i64 0, .string ⟨#[]⟩, .string ⟨#[]⟩, .int .i64 0, .slice none 0 0] := Blk.call (b := E.b) bkA hg2 (by omega); have hl_z2 := hb_z2.lt; obtain ⟨_, z2_0, z2_1, z2_2, z2_3, z2_4, z2_5, z2_6, z2_f⟩ := hb_z2.all7; have hk_22 := Kid.mono (lo' := w1.heap.size + 0) hk_22 (by simp)))
    exact ret7 Tryz.results74 rfl rfl b7A ⟨grA, .inr ⟨k2, op2, m2, p2, t2, a2, ks2, A2, c2, l2, rfl, HQ2.out, Kid.mono (lo := w1.heap.size + 0) kdA (by omega), hn2, psA⟩⟩
  rw [if_neg hm] at hq
  have hm_7b := bs_beq3 hm
  clear hm
  by_cases hd : defines l = true
  · rw [if_pos hd] at hq
    have HD := Lib.hid hd
    have HQ0 := Lib.hid hq
    clear hq hd
    go_enter Tryz.func74, Tryz.ntmps74
    go_wp2_with (first
      | (go_at_call 38; refine (mark_any E _ l (o) psA).mono ?_; rintro e w1 ⟨rfl, hg1⟩; have hP1 : PS E w1 l (o) := PS.below psA hg1; have hG1 : Gr (· = E.b) w w1 := Gr.trans grA (Gr.of_below hg1); have hbl1 := hP1.lt; have hgl1 := hP1.toks.lt; have hs1 : w.heap.size + 1 ≤ w1.heap.size := (by have := hg1.size; simpa using this); have hb_z1 : Blk w1 (w.heap.size) 28 #[.int .i64 0, .int .i64 0, .int .i64 0, .string ⟨#[]⟩, .string ⟨#[]⟩, .int .i64 0, .slice none 0 0] := Blk.bel bkA hg1; have hl_z1 := hb_z1.lt)
      | (go_at_call 86; refine (defines_any E _ l (o) psA).mono ?_; rw [HD.out]; rintro e w2 ⟨rfl, hg2⟩; have hP2 : PS E w2 l (o) := PS.below psA hg2; have hG2 : Gr (· = E.b) w w2 := Gr.trans grA (Gr.of_below hg2); have hbl2 := hP2.lt; have hgl2 := hP2.toks.lt; have hs2 : w1.heap.size + 0 ≤ w2.heap.size := (by have := hg2.size; simpa using this); have hb_z2 : Blk w2 (w.heap.size) 28 #[.int .i64 0, .int .i64 0, .int .i64 0, .string ⟨#[]⟩, .string ⟨#[]⟩, .int .i64 0, .slice none 0 0] := Blk.bel bkA hg2; have hl_z2 := hb_z2.lt)
      | (go_at_call 87; refine (Hn.define E _ l (o) _ r psA HQ0.out HR.out).mono ?_; rintro e w3 ⟨hg3, ⟨a, k, hb, rfl⟩ | ⟨k3, op3, m3, p3, t3, a3, ks3, A3, c3, l3, rfl, hq3, hk_33, hn3, hP3⟩⟩; exact And.intro rfl ⟨Gr.trans grA hg3, .inl ⟨_, _, hb, rfl⟩⟩; have hG3 : Gr (· = E.b) w w3 := Gr.trans grA hg3; have HQ3 := Lib.hid hq3; clear hq3; have hbl3 := hP3.lt; have hgl3 := hP3.toks.lt; have hs3 : w2.heap.size + 0 ≤ w3.heap.size := (by have := hg3.size; simpa using this); have hb_z3 : Blk w3 (w.heap.size) 28 #[.int .i64 0, .int .i64 0, .int .i64 0, .string ⟨#[]⟩, .string ⟨#[]⟩, .int .i64 0, .slice none 0 0] := Blk.call (b := E.b) bkA hg3 (by omega); have hl_z3 := hb_z3.lt; obtain ⟨_, z3_0, z3_1, z3_2, z3_3, z3_4, z3_5, z3_6, z3_f⟩ := hb_z3.all7; have hk_33 := Kid.mono (lo' := w2.heap.size + 0) hk_33 (by simp)))
    exact ret7 Tryz.results74 rfl rfl b7A ⟨grA, .inr ⟨k3, op3, m3, p3, t3, a3, ks3, A3, c3, l3, rfl, HQ3.out, Kid.mono (lo := w2.heap.size + 0) kdA (by omega), hn3, psA⟩⟩
  · rw [if_neg hd] at hq
    have HD := Lib.hid (show defines l = false by simpa using hd)
    have HQ0 := Lib.hid hq
    clear hq hd
    go_enter Tryz.func74, Tryz.ntmps74
    go_wp2_with (first
      | (go_at_call 38; refine (mark_any E _ l (o) psA).mono ?_; rintro e w1 ⟨rfl, hg1⟩; have hP1 : PS E w1 l (o) := PS.below psA hg1; have hG1 : Gr (· = E.b) w w1 := Gr.trans grA (Gr.of_below hg1); have hbl1 := hP1.lt; have hgl1 := hP1.toks.lt; have hs1 : w.heap.size + 1 ≤ w1.heap.size := (by have := hg1.size; simpa using this); have hb_z1 : Blk w1 (w.heap.size) 28 #[.int .i64 0, .int .i64 0, .int .i64 0, .string ⟨#[]⟩, .string ⟨#[]⟩, .int .i64 0, .slice none 0 0] := Blk.bel bkA hg1; have hl_z1 := hb_z1.lt)
      | (go_at_call 86; refine (defines_any E _ l (o) psA).mono ?_; rw [HD.out]; rintro e w2 ⟨rfl, hg2⟩; have hP2 : PS E w2 l (o) := PS.below psA hg2; have hG2 : Gr (· = E.b) w w2 := Gr.trans grA (Gr.of_below hg2); have hbl2 := hP2.lt; have hgl2 := hP2.toks.lt; have hs2 : w1.heap.size + 0 ≤ w2.heap.size := (by have := hg2.size; simpa using this); have hb_z2 : Blk w2 (w.heap.size) 28 #[.int .i64 0, .int .i64 0, .int .i64 0, .string ⟨#[]⟩, .string ⟨#[]⟩, .int .i64 0, .slice none 0 0] := Blk.bel bkA hg2; have hl_z2 := hb_z2.lt)
      | (go_at_call 88; refine (Hn.simple E _ l (o) _ r psA HQ0.out HR.out).mono ?_; rintro e w3 ⟨hg3, ⟨a, k, hb, rfl⟩ | ⟨k3, op3, m3, p3, t3, a3, ks3, A3, c3, l3, rfl, hq3, hk_33, hn3, hP3⟩⟩; exact And.intro rfl ⟨Gr.trans grA hg3, .inl ⟨_, _, hb, rfl⟩⟩; have hG3 : Gr (· = E.b) w w3 := Gr.trans grA hg3; have HQ3 := Lib.hid hq3; clear hq3; have hbl3 := hP3.lt; have hgl3 := hP3.toks.lt; have hs3 : w2.heap.size + 0 ≤ w3.heap.size := (by have := hg3.size; simpa using this); have hb_z3 : Blk w3 (w.heap.size) 28 #[.int .i64 0, .int .i64 0, .int .i64 0, .string ⟨#[]⟩, .string ⟨#[]⟩, .int .i64 0, .slice none 0 0] := Blk.call (b := E.b) bkA hg3 (by omega); have hl_z3 := hb_z3.lt; obtain ⟨_, z3_0, z3_1, z3_2, z3_3, z3_4, z3_5, z3_6, z3_f⟩ := hb_z3.all7; have hk_33 := Kid.mono (lo' := w2.heap.size + 0) hk_33 (by simp)))
    exact ret7 Tryz.results74 rfl rfl b7A ⟨grA, .inr ⟨k3, op3, m3, p3, t3, a3, ks3, A3, c3, l3, rfl, HQ3.out, Kid.mono (lo := w2.heap.size + 0) kdA (by omega), hn3, psA⟩⟩
end Go.Proofs.YtihnnbeepfgphaaGreatDoor

/-! ## PF19: Signs: how they are written, and how strongly they bind. -/
namespace Go.Proofs.YtihnnbeepfgphaaGreatDoor
open Go.RowKit
set_option linter.unusedVariables false
set_option linter.unusedSimpArgs false

def signZ (k : Int) : List UInt8 × Nat :=
  if k = 18 then ([124, 124], 1) else if k = 17 then ([38, 38], 2) else if k = 11 then ([61, 61], 3) else if k = 12 then ([33, 61], 3) else if k = 13 then ([60], 3) else if k = 14 then ([60, 61], 3) else if k = 15 then ([62], 3) else if k = 16 then ([62, 61], 3) else if k = 1 then ([43], 4) else if k = 2 then ([45], 4) else if k = 3 then ([42], 5) else if k = 4 then ([47], 5) else if k = 5 then ([37], 5) else ([], 0)
set_option maxRecDepth 100000 in
set_option maxHeartbeats 2000000 in
theorem psign_any (k : Int) (w : World) : Calls Tryz.prog 10 #[.int .i64 k] w fun e w' => e = .returned (.tuple #[.string (bs (signZ k).1), .int .i64 (signZ k).2]) ∧ w = w' := by
  by_cases h18 : k = 18
  · subst h18
    go_enter Tryz.func10, Tryz.ntmps10
    go_wp2
    go_ret2
    exact ⟨rfl, rfl⟩
  have e18 : (k == 18) = false := by simpa using h18
  by_cases h17 : k = 17
  · subst h17
    go_enter Tryz.func10, Tryz.ntmps10
    go_wp2
    go_ret2
    exact ⟨rfl, rfl⟩
  have e17 : (k == 17) = false := by simpa using h17
  by_cases h11 : k = 11
  · subst h11
    go_enter Tryz.func10, Tryz.ntmps10
    go_wp2
    go_ret2
    exact ⟨rfl, rfl⟩
  have e11 : (k == 11) = false := by simpa using h11
  by_cases h12 : k = 12
  · subst h12
    go_enter Tryz.func10, Tryz.ntmps10
    go_wp2
    go_ret2
    exact ⟨rfl, rfl⟩
  have e12 : (k == 12) = false := by simpa using h12
  by_cases h13 : k = 13
  · subst h13
    go_enter Tryz.func10, Tryz.ntmps10
    go_wp2
    go_ret2
    exact ⟨rfl, rfl⟩
  have e13 : (k == 13) = false := by simpa using h13
  by_cases h14 : k = 14
  · subst h14
    go_enter Tryz.func10, Tryz.ntmps10
    go_wp2
    go_ret2
    exact ⟨rfl, rfl⟩
  have e14 : (k == 14) = false := by simpa using h14
  by_cases h15 : k = 15
  · subst h15
    go_enter Tryz.func10, Tryz.ntmps10
    go_wp2
    go_ret2
    exact ⟨rfl, rfl⟩
  have e15 : (k == 15) = false := by simpa using h15
  by_cases h16 : k = 16
  · subst h16
    go_enter Tryz.func10, Tryz.ntmps10
    go_wp2
    go_ret2
    exact ⟨rfl, rfl⟩
  have e16 : (k == 16) = false := by simpa using h16
  by_cases h1 : k = 1
  · subst h1
    go_enter Tryz.func10, Tryz.ntmps10
    go_wp2
    go_ret2
    exact ⟨rfl, rfl⟩
  have e1 : (k == 1) = false := by simpa using h1
  by_cases h2 : k = 2
  · subst h2
    go_enter Tryz.func10, Tryz.ntmps10
    go_wp2
    go_ret2
    exact ⟨rfl, rfl⟩
  have e2 : (k == 2) = false := by simpa using h2
  by_cases h3 : k = 3
  · subst h3
    go_enter Tryz.func10, Tryz.ntmps10
    go_wp2
    go_ret2
    exact ⟨rfl, rfl⟩
  have e3 : (k == 3) = false := by simpa using h3
  by_cases h4 : k = 4
  · subst h4
    go_enter Tryz.func10, Tryz.ntmps10
    go_wp2
    go_ret2
    exact ⟨rfl, rfl⟩
  have e4 : (k == 4) = false := by simpa using h4
  by_cases h5 : k = 5
  · subst h5
    go_enter Tryz.func10, Tryz.ntmps10
    go_wp2
    go_ret2
    exact ⟨rfl, rfl⟩
  have e5 : (k == 5) = false := by simpa using h5
  have hs : signZ k = ([], 0) := by simp only [signZ, if_neg h18, if_neg h17, if_neg h11, if_neg h12, if_neg h13, if_neg h14, if_neg h15, if_neg h16, if_neg h1, if_neg h2, if_neg h3, if_neg h4, if_neg h5]
  rw [hs]
  clear h18 h17 h11 h12 h13 h14 h15 h16 h1 h2 h3 h4 h5 hs
  go_enter Tryz.func10, Tryz.ntmps10
  go_wp2
  go_ret2
  exact ⟨rfl, rfl⟩
theorem sign_first (m : List UInt8) (k : Nat) (hk : k < 19) (h : (signZ k).1 = m) (hn : ∀ j : Nat, j < k → (signZ j).1 ≠ m) : opOf m = ((k : Int), (signZ k).2) := by
  subst h
  have h0 := hn 0
  rcases (show k = 0 ∨ k = 1 ∨ k = 2 ∨ k = 3 ∨ k = 4 ∨ k = 5 ∨ k = 6 ∨ k = 7 ∨ k = 8 ∨ k = 9 ∨ k = 10 ∨ k = 11 ∨ k = 12 ∨ k = 13 ∨ k = 14 ∨ k = 15 ∨ k = 16 ∨ k = 17 ∨ k = 18 by omega) with rfl | rfl | rfl | rfl | rfl | rfl | rfl | rfl | rfl | rfl | rfl | rfl | rfl | rfl | rfl | rfl | rfl | rfl | rfl <;> first | rfl | exact absurd rfl (h0 (by omega))
theorem sign_none (m : List UInt8) (hn : ∀ j : Nat, j < 19 → (signZ j).1 ≠ m) : opOf m = (0, 0) := by
  have h18 : ¬ m = [124, 124] := fun h => hn 18 (by omega) h.symm
  have h17 : ¬ m = [38, 38] := fun h => hn 17 (by omega) h.symm
  have h11 : ¬ m = [61, 61] := fun h => hn 11 (by omega) h.symm
  have h12 : ¬ m = [33, 61] := fun h => hn 12 (by omega) h.symm
  have h13 : ¬ m = [60] := fun h => hn 13 (by omega) h.symm
  have h14 : ¬ m = [60, 61] := fun h => hn 14 (by omega) h.symm
  have h15 : ¬ m = [62] := fun h => hn 15 (by omega) h.symm
  have h16 : ¬ m = [62, 61] := fun h => hn 16 (by omega) h.symm
  have h1 : ¬ m = [43] := fun h => hn 1 (by omega) h.symm
  have h2 : ¬ m = [45] := fun h => hn 2 (by omega) h.symm
  have h3 : ¬ m = [42] := fun h => hn 3 (by omega) h.symm
  have h4 : ¬ m = [47] := fun h => hn 4 (by omega) h.symm
  have h5 : ¬ m = [37] := fun h => hn 5 (by omega) h.symm
  simp only [opOf, if_neg h18, if_neg h17, if_neg h11, if_neg h12, if_neg h13, if_neg h14, if_neg h15, if_neg h16, if_neg h1, if_neg h2, if_neg h3, if_neg h4, if_neg h5]
set_option maxRecDepth 100000 in
set_option maxHeartbeats 4000000 in
theorem operation_any (E : Env) (w : World) (l : List T) (o : Nat) (h : PS E w l o) :
    Calls Tryz.prog 81 #[.pointer (some ⟨E.b, 0, none⟩)] w fun e w' => e = .returned (.tuple #[.int .i64 (opOf (mark l)).1, .int .i64 (opOf (mark l)).2]) ∧ Below w.heap.size w w' := by
  have H := Lib.hid h
  clear h
  obtain ⟨M, hM⟩ : ∃ M, mark l = M := ⟨_, rfl⟩
  have HM := Lib.hid hM
  rw [hM]
  clear hM
  go_enter Tryz.func81, Tryz.ntmps81
  go_wp2_with (go_at_call 38; refine (mark_any E _ l o H.out).mono ?_; rw [HM.out]; rintro e w1 ⟨rfl, hb⟩)
  go_loop [12] (fun u => ∃ k : Nat, k ≤ 19 ∧ u = .int .i64 k ∧ ∀ j : Nat, j < k → (signZ j).1 ≠ M) (fun u => 19 - (intOf u).toNat)
  case atStart => exact ⟨0, by omega, rfl, fun j h => by omega⟩
  case round =>
    obtain ⟨k, hk, rfl, hn⟩ := hrel
    have HN := Lib.hid hn
    clear hn
    by_cases hlt : k < 19
    · by_cases hs : (signZ k).1 = M
      · have HS := Lib.hid hs
        have heq : ((bs (signZ k).1).toList == (bs M).toList) = true := by rw [hs]; simp
        clear hs
        go_wp2_with (go_at_call 10; refine (psign_any k _).mono ?_; rintro e w' ⟨rfl, rfl⟩)
        go_ret2
        exact ⟨by rw [sign_first M k hlt HS.out HN.out]; rfl, hb⟩
      · have HS := Lib.hid hs
        have heq := bs_beq hs
        clear hs
        go_wp2_with (go_at_call 10; refine (psign_any k _).mono ?_; rintro e w' ⟨rfl, rfl⟩)
        go_round
        case rel => exact ⟨k + 1, by omega, by go_num, fun j hj => by
          rcases Nat.lt_or_ge j k with h | h
          · exact HN.out j h
          · obtain rfl : j = k := by omega
            exact HS.out⟩
        case measure => simp [intOf]; omega
    · obtain rfl : k = 19 := by omega
      go_wp2
      go_ret2
      exact ⟨by rw [sign_none M HN.out]; rfl, hb⟩
end Go.Proofs.YtihnnbeepfgphaaGreatDoor

/-! ## PF20: Structs made: walks. -/
namespace Go.Proofs.YtihnnbeepfgphaaGreatDoor
open Go.RowKit
set_option linter.unusedVariables false
set_option linter.unusedSimpArgs false
attribute [local go_sem ↓] tok_f0 tok_f1 tok_f2 tok_f3

set_option maxRecDepth 100000 in
set_option maxHeartbeats 4000000 in
theorem newStruct_step (n : Nat) (hn : n ≤ LIM) (H : ∀ m, m ≤ n → AllN m) : C0 (n + 1) 94 .newStruct := by
  intro E w l o g r hP hq hr
  simp only [go, bnd_want, bnd_bnd, bnd_ok] at hq
  have hlt := hP.lt
  have hgt := hP.toks.lt
  have hne := hP.ne
  have HR := Lib.hid hr
  have Hn := H n (Nat.le_refl _)
  clear hr
  have HQ0 := Lib.hid hq
  clear hq
  go_enter Tryz.func94, Tryz.ntmps94
  go_wp2_with (first
    | (go_at_call 24; (with_reducible refine (want_any E _ l (o) [38] ⟨#[38]⟩ _ _ psA rfl (by simp) HQ0.out).mono ?_); rintro e w1 ⟨hg1, ⟨a, k, hb, rfl⟩ | ⟨x1, l1, rfl, hq1, hP1⟩⟩; exact And.intro rfl ⟨Gr.trans grA hg1, .inl ⟨_, _, hb, rfl⟩⟩; have hG1 : Gr (· = E.b) w w1 := Gr.trans grA hg1; have HQ1 := Lib.hid hq1; clear hq1; have hbl1 := hP1.lt; have hgl1 := hP1.toks.lt; have hs1 : w.heap.size + 1 ≤ w1.heap.size := (by have := hg1.size; simpa using this); have hb_z1 : Blk w1 (w.heap.size) 28 #[.int .i64 0, .int .i64 0, .int .i64 0, .string ⟨#[]⟩, .string ⟨#[]⟩, .int .i64 0, .slice none 0 0] := Blk.call (b := E.b) bkA hg1 (by omega); have hl_z1 := hb_z1.lt)
    | (go_at_call 71; refine (Hn.typeName E _ l1 (o) _ r psA HQ1.out HR.out).mono ?_; rintro e w2 ⟨hg2, ⟨a, k, hb, rfl⟩ | ⟨k2, op2, m2, p2, t2, a2, ks2, A2, c2, l2, rfl, hq2, hk_22, hn2, hP2⟩⟩; exact And.intro rfl ⟨Gr.trans grA hg2, .inl ⟨_, _, hb, rfl⟩⟩; have hG2 : Gr (· = E.b) w w2 := Gr.trans grA hg2; have HQ2 := Lib.hid hq2; clear hq2; have hbl2 := hP2.lt; have hgl2 := hP2.toks.lt; have hs2 : w1.heap.size + 0 ≤ w2.heap.size := (by have := hg2.size; simpa using this); have hb_z2 : Blk w2 (w.heap.size) 28 #[.int .i64 0, .int .i64 0, .int .i64 0, .string ⟨#[]⟩, .string ⟨#[]⟩, .int .i64 0, .slice none 0 0] := Blk.call (b := E.b) bkA hg2 (by omega); have hl_z2 := hb_z2.lt; have hk_22 := Kid.mono (lo' := w1.heap.size + 0) hk_22 (by simp); have hlit := Kid.lit1 (lo := w1.heap.size) (k := k2) (op := op2) (m := m2) (p := p2) (t := t2) (a := a2) (Kid.mono hk_22 (by omega)) (by omega)))
  obtain ⟨w3, hW⟩ : ∃ W, W = (w2.alloc (.cells #[.int .i64 k2, .int .i64 op2, .int .i64 m2, .string (bs p2), .string (bs t2), .int .i64 a2, .slice A2 ks2.length c2] 28)).alloc (.cells #[.int .i64 38, .int .i64 0, .int .i64 0, .string ⟨#[]⟩, .string ⟨#[]⟩, .int .i64 x1.2, .slice (some ⟨w2.heap.size, 0, none⟩) 1 1] 28) := ⟨_, rfl⟩
  have hP3 : PS E w3 l2 (o) := by rw [hW]; exact psA
  have hG3 : Gr (· = E.b) w w3 := by rw [hW]; exact grA
  have hb_z3 : Blk w3 (w.heap.size) 28 #[.int .i64 0, .int .i64 0, .int .i64 0, .string ⟨#[]⟩, .string ⟨#[]⟩, .int .i64 0, .slice none 0 0] := by rw [hW]; exact bkA
  have hl_z3 := hb_z3.lt
  have hb_n3 : Blk w3 (w2.heap.size + 1) 28 #[.int .i64 38, .int .i64 0, .int .i64 0, .string ⟨#[]⟩, .string ⟨#[]⟩, .int .i64 x1.2, .slice (some ⟨w2.heap.size, 0, none⟩) 1 1] := by rw [hW]; exact bkA
  have hl_n3 := hb_n3.lt
  have hk_n3 : KidX w3 (w1.heap.size) (w2.heap.size + 1) (.slice (some ⟨w2.heap.size, 0, none⟩) 1 1) [Tr.mk k2 op2 m2 p2 t2 a2 ks2] := by rw [hW]; exact kxA
  have hs3 : w2.heap.size ≤ w3.heap.size := by rw [hW]; first | (simp; done) | (simp; omega)
  rw [← hW]
  have hbl3 := hP3.lt
  have hgl3 := hP3.toks.lt
  clear hW
  obtain ⟨_, n3_0, n3_1, n3_2, n3_3, n3_4, n3_5, n3_6, n3_f⟩ := hb_n3.all7
  refine region_E2 9 7 8 1 E.b (w1.heap.size) (w2.heap.size + 1) (· = w2.heap.size + 1) 24 (fun i => match i with | 0 => .pointer (some ⟨w2.heap.size + 1, 6, none⟩) | 1 => .slice (some ⟨w2.heap.size, 0, none⟩) 1 1 | 2 => .pointer (some ⟨E.b, 0, none⟩) | 3 => .pointer (some ⟨E.b, 0, none⟩) | 4 => .pointer (some ⟨E.b, 0, none⟩) | 5 => .pointer (some ⟨E.b, 0, none⟩) | 6 => .func (Fn.func 101) #[.pointer (some ⟨E.b, 0, none⟩)] #[] | _ => undef) (.slice (some ⟨w2.heap.size, 0, none⟩) 1 1) [Tr.mk k2 op2 m2 p2 t2 a2 ks2] 72 #[.pointer (some ⟨E.b, 0, none⟩), .string ⟨#[123]⟩, .string ⟨#[125]⟩, .func (Fn.func 101) #[.pointer (some ⟨E.b, 0, none⟩)] #[]] (TellB r) (TellDL E (o) _ r) (by kernel_rfl) rfl (by kernel_rfl) (by decide) (by decide) (by decide) (by decide) (by decide) (by decide) rfl rfl rfl rfl ⟨_, rfl, rfl⟩ rfl (by kernel_rfl) (by kernel_rfl) rfl
    (fun a w hev => by
      have e4 := hev 4 _ _ (by omega) rfl rfl (by kernel_rfl) (by omega) (by omega)
      have e6 := hev 6 _ _ (by omega) rfl rfl (by kernel_rfl) (by omega) (by omega)
      simp [Act.eval] at e4 e6
      unfold execOp; go_simp)
    (fun i o hoi hi h1 h2 a w hcw hun hev => by
      rcases (show i = 0 ∨ i = 1 ∨ i = 2 ∨ i = 3 ∨ i = 4 ∨ i = 5 ∨ i = 6 ∨ i = 7 ∨ i = 8 by omega) with rfl | rfl | rfl | rfl | rfl | rfl | rfl | rfl | rfl
      · obtain rfl := Option.some.inj hoi; exact x_kids _ _ _ _ _ _ _ _ ((hun 3 (noput_all (by kernel_rfl))).trans rfl)
      · obtain rfl := Option.some.inj hoi; exact x_loadS _ _ _ _ _ _ _ _ 6 _ (hev 0 _ _ (by omega) rfl rfl (by kernel_rfl)) hcw
      · obtain rfl := Option.some.inj hoi; exact x_move _ _ _ _ _ _ _ _ ((hun 0 (noput_all (by kernel_rfl))).trans rfl)
      · obtain rfl := Option.some.inj hoi; exact x_nil _ _ _ _ _ _ _ _ (hev 2 _ _ (by omega) rfl rfl (by kernel_rfl))
      · obtain rfl := Option.some.inj hoi; exact x_reader _ _ _ _ _ _ _ _ (hev 3 _ _ (by omega) rfl rfl (by kernel_rfl))
      · obtain rfl := Option.some.inj hoi; exact x_move _ _ _ _ _ _ _ _ ((hun 0 (noput_all (by kernel_rfl))).trans rfl)
      · obtain rfl := Option.some.inj hoi; exact x_fn _ _ _ _ _ _ _ _ _ (hev 5 _ _ (by omega) rfl rfl (by kernel_rfl))
      · exact absurd rfl h1
      · exact absurd rfl h2)
    (fun i hi h1 h2 => by
      rcases (show i = 0 ∨ i = 1 ∨ i = 2 ∨ i = 3 ∨ i = 4 ∨ i = 5 ∨ i = 6 ∨ i = 7 ∨ i = 8 by omega) with rfl | rfl | rfl | rfl | rfl | rfl | rfl | rfl | rfl <;> first | exact absurd rfl h1 | exact absurd rfl h2 | exact ⟨by kernel_rfl, by kernel_rfl⟩) ⟨by kernel_rfl, by kernel_rfl⟩
    rfl (by decide) (by decide) rfl rfl (by kernel_rfl) (by kernel_rfl) (by kernel_rfl) (by kernel_rfl) rfl hk_n3 hk_n3.p (fun q hq => by have h9 : q = w2.heap.size + 1 := hq; omega) n3_6 (n3_f 6) (by omega) (by omega) (by omega) (by omega) (by simp [LIM]) (calm_TellDL E _ (o) _ r (by omega) (by omega))
    ((Hn.within .key E _ l2 (o) [123] [125] _ _ _ r _ rfl hP3.drew rfl rfl (by simp) (by simp) HQ2.out HR.out).mono fun e w' h => tellsL h) ?_ ?_
  · rintro a w' c had ⟨at_, k, hb, rfl⟩ hg
    exact And.intro had ⟨hG3.trans hg, .inl ⟨_, _, hb, rfl⟩⟩
  rintro vals w' A4 c4 us ⟨l4, hq4, hPx⟩ hul4 hKx hKz hgx hgy
  obtain ⟨w4, hW⟩ : ∃ W, W = w'.setCell ⟨w2.heap.size + 1, 6, none⟩ (.slice A4 ([Tr.mk k2 op2 m2 p2 t2 a2 ks2] ++ us).length c4) := ⟨_, rfl⟩
  have hP4 : PS E w4 l4 (o) := by rw [hW]; exact psA
  have hsx := hgx.size
  have hG4 : Gr (· = E.b) w w4 := by rw [hW]; exact Gr.setCell (wide_b hG3 hgx (by omega)) (.inl (by first | (simp; done) | (simp; omega))) _
  have hb_z4 : Blk w4 (w.heap.size) 28 #[.int .i64 0, .int .i64 0, .int .i64 0, .string ⟨#[]⟩, .string ⟨#[]⟩, .int .i64 0, .slice none 0 0] := by rw [hW]; exact Blk.far (Blk.wr hb_z3 hgx (by omega) (.inl (by omega))) (by first | (simp; done) | (simp; omega)) _
  have hl_z4 := hb_z4.lt
  have hb_n4 : Blk w4 (w2.heap.size + 1) 28 #[.int .i64 38, .int .i64 0, .int .i64 0, .string ⟨#[]⟩, .string ⟨#[]⟩, .int .i64 x1.2, .slice A4 ([Tr.mk k2 op2 m2 p2 t2 a2 ks2] ++ us).length c4] := by rw [hW]; exact Blk.set6 (Blk.wr hb_n3 hgx (by omega) (.inr rfl)) _
  have hl_n4 := hb_n4.lt
  have hk_n4 : KidX w4 (w1.heap.size) (w2.heap.size + 1) (.slice A4 ([Tr.mk k2 op2 m2 p2 t2 a2 ks2] ++ us).length c4) ([Tr.mk k2 op2 m2 p2 t2 a2 ks2] ++ us) := by rw [hW]; exact hKx.setCell (.inr rfl) _
  dsimp only [putAll, List.take_succ_cons, List.take_zero, List.take_nil]
  rw [← hW]
  have hbl4 := hP4.lt
  have hgl4 := hP4.toks.lt
  have hs4 : w3.heap.size ≤ w4.heap.size := by rw [hW]; simpa using hsx
  clear hW hPx hKx hKz hgx hgy hsx
  have HQ4 := Lib.hid hq4
  clear hq4
  obtain ⟨_, n4_0, n4_1, n4_2, n4_3, n4_4, n4_5, n4_6, n4_f⟩ := hb_n4.all7
  obtain ⟨_, z4_0, z4_1, z4_2, z4_3, z4_4, z4_5, z4_6, z4_f⟩ := hb_z4.all7
  go_wp2
  have hul := hul4
  unfold LIM at hul
  exact ret7 Tryz.results94 rfl rfl b7A ⟨grA, .inr ⟨38, 0, 0, [], [], x1.2, ([Tr.mk k2 op2 m2 p2 t2 a2 ks2] ++ us), A4, c4, l4, rfl, HQ4.out, Kid.mono (lo := w1.heap.size) (v := .slice A4 ([Tr.mk k2 op2 m2 p2 t2 a2 ks2] ++ us).length c4) (ks := ([Tr.mk k2 op2 m2 p2 t2 a2 ks2] ++ us)) (KidX.kid (h := w2.heap.size + 1) kxA) (by omega), (by simp [LIM]; omega), psA⟩⟩
end Go.Proofs.YtihnnbeepfgphaaGreatDoor

/-! ## PF21: Types' names: walks. -/
namespace Go.Proofs.YtihnnbeepfgphaaGreatDoor
open Go.RowKit
set_option linter.unusedVariables false
set_option linter.unusedSimpArgs false
attribute [local go_sem ↓] tok_f0 tok_f1 tok_f2 tok_f3

theorem op_str {Q : Exit → Act → World → Prop} {K : Act → World → Prop} {w : World} {a : Act} {ty : TypeId} {pos : String} {after : Array Edge} (x y : Operand) (v : ByteArray) {z i : Nat} {u : Value}
    (hx : a.eval x = .pointer (some ⟨z, i, none⟩)) (hy : a.eval y = .string v) (hc : w.cell? ⟨z, i, none⟩ = some u) (hf : w.frozen? ⟨z, i, none⟩ = false) (hk : K (a.put none undef) (w.setCell ⟨z, i, none⟩ (.string v))) :
    ({ dst := none, op := .store 9 x y, type := ty, pos := pos, after := after, guard := none } : Oper).wp Tryz.prog a w K Q := by
  have : (execOp a.eval { dst := none, op := .store 9 x y, type := ty, pos := pos, after := after, guard := none }).run Tryz.prog w = .ok .skip (w.setCell ⟨z, i, none⟩ (.string v)) := by
    unfold execOp; simp only [hx, hy]; go_simp
  unfold Oper.wp
  rw [this]
  exact hk

set_option maxRecDepth 100000 in
set_option maxHeartbeats 4000000 in
theorem typeName_step (n : Nat) (hn : n ≤ LIM) (H : ∀ m, m ≤ n → AllN m) : C0 (n + 1) 71 .typeName := by
  intro E w l o g r hP hq hr
  simp only [go, bnd_wantK, bnd_takeR, bnd_ite, bnd_ok] at hq
  have hlt := hP.lt
  have hgt := hP.toks.lt
  have hne := hP.ne
  have HR := Lib.hid hr
  have Hn := H n (Nat.le_refl _)
  clear hr
  have HQ0 := Lib.hid hq
  clear hq
  go_enter Tryz.func71, Tryz.ntmps71
  go_wp2_with (first
    | (go_at_call 25; (with_reducible refine (name_any E _ l (o) _ _ psA HQ0.out).mono ?_); rintro e w1 ⟨hg1, ⟨a, k, hb, rfl⟩ | ⟨x1, l1, rfl, hq1, hP1⟩⟩; exact And.intro rfl ⟨Gr.trans grA hg1, .inl ⟨_, _, hb, rfl⟩⟩; have hG1 : Gr (· = E.b) w w1 := Gr.trans grA hg1; have HQ1 := Lib.hid hq1; clear hq1; have hbl1 := hP1.lt; have hgl1 := hP1.toks.lt; have hs1 : w.heap.size + 1 ≤ w1.heap.size := (by have := hg1.size; simpa using this); have hb_z1 : Blk w1 (w.heap.size) 28 #[.int .i64 0, .int .i64 0, .int .i64 0, .string ⟨#[]⟩, .string ⟨#[]⟩, .int .i64 0, .slice none 0 0] := Blk.call (b := E.b) bkA hg1 (by omega); have hl_z1 := hb_z1.lt))
  by_cases hm : mark l1 = [46]
  · skip
    have HQx := HQ1.out
    rw [if_pos hm] at HQx
    have HM := Lib.hid hm
    clear HQ1 hm
    have HQ1 := Lib.hid HQx
    clear HQx
    go_wp2_with (first
      | (go_at_call 26; refine (skip_yes E _ l1 (o) [46] _ psA rfl (by simp) HM.out).mono ?_; rintro e w2 ⟨rfl, hg2, xs, l2, hll2, hP2⟩; have hG2 : Gr (· = E.b) w w2 := Gr.trans grA hg2; have hq2 := HQ1.out; rw [hll2, takeR_cons] at hq2; have HQ2 := Lib.hid hq2; clear hq2 hll2; have hbl2 := hP2.lt; have hgl2 := hP2.toks.lt; have hs2 : w1.heap.size + 2 ≤ w2.heap.size := (by have := hg2.size; simpa using this); have hb_z2 : Blk w2 (w.heap.size) 28 #[.int .i64 0, .int .i64 0, .int .i64 0, .string ⟨#[]⟩, .string ⟨#[]⟩, .int .i64 0, .slice none 0 0] := Blk.call (b := E.b) bkA hg2 (by omega); have hl_z2 := hb_z2.lt; have hb_x2 : Blk w2 (w1.heap.size) 58 #[.int .i64 x1.1.k, .string (bs x1.1.t), .int .i64 x1.1.n, .int .i64 x1.2] := Blk.call (b := E.b) bkA hg2 (by omega); have hl_x2 := hb_x2.lt; have hb_n2 : Blk w2 (w1.heap.size + 1) 28 #[.int .i64 13, .int .i64 0, .int .i64 0, .string ⟨#[]⟩, .string (bs x1.1.t), .int .i64 x1.2, .slice none 0 0] := Blk.call (b := E.b) bkA hg2 (by omega); have hl_n2 := hb_n2.lt; have hk_n2 : KidX w2 (w1.heap.size + 2) (w1.heap.size + 1) (.slice none 0 0) ([] : List Tr) := KidX.call (b := E.b) kxA hg2 (by omega)))
    refine wp_region_held_drew (S := fun W => Blk W (w1.heap.size) 58 #[.int .i64 x1.1.k, .string (bs x1.1.t), .int .i64 x1.1.n, .int .i64 x1.2]) (by kernel_rfl) bkA (fun hS0 => ?_)
    refine wpAnyH_take (i := 0) (v := .pointer (some ⟨w1.heap.size, 1, none⟩)) rfl (by kernel_rfl) (by kernel_rfl) (by kernel_rfl) (fun _ _ _ h => h) (Or.inl ⟨rfl, fun w' hS => by ((try obtain ⟨_, s0, s1, s2, s3, sf⟩ := hS.all4); unfold execOp; go_simp)⟩) hS0 ?_
    simp only [Act.put, List.getElem_toArray, List.getElem_cons_zero, List.getElem_cons_succ, List.setIfInBounds_toArray, List.set_cons_zero, List.set_cons_succ]
    refine wpAnyH_take (i := 1) (v := .string (bs x1.1.t)) rfl (by kernel_rfl) (by kernel_rfl) (by kernel_rfl) (fun _ _ _ h => h) (Or.inl ⟨rfl, fun w' hS => by ((try obtain ⟨_, s0, s1, s2, s3, sf⟩ := hS.all4); unfold execOp; go_simp)⟩) hS0 ?_
    simp only [Act.put, List.getElem_toArray, List.getElem_cons_zero, List.getElem_cons_succ, List.setIfInBounds_toArray, List.set_cons_zero, List.set_cons_succ]
    refine wpAnyH_take (i := 2) (v := .pointer (some ⟨E.b, 0, none⟩)) rfl (by kernel_rfl) (by kernel_rfl) (by kernel_rfl) (fun _ _ _ h => h) (Or.inl ⟨rfl, fun w' hS => by ((try obtain ⟨_, s0, s1, s2, s3, sf⟩ := hS.all4); unfold execOp; go_simp)⟩) hS0 ?_
    simp only [Act.put, List.getElem_toArray, List.getElem_cons_zero, List.getElem_cons_succ, List.setIfInBounds_toArray, List.set_cons_zero, List.set_cons_succ]
    refine wpAnyH_take (i := 3) (v := .pointer (some ⟨E.b, 0, none⟩)) rfl (by kernel_rfl) (by kernel_rfl) (by kernel_rfl) (fun _ _ _ h => h) (Or.inl ⟨rfl, fun w' hS => by ((try obtain ⟨_, s0, s1, s2, s3, sf⟩ := hS.all4); unfold execOp; go_simp)⟩) hS0 ?_
    simp only [Act.put, List.getElem_toArray, List.getElem_cons_zero, List.getElem_cons_succ, List.setIfInBounds_toArray, List.set_cons_zero, List.set_cons_succ]
    refine wpAnyH_take (i := 4) (v := .pointer (some ⟨E.b, 0, none⟩)) rfl (by kernel_rfl) (by kernel_rfl) (by kernel_rfl) (fun _ _ _ h => h) (Or.inl ⟨rfl, fun w' hS => by ((try obtain ⟨_, s0, s1, s2, s3, sf⟩ := hS.all4); unfold execOp; go_simp)⟩) hS0 ?_
    simp only [Act.put, List.getElem_toArray, List.getElem_cons_zero, List.getElem_cons_succ, List.setIfInBounds_toArray, List.set_cons_zero, List.set_cons_succ]
    refine wpAnyH_take (i := 7) (v := .pointer (some ⟨w1.heap.size + 1, 3, none⟩)) rfl (by kernel_rfl) (by kernel_rfl) (by kernel_rfl) (fun _ _ _ h => h) (Or.inl ⟨rfl, fun w' hS => by ((try obtain ⟨_, s0, s1, s2, s3, sf⟩ := hS.all4); unfold execOp; go_simp)⟩) hS0 ?_
    simp only [Act.put, List.getElem_toArray, List.getElem_cons_zero, List.getElem_cons_succ, List.setIfInBounds_toArray, List.set_cons_zero, List.set_cons_succ]
    refine wpAnyH_one (i := 5) (by kernel_rfl) rfl rfl (op_call (args := #[.pointer (some ⟨E.b, 0, none⟩)]) (f := 25) (by unfold execOp; go_simp) ((name_any E _ l2 (o) _ _ (by exact psA) HQ2.out).mono ?_))
    rintro e w3 ⟨hg3, ⟨a, k, hb, rfl⟩ | ⟨x3, l3, rfl, hq3, hP3⟩⟩
    · exact And.intro rfl ⟨Gr.trans grA hg3, .inl ⟨_, _, hb, rfl⟩⟩
    have hb_x3 : Blk w3 (w1.heap.size) 58 #[.int .i64 x1.1.k, .string (bs x1.1.t), .int .i64 x1.1.n, .int .i64 x1.2] := Blk.call (b := E.b) bkA hg3 (by omega)
    have hb_n3 : Blk w3 (w1.heap.size + 1) 28 #[.int .i64 13, .int .i64 0, .int .i64 0, .string ⟨#[]⟩, .string (bs x1.1.t), .int .i64 x1.2, .slice none 0 0] := Blk.call (b := E.b) bkA hg3 (by omega)
    have hb_z3 : Blk w3 (w.heap.size) 28 #[.int .i64 0, .int .i64 0, .int .i64 0, .string ⟨#[]⟩, .string ⟨#[]⟩, .int .i64 0, .slice none 0 0] := Blk.call (b := E.b) bkA hg3 (by omega)
    have hG3 : Gr (· = E.b) w w3 := Gr.trans grA hg3
    have hs3 : w2.heap.size ≤ w3.heap.size := by have := hg3.size; simpa using this
    have hl_n3 := hb_n3.lt
    have hl_z3 := hb_z3.lt
    have hbl3 := hP3.lt
    have hgl3 := hP3.toks.lt
    refine And.intro hb_x3 ?_
    simp only [Act.put, List.getElem_toArray, List.getElem_cons_zero, List.getElem_cons_succ, List.setIfInBounds_toArray, List.set_cons_zero, List.set_cons_succ]
    have hS0 := hb_x3
    refine wpAnyH_take (i := 6) (v := .string (bs x3.1.t)) rfl (by kernel_rfl) (by kernel_rfl) (by kernel_rfl) (fun _ _ _ h => h) (Or.inl ⟨rfl, fun w' hS => by (unfold execOp; go_simp)⟩) hS0 ?_
    simp only [Act.put, List.getElem_toArray, List.getElem_cons_zero, List.getElem_cons_succ, List.setIfInBounds_toArray, List.set_cons_zero, List.set_cons_succ]
    refine wpAnyH_one (i := 8) (by kernel_rfl) rfl rfl (op_str _ _ (bs x1.1.t) rfl rfl (hb_n3.cell 3) (hb_n3.frozen 3) (And.intro (Blk.far hb_x3 (by simp) _) ?_))
    simp only [Act.put, List.getElem_toArray, List.getElem_cons_zero, List.getElem_cons_succ, List.setIfInBounds_toArray, List.set_cons_zero, List.set_cons_succ]
    refine wpAnyH_one (i := 9) (by kernel_rfl) rfl rfl (op_same (.pointer (some ⟨w1.heap.size + 1, 4, none⟩)) (by unfold execOp; go_simp) (And.intro (Blk.far hb_x3 (by simp) _) ?_))
    simp only [Act.put, List.getElem_toArray, List.getElem_cons_zero, List.getElem_cons_succ, List.setIfInBounds_toArray, List.set_cons_zero, List.set_cons_succ]
    refine wpAnyH_one (i := 10) (by kernel_rfl) rfl rfl (op_str _ _ (bs x3.1.t) rfl rfl ((Blk.set3 hb_n3 _).cell 4) ((Blk.set3 hb_n3 _).frozen 4) (And.intro (Blk.far (Blk.far hb_x3 (by simp) _) (by simp) _) ?_))
    simp only [Act.put, List.getElem_toArray, List.getElem_cons_zero, List.getElem_cons_succ, List.setIfInBounds_toArray, List.set_cons_zero, List.set_cons_succ]
    refine wpAnyH_done (by kernel_rfl) ?_ _
    have HQ3 := Lib.hid hq3
    clear hq3
    obtain ⟨w4, hW⟩ : ∃ W, W = (w3.setCell ⟨w1.heap.size + 1, 3, none⟩ (.string (bs x1.1.t))).setCell ⟨w1.heap.size + 1, 4, none⟩ (.string (bs x3.1.t)) := ⟨_, rfl⟩
    have hP4 : PS E w4 l3 (o) := by rw [hW]; exact psA
    have hG4 : Gr (· = E.b) w w4 := by rw [hW]; exact grA
    have hb_z4 : Blk w4 (w.heap.size) 28 #[.int .i64 0, .int .i64 0, .int .i64 0, .string ⟨#[]⟩, .string ⟨#[]⟩, .int .i64 0, .slice none 0 0] := by rw [hW]; exact bkA
    have hl_z4 := hb_z4.lt
    have hb_n4 : Blk w4 (w1.heap.size + 1) 28 #[.int .i64 13, .int .i64 0, .int .i64 0, .string (bs x1.1.t), .string (bs x3.1.t), .int .i64 x1.2, .slice none 0 0] := by rw [hW]; exact bkA
    have hl_n4 := hb_n4.lt
    have hs4 : w3.heap.size ≤ w4.heap.size := by rw [hW]; first | (simp; done) | (simp; omega)
    rw [← hW]
    have hbl4 := hP4.lt
    have hgl4 := hP4.toks.lt
    clear hW
    obtain ⟨_, n4_0, n4_1, n4_2, n4_3, n4_4, n4_5, n4_6, n4_f⟩ := hb_n4.all7
    obtain ⟨_, z4_0, z4_1, z4_2, z4_3, z4_4, z4_5, z4_6, z4_f⟩ := hb_z4.all7
    go_wp2
    exact ret7 Tryz.results71 rfl rfl b7A ⟨grA, .inr ⟨13, 0, 0, x1.1.t, x3.1.t, x1.2, [], none, 0, l3, rfl, HQ3.out, Kid.nil _ _ 0, by simp, psA⟩⟩
  · skip
    have HQx := HQ1.out
    rw [if_neg hm] at HQx
    have hmn1 := bs_beq3 hm
    have HM := Lib.hid hm
    clear HQ1 hm
    have HQ1 := Lib.hid HQx
    clear HQx
    go_wp2_with (first
      | (go_at_call 26; refine (skip_no E _ l1 (o) [46] _ psA rfl HM.out).mono ?_; rintro e w2 ⟨rfl, hg2⟩; have hP2 : PS E w2 l1 (o) := PS.below psA hg2; have hG2 : Gr (· = E.b) w w2 := Gr.trans grA (Gr.of_below hg2); have hbl2 := hP2.lt; have hgl2 := hP2.toks.lt; have hs2 : w1.heap.size + 2 ≤ w2.heap.size := (by have := hg2.size; simpa using this); have hb_z2 : Blk w2 (w.heap.size) 28 #[.int .i64 0, .int .i64 0, .int .i64 0, .string ⟨#[]⟩, .string ⟨#[]⟩, .int .i64 0, .slice none 0 0] := Blk.bel bkA hg2; have hl_z2 := hb_z2.lt; obtain ⟨_, z2_0, z2_1, z2_2, z2_3, z2_4, z2_5, z2_6, z2_f⟩ := hb_z2.all7; have hb_x2 : Blk w2 (w1.heap.size) 58 #[.int .i64 x1.1.k, .string (bs x1.1.t), .int .i64 x1.1.n, .int .i64 x1.2] := Blk.bel bkA hg2; have hl_x2 := hb_x2.lt; have hb_n2 : Blk w2 (w1.heap.size + 1) 28 #[.int .i64 13, .int .i64 0, .int .i64 0, .string ⟨#[]⟩, .string (bs x1.1.t), .int .i64 x1.2, .slice none 0 0] := Blk.bel bkA hg2; have hl_n2 := hb_n2.lt; obtain ⟨_, n2_0, n2_1, n2_2, n2_3, n2_4, n2_5, n2_6, n2_f⟩ := hb_n2.all7; have hk_n2 : KidX w2 (w1.heap.size + 2) (w1.heap.size + 1) (.slice none 0 0) ([] : List Tr) := KidX.bel kxA hg2))
    exact ret7 Tryz.results71 rfl rfl b7A ⟨grA, .inr ⟨13, 0, 0, [], x1.1.t, x1.2, [], none, 0, l1, rfl, HQ1.out, Kid.mono (lo := w1.heap.size + 2) (v := .slice none 0 0) (ks := ([] : List Tr)) (KidX.kid (h := w1.heap.size + 1) kxA) (by omega), (by simp [LIM]), psA⟩⟩
end Go.Proofs.YtihnnbeepfgphaaGreatDoor

/-! ## PF22: What an expression begins with: walks. -/
namespace Go.Proofs.YtihnnbeepfgphaaGreatDoor
open Go.RowKit
set_option linter.unusedVariables false
set_option linter.unusedSimpArgs false
attribute [local go_sem ↓] tok_f0 tok_f1 tok_f2 tok_f3

set_option maxRecDepth 100000 in
set_option maxHeartbeats 4000000 in
theorem first_step (n : Nat) (hn : n ≤ LIM) (H : ∀ m, m ≤ n → AllN m) : C0 (n + 1) 95 .first := by
  intro E w l o g r hP hq hr
  simp only [go, bnd_takeR, bnd_ite, bnd_ok] at hq
  have hlt := hP.lt
  have hgt := hP.toks.lt
  have hne := hP.ne
  have HR := Lib.hid hr
  have Hn := H n (Nat.le_refl _)
  clear hr
  obtain ⟨⟨⟨xk, xt, xn⟩, xp⟩, l1, rfl⟩ := hP.cons
  by_cases h3 : xk = 3
  · rw [if_pos (show kind (((⟨xk, xt, xn⟩, xp) : T) :: l1) = 3 from h3), takeR_cons] at hq
    subst h3
    have HQ0 := Lib.hid hq
    clear hq
    go_enter Tryz.func95, Tryz.ntmps95
    go_wp2_with (first
      | (go_at_call 27; refine (token_any E _ ((⟨3, xt, xn⟩, xp) : T) l1 (o) psA).mono ?_; rintro e w1 ⟨rfl, hb1⟩; have hP1 : PS E w1 (((⟨3, xt, xn⟩, xp) : T) :: l1) (o) := PS.below psA hb1; have hG1 : Gr (· = E.b) w w1 := Gr.trans grA (Gr.of_below hb1); have hbl1 := hP1.lt; have hgl1 := hP1.toks.lt; have hs1 : w.heap.size + 1 ≤ w1.heap.size := (by have := hb1.size; simpa using this); have hb_z1 : Blk w1 (w.heap.size) 28 #[.int .i64 0, .int .i64 0, .int .i64 0, .string ⟨#[]⟩, .string ⟨#[]⟩, .int .i64 0, .slice none 0 0] := Blk.bel bkA hb1; have hl_z1 := hb_z1.lt))
    refine wp_region_held_drew (S := fun W => Blk W (w1.heap.size) 58 #[.int .i64 3, .string (bs xt), .int .i64 xn, .int .i64 xp]) (by kernel_rfl) bkA (fun hS0 => ?_)
    refine wpAnyH_take (i := 0) (v := .pointer (some ⟨w1.heap.size, 2, none⟩)) rfl (by kernel_rfl) (by kernel_rfl) (by kernel_rfl) (fun _ _ _ h => h) (Or.inl ⟨rfl, fun w' hS => by ((try obtain ⟨_, s0, s1, s2, s3, sf⟩ := hS.all4); unfold execOp; go_simp)⟩) hS0 ?_
    simp only [Act.put, List.getElem_toArray, List.getElem_cons_zero, List.getElem_cons_succ, List.setIfInBounds_toArray, List.set_cons_zero, List.set_cons_succ]
    refine wpAnyH_take (i := 1) (v := .int .i64 xn) rfl (by kernel_rfl) (by kernel_rfl) (by kernel_rfl) (fun _ _ _ h => h) (Or.inl ⟨rfl, fun w' hS => by ((try obtain ⟨_, s0, s1, s2, s3, sf⟩ := hS.all4); unfold execOp; go_simp)⟩) hS0 ?_
    simp only [Act.put, List.getElem_toArray, List.getElem_cons_zero, List.getElem_cons_succ, List.setIfInBounds_toArray, List.set_cons_zero, List.set_cons_succ]
    refine wpAnyH_take (i := 2) (v := .pointer (some ⟨E.b, 0, none⟩)) rfl (by kernel_rfl) (by kernel_rfl) (by kernel_rfl) (fun _ _ _ h => h) (Or.inl ⟨rfl, fun w' hS => by ((try obtain ⟨_, s0, s1, s2, s3, sf⟩ := hS.all4); unfold execOp; go_simp)⟩) hS0 ?_
    simp only [Act.put, List.getElem_toArray, List.getElem_cons_zero, List.getElem_cons_succ, List.setIfInBounds_toArray, List.set_cons_zero, List.set_cons_succ]
    refine wpAnyH_take (i := 3) (v := .pointer (some ⟨E.b, 0, none⟩)) rfl (by kernel_rfl) (by kernel_rfl) (by kernel_rfl) (fun _ _ _ h => h) (Or.inl ⟨rfl, fun w' hS => by ((try obtain ⟨_, s0, s1, s2, s3, sf⟩ := hS.all4); unfold execOp; go_simp)⟩) hS0 ?_
    simp only [Act.put, List.getElem_toArray, List.getElem_cons_zero, List.getElem_cons_succ, List.setIfInBounds_toArray, List.set_cons_zero, List.set_cons_succ]
    refine wpAnyH_take (i := 4) (v := .pointer (some ⟨E.b, 0, none⟩)) rfl (by kernel_rfl) (by kernel_rfl) (by kernel_rfl) (fun _ _ _ h => h) (Or.inl ⟨rfl, fun w' hS => by ((try obtain ⟨_, s0, s1, s2, s3, sf⟩ := hS.all4); unfold execOp; go_simp)⟩) hS0 ?_
    simp only [Act.put, List.getElem_toArray, List.getElem_cons_zero, List.getElem_cons_succ, List.setIfInBounds_toArray, List.set_cons_zero, List.set_cons_succ]
    refine wpAnyH_one (i := 5) (by kernel_rfl) rfl rfl (op_call (args := #[.pointer (some ⟨E.b, 0, none⟩)]) (f := 40) (by unfold execOp; go_simp) ((take_any E _ ((⟨3, xt, xn⟩, xp) : T) l1 o (by exact psA) (by simp)).mono ?_))
    rintro e w2 ⟨rfl, hg2, hP2⟩
    have hb_x2 : Blk w2 (w1.heap.size) 58 #[.int .i64 3, .string (bs xt), .int .i64 xn, .int .i64 xp] := Blk.call (b := E.b) bkA hg2 (by omega)
    have hb_z2 : Blk w2 (w.heap.size) 28 #[.int .i64 0, .int .i64 0, .int .i64 0, .string ⟨#[]⟩, .string ⟨#[]⟩, .int .i64 0, .slice none 0 0] := Blk.call (b := E.b) bkA hg2 (by omega)
    have hG2 : Gr (· = E.b) w w2 := Gr.trans grA hg2
    have hs2 : w1.heap.size + 1 ≤ w2.heap.size := by have := hg2.size; simpa using this
    have hbl2 := hP2.lt
    have hgl2 := hP2.toks.lt
    refine And.intro hb_x2 ?_
    simp only [Act.put, List.getElem_toArray, List.getElem_cons_zero, List.getElem_cons_succ, List.setIfInBounds_toArray, List.set_cons_zero, List.set_cons_succ]
    refine wpAnyH_one (i := 6) (by kernel_rfl) rfl rfl (op_same (.int .i64 xp) (by unfold execOp; go_simp) (And.intro hb_x2 ?_))
    simp only [Act.put, List.getElem_toArray, List.getElem_cons_zero, List.getElem_cons_succ, List.setIfInBounds_toArray, List.set_cons_zero, List.set_cons_succ]
    refine wpAnyH_one (i := 7) (by kernel_rfl) rfl rfl (op_same (.agg #[.int .i64 26, .int .i64 0, .int .i64 xn, .string ⟨#[]⟩, .string ⟨#[]⟩, .int .i64 xp, .slice none 0 0]) (by unfold execOp; go_simp) (And.intro hb_x2 ?_))
    simp only [Act.put, List.getElem_toArray, List.getElem_cons_zero, List.getElem_cons_succ, List.setIfInBounds_toArray, List.set_cons_zero, List.set_cons_succ]
    refine wpAnyH_one (i := 8) (by kernel_rfl) rfl rfl (op_box _ _ 26 0 xn [] [] xp 0 0 none rfl rfl hb_z2 fun w9 hz3 hg9 => And.intro (Blk.gr hb_x2 hg9 (by omega)) ?_)
    refine wpAnyH_done (by kernel_rfl) ?_ _
    simp only [Act.put, List.getElem_toArray, List.getElem_cons_zero, List.getElem_cons_succ, List.setIfInBounds_toArray, List.set_cons_zero, List.set_cons_succ]
    go_wp2
    exact ret7 Tryz.results95 rfl rfl hz3 ⟨hg9.one hG2 (Nat.le_refl _), .inr ⟨26, 0, xn, [], [], xp, [], none, 0, l1, rfl, HQ0.out, Kid.nil _ _ 0, by simp, hP2.one hg9 (by omega) (by omega)⟩⟩
  rw [if_neg (show ¬ kind (((⟨xk, xt, xn⟩, xp) : T) :: l1) = 3 from h3)] at hq
  have e3 : (xk == 3) = false := by simpa using h3
  clear h3
  by_cases h4 : xk = 4
  · rw [if_pos (show kind (((⟨xk, xt, xn⟩, xp) : T) :: l1) = 4 from h4), takeR_cons] at hq
    subst h4
    have HQ0 := Lib.hid hq
    clear hq
    go_enter Tryz.func95, Tryz.ntmps95
    go_wp2_with (first
      | (go_at_call 27; refine (token_any E _ ((⟨4, xt, xn⟩, xp) : T) l1 (o) psA).mono ?_; rintro e w1 ⟨rfl, hb1⟩; have hP1 : PS E w1 (((⟨4, xt, xn⟩, xp) : T) :: l1) (o) := PS.below psA hb1; have hG1 : Gr (· = E.b) w w1 := Gr.trans grA (Gr.of_below hb1); have hbl1 := hP1.lt; have hgl1 := hP1.toks.lt; have hs1 : w.heap.size + 1 ≤ w1.heap.size := (by have := hb1.size; simpa using this); have hb_z1 : Blk w1 (w.heap.size) 28 #[.int .i64 0, .int .i64 0, .int .i64 0, .string ⟨#[]⟩, .string ⟨#[]⟩, .int .i64 0, .slice none 0 0] := Blk.bel bkA hb1; have hl_z1 := hb_z1.lt))
    refine wp_region_held_drew (S := fun W => Blk W (w1.heap.size) 58 #[.int .i64 4, .string (bs xt), .int .i64 xn, .int .i64 xp]) (by kernel_rfl) bkA (fun hS0 => ?_)
    refine wpAnyH_take (i := 0) (v := .pointer (some ⟨w1.heap.size, 1, none⟩)) rfl (by kernel_rfl) (by kernel_rfl) (by kernel_rfl) (fun _ _ _ h => h) (Or.inl ⟨rfl, fun w' hS => by ((try obtain ⟨_, s0, s1, s2, s3, sf⟩ := hS.all4); unfold execOp; go_simp)⟩) hS0 ?_
    simp only [Act.put, List.getElem_toArray, List.getElem_cons_zero, List.getElem_cons_succ, List.setIfInBounds_toArray, List.set_cons_zero, List.set_cons_succ]
    refine wpAnyH_take (i := 1) (v := .string (bs xt)) rfl (by kernel_rfl) (by kernel_rfl) (by kernel_rfl) (fun _ _ _ h => h) (Or.inl ⟨rfl, fun w' hS => by ((try obtain ⟨_, s0, s1, s2, s3, sf⟩ := hS.all4); unfold execOp; go_simp)⟩) hS0 ?_
    simp only [Act.put, List.getElem_toArray, List.getElem_cons_zero, List.getElem_cons_succ, List.setIfInBounds_toArray, List.set_cons_zero, List.set_cons_succ]
    refine wpAnyH_take (i := 2) (v := .pointer (some ⟨E.b, 0, none⟩)) rfl (by kernel_rfl) (by kernel_rfl) (by kernel_rfl) (fun _ _ _ h => h) (Or.inl ⟨rfl, fun w' hS => by ((try obtain ⟨_, s0, s1, s2, s3, sf⟩ := hS.all4); unfold execOp; go_simp)⟩) hS0 ?_
    simp only [Act.put, List.getElem_toArray, List.getElem_cons_zero, List.getElem_cons_succ, List.setIfInBounds_toArray, List.set_cons_zero, List.set_cons_succ]
    refine wpAnyH_take (i := 3) (v := .pointer (some ⟨E.b, 0, none⟩)) rfl (by kernel_rfl) (by kernel_rfl) (by kernel_rfl) (fun _ _ _ h => h) (Or.inl ⟨rfl, fun w' hS => by ((try obtain ⟨_, s0, s1, s2, s3, sf⟩ := hS.all4); unfold execOp; go_simp)⟩) hS0 ?_
    simp only [Act.put, List.getElem_toArray, List.getElem_cons_zero, List.getElem_cons_succ, List.setIfInBounds_toArray, List.set_cons_zero, List.set_cons_succ]
    refine wpAnyH_take (i := 4) (v := .pointer (some ⟨E.b, 0, none⟩)) rfl (by kernel_rfl) (by kernel_rfl) (by kernel_rfl) (fun _ _ _ h => h) (Or.inl ⟨rfl, fun w' hS => by ((try obtain ⟨_, s0, s1, s2, s3, sf⟩ := hS.all4); unfold execOp; go_simp)⟩) hS0 ?_
    simp only [Act.put, List.getElem_toArray, List.getElem_cons_zero, List.getElem_cons_succ, List.setIfInBounds_toArray, List.set_cons_zero, List.set_cons_succ]
    refine wpAnyH_one (i := 5) (by kernel_rfl) rfl rfl (op_call (args := #[.pointer (some ⟨E.b, 0, none⟩)]) (f := 40) (by unfold execOp; go_simp) ((take_any E _ ((⟨4, xt, xn⟩, xp) : T) l1 o (by exact psA) (by simp)).mono ?_))
    rintro e w2 ⟨rfl, hg2, hP2⟩
    have hb_x2 : Blk w2 (w1.heap.size) 58 #[.int .i64 4, .string (bs xt), .int .i64 xn, .int .i64 xp] := Blk.call (b := E.b) bkA hg2 (by omega)
    have hb_z2 : Blk w2 (w.heap.size) 28 #[.int .i64 0, .int .i64 0, .int .i64 0, .string ⟨#[]⟩, .string ⟨#[]⟩, .int .i64 0, .slice none 0 0] := Blk.call (b := E.b) bkA hg2 (by omega)
    have hG2 : Gr (· = E.b) w w2 := Gr.trans grA hg2
    have hs2 : w1.heap.size + 1 ≤ w2.heap.size := by have := hg2.size; simpa using this
    have hbl2 := hP2.lt
    have hgl2 := hP2.toks.lt
    refine And.intro hb_x2 ?_
    simp only [Act.put, List.getElem_toArray, List.getElem_cons_zero, List.getElem_cons_succ, List.setIfInBounds_toArray, List.set_cons_zero, List.set_cons_succ]
    refine wpAnyH_one (i := 6) (by kernel_rfl) rfl rfl (op_same (.int .i64 xp) (by unfold execOp; go_simp) (And.intro hb_x2 ?_))
    simp only [Act.put, List.getElem_toArray, List.getElem_cons_zero, List.getElem_cons_succ, List.setIfInBounds_toArray, List.set_cons_zero, List.set_cons_succ]
    refine wpAnyH_one (i := 7) (by kernel_rfl) rfl rfl (op_same (.agg #[.int .i64 27, .int .i64 0, .int .i64 0, .string ⟨#[]⟩, .string (bs xt), .int .i64 xp, .slice none 0 0]) (by unfold execOp; go_simp) (And.intro hb_x2 ?_))
    simp only [Act.put, List.getElem_toArray, List.getElem_cons_zero, List.getElem_cons_succ, List.setIfInBounds_toArray, List.set_cons_zero, List.set_cons_succ]
    refine wpAnyH_one (i := 8) (by kernel_rfl) rfl rfl (op_box _ _ 27 0 0 [] xt xp 0 0 none rfl rfl hb_z2 fun w9 hz3 hg9 => And.intro (Blk.gr hb_x2 hg9 (by omega)) ?_)
    refine wpAnyH_done (by kernel_rfl) ?_ _
    simp only [Act.put, List.getElem_toArray, List.getElem_cons_zero, List.getElem_cons_succ, List.setIfInBounds_toArray, List.set_cons_zero, List.set_cons_succ]
    go_wp2
    exact ret7 Tryz.results95 rfl rfl hz3 ⟨hg9.one hG2 (Nat.le_refl _), .inr ⟨27, 0, 0, [], xt, xp, [], none, 0, l1, rfl, HQ0.out, Kid.nil _ _ 0, by simp, hP2.one hg9 (by omega) (by omega)⟩⟩
  rw [if_neg (show ¬ kind (((⟨xk, xt, xn⟩, xp) : T) :: l1) = 4 from h4)] at hq
  have e4 : (xk == 4) = false := by simpa using h4
  clear h4
  by_cases h1 : xk = 1
  · rw [if_pos (show kind (((⟨xk, xt, xn⟩, xp) : T) :: l1) = 1 from h1), takeR_cons] at hq
    subst h1
    have HQ0 := Lib.hid hq
    clear hq
    go_enter Tryz.func95, Tryz.ntmps95
    go_wp2_with (first
      | (go_at_call 27; refine (token_any E _ ((⟨1, xt, xn⟩, xp) : T) l1 (o) psA).mono ?_; rintro e w1 ⟨rfl, hb1⟩; have hP1 : PS E w1 (((⟨1, xt, xn⟩, xp) : T) :: l1) (o) := PS.below psA hb1; have hG1 : Gr (· = E.b) w w1 := Gr.trans grA (Gr.of_below hb1); have hbl1 := hP1.lt; have hgl1 := hP1.toks.lt; have hs1 : w.heap.size + 1 ≤ w1.heap.size := (by have := hb1.size; simpa using this); have hb_z1 : Blk w1 (w.heap.size) 28 #[.int .i64 0, .int .i64 0, .int .i64 0, .string ⟨#[]⟩, .string ⟨#[]⟩, .int .i64 0, .slice none 0 0] := Blk.bel bkA hb1; have hl_z1 := hb_z1.lt)
      | (go_at_call 102; refine (plain_any E _ ((⟨1, xt, xn⟩, xp) : T) l1 (o) psA (by simp)).mono ?_; rintro e w2 ⟨rfl, hg2, hP2⟩; have hG2 : Gr (· = E.b) w w2 := Gr.trans grA hg2; have hbl2 := hP2.lt; have hgl2 := hP2.toks.lt; have hs2 : w1.heap.size + 1 ≤ w2.heap.size := (by have := hg2.size; simpa using this); have hb_z2 : Blk w2 (w.heap.size) 28 #[.int .i64 0, .int .i64 0, .int .i64 0, .string ⟨#[]⟩, .string ⟨#[]⟩, .int .i64 0, .slice none 0 0] := Blk.call (b := E.b) bkA hg2 (by omega); have hl_z2 := hb_z2.lt; obtain ⟨_, z2_0, z2_1, z2_2, z2_3, z2_4, z2_5, z2_6, z2_f⟩ := hb_z2.all7))
    exact ret7 Tryz.results95 rfl rfl b7A ⟨grA, .inr ⟨30, 0, 0, [], xt, xp, [], none, 0, l1, rfl, HQ0.out, Kid.nil _ _ 0, by simp, psA⟩⟩
  rw [if_neg (show ¬ kind (((⟨xk, xt, xn⟩, xp) : T) :: l1) = 1 from h1)] at hq
  have e1 : (xk == 1) = false := by simpa using h1
  clear h1
  have HQ0 := Lib.hid hq
  clear hq
  go_enter Tryz.func95, Tryz.ntmps95
  go_wp2_with (first
    | (go_at_call 27; refine (token_any E _ ((⟨xk, xt, xn⟩, xp) : T) l1 (o) psA).mono ?_; rintro e w1 ⟨rfl, hb1⟩; have hP1 : PS E w1 (((⟨xk, xt, xn⟩, xp) : T) :: l1) (o) := PS.below psA hb1; have hG1 : Gr (· = E.b) w w1 := Gr.trans grA (Gr.of_below hb1); have hbl1 := hP1.lt; have hgl1 := hP1.toks.lt; have hs1 : w.heap.size + 1 ≤ w1.heap.size := (by have := hb1.size; simpa using this); have hb_z1 : Blk w1 (w.heap.size) 28 #[.int .i64 0, .int .i64 0, .int .i64 0, .string ⟨#[]⟩, .string ⟨#[]⟩, .int .i64 0, .slice none 0 0] := Blk.bel bkA hb1; have hl_z1 := hb_z1.lt)
    | (go_at_call 103; refine (Hn.firstMark E _ (((⟨xk, xt, xn⟩, xp) : T) :: l1) (o) _ r psA HQ0.out HR.out).mono ?_; rintro e w2 ⟨hg2, ⟨a, k, hb, rfl⟩ | ⟨k2, op2, m2, p2, t2, a2, ks2, A2, c2, l2, rfl, hq2, hk_22, hn2, hP2⟩⟩; exact And.intro rfl ⟨Gr.trans grA hg2, .inl ⟨_, _, hb, rfl⟩⟩; have hG2 : Gr (· = E.b) w w2 := Gr.trans grA hg2; have HQ2 := Lib.hid hq2; clear hq2; have hbl2 := hP2.lt; have hgl2 := hP2.toks.lt; have hs2 : w1.heap.size + 1 ≤ w2.heap.size := (by have := hg2.size; simpa using this); have hb_z2 : Blk w2 (w.heap.size) 28 #[.int .i64 0, .int .i64 0, .int .i64 0, .string ⟨#[]⟩, .string ⟨#[]⟩, .int .i64 0, .slice none 0 0] := Blk.call (b := E.b) bkA hg2 (by omega); have hl_z2 := hb_z2.lt; obtain ⟨_, z2_0, z2_1, z2_2, z2_3, z2_4, z2_5, z2_6, z2_f⟩ := hb_z2.all7; have hk_22 := Kid.mono (lo' := w1.heap.size + 1) hk_22 (by simp)))
  exact ret7 Tryz.results95 rfl rfl b7A ⟨grA, .inr ⟨k2, op2, m2, p2, t2, a2, ks2, A2, c2, l2, rfl, HQ2.out, Kid.mono (lo := w1.heap.size + 1) kdA (by omega), hn2, psA⟩⟩
end Go.Proofs.YtihnnbeepfgphaaGreatDoor

/-! ## PF23: Where a type may begin: a walk. -/
namespace Go.Proofs.YtihnnbeepfgphaaGreatDoor
open Go.RowKit
set_option linter.unusedVariables false
set_option linter.unusedSimpArgs false
attribute [local go_sem ↓] tok_f0 tok_f1 tok_f2 tok_f3

theorem begins_isT {l : List T} (h : isT (mark l) = true) : begins l = true := by unfold begins; rw [h]; rfl
set_option maxRecDepth 100000 in
set_option maxHeartbeats 2000000 in
theorem beginsType_any (E : Env) (w : World) (l : List T) (o : Nat) (h : PS E w l o) :
    Calls Tryz.prog 73 #[.pointer (some ⟨E.b, 0, none⟩)] w fun e w' => e = .returned (.bool (begins l)) ∧ Below w.heap.size w w' := by
  have H := Lib.hid h
  clear h
  by_cases hm0 : mark l = [105, 110, 116]
  · rw [show begins l = true by unfold begins; rw [hm0]; simp [isT]]
    have HM := Lib.hid hm0
    clear hm0
    go_enter Tryz.func73, Tryz.ntmps73
    go_wp2_with (go_at_call 38; refine (mark_any E _ l o H.out).mono ?_; rw [HM.out, show bs [105, 110, 116] = ⟨#[105, 110, 116]⟩ from rfl]; rintro e w1 ⟨rfl, hb⟩)
    go_ret
    exact ⟨rfl, hb⟩
  have hc0 := bs_beq3 hm0
  by_cases hm1 : mark l = [98, 111, 111, 108]
  · rw [show begins l = true by unfold begins; rw [hm1]; simp [isT]]
    have HM := Lib.hid hm1
    clear hm1
    go_enter Tryz.func73, Tryz.ntmps73
    go_wp2_with (go_at_call 38; refine (mark_any E _ l o H.out).mono ?_; rw [HM.out, show bs [98, 111, 111, 108] = ⟨#[98, 111, 111, 108]⟩ from rfl]; rintro e w1 ⟨rfl, hb⟩)
    go_ret
    exact ⟨rfl, hb⟩
  have hc1 := bs_beq3 hm1
  by_cases hm2 : mark l = [115, 116, 114, 105, 110, 103]
  · rw [show begins l = true by unfold begins; rw [hm2]; simp [isT]]
    have HM := Lib.hid hm2
    clear hm2
    go_enter Tryz.func73, Tryz.ntmps73
    go_wp2_with (go_at_call 38; refine (mark_any E _ l o H.out).mono ?_; rw [HM.out, show bs [115, 116, 114, 105, 110, 103] = ⟨#[115, 116, 114, 105, 110, 103]⟩ from rfl]; rintro e w1 ⟨rfl, hb⟩)
    go_ret
    exact ⟨rfl, hb⟩
  have hc2 := bs_beq3 hm2
  by_cases hm3 : mark l = [42]
  · rw [show begins l = true by unfold begins; rw [hm3]; simp [isT]]
    have HM := Lib.hid hm3
    clear hm3
    go_enter Tryz.func73, Tryz.ntmps73
    go_wp2_with (go_at_call 38; refine (mark_any E _ l o H.out).mono ?_; rw [HM.out, show bs [42] = ⟨#[42]⟩ from rfl]; rintro e w1 ⟨rfl, hb⟩)
    go_ret
    exact ⟨rfl, hb⟩
  have hc3 := bs_beq3 hm3
  by_cases hm4 : mark l = [91]
  · rw [show begins l = true by unfold begins; rw [hm4]; simp [isT]]
    have HM := Lib.hid hm4
    clear hm4
    go_enter Tryz.func73, Tryz.ntmps73
    go_wp2_with (go_at_call 38; refine (mark_any E _ l o H.out).mono ?_; rw [HM.out, show bs [91] = ⟨#[91]⟩ from rfl]; rintro e w1 ⟨rfl, hb⟩)
    go_ret
    exact ⟨rfl, hb⟩
  have hc4 := bs_beq3 hm4
  by_cases hm5 : mark l = [102, 117, 110, 99]
  · rw [show begins l = true by unfold begins; rw [hm5]; simp [isT]]
    have HM := Lib.hid hm5
    clear hm5
    go_enter Tryz.func73, Tryz.ntmps73
    go_wp2_with (go_at_call 38; refine (mark_any E _ l o H.out).mono ?_; rw [HM.out, show bs [102, 117, 110, 99] = ⟨#[102, 117, 110, 99]⟩ from rfl]; rintro e w1 ⟨rfl, hb⟩)
    go_ret
    exact ⟨rfl, hb⟩
  have hc5 := bs_beq3 hm5
  have hbg : begins l = (kind l == 1) := by
    unfold begins isT
    simp only [hm0, hm1, hm2, hm3, hm4, hm5]
    simp
    rfl
  rw [hbg]
  clear hm0 hm1 hm2 hm3 hm4 hm5 hbg
  obtain ⟨x, r, rfl⟩ := H.out.cons
  rw [kind_cons]
  go_enter Tryz.func73, Tryz.ntmps73
  go_wp2_with (first
    | (go_at_call 38; refine (mark_any E _ (x :: r) o H.out).mono ?_; rintro e w1 ⟨rfl, hb⟩)
    | (go_at_call 27; refine (token_any E _ x r o (PS.below H.out hb)).mono ?_; rintro e w2 ⟨rfl, hb2⟩))
  go_ret
  exact ⟨rfl, hb.trans (hb2.mono hb.size)⟩
end Go.Proofs.YtihnnbeepfgphaaGreatDoor
