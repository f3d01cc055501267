/-
  Statements in braces: a walk.
-/
import Derived.Test.YtihnnbeepfgphaaGreatDoorParC
namespace Go.Proofs.YtihnnbeepfgphaaGreatDoor
open Go.RowKit
set_option linter.unusedVariables false
set_option linter.unusedSimpArgs false
attribute [local go_sem ↓] tok_f0 tok_f1 tok_f2 tok_f3

set_option maxRecDepth 100000 in
set_option maxHeartbeats 4000000 in
theorem block_step (n : Nat) (hn : n ≤ LIM) (H : ∀ m, m ≤ n → AllN m) : C0 (n + 1) 65 .block := by
  intro E w l o g r hP hq hr
  simp only [go, bnd_enter, bnd_bnd, bnd_want, bnd_ok] at hq
  have hlt := hP.lt
  have hgt := hP.toks.lt
  have hne := hP.ne
  have HQ := Lib.hid hq
  have HR := Lib.hid hr
  have HN := Lib.hid hn
  clear hq hr hn
  go_enter Tryz.func65, Tryz.ntmps65
  go_wp2_with (go_at_call 58; refine (enter_any E _ _ _ [123] _ _ _ (hP.alloc _) rfl (by simp) HQ.out).mono ?_; rintro e w1 ⟨hg1, ⟨a, k, hb, rfl⟩ | ⟨x, l1, rfl, hq1, hP1⟩⟩; exact And.intro rfl ⟨Gr.trans grA hg1, .inl ⟨_, _, hb, rfl⟩⟩; have hG1 : Gr (· = E.b) w w1 := Gr.trans grA hg1; have HQ1 := Lib.hid hq1; clear hq1; have hZ1 : Blk w1 w.heap.size _ _ := (Blk.new _ _ _).gr hg1 (by omega); have hzl := hZ1.lt)
  have hs1 := hG1.size
  go_loopg [] n (fun gk wr => ∃ (acc : List Tr) (l2 : List T) (A : Option Addr) (c : Nat), acc.length + gk ≤ n ∧ PS E wr l2 (o + 1) ∧ bnd (go gk (.stats acc) l2 (o + 1)) (fun t l => want [125] l fun _ q => g (nd 17 x.2 t.kids) q) = r ∧ Gr (· = E.b) w wr ∧ Blk wr w.heap.size 28 #[.int .i64 0, .int .i64 0, .int .i64 0, .string ⟨#[]⟩, .string ⟨#[]⟩, .int .i64 0, .slice none 0 0] ∧ Blk wr w1.heap.size 28 #[.int .i64 17, .int .i64 0, .int .i64 0, .string ⟨#[]⟩, .string ⟨#[]⟩, .int .i64 x.2, .slice A acc.length c] ∧ Kid wr (w1.heap.size + 1) (.slice A acc.length c) acc ∧ w1.heap.size + 1 ≤ wr.heap.size)
  case atStart => exact ⟨[], l1, none, 0, by simp, psA, HQ1.out, grA, bkA, Blk.new _ _ _, Kid.nil _ _ 0, by simp⟩
  case round =>
    obtain ⟨acc, l2, A, c, hac, hP2, hq2, hG2, hZ2, hB2, hK2, hs2⟩ := hrel
    have hal : acc.length ≤ 3 * LIM := by have := HN.out; unfold LIM at *; omega
    cases gk with
    | zero => exact absurd (by rw [← hq2]; rfl) HR.out
    | succ f =>
      simp only [go, bnd_ite, bnd_ok, bnd_bnd] at hq2
      by_cases hm : mark l2 = [125]
      · rw [if_pos hm] at hq2
        have HM := Lib.hid hm
        have HQ2 := Lib.hid hq2
        clear hq2 hm
        go_wp2_with (first
          | (go_at_call 38; refine (mark_any E _ _ _ hP2).mono ?_; rw [HM.out, show bs [125] = ⟨#[125]⟩ from rfl]; rintro e w3 ⟨rfl, hb3⟩; have hP3 := hP2.below hb3; have hG3 : Gr (· = E.b) w w3 := Gr.trans hG2 (Gr.of_below hb3); have hZ3 := hZ2.bel hb3; have hB3 := hB2.bel hb3; have hK3 := hK2.bel hb3)
          | (go_at_call 59; refine (leave_any E _ _ _ [125] _ _ _ hP3 rfl (by simp) HQ2.out).mono ?_; rintro e w4 ⟨hg4, ⟨a, k, hb, rfl⟩ | ⟨y, l4, rfl, hq4, hP4⟩⟩; exact And.intro rfl ⟨Gr.trans hG3 hg4, .inl ⟨_, _, hb, rfl⟩⟩; have hG4 := hG3.trans hg4; have HQ4 := Lib.hid hq4; clear hq4; have hZ4 := hZ3.call hg4 (by omega); have hB4 := hB3.call hg4 (by omega); have hK4 := hK3.call hg4 (by omega); obtain ⟨zl, z0, z1, z2, z3, z4, z5, z6, zf⟩ := hZ4.all7; obtain ⟨bl, b0, b1, b2, b3, b4, b5, b6, bf⟩ := hB4.all7))
        exact ret7 Tryz.results65 rfl rfl b7A ⟨grA, .inr ⟨17, 0, 0, [], [], x.2, acc, A, c, l4, rfl, HQ4.out, Kid.mono (lo := w1.heap.size + 1) kdA (by omega), hal, psA⟩⟩
      · rw [if_neg hm] at hq2
        have hmn := bs_beq3 hm
        have HQ2 := Lib.hid hq2
        clear hq2 hm
        go_wp2_with (go_at_call 38; refine (mark_any E _ _ _ hP2).mono ?_; rintro e w3 ⟨rfl, hb3⟩; have hP3 := hP2.below hb3; have hG3 : Gr (· = E.b) w w3 := Gr.trans hG2 (Gr.of_below hb3); have hZ3 := hZ2.bel hb3; have hB3 := hB2.bel hb3; have hK3 := hK2.bel hb3; have hs3 := hb3.size; have hgt3 := hP3.toks.lt)
        have hf3 := H f (by omega)
        obtain ⟨bl, b0, b1, b2, b3, b4, b5, b6, bf⟩ := hB3.all7
        refine region_A E.b (w1.heap.size + 1) w1.heap.size 27 (.slice A acc.length c) acc 74 #[.pointer (some ⟨E.b, 0, none⟩)] (TellB r) (TellD E (o + 1) (fun t l => bnd (go f (.stats (acc ++ [t])) l (o + 1)) fun t l => want [125] l fun _ q => g (nd 17 x.2 t.kids) q) r) rfl (by kernel_rfl) rfl (by kernel_rfl) (by kernel_rfl) (by kernel_rfl) (by decide) (by kernel_rfl) (by kernel_rfl) (by kernel_rfl) (by kernel_rfl) (by kernel_rfl) (by kernel_rfl) (by kernel_rfl) (by kernel_rfl)
          (fun a w h => by simp [Act.eval] at h; unfold execOp; go_simp) rfl rfl (hK3.x (by omega)) b6 (bf 6) (by omega) (by omega) (by omega) (by omega) hal (calm_TellD E _ _ _ r (by omega) (by omega)) (calm_TellD E _ _ _ r (by omega) (by omega)) ((hf3.stat E _ l2 (o + 1) _ r hP3.drew HQ2.out HR.out).mono fun e w' h => tells h) ?_ ?_
        · rintro a w' c had ⟨at_, k, hb, rfl⟩ hg
          exact And.intro had ⟨hG3.trans hg, .inl ⟨_, _, hb, rfl⟩⟩
        · rintro vals w' A2 c2 t ⟨l4, hq4, hP4⟩ hK4 hg4 _ _
          go_wp2
          go_roundg f
          case measure => omega
          case rel => exact ⟨acc ++ [t], l4, A2, c2, by simp; omega, psA, hq4, Gr.setCell (wide_b hG3 hg4 (by omega)) (.inl (by show w.heap.size ≤ w1.heap.size; omega)) _, Blk.far (hZ3.wr hg4 (by omega) (.inl (by omega))) (by show w.heap.size ≠ w1.heap.size; omega) _, by rw [List.length_append]; exact (hB3.wr hg4 (by omega) (.inr rfl)).set6 _, by rw [List.length_append]; exact hK4.kid.setCell (by show w1.heap.size < _; omega) _, by have := hg4.size; simp; omega⟩
end Go.Proofs.YtihnnbeepfgphaaGreatDoor
