/-
  Methods of the parser, the third seven: walks.
-/
import Derived.Test.YtihnnbeepfgphaaGreatDoorParU
import Derived.Test.YtihnnbeepfgphaaGreatDoorParE
import Derived.Test.YtihnnbeepfgphaaGreatDoorPG2
/-! ## PF24: Calls: walks. -/
namespace Go.Proofs.YtihnnbeepfgphaaGreatDoor
open Go.RowKit
set_option linter.unusedVariables false
set_option linter.unusedSimpArgs false
attribute [local go_sem ↓] tok_f0 tok_f1 tok_f2 tok_f3

set_option maxRecDepth 100000 in
set_option maxHeartbeats 4000000 in
theorem call_step (n : Nat) (hn : n ≤ LIM) (H : ∀ m, m ≤ n → AllN m) : CC (n + 1) := by
  intro E w l o lo X g r k op m p t a ks A c hP hbl hgl hlo hX hK hq hr
  simp only [go, bnd_takeR, bnd_bnd, bnd_ok] at hq
  have hlt := hP.lt
  have hgt := hP.toks.lt
  have hne := hP.ne
  have HR := Lib.hid hr
  have Hn := H n (Nat.le_refl _)
  clear hr
  obtain ⟨x1, l1, rfl⟩ := hP.cons
  rw [takeR_cons] at hq
  have HQ0 := Lib.hid hq
  clear hq
  go_enter Tryz.func96, Tryz.ntmps96
  go_wp2
  have hk_k0 := hK.kid
  obtain ⟨w1, hW⟩ : ∃ W, W = (w.alloc (.cells #[.int .i64 k, .int .i64 op, .int .i64 m, .string (bs p), .string (bs t), .int .i64 a, .slice A ks.length c] 28)).alloc (.cells #[.int .i64 0, .int .i64 0, .int .i64 0, .string ⟨#[]⟩, .string ⟨#[]⟩, .int .i64 0, .slice none 0 0] 28) := ⟨_, rfl⟩
  have hP1 : PS E w1 (x1 :: l1) (o) := by rw [hW]; exact psA
  have hG1 : Gr (· = E.b) w w1 := by rw [hW]; exact grA
  have hb_q1 : Blk w1 (w.heap.size) 28 #[.int .i64 k, .int .i64 op, .int .i64 m, .string (bs p), .string (bs t), .int .i64 a, .slice A ks.length c] := by rw [hW]; exact bkA
  have hl_q1 := hb_q1.lt
  have hb_z1 : Blk w1 (w.heap.size + 1) 28 #[.int .i64 0, .int .i64 0, .int .i64 0, .string ⟨#[]⟩, .string ⟨#[]⟩, .int .i64 0, .slice none 0 0] := by rw [hW]; exact bkA
  have hl_z1 := hb_z1.lt
  have hk_k1 : Kid w1 (lo) (.slice A ks.length c) ks := by rw [hW]; exact kdA
  have hs1 : w.heap.size ≤ w1.heap.size := by rw [hW]; first | (simp; done) | (simp; omega)
  have hy1 := hW
  have hw1 : w1.heap.size = w.heap.size + 2 := by rw [hW]; simp
  rw [← hW]
  have hbl1 := hP1.lt
  have hgl1 := hP1.toks.lt
  clear hW
  have hk_y1 : KidP w1 lo (fun q => X q ∨ q = w.heap.size + 1) (.slice A ks.length c) ks := by rw [hy1]; exact ((hK.or (Nat.le_succ _)).alloc _).alloc _
  clear hy1
  refine region_N E.b lo 26 w.heap.size (fun q => X q ∨ q = w.heap.size + 1) 33 k op m p t a c A ks 27 #[.pointer (some ⟨E.b, 0, none⟩)] (TellB r) (fun W => PS E W (x1 :: l1) o) (TellT E (o) _ r) rfl (by kernel_rfl) rfl (by kernel_rfl) (by kernel_rfl) (by kernel_rfl) (by kernel_rfl) (by kernel_rfl) (by kernel_rfl) (by kernel_rfl) (by kernel_rfl) (by kernel_rfl) (by kernel_rfl) (by kernel_rfl) (by kernel_rfl) (by kernel_rfl)
    (fun a w h => by simp [Act.eval] at h; unfold execOp; go_simp) rfl rfl hb_q1 (by omega) hk_k1 hk_y1 (fun q hq => hq.elim (fun h => by have := hX q h; omega) (fun h => by omega)) (by omega) (by omega) (calm_PS E _ _ o (by omega) (by omega)) hP1 (calm_TellT E _ (o) _ r (by omega) (by omega)) (fun W hW => token_tells (f := fun x q => bnd (go n (.within [40] [41] .expr) q o) fun ks2 q2 => g (nd 33 x.2 ((Tr.mk k op m p t a ks) :: ks2.kids)) q2) hW HQ0.out) ?_ ?_
  · rintro a w' c had ⟨at_, k, hb, rfl⟩ hg
    exact And.intro had ⟨hG1.trans hg, .inl ⟨_, _, hb, rfl⟩⟩
  rintro vals w2 x2 zz gg hv8 hzz hgg ⟨l2, hq2, hP2⟩ hg2 hb_n2 hk_n2 hk_y2
  have hG2 : Gr (· = E.b) w w2 := hG1.trans hg2
  have hb_z2 : Blk w2 (w.heap.size + 1) 28 #[.int .i64 0, .int .i64 0, .int .i64 0, .string ⟨#[]⟩, .string ⟨#[]⟩, .int .i64 0, .slice none 0 0] := hb_z1.gr hg2 (by omega)
  have hl_z2 := hb_z2.lt
  have hl_n2 := hb_n2.lt
  have hs2 := hg2.size
  have hbl2 := hP2.lt
  have hgl2 := hP2.toks.lt
  dsimp only [putAll, List.take_succ_cons, List.take_zero, List.take_nil]
  rw [hv8]
  have hzo2 : ∀ q, (Value.slice (some ⟨gg, 0, none⟩) 1 1).ownBlock = some q → w.heap.size + 2 ≤ q := fun q hq => by simp only [Value.ownBlock, Option.some.injEq] at hq; have : w1.heap.size = w.heap.size + 2 := hw1; omega
  have hzz2 : w.heap.size + 2 ≤ zz := by have : w1.heap.size = w.heap.size + 2 := hw1; omega
  clear hv8 hb_q1 hk_k1 hg2 hzz hgg
  have HQ2 := Lib.hid hq2
  clear hq2
  go_wp2
  obtain ⟨_, n2_0, n2_1, n2_2, n2_3, n2_4, n2_5, n2_6, n2_f⟩ := hb_n2.all7
  refine region_E2 8 6 7 1 E.b (lo) (zz) (fun q => X q ∨ q = w.heap.size + 1) 26 (fun i => match i with | 0 => .pointer (some ⟨zz, 6, none⟩) | 1 => .slice (some ⟨gg, 0, none⟩) 1 1 | 2 => .pointer (some ⟨E.b, 0, none⟩) | 3 => .pointer (some ⟨E.b, 0, none⟩) | 4 => .pointer (some ⟨E.b, 0, none⟩) | 5 => .func (Fn.func 55) #[.pointer (some ⟨E.b, 0, none⟩)] #[] | _ => undef) (.slice (some ⟨gg, 0, none⟩) 1 1) [(Tr.mk k op m p t a ks)] 72 #[.pointer (some ⟨E.b, 0, none⟩), .string ⟨#[40]⟩, .string ⟨#[41]⟩, .func (Fn.func 55) #[.pointer (some ⟨E.b, 0, none⟩)] #[]] (TellB r) (TellDL E (o) _ r) (by kernel_rfl) rfl (by kernel_rfl) (by decide) (by decide) (by decide) (by decide) (by decide) (by decide) rfl rfl rfl rfl ⟨_, rfl, rfl⟩ rfl (by kernel_rfl) (by kernel_rfl) rfl
    (fun a w hev => by
      have e4 := hev 4 _ _ (by omega) rfl rfl (by kernel_rfl) (by omega) (by omega)
      have e5 := hev 5 _ _ (by omega) rfl rfl (by kernel_rfl) (by omega) (by omega)
      simp [Act.eval] at e4 e5
      unfold execOp; go_simp)
    (fun i o hoi hi h1 h2 a w hcw hun hev => by
      rcases (show i = 0 ∨ i = 1 ∨ i = 2 ∨ i = 3 ∨ i = 4 ∨ i = 5 ∨ i = 6 ∨ i = 7 by omega) with rfl | rfl | rfl | rfl | rfl | rfl | rfl | rfl
      · obtain rfl := Option.some.inj hoi; exact x_kids _ _ _ _ _ _ _ _ ((hun 7 (noput_all (by kernel_rfl))).trans rfl)
      · obtain rfl := Option.some.inj hoi; exact x_loadS _ _ _ _ _ _ _ _ 6 _ (hev 0 _ _ (by omega) rfl rfl (by kernel_rfl)) hcw
      · obtain rfl := Option.some.inj hoi; exact x_move _ _ _ _ _ _ _ _ ((hun 0 (noput_all (by kernel_rfl))).trans rfl)
      · obtain rfl := Option.some.inj hoi; exact x_nil _ _ _ _ _ _ _ _ (hev 2 _ _ (by omega) rfl rfl (by kernel_rfl))
      · obtain rfl := Option.some.inj hoi; exact x_reader _ _ _ _ _ _ _ _ (hev 3 _ _ (by omega) rfl rfl (by kernel_rfl))
      · obtain rfl := Option.some.inj hoi; exact x_move _ _ _ _ _ _ _ _ ((hun 2 (noput_all (by kernel_rfl))).trans rfl)
      · exact absurd rfl h1
      · exact absurd rfl h2)
    (fun i hi h1 h2 => by
      rcases (show i = 0 ∨ i = 1 ∨ i = 2 ∨ i = 3 ∨ i = 4 ∨ i = 5 ∨ i = 6 ∨ i = 7 by omega) with rfl | rfl | rfl | rfl | rfl | rfl | rfl | rfl <;> first | exact absurd rfl h1 | exact absurd rfl h2 | exact ⟨by kernel_rfl, by kernel_rfl⟩) ⟨by kernel_rfl, by kernel_rfl⟩
    rfl (by decide) (by decide) rfl rfl (by kernel_rfl) (by kernel_rfl) (by kernel_rfl) (by kernel_rfl) rfl hk_n2 hk_y2 (fun q hq => hq.elim (fun h => by have := hX q h; omega) (fun h => by omega)) n2_6 (n2_f 6) (by omega) (by omega) (by omega) (by omega) (by simp [LIM]) (calm_TellDL E _ (o) _ r (by omega) (by omega))
    ((Hn.within .expr E _ l2 (o) [40] [41] _ _ _ r _ rfl hP2.drew rfl rfl (by simp) (by simp) HQ2.out HR.out).mono fun e w' h => tellsL h) ?_ ?_
  · rintro a w' c had ⟨at_, k, hb, rfl⟩ hg
    exact And.intro had ⟨hG2.trans hg, .inl ⟨_, _, hb, rfl⟩⟩
  rintro vals w' A3 c3 us ⟨l3, hq3, hPx⟩ hul3 hKx hKz hgx hgy
  obtain ⟨w3, hW⟩ : ∃ W, W = w'.setCell ⟨zz, 6, none⟩ (.slice A3 ([(Tr.mk k op m p t a ks)] ++ us).length c3) := ⟨_, rfl⟩
  have hP3 : PS E w3 l3 (o) := by rw [hW]; exact psA
  have hsx := hgx.size
  have hG3 : Gr (· = E.b) w w3 := by rw [hW]; exact Gr.setCell (wide_x hG2 hgy (fun q hq => by have := hzo2 q hq; omega)) (.inl (by first | (simp; done) | (simp; omega))) _
  have hb_z3 : Blk w3 (w.heap.size + 1) 28 #[.int .i64 0, .int .i64 0, .int .i64 0, .string ⟨#[]⟩, .string ⟨#[]⟩, .int .i64 0, .slice none 0 0] := by rw [hW]; exact Blk.far (Blk.wx hb_z2 hgy (by omega) (fun e => by have := hzo2 _ e; omega)) (by first | (simp; done) | (simp; omega)) _
  have hl_z3 := hb_z3.lt
  have hb_n3 : Blk w3 (zz) 28 #[.int .i64 33, .int .i64 0, .int .i64 0, .string ⟨#[]⟩, .string ⟨#[]⟩, .int .i64 x2.2, .slice A3 ([(Tr.mk k op m p t a ks)] ++ us).length c3] := by rw [hW]; exact Blk.set6 (Blk.wr hb_n2 hgx (by omega) (.inr rfl)) _
  have hl_n3 := hb_n3.lt
  have hk_n3 : KidX w3 (lo) (zz) (.slice A3 ([(Tr.mk k op m p t a ks)] ++ us).length c3) ([(Tr.mk k op m p t a ks)] ++ us) := by rw [hW]; exact hKx.setCell (.inr rfl) _
  have hk_y3 : KidP w3 (lo) (fun q => X q ∨ q = w.heap.size + 1) (.slice A3 ([(Tr.mk k op m p t a ks)] ++ us).length c3) ([(Tr.mk k op m p t a ks)] ++ us) := by rw [hW]; exact KidX.set2 hKx hKz rfl _
  dsimp only [putAll, List.take_succ_cons, List.take_zero, List.take_nil]
  rw [← hW]
  have hbl3 := hP3.lt
  have hgl3 := hP3.toks.lt
  have hs3 : w2.heap.size ≤ w3.heap.size := by rw [hW]; simpa using hsx
  clear hW hPx hKx hKz hgx hgy hsx
  have HQ3 := Lib.hid hq3
  clear hq3
  obtain ⟨_, n3_0, n3_1, n3_2, n3_3, n3_4, n3_5, n3_6, n3_f⟩ := hb_n3.all7
  obtain ⟨_, z3_0, z3_1, z3_2, z3_3, z3_4, z3_5, z3_6, z3_f⟩ := hb_z3.all7
  go_wp2
  have hul := hul3
  unfold LIM at hul
  exact ret7 Tryz.results96 rfl rfl b7A ⟨grA, .inr ⟨33, 0, 0, [], [], x2.2, ([(Tr.mk k op m p t a ks)] ++ us), A3, c3, l3, rfl, HQ3.out, KidP.sub (X := fun q => X q ∨ q = w.heap.size + 1) (v := .slice A3 ([(Tr.mk k op m p t a ks)] ++ us).length c3) (ks := ([(Tr.mk k op m p t a ks)] ++ us)) kpA (fun q hq _ => .inl hq), (by simp [LIM]; omega), psA⟩⟩
end Go.Proofs.YtihnnbeepfgphaaGreatDoor

/-! ## PF25: Names and types behind points: walks. -/
namespace Go.Proofs.YtihnnbeepfgphaaGreatDoor
open Go.RowKit
set_option linter.unusedVariables false
set_option linter.unusedSimpArgs false
attribute [local go_sem ↓] tok_f0 tok_f1 tok_f2 tok_f3

set_option maxRecDepth 100000 in
set_option maxHeartbeats 4000000 in
theorem selected_step (n : Nat) (hn : n ≤ LIM) (H : ∀ m, m ≤ n → AllN m) : CT (n + 1) 98 .selected := by
  intro E w l o lo X g r k op m p t a ks A c hP hbl hgl hlo hX hK hq hr
  simp only [go, bnd_enter, bnd_want, bnd_wantK, bnd_ite, bnd_bnd, bnd_ok] at hq
  have hlt := hP.lt
  have hgt := hP.toks.lt
  have hne := hP.ne
  have HR := Lib.hid hr
  have Hn := H n (Nat.le_refl _)
  clear hr
  have HQ0 := Lib.hid hq
  clear hq
  go_enter Tryz.func98, Tryz.ntmps98
  go_wp2
  have hk_k0 := hK.kid
  obtain ⟨w1, hW⟩ : ∃ W, W = (w.alloc (.cells #[.int .i64 k, .int .i64 op, .int .i64 m, .string (bs p), .string (bs t), .int .i64 a, .slice A ks.length c] 28)).alloc (.cells #[.int .i64 0, .int .i64 0, .int .i64 0, .string ⟨#[]⟩, .string ⟨#[]⟩, .int .i64 0, .slice none 0 0] 28) := ⟨_, rfl⟩
  have hP1 : PS E w1 l (o) := by rw [hW]; exact psA
  have hG1 : Gr (· = E.b) w w1 := by rw [hW]; exact grA
  have hb_q1 : Blk w1 (w.heap.size) 28 #[.int .i64 k, .int .i64 op, .int .i64 m, .string (bs p), .string (bs t), .int .i64 a, .slice A ks.length c] := by rw [hW]; exact bkA
  have hl_q1 := hb_q1.lt
  have hb_z1 : Blk w1 (w.heap.size + 1) 28 #[.int .i64 0, .int .i64 0, .int .i64 0, .string ⟨#[]⟩, .string ⟨#[]⟩, .int .i64 0, .slice none 0 0] := by rw [hW]; exact bkA
  have hl_z1 := hb_z1.lt
  have hk_k1 : Kid w1 (lo) (.slice A ks.length c) ks := by rw [hW]; exact kdA
  have hs1 : w.heap.size ≤ w1.heap.size := by rw [hW]; first | (simp; done) | (simp; omega)
  have hy1 := hW
  have hw1 : w1.heap.size = w.heap.size + 2 := by rw [hW]; simp
  rw [← hW]
  have hbl1 := hP1.lt
  have hgl1 := hP1.toks.lt
  clear hW
  have hk_y1 : KidP w1 lo (fun q => X q ∨ q = w.heap.size + 1) (.slice A ks.length c) ks := by rw [hy1]; exact ((hK.or (Nat.le_succ _)).alloc _).alloc _
  clear hy1
  refine region_N E.b lo 43 w.heap.size (fun q => X q ∨ q = w.heap.size + 1) 36 k op m p t a c A ks 24 #[.pointer (some ⟨E.b, 0, none⟩), .string ⟨#[46]⟩] (TellB r) (fun W => PS E W l o) (TellT E (o) _ r) rfl (by kernel_rfl) rfl (by kernel_rfl) (by kernel_rfl) (by kernel_rfl) (by kernel_rfl) (by kernel_rfl) (by kernel_rfl) (by kernel_rfl) (by kernel_rfl) (by kernel_rfl) (by kernel_rfl) (by kernel_rfl) (by kernel_rfl) (by kernel_rfl)
    (fun a w h => by simp [Act.eval] at h; unfold execOp; go_simp) rfl rfl hb_q1 (by omega) hk_k1 hk_y1 (fun q hq => hq.elim (fun h => by have := hX q h; omega) (fun h => by omega)) (by omega) (by omega) (calm_PS E _ _ o (by omega) (by omega)) hP1 (calm_TellT E _ (o) _ r (by omega) (by omega)) (fun W hW => (want_any E W l o [46] ⟨#[46]⟩ _ _ hW rfl (by simp) HQ0.out).mono fun e w2 h => tellsT h) ?_ ?_
  · rintro a w' c had ⟨at_, k, hb, rfl⟩ hg
    exact And.intro had ⟨hG1.trans hg, .inl ⟨_, _, hb, rfl⟩⟩
  rintro vals w2 x2 zz gg hv8 hzz hgg ⟨l2, hq2, hP2⟩ hg2 hb_n2 hk_n2 hk_y2
  have hG2 : Gr (· = E.b) w w2 := hG1.trans hg2
  have hb_z2 : Blk w2 (w.heap.size + 1) 28 #[.int .i64 0, .int .i64 0, .int .i64 0, .string ⟨#[]⟩, .string ⟨#[]⟩, .int .i64 0, .slice none 0 0] := hb_z1.gr hg2 (by omega)
  have hl_z2 := hb_z2.lt
  have hl_n2 := hb_n2.lt
  have hs2 := hg2.size
  have hbl2 := hP2.lt
  have hgl2 := hP2.toks.lt
  dsimp only [putAll, List.take_succ_cons, List.take_zero, List.take_nil]
  rw [hv8]
  have hzo2 : ∀ q, (Value.slice (some ⟨gg, 0, none⟩) 1 1).ownBlock = some q → w.heap.size + 2 ≤ q := fun q hq => by simp only [Value.ownBlock, Option.some.injEq] at hq; have : w1.heap.size = w.heap.size + 2 := hw1; omega
  have hzz2 : w.heap.size + 2 ≤ zz := by have : w1.heap.size = w.heap.size + 2 := hw1; omega
  clear hv8 hb_q1 hk_k1 hg2 hzz hgg
  have HQ2 := Lib.hid hq2
  clear hq2
  go_wp2_with fail
  by_cases hm : mark l2 = [40]
  · skip
    have HQx := HQ2.out
    rw [if_pos hm] at HQx
    have HM := Lib.hid hm
    clear HQ2 hm
    have HQ2 := Lib.hid HQx
    clear HQx
    go_wp2_with (first
      | (go_at_call 38; refine (mark_any E _ l2 (o) psA).mono ?_; rw [HM.out, show bs [40] = ⟨#[40]⟩ from rfl]; rintro e w3 ⟨rfl, hg3⟩; have hP3 : PS E w3 l2 (o) := PS.below psA hg3; have hG3 : Gr (· = E.b) w w3 := Gr.trans grA (Gr.of_below hg3); have hbl3 := hP3.lt; have hgl3 := hP3.toks.lt; have hs3 : w2.heap.size + 0 ≤ w3.heap.size := (by have := hg3.size; simpa using this); have hb_z3 : Blk w3 (w.heap.size + 1) 28 #[.int .i64 0, .int .i64 0, .int .i64 0, .string ⟨#[]⟩, .string ⟨#[]⟩, .int .i64 0, .slice none 0 0] := Blk.bel bkA hg3; have hl_z3 := hb_z3.lt; have hb_n3 : Blk w3 (zz) 28 #[.int .i64 36, .int .i64 0, .int .i64 0, .string ⟨#[]⟩, .string ⟨#[]⟩, .int .i64 x2.2, .slice (some ⟨gg, 0, none⟩) 1 1] := Blk.bel bkA hg3; have hl_n3 := hb_n3.lt; obtain ⟨_, n3_0, n3_1, n3_2, n3_3, n3_4, n3_5, n3_6, n3_f⟩ := hb_n3.all7; have hk_n3 : KidX w3 (lo) (zz) (.slice (some ⟨gg, 0, none⟩) 1 1) [(Tr.mk k op m p t a ks)] := KidX.bel kxA hg3; have hk_y3 : KidP w3 (lo) (fun q => X q ∨ q = w.heap.size + 1) (.slice (some ⟨gg, 0, none⟩) 1 1) [(Tr.mk k op m p t a ks)] := KidP.bel kpA hg3))
    obtain ⟨w4, hW⟩ : ∃ W, W = w3.setCell ⟨zz, 0, none⟩ (.int .i64 37) := ⟨_, rfl⟩
    have hP4 : PS E w4 l2 (o) := by rw [hW]; exact psA
    have hG4 : Gr (· = E.b) w w4 := by rw [hW]; exact grA
    have hb_z4 : Blk w4 (w.heap.size + 1) 28 #[.int .i64 0, .int .i64 0, .int .i64 0, .string ⟨#[]⟩, .string ⟨#[]⟩, .int .i64 0, .slice none 0 0] := by rw [hW]; exact bkA
    have hl_z4 := hb_z4.lt
    have hb_n4 : Blk w4 (zz) 28 #[.int .i64 37, .int .i64 0, .int .i64 0, .string ⟨#[]⟩, .string ⟨#[]⟩, .int .i64 x2.2, .slice (some ⟨gg, 0, none⟩) 1 1] := by rw [hW]; exact bkA
    have hl_n4 := hb_n4.lt
    have hk_n4 : KidX w4 (lo) (zz) (.slice (some ⟨gg, 0, none⟩) 1 1) [(Tr.mk k op m p t a ks)] := by rw [hW]; exact kxA
    have hk_y4 : KidP w4 (lo) (fun q => X q ∨ q = w.heap.size + 1) (.slice (some ⟨gg, 0, none⟩) 1 1) [(Tr.mk k op m p t a ks)] := by rw [hW]; exact KidX.set2 hk_n3 hk_y3 rfl _
    have hs4 : w3.heap.size ≤ w4.heap.size := by rw [hW]; first | (simp; done) | (simp; omega)
    rw [← hW]
    have hbl4 := hP4.lt
    have hgl4 := hP4.toks.lt
    clear hW
    go_wp2_with (first
      | (go_at_call 58; (with_reducible refine (enter_any E _ l2 (o) [40] ⟨#[40]⟩ _ _ psA rfl (by simp) HQ2.out).mono ?_); rintro e w5 ⟨hg5, ⟨a, k, hb, rfl⟩ | ⟨x5, l5, rfl, hq5, hP5⟩⟩; exact And.intro rfl ⟨Gr.trans grA hg5, .inl ⟨_, _, hb, rfl⟩⟩; have hG5 : Gr (· = E.b) w w5 := Gr.trans grA hg5; have HQ5 := Lib.hid hq5; clear hq5; have hbl5 := hP5.lt; have hgl5 := hP5.toks.lt; have hs5 : w4.heap.size + 0 ≤ w5.heap.size := (by have := hg5.size; simpa using this); have hb_z5 : Blk w5 (w.heap.size + 1) 28 #[.int .i64 0, .int .i64 0, .int .i64 0, .string ⟨#[]⟩, .string ⟨#[]⟩, .int .i64 0, .slice none 0 0] := Blk.call (b := E.b) bkA hg5 (by omega); have hl_z5 := hb_z5.lt; have hb_n5 : Blk w5 (zz) 28 #[.int .i64 37, .int .i64 0, .int .i64 0, .string ⟨#[]⟩, .string ⟨#[]⟩, .int .i64 x2.2, .slice (some ⟨gg, 0, none⟩) 1 1] := Blk.call (b := E.b) bkA hg5 (by omega); have hl_n5 := hb_n5.lt; have hk_n5 : KidX w5 (lo) (zz) (.slice (some ⟨gg, 0, none⟩) 1 1) [(Tr.mk k op m p t a ks)] := KidX.call (b := E.b) kxA hg5 (by omega); have hk_y5 : KidP w5 (lo) (fun q => X q ∨ q = w.heap.size + 1) (.slice (some ⟨gg, 0, none⟩) 1 1) [(Tr.mk k op m p t a ks)] := KidP.call (b := E.b) kpA hg5 (by omega)))
    obtain ⟨_, n5_0, n5_1, n5_2, n5_3, n5_4, n5_5, n5_6, n5_f⟩ := hb_n5.all7
    refine region_A2 E.b (lo) (zz) (fun q => X q ∨ q = w.heap.size + 1) (.pointer (some ⟨E.b, 0, none⟩)) 43 (.slice (some ⟨gg, 0, none⟩) 1 1) [(Tr.mk k op m p t a ks)] 69 #[.pointer (some ⟨E.b, 0, none⟩)] _ _ rfl (by kernel_rfl) rfl (by kernel_rfl) (by kernel_rfl) (by kernel_rfl) (by decide) (by kernel_rfl) (by kernel_rfl) (by kernel_rfl) (by kernel_rfl) (by kernel_rfl) (by kernel_rfl) (by kernel_rfl) (by kernel_rfl)
      (fun a w h => by simp [Act.eval] at h; unfold execOp; go_simp) rfl rfl hk_n5 hk_y5 (fun q hq => hq.elim (fun h => by have := hX q h; omega) (fun h => by omega)) n5_6 (n5_f 6) (by omega) (by omega) (by omega) (by omega) (by simp [LIM]) (calm_TellD E _ (o + 1) _ r (by omega) (by omega)) (calm_TellD E _ (o + 1) _ r (by omega) (by omega)) ((Hn.typeOf E _ l5 (o + 1) _ r hP5.drew HQ5.out HR.out).mono fun e w' h => tells h) ?_ ?_
    · rintro a w' c had ⟨at_, k, hb, rfl⟩ hg
      exact And.intro had ⟨hG5.trans hg, .inl ⟨_, _, hb, rfl⟩⟩
    rintro vals w' A6 c6 u6 ⟨l6, hq6, hPx⟩ hKx hKz hgx hgy hgo
    obtain ⟨w6, hW⟩ : ∃ W, W = w'.setCell ⟨zz, 6, none⟩ (.slice A6 ([(Tr.mk k op m p t a ks)].length + 1) c6) := ⟨_, rfl⟩
    have hP6 : PS E w6 l6 (o + 1) := by rw [hW]; exact psA
    have hsx := hgx.size
    have hG6 : Gr (· = E.b) w w6 := by rw [hW]; exact Gr.setCell (wide_x hG5 hgy (fun q hq => by have := hzo2 q hq; omega)) (.inl (by first | (simp; done) | (simp; omega))) _
    have hzo6 : ∀ q, (Value.slice A6 ([(Tr.mk k op m p t a ks)].length + 1) c6).ownBlock = some q → w.heap.size + 2 ≤ q := fun q hq => (hgo q hq).elim (hzo2 q) (fun h => by omega)
    have hb_z6 : Blk w6 (w.heap.size + 1) 28 #[.int .i64 0, .int .i64 0, .int .i64 0, .string ⟨#[]⟩, .string ⟨#[]⟩, .int .i64 0, .slice none 0 0] := by rw [hW]; exact Blk.far (Blk.wx hb_z5 hgy (by omega) (fun e => by have := hzo2 _ e; omega)) (by first | (simp; done) | (simp; omega)) _
    have hl_z6 := hb_z6.lt
    have hb_n6 : Blk w6 (zz) 28 #[.int .i64 37, .int .i64 0, .int .i64 0, .string ⟨#[]⟩, .string ⟨#[]⟩, .int .i64 x2.2, .slice A6 ([(Tr.mk k op m p t a ks)].length + 1) c6] := by rw [hW]; exact Blk.set6 (Blk.wr hb_n5 hgx (by omega) (.inr rfl)) _
    have hl_n6 := hb_n6.lt
    have hk_n6 : KidX w6 (lo) (zz) (.slice A6 ([(Tr.mk k op m p t a ks)].length + 1) c6) ([(Tr.mk k op m p t a ks)] ++ [u6]) := by rw [hW]; exact hKx.setCell (.inr rfl) _
    have hk_y6 : KidP w6 (lo) (fun q => X q ∨ q = w.heap.size + 1) (.slice A6 ([(Tr.mk k op m p t a ks)].length + 1) c6) ([(Tr.mk k op m p t a ks)] ++ [u6]) := by rw [hW]; exact KidX.set2 hKx hKz rfl _
    rw [← hW]
    have hbl6 := hP6.lt
    have hgl6 := hP6.toks.lt
    have hs6 : w5.heap.size ≤ w6.heap.size := by rw [hW]; simpa using hsx
    clear hW hPx hKx hKz hgx hgy hgo hsx
    have HQ6 := Lib.hid hq6
    clear hq6
    go_wp2_with (first
      | (go_at_call 59; (with_reducible refine (leave_any E _ l6 (o) [41] ⟨#[41]⟩ _ _ psA rfl (by simp) HQ6.out).mono ?_); rintro e w7 ⟨hg7, ⟨a, k, hb, rfl⟩ | ⟨x7, l7, rfl, hq7, hP7⟩⟩; exact And.intro rfl ⟨Gr.trans grA hg7, .inl ⟨_, _, hb, rfl⟩⟩; have hG7 : Gr (· = E.b) w w7 := Gr.trans grA hg7; have HQ7 := Lib.hid hq7; clear hq7; have hbl7 := hP7.lt; have hgl7 := hP7.toks.lt; have hs7 : w6.heap.size + 0 ≤ w7.heap.size := (by have := hg7.size; simpa using this); have hb_z7 : Blk w7 (w.heap.size + 1) 28 #[.int .i64 0, .int .i64 0, .int .i64 0, .string ⟨#[]⟩, .string ⟨#[]⟩, .int .i64 0, .slice none 0 0] := Blk.call (b := E.b) bkA hg7 (by omega); have hl_z7 := hb_z7.lt; obtain ⟨_, z7_0, z7_1, z7_2, z7_3, z7_4, z7_5, z7_6, z7_f⟩ := hb_z7.all7; have hb_n7 : Blk w7 (zz) 28 #[.int .i64 37, .int .i64 0, .int .i64 0, .string ⟨#[]⟩, .string ⟨#[]⟩, .int .i64 x2.2, .slice A6 ([(Tr.mk k op m p t a ks)].length + 1) c6] := Blk.call (b := E.b) bkA hg7 (by omega); have hl_n7 := hb_n7.lt; obtain ⟨_, n7_0, n7_1, n7_2, n7_3, n7_4, n7_5, n7_6, n7_f⟩ := hb_n7.all7; have hk_n7 : KidX w7 (lo) (zz) (.slice A6 ([(Tr.mk k op m p t a ks)].length + 1) c6) ([(Tr.mk k op m p t a ks)] ++ [u6]) := KidX.call (b := E.b) kxA hg7 (by omega); have hk_y7 : KidP w7 (lo) (fun q => X q ∨ q = w.heap.size + 1) (.slice A6 ([(Tr.mk k op m p t a ks)].length + 1) c6) ([(Tr.mk k op m p t a ks)] ++ [u6]) := KidP.call (b := E.b) kpA hg7 (by omega)))
    exact ret7 Tryz.results98 rfl rfl b7A ⟨grA, .inr ⟨37, 0, 0, [], [], x2.2, ([(Tr.mk k op m p t a ks)] ++ [u6]), A6, c6, l7, rfl, HQ7.out, KidP.sub (X := fun q => X q ∨ q = w.heap.size + 1) (v := .slice A6 ([(Tr.mk k op m p t a ks)].length + 1) c6) (ks := ([(Tr.mk k op m p t a ks)] ++ [u6])) kpA (fun q hq _ => .inl hq), (by simp [LIM]), psA⟩⟩
  · skip
    have HQx := HQ2.out
    rw [if_neg hm] at HQx
    have hmn2 := bs_beq3 hm
    have HM := Lib.hid hm
    clear HQ2 hm
    have HQ2 := Lib.hid HQx
    clear HQx
    go_wp2_with (first
      | (go_at_call 38; refine (mark_any E _ l2 (o) psA).mono ?_; rintro e w3 ⟨rfl, hg3⟩; have hP3 : PS E w3 l2 (o) := PS.below psA hg3; have hG3 : Gr (· = E.b) w w3 := Gr.trans grA (Gr.of_below hg3); have hbl3 := hP3.lt; have hgl3 := hP3.toks.lt; have hs3 : w2.heap.size + 0 ≤ w3.heap.size := (by have := hg3.size; simpa using this); have hb_z3 : Blk w3 (w.heap.size + 1) 28 #[.int .i64 0, .int .i64 0, .int .i64 0, .string ⟨#[]⟩, .string ⟨#[]⟩, .int .i64 0, .slice none 0 0] := Blk.bel bkA hg3; have hl_z3 := hb_z3.lt; have hb_n3 : Blk w3 (zz) 28 #[.int .i64 36, .int .i64 0, .int .i64 0, .string ⟨#[]⟩, .string ⟨#[]⟩, .int .i64 x2.2, .slice (some ⟨gg, 0, none⟩) 1 1] := Blk.bel bkA hg3; have hl_n3 := hb_n3.lt; have hk_n3 : KidX w3 (lo) (zz) (.slice (some ⟨gg, 0, none⟩) 1 1) [(Tr.mk k op m p t a ks)] := KidX.bel kxA hg3; have hk_y3 : KidP w3 (lo) (fun q => X q ∨ q = w.heap.size + 1) (.slice (some ⟨gg, 0, none⟩) 1 1) [(Tr.mk k op m p t a ks)] := KidP.bel kpA hg3)
      | (go_at_call 25; (with_reducible refine (name_any E _ l2 (o) _ _ psA HQ2.out).mono ?_); rintro e w4 ⟨hg4, ⟨a, k, hb, rfl⟩ | ⟨x4, l4, rfl, hq4, hP4⟩⟩; exact And.intro rfl ⟨Gr.trans grA hg4, .inl ⟨_, _, hb, rfl⟩⟩; have hG4 : Gr (· = E.b) w w4 := Gr.trans grA hg4; have HQ4 := Lib.hid hq4; clear hq4; have hbl4 := hP4.lt; have hgl4 := hP4.toks.lt; have hs4 : w3.heap.size + 0 ≤ w4.heap.size := (by have := hg4.size; simpa using this); have hb_z4 : Blk w4 (w.heap.size + 1) 28 #[.int .i64 0, .int .i64 0, .int .i64 0, .string ⟨#[]⟩, .string ⟨#[]⟩, .int .i64 0, .slice none 0 0] := Blk.call (b := E.b) bkA hg4 (by omega); have hl_z4 := hb_z4.lt; obtain ⟨_, z4_0, z4_1, z4_2, z4_3, z4_4, z4_5, z4_6, z4_f⟩ := hb_z4.all7; have hb_n4 : Blk w4 (zz) 28 #[.int .i64 36, .int .i64 0, .int .i64 0, .string ⟨#[]⟩, .string ⟨#[]⟩, .int .i64 x2.2, .slice (some ⟨gg, 0, none⟩) 1 1] := Blk.call (b := E.b) bkA hg4 (by omega); have hl_n4 := hb_n4.lt; obtain ⟨_, n4_0, n4_1, n4_2, n4_3, n4_4, n4_5, n4_6, n4_f⟩ := hb_n4.all7; have hk_n4 : KidX w4 (lo) (zz) (.slice (some ⟨gg, 0, none⟩) 1 1) [(Tr.mk k op m p t a ks)] := KidX.call (b := E.b) kxA hg4 (by omega); have hk_y4 : KidP w4 (lo) (fun q => X q ∨ q = w.heap.size + 1) (.slice (some ⟨gg, 0, none⟩) 1 1) [(Tr.mk k op m p t a ks)] := KidP.call (b := E.b) kpA hg4 (by omega)))
    exact ret7 Tryz.results98 rfl rfl b7A ⟨grA, .inr ⟨36, 0, 0, [], x4.1.t, x2.2, [(Tr.mk k op m p t a ks)], _, 1, l4, rfl, HQ4.out, KidP.sub (X := fun q => X q ∨ q = w.heap.size + 1) (v := .slice (some ⟨gg, 0, none⟩) 1 1) (ks := [(Tr.mk k op m p t a ks)]) kpA (fun q hq _ => .inl hq), (by simp [LIM]), psA⟩⟩
end Go.Proofs.YtihnnbeepfgphaaGreatDoor

/-! ## PF26: Slices made: walks. -/
namespace Go.Proofs.YtihnnbeepfgphaaGreatDoor
open Go.RowKit
set_option linter.unusedVariables false
set_option linter.unusedSimpArgs false
attribute [local go_sem ↓] tok_f0 tok_f1 tok_f2 tok_f3

set_option maxRecDepth 100000 in
set_option maxHeartbeats 4000000 in
theorem makeCall_step (n : Nat) (hn : n ≤ LIM) (H : ∀ m, m ≤ n → AllN m) : C0m (n + 1) 108 .makeCall := by
  intro E w l o g r hm hP hq hr
  simp only [go, bnd_enter, bnd_want, bnd_takeR, bnd_bnd, bnd_ok] at hq
  have hlt := hP.lt
  have hgt := hP.toks.lt
  have hne := hP.ne
  obtain ⟨x1, l1, rfl⟩ := hP.cons
  have HX := Lib.hid (good_mark hP.good hm)
  rw [takeR_cons] at hq
  have HQ1 := Lib.hid hq
  have HR := Lib.hid hr
  have Hn := H n (Nat.le_refl _)
  clear hr hq hm
  go_enter Tryz.func108, Tryz.ntmps108
  go_wp2_with (first
    | (go_at_call 102; refine (plain_any E _ x1 l1 (o) psA HX.out).mono ?_; rintro e w1 ⟨rfl, hg1, hP1⟩; have hG1 : Gr (· = E.b) w w1 := Gr.trans grA hg1; have hbl1 := hP1.lt; have hgl1 := hP1.toks.lt; have hs1 : w.heap.size + 1 ≤ w1.heap.size := (by have := hg1.size; simpa using this); have hb_z1 : Blk w1 (w.heap.size) 28 #[.int .i64 0, .int .i64 0, .int .i64 0, .string ⟨#[]⟩, .string ⟨#[]⟩, .int .i64 0, .slice none 0 0] := Blk.call (b := E.b) bkA hg1 (by omega); have hl_z1 := hb_z1.lt; have hlit : Kid (w1.alloc (.cells #[.int .i64 30, .int .i64 0, .int .i64 0, .string ⟨#[]⟩, .string (bs x1.1.t), .int .i64 x1.2, .slice none 0 0] 28)) w1.heap.size (.slice (some ⟨w1.heap.size, 0, none⟩) 1 1) [Tr.mk 30 0 0 [] x1.1.t x1.2 []] := Kid.lit1 (lo := w1.heap.size) (k := 30) (op := 0) (m := 0) (p := []) (t := x1.1.t) (a := x1.2) (ks := []) (A := none) (c := 0) (Kid.nil w1 _ 0) (Nat.le_refl _))
    | (go_at_call 58; (with_reducible refine (enter_any E _ l1 (o) [40] ⟨#[40]⟩ _ _ psA rfl (by simp) HQ1.out).mono ?_); rintro e w2 ⟨hg2, ⟨a, k, hb, rfl⟩ | ⟨x2, l2, rfl, hq2, hP2⟩⟩; exact And.intro rfl ⟨Gr.trans grA hg2, .inl ⟨_, _, hb, rfl⟩⟩; have hG2 : Gr (· = E.b) w w2 := Gr.trans grA hg2; have HQ2 := Lib.hid hq2; clear hq2; have hbl2 := hP2.lt; have hgl2 := hP2.toks.lt; have hs2 : w1.heap.size + 2 ≤ w2.heap.size := (by have := hg2.size; simpa using this); have hb_z2 : Blk w2 (w.heap.size) 28 #[.int .i64 0, .int .i64 0, .int .i64 0, .string ⟨#[]⟩, .string ⟨#[]⟩, .int .i64 0, .slice none 0 0] := Blk.call (b := E.b) bkA hg2 (by omega); have hl_z2 := hb_z2.lt; have hb_n2 : Blk w2 (w1.heap.size + 1) 28 #[.int .i64 33, .int .i64 0, .int .i64 0, .string ⟨#[]⟩, .string ⟨#[]⟩, .int .i64 0, .slice (some ⟨w1.heap.size, 0, none⟩) 1 1] := Blk.call (b := E.b) bkA hg2 (by omega); have hl_n2 := hb_n2.lt; obtain ⟨_, n2_0, n2_1, n2_2, n2_3, n2_4, n2_5, n2_6, n2_f⟩ := hb_n2.all7; have hk_n2 : KidX w2 (w1.heap.size) (w1.heap.size + 1) (.slice (some ⟨w1.heap.size, 0, none⟩) 1 1) [Tr.mk 30 0 0 [] x1.1.t x1.2 []] := KidX.call (b := E.b) kxA hg2 (by omega)))
  obtain ⟨w3, hW⟩ : ∃ W, W = w2.setCell ⟨w1.heap.size + 1, 5, none⟩ (.int .i64 x2.2) := ⟨_, rfl⟩
  have hP3 : PS E w3 l2 (o + 1) := by rw [hW]; exact psA
  have hG3 : Gr (· = E.b) w w3 := by rw [hW]; exact grA
  have hb_z3 : Blk w3 (w.heap.size) 28 #[.int .i64 0, .int .i64 0, .int .i64 0, .string ⟨#[]⟩, .string ⟨#[]⟩, .int .i64 0, .slice none 0 0] := by rw [hW]; exact bkA
  have hl_z3 := hb_z3.lt
  have hb_n3 : Blk w3 (w1.heap.size + 1) 28 #[.int .i64 33, .int .i64 0, .int .i64 0, .string ⟨#[]⟩, .string ⟨#[]⟩, .int .i64 x2.2, .slice (some ⟨w1.heap.size, 0, none⟩) 1 1] := by rw [hW]; exact bkA
  have hl_n3 := hb_n3.lt
  have hk_n3 : KidX w3 (w1.heap.size) (w1.heap.size + 1) (.slice (some ⟨w1.heap.size, 0, none⟩) 1 1) [Tr.mk 30 0 0 [] x1.1.t x1.2 []] := by rw [hW]; exact kxA
  have hs3 : w2.heap.size ≤ w3.heap.size := by rw [hW]; first | (simp; done) | (simp; omega)
  rw [← hW]
  have hbl3 := hP3.lt
  have hgl3 := hP3.toks.lt
  clear hW
  obtain ⟨_, n3_0, n3_1, n3_2, n3_3, n3_4, n3_5, n3_6, n3_f⟩ := hb_n3.all7
  refine region_A E.b (w1.heap.size) (w1.heap.size + 1) 37 (.slice (some ⟨w1.heap.size, 0, none⟩) 1 1) [Tr.mk 30 0 0 [] x1.1.t x1.2 []] 69 #[.pointer (some ⟨E.b, 0, none⟩)] _ _ rfl (by kernel_rfl) rfl (by kernel_rfl) (by kernel_rfl) (by kernel_rfl) (by decide) (by kernel_rfl) (by kernel_rfl) (by kernel_rfl) (by kernel_rfl) (by kernel_rfl) (by kernel_rfl) (by kernel_rfl) (by kernel_rfl)
    (fun a w h => by simp [Act.eval] at h; unfold execOp; go_simp) rfl rfl hk_n3 n3_6 (n3_f 6) (by omega) (by omega) (by omega) (by omega) (by simp [LIM]) (calm_TellD E _ (o + 1) _ r (by omega) (by omega)) (calm_TellD E _ (o + 1) _ r (by omega) (by omega)) ((Hn.typeOf E _ l2 (o + 1) _ r hP3.drew HQ2.out HR.out).mono fun e w' h => tells h) ?_ ?_
  · rintro a w' c had ⟨at_, k, hb, rfl⟩ hg
    exact And.intro had ⟨hG3.trans hg, .inl ⟨_, _, hb, rfl⟩⟩
  rintro vals w' A4 c4 u4 ⟨l4, hq4, hPx⟩ hKx hgx hgy hgo
  obtain ⟨w4, hW⟩ : ∃ W, W = w'.setCell ⟨w1.heap.size + 1, 6, none⟩ (.slice A4 ([Tr.mk 30 0 0 [] x1.1.t x1.2 []].length + 1) c4) := ⟨_, rfl⟩
  have hP4 : PS E w4 l4 (o + 1) := by rw [hW]; exact psA
  have hsx := hgx.size
  have hG4 : Gr (· = E.b) w w4 := by rw [hW]; exact Gr.setCell (wide_b hG3 hgx (by omega)) (.inl (by first | (simp; done) | (simp; omega))) _
  have hb_z4 : Blk w4 (w.heap.size) 28 #[.int .i64 0, .int .i64 0, .int .i64 0, .string ⟨#[]⟩, .string ⟨#[]⟩, .int .i64 0, .slice none 0 0] := by rw [hW]; exact Blk.far (Blk.wr hb_z3 hgx (by omega) (.inl (by omega))) (by first | (simp; done) | (simp; omega)) _
  have hl_z4 := hb_z4.lt
  have hb_n4 : Blk w4 (w1.heap.size + 1) 28 #[.int .i64 33, .int .i64 0, .int .i64 0, .string ⟨#[]⟩, .string ⟨#[]⟩, .int .i64 x2.2, .slice A4 ([Tr.mk 30 0 0 [] x1.1.t x1.2 []].length + 1) c4] := by rw [hW]; exact Blk.set6 (Blk.wr hb_n3 hgx (by omega) (.inr rfl)) _
  have hl_n4 := hb_n4.lt
  have hk_n4 : KidX w4 (w1.heap.size) (w1.heap.size + 1) (.slice A4 ([Tr.mk 30 0 0 [] x1.1.t x1.2 []].length + 1) c4) ([Tr.mk 30 0 0 [] x1.1.t x1.2 []] ++ [u4]) := by rw [hW]; exact hKx.setCell (.inr rfl) _
  rw [← hW]
  have hbl4 := hP4.lt
  have hgl4 := hP4.toks.lt
  have hs4 : w3.heap.size ≤ w4.heap.size := by rw [hW]; simpa using hsx
  clear hW hPx hKx hgx hgy hgo hsx
  have HQ4 := Lib.hid hq4
  clear hq4
  go_wp2_with (first
    | (go_at_call 24; (with_reducible refine (want_any E _ l4 (o + 1) [44] ⟨#[44]⟩ _ _ psA rfl (by simp) HQ4.out).mono ?_); rintro e w5 ⟨hg5, ⟨a, k, hb, rfl⟩ | ⟨x5, l5, rfl, hq5, hP5⟩⟩; exact And.intro rfl ⟨Gr.trans grA hg5, .inl ⟨_, _, hb, rfl⟩⟩; have hG5 : Gr (· = E.b) w w5 := Gr.trans grA hg5; have HQ5 := Lib.hid hq5; clear hq5; have hbl5 := hP5.lt; have hgl5 := hP5.toks.lt; have hs5 : w4.heap.size + 0 ≤ w5.heap.size := (by have := hg5.size; simpa using this); have hb_z5 : Blk w5 (w.heap.size) 28 #[.int .i64 0, .int .i64 0, .int .i64 0, .string ⟨#[]⟩, .string ⟨#[]⟩, .int .i64 0, .slice none 0 0] := Blk.call (b := E.b) bkA hg5 (by omega); have hl_z5 := hb_z5.lt; have hb_n5 : Blk w5 (w1.heap.size + 1) 28 #[.int .i64 33, .int .i64 0, .int .i64 0, .string ⟨#[]⟩, .string ⟨#[]⟩, .int .i64 x2.2, .slice A4 ([Tr.mk 30 0 0 [] x1.1.t x1.2 []].length + 1) c4] := Blk.call (b := E.b) bkA hg5 (by omega); have hl_n5 := hb_n5.lt; have hk_n5 : KidX w5 (w1.heap.size) (w1.heap.size + 1) (.slice A4 ([Tr.mk 30 0 0 [] x1.1.t x1.2 []].length + 1) c4) ([Tr.mk 30 0 0 [] x1.1.t x1.2 []] ++ [u4]) := KidX.call (b := E.b) kxA hg5 (by omega)))
  obtain ⟨_, n5_0, n5_1, n5_2, n5_3, n5_4, n5_5, n5_6, n5_f⟩ := hb_n5.all7
  refine region_A E.b (w1.heap.size) (w1.heap.size + 1) 37 (.slice A4 ([Tr.mk 30 0 0 [] x1.1.t x1.2 []].length + 1) c4) ([Tr.mk 30 0 0 [] x1.1.t x1.2 []] ++ [u4]) 55 #[.pointer (some ⟨E.b, 0, none⟩)] _ _ rfl (by kernel_rfl) rfl (by kernel_rfl) (by kernel_rfl) (by kernel_rfl) (by decide) (by kernel_rfl) (by kernel_rfl) (by kernel_rfl) (by kernel_rfl) (by kernel_rfl) (by kernel_rfl) (by kernel_rfl) (by kernel_rfl)
    (fun a w h => by simp [Act.eval] at h; unfold execOp; go_simp) rfl rfl hk_n5 n5_6 (n5_f 6) (by omega) (by omega) (by omega) (by omega) (by simp [LIM]) (calm_TellD E _ (o + 1) _ r (by omega) (by omega)) (calm_TellD E _ (o + 1) _ r (by omega) (by omega)) ((Hn.expr E _ l5 (o + 1) _ r hP5.drew HQ5.out HR.out).mono fun e w' h => tells h) ?_ ?_
  · rintro a w' c had ⟨at_, k, hb, rfl⟩ hg
    exact And.intro had ⟨hG5.trans hg, .inl ⟨_, _, hb, rfl⟩⟩
  rintro vals w' A6 c6 u6 ⟨l6, hq6, hPx⟩ hKx hgx hgy hgo
  obtain ⟨w6, hW⟩ : ∃ W, W = w'.setCell ⟨w1.heap.size + 1, 6, none⟩ (.slice A6 (([Tr.mk 30 0 0 [] x1.1.t x1.2 []] ++ [u4]).length + 1) c6) := ⟨_, rfl⟩
  have hP6 : PS E w6 l6 (o + 1) := by rw [hW]; exact psA
  have hsx := hgx.size
  have hG6 : Gr (· = E.b) w w6 := by rw [hW]; exact Gr.setCell (wide_b hG5 hgx (by omega)) (.inl (by first | (simp; done) | (simp; omega))) _
  have hb_z6 : Blk w6 (w.heap.size) 28 #[.int .i64 0, .int .i64 0, .int .i64 0, .string ⟨#[]⟩, .string ⟨#[]⟩, .int .i64 0, .slice none 0 0] := by rw [hW]; exact Blk.far (Blk.wr hb_z5 hgx (by omega) (.inl (by omega))) (by first | (simp; done) | (simp; omega)) _
  have hl_z6 := hb_z6.lt
  have hb_n6 : Blk w6 (w1.heap.size + 1) 28 #[.int .i64 33, .int .i64 0, .int .i64 0, .string ⟨#[]⟩, .string ⟨#[]⟩, .int .i64 x2.2, .slice A6 (([Tr.mk 30 0 0 [] x1.1.t x1.2 []] ++ [u4]).length + 1) c6] := by rw [hW]; exact Blk.set6 (Blk.wr hb_n5 hgx (by omega) (.inr rfl)) _
  have hl_n6 := hb_n6.lt
  have hk_n6 : KidX w6 (w1.heap.size) (w1.heap.size + 1) (.slice A6 (([Tr.mk 30 0 0 [] x1.1.t x1.2 []] ++ [u4]).length + 1) c6) (([Tr.mk 30 0 0 [] x1.1.t x1.2 []] ++ [u4]) ++ [u6]) := by rw [hW]; exact hKx.setCell (.inr rfl) _
  rw [← hW]
  have hbl6 := hP6.lt
  have hgl6 := hP6.toks.lt
  have hs6 : w5.heap.size ≤ w6.heap.size := by rw [hW]; simpa using hsx
  clear hW hPx hKx hgx hgy hgo hsx
  have HQ6 := Lib.hid hq6
  clear hq6
  go_wp2_with (first
    | (go_at_call 59; (with_reducible refine (leave_any E _ l6 (o) [41] ⟨#[41]⟩ _ _ psA rfl (by simp) HQ6.out).mono ?_); rintro e w7 ⟨hg7, ⟨a, k, hb, rfl⟩ | ⟨x7, l7, rfl, hq7, hP7⟩⟩; exact And.intro rfl ⟨Gr.trans grA hg7, .inl ⟨_, _, hb, rfl⟩⟩; have hG7 : Gr (· = E.b) w w7 := Gr.trans grA hg7; have HQ7 := Lib.hid hq7; clear hq7; have hbl7 := hP7.lt; have hgl7 := hP7.toks.lt; have hs7 : w6.heap.size + 0 ≤ w7.heap.size := (by have := hg7.size; simpa using this); have hb_z7 : Blk w7 (w.heap.size) 28 #[.int .i64 0, .int .i64 0, .int .i64 0, .string ⟨#[]⟩, .string ⟨#[]⟩, .int .i64 0, .slice none 0 0] := Blk.call (b := E.b) bkA hg7 (by omega); have hl_z7 := hb_z7.lt; obtain ⟨_, z7_0, z7_1, z7_2, z7_3, z7_4, z7_5, z7_6, z7_f⟩ := hb_z7.all7; have hb_n7 : Blk w7 (w1.heap.size + 1) 28 #[.int .i64 33, .int .i64 0, .int .i64 0, .string ⟨#[]⟩, .string ⟨#[]⟩, .int .i64 x2.2, .slice A6 (([Tr.mk 30 0 0 [] x1.1.t x1.2 []] ++ [u4]).length + 1) c6] := Blk.call (b := E.b) bkA hg7 (by omega); have hl_n7 := hb_n7.lt; obtain ⟨_, n7_0, n7_1, n7_2, n7_3, n7_4, n7_5, n7_6, n7_f⟩ := hb_n7.all7; have hk_n7 : KidX w7 (w1.heap.size) (w1.heap.size + 1) (.slice A6 (([Tr.mk 30 0 0 [] x1.1.t x1.2 []] ++ [u4]).length + 1) c6) (([Tr.mk 30 0 0 [] x1.1.t x1.2 []] ++ [u4]) ++ [u6]) := KidX.call (b := E.b) kxA hg7 (by omega)))
  exact ret7 Tryz.results108 rfl rfl b7A ⟨grA, .inr ⟨33, 0, 0, [], [], x2.2, (([Tr.mk 30 0 0 [] x1.1.t x1.2 []] ++ [u4]) ++ [u6]), A6, c6, l7, rfl, HQ7.out, Kid.mono (lo := w1.heap.size) (v := .slice A6 (([Tr.mk 30 0 0 [] x1.1.t x1.2 []] ++ [u4]).length + 1) c6) (ks := (([Tr.mk 30 0 0 [] x1.1.t x1.2 []] ++ [u4]) ++ [u6])) (KidX.kid (h := w1.heap.size + 1) kxA) (by omega), (by simp [LIM]), psA⟩⟩
end Go.Proofs.YtihnnbeepfgphaaGreatDoor

/-! ## PF27: Indexes and pieces: walks. -/
namespace Go.Proofs.YtihnnbeepfgphaaGreatDoor
open Go.RowKit
set_option linter.unusedVariables false
set_option linter.unusedSimpArgs false
attribute [local go_sem ↓] tok_f0 tok_f1 tok_f2 tok_f3

set_option maxRecDepth 100000 in
set_option maxHeartbeats 4000000 in
theorem indexed_step (n : Nat) (hn : n ≤ LIM) (H : ∀ m, m ≤ n → AllN m) : CT (n + 1) 97 .indexed := by
  intro E w l o lo X g r k op m p t a ks A c hP hbl hgl hlo hX hK hq hr
  simp only [go, bnd_enter, bnd_want, bnd_takeR, bnd_ite, bnd_bnd, bnd_ok] at hq
  have hlt := hP.lt
  have hgt := hP.toks.lt
  have hne := hP.ne
  have HR := Lib.hid hr
  have Hn := H n (Nat.le_refl _)
  clear hr
  have HQ0 := Lib.hid hq
  clear hq
  go_enter Tryz.func97, Tryz.ntmps97
  go_wp2
  have hk_k0 := hK.kid
  obtain ⟨w1, hW⟩ : ∃ W, W = (w.alloc (.cells #[.int .i64 k, .int .i64 op, .int .i64 m, .string (bs p), .string (bs t), .int .i64 a, .slice A ks.length c] 28)).alloc (.cells #[.int .i64 0, .int .i64 0, .int .i64 0, .string ⟨#[]⟩, .string ⟨#[]⟩, .int .i64 0, .slice none 0 0] 28) := ⟨_, rfl⟩
  have hP1 : PS E w1 l (o) := by rw [hW]; exact psA
  have hG1 : Gr (· = E.b) w w1 := by rw [hW]; exact grA
  have hb_q1 : Blk w1 (w.heap.size) 28 #[.int .i64 k, .int .i64 op, .int .i64 m, .string (bs p), .string (bs t), .int .i64 a, .slice A ks.length c] := by rw [hW]; exact bkA
  have hl_q1 := hb_q1.lt
  have hb_z1 : Blk w1 (w.heap.size + 1) 28 #[.int .i64 0, .int .i64 0, .int .i64 0, .string ⟨#[]⟩, .string ⟨#[]⟩, .int .i64 0, .slice none 0 0] := by rw [hW]; exact bkA
  have hl_z1 := hb_z1.lt
  have hk_k1 : Kid w1 (lo) (.slice A ks.length c) ks := by rw [hW]; exact kdA
  have hs1 : w.heap.size ≤ w1.heap.size := by rw [hW]; first | (simp; done) | (simp; omega)
  have hy1 := hW
  have hw1 : w1.heap.size = w.heap.size + 2 := by rw [hW]; simp
  rw [← hW]
  have hbl1 := hP1.lt
  have hgl1 := hP1.toks.lt
  clear hW
  have hk_y1 : KidP w1 lo (fun q => X q ∨ q = w.heap.size + 1) (.slice A ks.length c) ks := by rw [hy1]; exact ((hK.or (Nat.le_succ _)).alloc _).alloc _
  clear hy1
  refine region_N E.b lo 63 w.heap.size (fun q => X q ∨ q = w.heap.size + 1) 35 k op m p t a c A ks 58 #[.pointer (some ⟨E.b, 0, none⟩), .string ⟨#[91]⟩] (TellB r) (fun W => PS E W l o) (TellT E (o + 1) _ r) rfl (by kernel_rfl) rfl (by kernel_rfl) (by kernel_rfl) (by kernel_rfl) (by kernel_rfl) (by kernel_rfl) (by kernel_rfl) (by kernel_rfl) (by kernel_rfl) (by kernel_rfl) (by kernel_rfl) (by kernel_rfl) (by kernel_rfl) (by kernel_rfl)
    (fun a w h => by simp [Act.eval] at h; unfold execOp; go_simp) rfl rfl hb_q1 (by omega) hk_k1 hk_y1 (fun q hq => hq.elim (fun h => by have := hX q h; omega) (fun h => by omega)) (by omega) (by omega) (calm_PS E _ _ o (by omega) (by omega)) hP1 (calm_TellT E _ (o + 1) _ r (by omega) (by omega)) (fun W hW => (enter_any E W l o [91] ⟨#[91]⟩ _ _ hW rfl (by simp) HQ0.out).mono fun e w2 h => tellsT h) ?_ ?_
  · rintro a w' c had ⟨at_, k, hb, rfl⟩ hg
    exact And.intro had ⟨hG1.trans hg, .inl ⟨_, _, hb, rfl⟩⟩
  rintro vals w2 x2 zz gg hv8 hzz hgg ⟨l2, hq2, hP2⟩ hg2 hb_n2 hk_n2 hk_y2
  have hG2 : Gr (· = E.b) w w2 := hG1.trans hg2
  have hb_z2 : Blk w2 (w.heap.size + 1) 28 #[.int .i64 0, .int .i64 0, .int .i64 0, .string ⟨#[]⟩, .string ⟨#[]⟩, .int .i64 0, .slice none 0 0] := hb_z1.gr hg2 (by omega)
  have hl_z2 := hb_z2.lt
  have hl_n2 := hb_n2.lt
  have hs2 := hg2.size
  have hbl2 := hP2.lt
  have hgl2 := hP2.toks.lt
  dsimp only [putAll, List.take_succ_cons, List.take_zero, List.take_nil]
  rw [hv8]
  have hzo2 : ∀ q, (Value.slice (some ⟨gg, 0, none⟩) 1 1).ownBlock = some q → w.heap.size + 2 ≤ q := fun q hq => by simp only [Value.ownBlock, Option.some.injEq] at hq; have : w1.heap.size = w.heap.size + 2 := hw1; omega
  have hzz2 : w.heap.size + 2 ≤ zz := by have : w1.heap.size = w.heap.size + 2 := hw1; omega
  clear hv8 hb_q1 hk_k1 hg2 hzz hgg
  have HQ2 := Lib.hid hq2
  clear hq2
  go_wp2_with fail
  by_cases hm : mark l2 = [58]
  · skip
    have HQx := HQ2.out
    rw [if_pos hm] at HQx
    have HM := Lib.hid hm
    have HQy := Lib.hid (take_want hm HQx)
    clear hm HQx
    go_wp2_with (first
      | (go_at_call 38; refine (mark_any E _ l2 (o + 1) psA).mono ?_; rw [HM.out, show bs [58] = ⟨#[58]⟩ from rfl]; rintro e w3 ⟨rfl, hg3⟩; have hP3 : PS E w3 l2 (o + 1) := PS.below psA hg3; have hG3 : Gr (· = E.b) w w3 := Gr.trans grA (Gr.of_below hg3); have hbl3 := hP3.lt; have hgl3 := hP3.toks.lt; have hs3 : w2.heap.size + 0 ≤ w3.heap.size := (by have := hg3.size; simpa using this); have hb_z3 : Blk w3 (w.heap.size + 1) 28 #[.int .i64 0, .int .i64 0, .int .i64 0, .string ⟨#[]⟩, .string ⟨#[]⟩, .int .i64 0, .slice none 0 0] := Blk.bel bkA hg3; have hl_z3 := hb_z3.lt; have hb_n3 : Blk w3 (zz) 28 #[.int .i64 35, .int .i64 0, .int .i64 0, .string ⟨#[]⟩, .string ⟨#[]⟩, .int .i64 x2.2, .slice (some ⟨gg, 0, none⟩) 1 1] := Blk.bel bkA hg3; have hl_n3 := hb_n3.lt; have hk_n3 : KidX w3 (lo) (zz) (.slice (some ⟨gg, 0, none⟩) 1 1) [(Tr.mk k op m p t a ks)] := KidX.bel kxA hg3; have hk_y3 : KidP w3 (lo) (fun q => X q ∨ q = w.heap.size + 1) (.slice (some ⟨gg, 0, none⟩) 1 1) [(Tr.mk k op m p t a ks)] := KidP.bel kpA hg3)
      | (go_at_call 24; (with_reducible refine (want_any E _ l2 (o + 1) [58] ⟨#[58]⟩ _ _ psA rfl (by simp) HQy.out).mono ?_); rintro e w4 ⟨hg4, ⟨a, k, hb, rfl⟩ | ⟨x4, l4, rfl, hq4, hP4⟩⟩; exact And.intro rfl ⟨Gr.trans grA hg4, .inl ⟨_, _, hb, rfl⟩⟩; have hG4 : Gr (· = E.b) w w4 := Gr.trans grA hg4; have HQ4 := Lib.hid hq4; clear hq4; have hbl4 := hP4.lt; have hgl4 := hP4.toks.lt; have hs4 : w3.heap.size + 0 ≤ w4.heap.size := (by have := hg4.size; simpa using this); have hb_z4 : Blk w4 (w.heap.size + 1) 28 #[.int .i64 0, .int .i64 0, .int .i64 0, .string ⟨#[]⟩, .string ⟨#[]⟩, .int .i64 0, .slice none 0 0] := Blk.call (b := E.b) bkA hg4 (by omega); have hl_z4 := hb_z4.lt; have hb_n4 : Blk w4 (zz) 28 #[.int .i64 35, .int .i64 0, .int .i64 0, .string ⟨#[]⟩, .string ⟨#[]⟩, .int .i64 x2.2, .slice (some ⟨gg, 0, none⟩) 1 1] := Blk.call (b := E.b) bkA hg4 (by omega); have hl_n4 := hb_n4.lt; have hk_n4 : KidX w4 (lo) (zz) (.slice (some ⟨gg, 0, none⟩) 1 1) [(Tr.mk k op m p t a ks)] := KidX.call (b := E.b) kxA hg4 (by omega); have hk_y4 : KidP w4 (lo) (fun q => X q ∨ q = w.heap.size + 1) (.slice (some ⟨gg, 0, none⟩) 1 1) [(Tr.mk k op m p t a ks)] := KidP.call (b := E.b) kpA hg4 (by omega)))
    by_cases hm : mark l4 = [93]
    · skip
      have HQx := HQ4.out
      rw [if_pos hm] at HQx
      have HM := Lib.hid hm
      have HQy := Lib.hid (take_want hm HQx)
      clear hm HQx
      go_wp2_with (first
        | (go_at_call 38; refine (mark_any E _ l4 (o + 1) psA).mono ?_; rw [HM.out, show bs [93] = ⟨#[93]⟩ from rfl]; rintro e w5 ⟨rfl, hg5⟩; have hP5 : PS E w5 l4 (o + 1) := PS.below psA hg5; have hG5 : Gr (· = E.b) w w5 := Gr.trans grA (Gr.of_below hg5); have hbl5 := hP5.lt; have hgl5 := hP5.toks.lt; have hs5 : w4.heap.size + 0 ≤ w5.heap.size := (by have := hg5.size; simpa using this); have hb_z5 : Blk w5 (w.heap.size + 1) 28 #[.int .i64 0, .int .i64 0, .int .i64 0, .string ⟨#[]⟩, .string ⟨#[]⟩, .int .i64 0, .slice none 0 0] := Blk.bel bkA hg5; have hl_z5 := hb_z5.lt; have hb_n5 : Blk w5 (zz) 28 #[.int .i64 35, .int .i64 0, .int .i64 0, .string ⟨#[]⟩, .string ⟨#[]⟩, .int .i64 x2.2, .slice (some ⟨gg, 0, none⟩) 1 1] := Blk.bel bkA hg5; have hl_n5 := hb_n5.lt; have hk_n5 : KidX w5 (lo) (zz) (.slice (some ⟨gg, 0, none⟩) 1 1) [(Tr.mk k op m p t a ks)] := KidX.bel kxA hg5; have hk_y5 : KidP w5 (lo) (fun q => X q ∨ q = w.heap.size + 1) (.slice (some ⟨gg, 0, none⟩) 1 1) [(Tr.mk k op m p t a ks)] := KidP.bel kpA hg5)
        | (go_at_call 59; (with_reducible refine (leave_any E _ l4 (o) [93] ⟨#[93]⟩ _ _ psA rfl (by simp) HQy.out).mono ?_); rintro e w6 ⟨hg6, ⟨a, k, hb, rfl⟩ | ⟨y5, l6, rfl, hq6, hP6⟩⟩; exact And.intro rfl ⟨Gr.trans grA hg6, .inl ⟨_, _, hb, rfl⟩⟩; have hG6 : Gr (· = E.b) w w6 := Gr.trans grA hg6; have HQ6 := Lib.hid hq6; clear hq6; have hbl6 := hP6.lt; have hgl6 := hP6.toks.lt; have hs6 : w5.heap.size + 0 ≤ w6.heap.size := (by have := hg6.size; simpa using this); have hb_z6 : Blk w6 (w.heap.size + 1) 28 #[.int .i64 0, .int .i64 0, .int .i64 0, .string ⟨#[]⟩, .string ⟨#[]⟩, .int .i64 0, .slice none 0 0] := Blk.call (b := E.b) bkA hg6 (by omega); have hl_z6 := hb_z6.lt; obtain ⟨_, z6_0, z6_1, z6_2, z6_3, z6_4, z6_5, z6_6, z6_f⟩ := hb_z6.all7; have hb_n6 : Blk w6 (zz) 28 #[.int .i64 35, .int .i64 0, .int .i64 0, .string ⟨#[]⟩, .string ⟨#[]⟩, .int .i64 x2.2, .slice (some ⟨gg, 0, none⟩) 1 1] := Blk.call (b := E.b) bkA hg6 (by omega); have hl_n6 := hb_n6.lt; obtain ⟨_, n6_0, n6_1, n6_2, n6_3, n6_4, n6_5, n6_6, n6_f⟩ := hb_n6.all7; have hk_n6 : KidX w6 (lo) (zz) (.slice (some ⟨gg, 0, none⟩) 1 1) [(Tr.mk k op m p t a ks)] := KidX.call (b := E.b) kxA hg6 (by omega); have hk_y6 : KidP w6 (lo) (fun q => X q ∨ q = w.heap.size + 1) (.slice (some ⟨gg, 0, none⟩) 1 1) [(Tr.mk k op m p t a ks)] := KidP.call (b := E.b) kpA hg6 (by omega)))
      exact ret7 Tryz.results97 rfl rfl b7A ⟨grA, .inr ⟨35, 0, 0, [], [], x2.2, [(Tr.mk k op m p t a ks)], _, 1, l6, rfl, HQ6.out, KidP.sub (X := fun q => X q ∨ q = w.heap.size + 1) (v := .slice (some ⟨gg, 0, none⟩) 1 1) (ks := [(Tr.mk k op m p t a ks)]) kpA (fun q hq _ => .inl hq), (by simp [LIM]), psA⟩⟩
    · skip
      have HQx := HQ4.out
      rw [if_neg hm] at HQx
      have hmn := bs_beq3 hm
      have HQy := Lib.hid HQx
      clear hm HQx
      go_wp2_with (first
        | (go_at_call 38; refine (mark_any E _ l4 (o + 1) psA).mono ?_; rintro e w5 ⟨rfl, hg5⟩; have hP5 : PS E w5 l4 (o + 1) := PS.below psA hg5; have hG5 : Gr (· = E.b) w w5 := Gr.trans grA (Gr.of_below hg5); have hbl5 := hP5.lt; have hgl5 := hP5.toks.lt; have hs5 : w4.heap.size + 0 ≤ w5.heap.size := (by have := hg5.size; simpa using this); have hb_z5 : Blk w5 (w.heap.size + 1) 28 #[.int .i64 0, .int .i64 0, .int .i64 0, .string ⟨#[]⟩, .string ⟨#[]⟩, .int .i64 0, .slice none 0 0] := Blk.bel bkA hg5; have hl_z5 := hb_z5.lt; have hb_n5 : Blk w5 (zz) 28 #[.int .i64 35, .int .i64 0, .int .i64 0, .string ⟨#[]⟩, .string ⟨#[]⟩, .int .i64 x2.2, .slice (some ⟨gg, 0, none⟩) 1 1] := Blk.bel bkA hg5; have hl_n5 := hb_n5.lt; have hk_n5 : KidX w5 (lo) (zz) (.slice (some ⟨gg, 0, none⟩) 1 1) [(Tr.mk k op m p t a ks)] := KidX.bel kxA hg5; have hk_y5 : KidP w5 (lo) (fun q => X q ∨ q = w.heap.size + 1) (.slice (some ⟨gg, 0, none⟩) 1 1) [(Tr.mk k op m p t a ks)] := KidP.bel kpA hg5))
      obtain ⟨_, n5_0, n5_1, n5_2, n5_3, n5_4, n5_5, n5_6, n5_f⟩ := hb_n5.all7
      refine region_A2 E.b (lo) (zz) (fun q => X q ∨ q = w.heap.size + 1) (.pointer (some ⟨E.b, 0, none⟩)) 63 (.slice (some ⟨gg, 0, none⟩) 1 1) [(Tr.mk k op m p t a ks)] 55 #[.pointer (some ⟨E.b, 0, none⟩)] _ _ rfl (by kernel_rfl) rfl (by kernel_rfl) (by kernel_rfl) (by kernel_rfl) (by decide) (by kernel_rfl) (by kernel_rfl) (by kernel_rfl) (by kernel_rfl) (by kernel_rfl) (by kernel_rfl) (by kernel_rfl) (by kernel_rfl)
        (fun a w h => by simp [Act.eval] at h; unfold execOp; go_simp) rfl rfl hk_n5 hk_y5 (fun q hq => hq.elim (fun h => by have := hX q h; omega) (fun h => by omega)) n5_6 (n5_f 6) (by omega) (by omega) (by omega) (by omega) (by simp [LIM]) (calm_TellD E _ (o + 1) _ r (by omega) (by omega)) (calm_TellD E _ (o + 1) _ r (by omega) (by omega)) ((Hn.expr E _ l4 (o + 1) _ r hP5.drew HQy.out HR.out).mono fun e w' h => tells h) ?_ ?_
      · rintro a w' c had ⟨at_, k, hb, rfl⟩ hg
        exact And.intro had ⟨hG5.trans hg, .inl ⟨_, _, hb, rfl⟩⟩
      rintro vals w' A6 c6 v5 ⟨l6, hq6, hPx⟩ hKx hKz hgx hgy hgo
      obtain ⟨w6, hW⟩ : ∃ W, W = w'.setCell ⟨zz, 6, none⟩ (.slice A6 ([(Tr.mk k op m p t a ks)].length + 1) c6) := ⟨_, rfl⟩
      have hP6 : PS E w6 l6 (o + 1) := by rw [hW]; exact psA
      have hsx := hgx.size
      have hG6 : Gr (· = E.b) w w6 := by rw [hW]; exact Gr.setCell (wide_x hG5 hgy (fun q hq => by have := hzo2 q hq; omega)) (.inl (by first | (simp; done) | (simp; omega))) _
      have hzo6 : ∀ q, (Value.slice A6 ([(Tr.mk k op m p t a ks)].length + 1) c6).ownBlock = some q → w.heap.size + 2 ≤ q := fun q hq => (hgo q hq).elim (hzo2 q) (fun h => by omega)
      have hb_z6 : Blk w6 (w.heap.size + 1) 28 #[.int .i64 0, .int .i64 0, .int .i64 0, .string ⟨#[]⟩, .string ⟨#[]⟩, .int .i64 0, .slice none 0 0] := by rw [hW]; exact Blk.far (Blk.wx hb_z5 hgy (by omega) (fun e => by have := hzo2 _ e; omega)) (by first | (simp; done) | (simp; omega)) _
      have hl_z6 := hb_z6.lt
      have hb_n6 : Blk w6 (zz) 28 #[.int .i64 35, .int .i64 0, .int .i64 0, .string ⟨#[]⟩, .string ⟨#[]⟩, .int .i64 x2.2, .slice A6 ([(Tr.mk k op m p t a ks)].length + 1) c6] := by rw [hW]; exact Blk.set6 (Blk.wr hb_n5 hgx (by omega) (.inr rfl)) _
      have hl_n6 := hb_n6.lt
      have hk_n6 : KidX w6 (lo) (zz) (.slice A6 ([(Tr.mk k op m p t a ks)].length + 1) c6) ([(Tr.mk k op m p t a ks)] ++ [v5]) := by rw [hW]; exact hKx.setCell (.inr rfl) _
      have hk_y6 : KidP w6 (lo) (fun q => X q ∨ q = w.heap.size + 1) (.slice A6 ([(Tr.mk k op m p t a ks)].length + 1) c6) ([(Tr.mk k op m p t a ks)] ++ [v5]) := by rw [hW]; exact KidX.set2 hKx hKz rfl _
      rw [← hW]
      have hbl6 := hP6.lt
      have hgl6 := hP6.toks.lt
      have hs6 : w5.heap.size ≤ w6.heap.size := by rw [hW]; simpa using hsx
      clear hW hPx hKx hKz hgx hgy hgo hsx
      have HQ6 := Lib.hid hq6
      clear hq6
      obtain ⟨_, n6_0, n6_1, n6_2, n6_3, n6_4, n6_5, n6_6, n6_f⟩ := hb_n6.all7
      go_wp2_with fail
      obtain ⟨w7, hW⟩ : ∃ W, W = w6.setCell ⟨zz, 2, none⟩ (.int .i64 2) := ⟨_, rfl⟩
      have hP7 : PS E w7 l6 (o + 1) := by rw [hW]; exact psA
      have hG7 : Gr (· = E.b) w w7 := by rw [hW]; exact grA
      have hb_z7 : Blk w7 (w.heap.size + 1) 28 #[.int .i64 0, .int .i64 0, .int .i64 0, .string ⟨#[]⟩, .string ⟨#[]⟩, .int .i64 0, .slice none 0 0] := by rw [hW]; exact bkA
      have hl_z7 := hb_z7.lt
      have hb_n7 : Blk w7 (zz) 28 #[.int .i64 35, .int .i64 0, .int .i64 2, .string ⟨#[]⟩, .string ⟨#[]⟩, .int .i64 x2.2, .slice A6 ([(Tr.mk k op m p t a ks)].length + 1) c6] := by rw [hW]; exact bkA
      have hl_n7 := hb_n7.lt
      have hk_n7 : KidX w7 (lo) (zz) (.slice A6 ([(Tr.mk k op m p t a ks)].length + 1) c6) ([(Tr.mk k op m p t a ks)] ++ [v5]) := by rw [hW]; exact kxA
      have hk_y7 : KidP w7 (lo) (fun q => X q ∨ q = w.heap.size + 1) (.slice A6 ([(Tr.mk k op m p t a ks)].length + 1) c6) ([(Tr.mk k op m p t a ks)] ++ [v5]) := by rw [hW]; exact KidX.set2 hk_n6 hk_y6 rfl _
      have hs7 : w6.heap.size ≤ w7.heap.size := by rw [hW]; first | (simp; done) | (simp; omega)
      rw [← hW]
      have hbl7 := hP7.lt
      have hgl7 := hP7.toks.lt
      clear hW
      go_wp2_with (first
        | (go_at_call 59; (with_reducible refine (leave_any E _ l6 (o) [93] ⟨#[93]⟩ _ _ psA rfl (by simp) HQ6.out).mono ?_); rintro e w8 ⟨hg8, ⟨a, k, hb, rfl⟩ | ⟨y7, l8, rfl, hq8, hP8⟩⟩; exact And.intro rfl ⟨Gr.trans grA hg8, .inl ⟨_, _, hb, rfl⟩⟩; have hG8 : Gr (· = E.b) w w8 := Gr.trans grA hg8; have HQ8 := Lib.hid hq8; clear hq8; have hbl8 := hP8.lt; have hgl8 := hP8.toks.lt; have hs8 : w7.heap.size + 0 ≤ w8.heap.size := (by have := hg8.size; simpa using this); have hb_z8 : Blk w8 (w.heap.size + 1) 28 #[.int .i64 0, .int .i64 0, .int .i64 0, .string ⟨#[]⟩, .string ⟨#[]⟩, .int .i64 0, .slice none 0 0] := Blk.call (b := E.b) bkA hg8 (by omega); have hl_z8 := hb_z8.lt; obtain ⟨_, z8_0, z8_1, z8_2, z8_3, z8_4, z8_5, z8_6, z8_f⟩ := hb_z8.all7; have hb_n8 : Blk w8 (zz) 28 #[.int .i64 35, .int .i64 0, .int .i64 2, .string ⟨#[]⟩, .string ⟨#[]⟩, .int .i64 x2.2, .slice A6 ([(Tr.mk k op m p t a ks)].length + 1) c6] := Blk.call (b := E.b) bkA hg8 (by omega); have hl_n8 := hb_n8.lt; obtain ⟨_, n8_0, n8_1, n8_2, n8_3, n8_4, n8_5, n8_6, n8_f⟩ := hb_n8.all7; have hk_n8 : KidX w8 (lo) (zz) (.slice A6 ([(Tr.mk k op m p t a ks)].length + 1) c6) ([(Tr.mk k op m p t a ks)] ++ [v5]) := KidX.call (b := E.b) kxA hg8 (by omega); have hk_y8 : KidP w8 (lo) (fun q => X q ∨ q = w.heap.size + 1) (.slice A6 ([(Tr.mk k op m p t a ks)].length + 1) c6) ([(Tr.mk k op m p t a ks)] ++ [v5]) := KidP.call (b := E.b) kpA hg8 (by omega)))
      exact ret7 Tryz.results97 rfl rfl b7A ⟨grA, .inr ⟨35, 0, 2, [], [], x2.2, ([(Tr.mk k op m p t a ks)] ++ [v5]), A6, c6, l8, rfl, HQ8.out, KidP.sub (X := fun q => X q ∨ q = w.heap.size + 1) (v := .slice A6 ([(Tr.mk k op m p t a ks)].length + 1) c6) (ks := ([(Tr.mk k op m p t a ks)] ++ [v5])) kpA (fun q hq _ => .inl hq), (by simp [LIM]), psA⟩⟩
  · skip
    have HQx := HQ2.out
    rw [if_neg hm] at HQx
    have hmn := bs_beq3 hm
    have HQy := Lib.hid HQx
    clear hm HQx
    go_wp2_with (first
      | (go_at_call 38; refine (mark_any E _ l2 (o + 1) psA).mono ?_; rintro e w3 ⟨rfl, hg3⟩; have hP3 : PS E w3 l2 (o + 1) := PS.below psA hg3; have hG3 : Gr (· = E.b) w w3 := Gr.trans grA (Gr.of_below hg3); have hbl3 := hP3.lt; have hgl3 := hP3.toks.lt; have hs3 : w2.heap.size + 0 ≤ w3.heap.size := (by have := hg3.size; simpa using this); have hb_z3 : Blk w3 (w.heap.size + 1) 28 #[.int .i64 0, .int .i64 0, .int .i64 0, .string ⟨#[]⟩, .string ⟨#[]⟩, .int .i64 0, .slice none 0 0] := Blk.bel bkA hg3; have hl_z3 := hb_z3.lt; have hb_n3 : Blk w3 (zz) 28 #[.int .i64 35, .int .i64 0, .int .i64 0, .string ⟨#[]⟩, .string ⟨#[]⟩, .int .i64 x2.2, .slice (some ⟨gg, 0, none⟩) 1 1] := Blk.bel bkA hg3; have hl_n3 := hb_n3.lt; have hk_n3 : KidX w3 (lo) (zz) (.slice (some ⟨gg, 0, none⟩) 1 1) [(Tr.mk k op m p t a ks)] := KidX.bel kxA hg3; have hk_y3 : KidP w3 (lo) (fun q => X q ∨ q = w.heap.size + 1) (.slice (some ⟨gg, 0, none⟩) 1 1) [(Tr.mk k op m p t a ks)] := KidP.bel kpA hg3))
    obtain ⟨_, n3_0, n3_1, n3_2, n3_3, n3_4, n3_5, n3_6, n3_f⟩ := hb_n3.all7
    refine region_A2 E.b (lo) (zz) (fun q => X q ∨ q = w.heap.size + 1) (.pointer (some ⟨E.b, 0, none⟩)) 63 (.slice (some ⟨gg, 0, none⟩) 1 1) [(Tr.mk k op m p t a ks)] 55 #[.pointer (some ⟨E.b, 0, none⟩)] _ _ rfl (by kernel_rfl) rfl (by kernel_rfl) (by kernel_rfl) (by kernel_rfl) (by decide) (by kernel_rfl) (by kernel_rfl) (by kernel_rfl) (by kernel_rfl) (by kernel_rfl) (by kernel_rfl) (by kernel_rfl) (by kernel_rfl)
      (fun a w h => by simp [Act.eval] at h; unfold execOp; go_simp) rfl rfl hk_n3 hk_y3 (fun q hq => hq.elim (fun h => by have := hX q h; omega) (fun h => by omega)) n3_6 (n3_f 6) (by omega) (by omega) (by omega) (by omega) (by simp [LIM]) (calm_TellD E _ (o + 1) _ r (by omega) (by omega)) (calm_TellD E _ (o + 1) _ r (by omega) (by omega)) ((Hn.expr E _ l2 (o + 1) _ r hP3.drew HQy.out HR.out).mono fun e w' h => tells h) ?_ ?_
    · rintro a w' c had ⟨at_, k, hb, rfl⟩ hg
      exact And.intro had ⟨hG3.trans hg, .inl ⟨_, _, hb, rfl⟩⟩
    rintro vals w' A4 c4 u4 ⟨l4, hq4, hPx⟩ hKx hKz hgx hgy hgo
    obtain ⟨w4, hW⟩ : ∃ W, W = w'.setCell ⟨zz, 6, none⟩ (.slice A4 ([(Tr.mk k op m p t a ks)].length + 1) c4) := ⟨_, rfl⟩
    have hP4 : PS E w4 l4 (o + 1) := by rw [hW]; exact psA
    have hsx := hgx.size
    have hG4 : Gr (· = E.b) w w4 := by rw [hW]; exact Gr.setCell (wide_x hG3 hgy (fun q hq => by have := hzo2 q hq; omega)) (.inl (by first | (simp; done) | (simp; omega))) _
    have hzo4 : ∀ q, (Value.slice A4 ([(Tr.mk k op m p t a ks)].length + 1) c4).ownBlock = some q → w.heap.size + 2 ≤ q := fun q hq => (hgo q hq).elim (hzo2 q) (fun h => by omega)
    have hb_z4 : Blk w4 (w.heap.size + 1) 28 #[.int .i64 0, .int .i64 0, .int .i64 0, .string ⟨#[]⟩, .string ⟨#[]⟩, .int .i64 0, .slice none 0 0] := by rw [hW]; exact Blk.far (Blk.wx hb_z3 hgy (by omega) (fun e => by have := hzo2 _ e; omega)) (by first | (simp; done) | (simp; omega)) _
    have hl_z4 := hb_z4.lt
    have hb_n4 : Blk w4 (zz) 28 #[.int .i64 35, .int .i64 0, .int .i64 0, .string ⟨#[]⟩, .string ⟨#[]⟩, .int .i64 x2.2, .slice A4 ([(Tr.mk k op m p t a ks)].length + 1) c4] := by rw [hW]; exact Blk.set6 (Blk.wr hb_n3 hgx (by omega) (.inr rfl)) _
    have hl_n4 := hb_n4.lt
    have hk_n4 : KidX w4 (lo) (zz) (.slice A4 ([(Tr.mk k op m p t a ks)].length + 1) c4) ([(Tr.mk k op m p t a ks)] ++ [u4]) := by rw [hW]; exact hKx.setCell (.inr rfl) _
    have hk_y4 : KidP w4 (lo) (fun q => X q ∨ q = w.heap.size + 1) (.slice A4 ([(Tr.mk k op m p t a ks)].length + 1) c4) ([(Tr.mk k op m p t a ks)] ++ [u4]) := by rw [hW]; exact KidX.set2 hKx hKz rfl _
    rw [← hW]
    have hbl4 := hP4.lt
    have hgl4 := hP4.toks.lt
    have hs4 : w3.heap.size ≤ w4.heap.size := by rw [hW]; simpa using hsx
    clear hW hPx hKx hKz hgx hgy hgo hsx
    have HQ4 := Lib.hid hq4
    clear hq4
    go_wp2_with fail
    by_cases hm : mark l4 = [93]
    · skip
      have HQx := HQ4.out
      rw [if_pos hm] at HQx
      have HM := Lib.hid hm
      have HQy := Lib.hid (take_want hm HQx)
      clear hm HQx
      go_wp2_with (first
        | (go_at_call 38; refine (mark_any E _ l4 (o + 1) psA).mono ?_; rw [HM.out, show bs [93] = ⟨#[93]⟩ from rfl]; rintro e w5 ⟨rfl, hg5⟩; have hP5 : PS E w5 l4 (o + 1) := PS.below psA hg5; have hG5 : Gr (· = E.b) w w5 := Gr.trans grA (Gr.of_below hg5); have hbl5 := hP5.lt; have hgl5 := hP5.toks.lt; have hs5 : w4.heap.size + 0 ≤ w5.heap.size := (by have := hg5.size; simpa using this); have hb_z5 : Blk w5 (w.heap.size + 1) 28 #[.int .i64 0, .int .i64 0, .int .i64 0, .string ⟨#[]⟩, .string ⟨#[]⟩, .int .i64 0, .slice none 0 0] := Blk.bel bkA hg5; have hl_z5 := hb_z5.lt; have hb_n5 : Blk w5 (zz) 28 #[.int .i64 35, .int .i64 0, .int .i64 0, .string ⟨#[]⟩, .string ⟨#[]⟩, .int .i64 x2.2, .slice A4 ([(Tr.mk k op m p t a ks)].length + 1) c4] := Blk.bel bkA hg5; have hl_n5 := hb_n5.lt; obtain ⟨_, n5_0, n5_1, n5_2, n5_3, n5_4, n5_5, n5_6, n5_f⟩ := hb_n5.all7; have hk_n5 : KidX w5 (lo) (zz) (.slice A4 ([(Tr.mk k op m p t a ks)].length + 1) c4) ([(Tr.mk k op m p t a ks)] ++ [u4]) := KidX.bel kxA hg5; have hk_y5 : KidP w5 (lo) (fun q => X q ∨ q = w.heap.size + 1) (.slice A4 ([(Tr.mk k op m p t a ks)].length + 1) c4) ([(Tr.mk k op m p t a ks)] ++ [u4]) := KidP.bel kpA hg5))
      obtain ⟨w6, hW⟩ : ∃ W, W = w5.setCell ⟨zz, 0, none⟩ (.int .i64 34) := ⟨_, rfl⟩
      have hP6 : PS E w6 l4 (o + 1) := by rw [hW]; exact psA
      have hG6 : Gr (· = E.b) w w6 := by rw [hW]; exact grA
      have hb_z6 : Blk w6 (w.heap.size + 1) 28 #[.int .i64 0, .int .i64 0, .int .i64 0, .string ⟨#[]⟩, .string ⟨#[]⟩, .int .i64 0, .slice none 0 0] := by rw [hW]; exact bkA
      have hl_z6 := hb_z6.lt
      have hb_n6 : Blk w6 (zz) 28 #[.int .i64 34, .int .i64 0, .int .i64 0, .string ⟨#[]⟩, .string ⟨#[]⟩, .int .i64 x2.2, .slice A4 ([(Tr.mk k op m p t a ks)].length + 1) c4] := by rw [hW]; exact bkA
      have hl_n6 := hb_n6.lt
      have hk_n6 : KidX w6 (lo) (zz) (.slice A4 ([(Tr.mk k op m p t a ks)].length + 1) c4) ([(Tr.mk k op m p t a ks)] ++ [u4]) := by rw [hW]; exact kxA
      have hk_y6 : KidP w6 (lo) (fun q => X q ∨ q = w.heap.size + 1) (.slice A4 ([(Tr.mk k op m p t a ks)].length + 1) c4) ([(Tr.mk k op m p t a ks)] ++ [u4]) := by rw [hW]; exact KidX.set2 hk_n5 hk_y5 rfl _
      have hs6 : w5.heap.size ≤ w6.heap.size := by rw [hW]; first | (simp; done) | (simp; omega)
      rw [← hW]
      have hbl6 := hP6.lt
      have hgl6 := hP6.toks.lt
      clear hW
      go_wp2_with (first
        | (go_at_call 59; (with_reducible refine (leave_any E _ l4 (o) [93] ⟨#[93]⟩ _ _ psA rfl (by simp) HQy.out).mono ?_); rintro e w7 ⟨hg7, ⟨a, k, hb, rfl⟩ | ⟨x7, l7, rfl, hq7, hP7⟩⟩; exact And.intro rfl ⟨Gr.trans grA hg7, .inl ⟨_, _, hb, rfl⟩⟩; have hG7 : Gr (· = E.b) w w7 := Gr.trans grA hg7; have HQ7 := Lib.hid hq7; clear hq7; have hbl7 := hP7.lt; have hgl7 := hP7.toks.lt; have hs7 : w6.heap.size + 0 ≤ w7.heap.size := (by have := hg7.size; simpa using this); have hb_z7 : Blk w7 (w.heap.size + 1) 28 #[.int .i64 0, .int .i64 0, .int .i64 0, .string ⟨#[]⟩, .string ⟨#[]⟩, .int .i64 0, .slice none 0 0] := Blk.call (b := E.b) bkA hg7 (by omega); have hl_z7 := hb_z7.lt; obtain ⟨_, z7_0, z7_1, z7_2, z7_3, z7_4, z7_5, z7_6, z7_f⟩ := hb_z7.all7; have hb_n7 : Blk w7 (zz) 28 #[.int .i64 34, .int .i64 0, .int .i64 0, .string ⟨#[]⟩, .string ⟨#[]⟩, .int .i64 x2.2, .slice A4 ([(Tr.mk k op m p t a ks)].length + 1) c4] := Blk.call (b := E.b) bkA hg7 (by omega); have hl_n7 := hb_n7.lt; obtain ⟨_, n7_0, n7_1, n7_2, n7_3, n7_4, n7_5, n7_6, n7_f⟩ := hb_n7.all7; have hk_n7 : KidX w7 (lo) (zz) (.slice A4 ([(Tr.mk k op m p t a ks)].length + 1) c4) ([(Tr.mk k op m p t a ks)] ++ [u4]) := KidX.call (b := E.b) kxA hg7 (by omega); have hk_y7 : KidP w7 (lo) (fun q => X q ∨ q = w.heap.size + 1) (.slice A4 ([(Tr.mk k op m p t a ks)].length + 1) c4) ([(Tr.mk k op m p t a ks)] ++ [u4]) := KidP.call (b := E.b) kpA hg7 (by omega)))
      exact ret7 Tryz.results97 rfl rfl b7A ⟨grA, .inr ⟨34, 0, 0, [], [], x2.2, ([(Tr.mk k op m p t a ks)] ++ [u4]), A4, c4, l7, rfl, HQ7.out, KidP.sub (X := fun q => X q ∨ q = w.heap.size + 1) (v := .slice A4 ([(Tr.mk k op m p t a ks)].length + 1) c4) (ks := ([(Tr.mk k op m p t a ks)] ++ [u4])) kpA (fun q hq _ => .inl hq), (by simp [LIM]), psA⟩⟩
    · skip
      have HQx := HQ4.out
      rw [if_neg hm] at HQx
      have hmn4 := bs_beq3 hm
      have HQy := Lib.hid HQx
      clear hm HQx
      go_wp2_with (first
        | (go_at_call 38; refine (mark_any E _ l4 (o + 1) psA).mono ?_; rintro e w5 ⟨rfl, hg5⟩; have hP5 : PS E w5 l4 (o + 1) := PS.below psA hg5; have hG5 : Gr (· = E.b) w w5 := Gr.trans grA (Gr.of_below hg5); have hbl5 := hP5.lt; have hgl5 := hP5.toks.lt; have hs5 : w4.heap.size + 0 ≤ w5.heap.size := (by have := hg5.size; simpa using this); have hb_z5 : Blk w5 (w.heap.size + 1) 28 #[.int .i64 0, .int .i64 0, .int .i64 0, .string ⟨#[]⟩, .string ⟨#[]⟩, .int .i64 0, .slice none 0 0] := Blk.bel bkA hg5; have hl_z5 := hb_z5.lt; have hb_n5 : Blk w5 (zz) 28 #[.int .i64 35, .int .i64 0, .int .i64 0, .string ⟨#[]⟩, .string ⟨#[]⟩, .int .i64 x2.2, .slice A4 ([(Tr.mk k op m p t a ks)].length + 1) c4] := Blk.bel bkA hg5; have hl_n5 := hb_n5.lt; obtain ⟨_, n5_0, n5_1, n5_2, n5_3, n5_4, n5_5, n5_6, n5_f⟩ := hb_n5.all7; have hk_n5 : KidX w5 (lo) (zz) (.slice A4 ([(Tr.mk k op m p t a ks)].length + 1) c4) ([(Tr.mk k op m p t a ks)] ++ [u4]) := KidX.bel kxA hg5; have hk_y5 : KidP w5 (lo) (fun q => X q ∨ q = w.heap.size + 1) (.slice A4 ([(Tr.mk k op m p t a ks)].length + 1) c4) ([(Tr.mk k op m p t a ks)] ++ [u4]) := KidP.bel kpA hg5))
      obtain ⟨w6, hW⟩ : ∃ W, W = w5.setCell ⟨zz, 2, none⟩ (.int .i64 1) := ⟨_, rfl⟩
      have hP6 : PS E w6 l4 (o + 1) := by rw [hW]; exact psA
      have hG6 : Gr (· = E.b) w w6 := by rw [hW]; exact grA
      have hb_z6 : Blk w6 (w.heap.size + 1) 28 #[.int .i64 0, .int .i64 0, .int .i64 0, .string ⟨#[]⟩, .string ⟨#[]⟩, .int .i64 0, .slice none 0 0] := by rw [hW]; exact bkA
      have hl_z6 := hb_z6.lt
      have hb_n6 : Blk w6 (zz) 28 #[.int .i64 35, .int .i64 0, .int .i64 1, .string ⟨#[]⟩, .string ⟨#[]⟩, .int .i64 x2.2, .slice A4 ([(Tr.mk k op m p t a ks)].length + 1) c4] := by rw [hW]; exact bkA
      have hl_n6 := hb_n6.lt
      have hk_n6 : KidX w6 (lo) (zz) (.slice A4 ([(Tr.mk k op m p t a ks)].length + 1) c4) ([(Tr.mk k op m p t a ks)] ++ [u4]) := by rw [hW]; exact kxA
      have hk_y6 : KidP w6 (lo) (fun q => X q ∨ q = w.heap.size + 1) (.slice A4 ([(Tr.mk k op m p t a ks)].length + 1) c4) ([(Tr.mk k op m p t a ks)] ++ [u4]) := by rw [hW]; exact KidX.set2 hk_n5 hk_y5 rfl _
      have hs6 : w5.heap.size ≤ w6.heap.size := by rw [hW]; first | (simp; done) | (simp; omega)
      rw [← hW]
      have hbl6 := hP6.lt
      have hgl6 := hP6.toks.lt
      clear hW
      go_wp2_with (first
        | (go_at_call 24; (with_reducible refine (want_any E _ l4 (o + 1) [58] ⟨#[58]⟩ _ _ psA rfl (by simp) HQy.out).mono ?_); rintro e w7 ⟨hg7, ⟨a, k, hb, rfl⟩ | ⟨x7, l7, rfl, hq7, hP7⟩⟩; exact And.intro rfl ⟨Gr.trans grA hg7, .inl ⟨_, _, hb, rfl⟩⟩; have hG7 : Gr (· = E.b) w w7 := Gr.trans grA hg7; have HQ7 := Lib.hid hq7; clear hq7; have hbl7 := hP7.lt; have hgl7 := hP7.toks.lt; have hs7 : w6.heap.size + 0 ≤ w7.heap.size := (by have := hg7.size; simpa using this); have hb_z7 : Blk w7 (w.heap.size + 1) 28 #[.int .i64 0, .int .i64 0, .int .i64 0, .string ⟨#[]⟩, .string ⟨#[]⟩, .int .i64 0, .slice none 0 0] := Blk.call (b := E.b) bkA hg7 (by omega); have hl_z7 := hb_z7.lt; have hb_n7 : Blk w7 (zz) 28 #[.int .i64 35, .int .i64 0, .int .i64 1, .string ⟨#[]⟩, .string ⟨#[]⟩, .int .i64 x2.2, .slice A4 ([(Tr.mk k op m p t a ks)].length + 1) c4] := Blk.call (b := E.b) bkA hg7 (by omega); have hl_n7 := hb_n7.lt; have hk_n7 : KidX w7 (lo) (zz) (.slice A4 ([(Tr.mk k op m p t a ks)].length + 1) c4) ([(Tr.mk k op m p t a ks)] ++ [u4]) := KidX.call (b := E.b) kxA hg7 (by omega); have hk_y7 : KidP w7 (lo) (fun q => X q ∨ q = w.heap.size + 1) (.slice A4 ([(Tr.mk k op m p t a ks)].length + 1) c4) ([(Tr.mk k op m p t a ks)] ++ [u4]) := KidP.call (b := E.b) kpA hg7 (by omega)))
      by_cases hm : mark l7 = [93]
      · skip
        have HQx := HQ7.out
        rw [if_pos hm] at HQx
        have HM := Lib.hid hm
        have HQy := Lib.hid (take_want hm HQx)
        clear hm HQx
        go_wp2_with (first
          | (go_at_call 38; refine (mark_any E _ l7 (o + 1) psA).mono ?_; rw [HM.out, show bs [93] = ⟨#[93]⟩ from rfl]; rintro e w8 ⟨rfl, hg8⟩; have hP8 : PS E w8 l7 (o + 1) := PS.below psA hg8; have hG8 : Gr (· = E.b) w w8 := Gr.trans grA (Gr.of_below hg8); have hbl8 := hP8.lt; have hgl8 := hP8.toks.lt; have hs8 : w7.heap.size + 0 ≤ w8.heap.size := (by have := hg8.size; simpa using this); have hb_z8 : Blk w8 (w.heap.size + 1) 28 #[.int .i64 0, .int .i64 0, .int .i64 0, .string ⟨#[]⟩, .string ⟨#[]⟩, .int .i64 0, .slice none 0 0] := Blk.bel bkA hg8; have hl_z8 := hb_z8.lt; have hb_n8 : Blk w8 (zz) 28 #[.int .i64 35, .int .i64 0, .int .i64 1, .string ⟨#[]⟩, .string ⟨#[]⟩, .int .i64 x2.2, .slice A4 ([(Tr.mk k op m p t a ks)].length + 1) c4] := Blk.bel bkA hg8; have hl_n8 := hb_n8.lt; have hk_n8 : KidX w8 (lo) (zz) (.slice A4 ([(Tr.mk k op m p t a ks)].length + 1) c4) ([(Tr.mk k op m p t a ks)] ++ [u4]) := KidX.bel kxA hg8; have hk_y8 : KidP w8 (lo) (fun q => X q ∨ q = w.heap.size + 1) (.slice A4 ([(Tr.mk k op m p t a ks)].length + 1) c4) ([(Tr.mk k op m p t a ks)] ++ [u4]) := KidP.bel kpA hg8)
          | (go_at_call 59; (with_reducible refine (leave_any E _ l7 (o) [93] ⟨#[93]⟩ _ _ psA rfl (by simp) HQy.out).mono ?_); rintro e w9 ⟨hg9, ⟨a, k, hb, rfl⟩ | ⟨y8, l9, rfl, hq9, hP9⟩⟩; exact And.intro rfl ⟨Gr.trans grA hg9, .inl ⟨_, _, hb, rfl⟩⟩; have hG9 : Gr (· = E.b) w w9 := Gr.trans grA hg9; have HQ9 := Lib.hid hq9; clear hq9; have hbl9 := hP9.lt; have hgl9 := hP9.toks.lt; have hs9 : w8.heap.size + 0 ≤ w9.heap.size := (by have := hg9.size; simpa using this); have hb_z9 : Blk w9 (w.heap.size + 1) 28 #[.int .i64 0, .int .i64 0, .int .i64 0, .string ⟨#[]⟩, .string ⟨#[]⟩, .int .i64 0, .slice none 0 0] := Blk.call (b := E.b) bkA hg9 (by omega); have hl_z9 := hb_z9.lt; obtain ⟨_, z9_0, z9_1, z9_2, z9_3, z9_4, z9_5, z9_6, z9_f⟩ := hb_z9.all7; have hb_n9 : Blk w9 (zz) 28 #[.int .i64 35, .int .i64 0, .int .i64 1, .string ⟨#[]⟩, .string ⟨#[]⟩, .int .i64 x2.2, .slice A4 ([(Tr.mk k op m p t a ks)].length + 1) c4] := Blk.call (b := E.b) bkA hg9 (by omega); have hl_n9 := hb_n9.lt; obtain ⟨_, n9_0, n9_1, n9_2, n9_3, n9_4, n9_5, n9_6, n9_f⟩ := hb_n9.all7; have hk_n9 : KidX w9 (lo) (zz) (.slice A4 ([(Tr.mk k op m p t a ks)].length + 1) c4) ([(Tr.mk k op m p t a ks)] ++ [u4]) := KidX.call (b := E.b) kxA hg9 (by omega); have hk_y9 : KidP w9 (lo) (fun q => X q ∨ q = w.heap.size + 1) (.slice A4 ([(Tr.mk k op m p t a ks)].length + 1) c4) ([(Tr.mk k op m p t a ks)] ++ [u4]) := KidP.call (b := E.b) kpA hg9 (by omega)))
        exact ret7 Tryz.results97 rfl rfl b7A ⟨grA, .inr ⟨35, 0, 1, [], [], x2.2, ([(Tr.mk k op m p t a ks)] ++ [u4]), _, c4, l9, rfl, HQ9.out, KidP.sub (X := fun q => X q ∨ q = w.heap.size + 1) (v := .slice A4 ([(Tr.mk k op m p t a ks)].length + 1) c4) (ks := ([(Tr.mk k op m p t a ks)] ++ [u4])) kpA (fun q hq _ => .inl hq), (by simp [LIM]), psA⟩⟩
      · skip
        have HQx := HQ7.out
        rw [if_neg hm] at HQx
        have hmn := bs_beq3 hm
        have HQy := Lib.hid HQx
        clear hm HQx
        go_wp2_with (first
          | (go_at_call 38; refine (mark_any E _ l7 (o + 1) psA).mono ?_; rintro e w8 ⟨rfl, hg8⟩; have hP8 : PS E w8 l7 (o + 1) := PS.below psA hg8; have hG8 : Gr (· = E.b) w w8 := Gr.trans grA (Gr.of_below hg8); have hbl8 := hP8.lt; have hgl8 := hP8.toks.lt; have hs8 : w7.heap.size + 0 ≤ w8.heap.size := (by have := hg8.size; simpa using this); have hb_z8 : Blk w8 (w.heap.size + 1) 28 #[.int .i64 0, .int .i64 0, .int .i64 0, .string ⟨#[]⟩, .string ⟨#[]⟩, .int .i64 0, .slice none 0 0] := Blk.bel bkA hg8; have hl_z8 := hb_z8.lt; have hb_n8 : Blk w8 (zz) 28 #[.int .i64 35, .int .i64 0, .int .i64 1, .string ⟨#[]⟩, .string ⟨#[]⟩, .int .i64 x2.2, .slice A4 ([(Tr.mk k op m p t a ks)].length + 1) c4] := Blk.bel bkA hg8; have hl_n8 := hb_n8.lt; have hk_n8 : KidX w8 (lo) (zz) (.slice A4 ([(Tr.mk k op m p t a ks)].length + 1) c4) ([(Tr.mk k op m p t a ks)] ++ [u4]) := KidX.bel kxA hg8; have hk_y8 : KidP w8 (lo) (fun q => X q ∨ q = w.heap.size + 1) (.slice A4 ([(Tr.mk k op m p t a ks)].length + 1) c4) ([(Tr.mk k op m p t a ks)] ++ [u4]) := KidP.bel kpA hg8))
        obtain ⟨_, n8_0, n8_1, n8_2, n8_3, n8_4, n8_5, n8_6, n8_f⟩ := hb_n8.all7
        refine region_A2 E.b (lo) (zz) (fun q => X q ∨ q = w.heap.size + 1) (.pointer (some ⟨E.b, 0, none⟩)) 63 (.slice A4 ([Tr.mk k op m p t a ks].length + 1) c4) ([(Tr.mk k op m p t a ks)] ++ [u4]) 55 #[.pointer (some ⟨E.b, 0, none⟩)] _ _ rfl (by kernel_rfl) rfl (by kernel_rfl) (by kernel_rfl) (by kernel_rfl) (by decide) (by kernel_rfl) (by kernel_rfl) (by kernel_rfl) (by kernel_rfl) (by kernel_rfl) (by kernel_rfl) (by kernel_rfl) (by kernel_rfl)
          (fun a w h => by simp [Act.eval] at h; unfold execOp; go_simp) rfl rfl hk_n8 hk_y8 (fun q hq => hq.elim (fun h => by have := hX q h; omega) (fun h => by omega)) n8_6 (n8_f 6) (by omega) (by omega) (by omega) (by omega) (by simp [LIM]) (calm_TellD E _ (o + 1) _ r (by omega) (by omega)) (calm_TellD E _ (o + 1) _ r (by omega) (by omega)) ((Hn.expr E _ l7 (o + 1) _ r hP8.drew HQy.out HR.out).mono fun e w' h => tells h) ?_ ?_
        · rintro a w' c had ⟨at_, k, hb, rfl⟩ hg
          exact And.intro had ⟨hG8.trans hg, .inl ⟨_, _, hb, rfl⟩⟩
        rintro vals w' A9 c9 v8 ⟨l9, hq9, hPx⟩ hKx hKz hgx hgy hgo
        obtain ⟨w9, hW⟩ : ∃ W, W = w'.setCell ⟨zz, 6, none⟩ (.slice A9 (([(Tr.mk k op m p t a ks)] ++ [u4]).length + 1) c9) := ⟨_, rfl⟩
        have hP9 : PS E w9 l9 (o + 1) := by rw [hW]; exact psA
        have hsx := hgx.size
        have hG9 : Gr (· = E.b) w w9 := by rw [hW]; exact Gr.setCell (wide_x hG8 hgy (fun q hq => by have := hzo4 q hq; omega)) (.inl (by first | (simp; done) | (simp; omega))) _
        have hzo9 : ∀ q, (Value.slice A9 (([(Tr.mk k op m p t a ks)] ++ [u4]).length + 1) c9).ownBlock = some q → w.heap.size + 2 ≤ q := fun q hq => (hgo q hq).elim (hzo4 q) (fun h => by omega)
        have hb_z9 : Blk w9 (w.heap.size + 1) 28 #[.int .i64 0, .int .i64 0, .int .i64 0, .string ⟨#[]⟩, .string ⟨#[]⟩, .int .i64 0, .slice none 0 0] := by rw [hW]; exact Blk.far (Blk.wx hb_z8 hgy (by omega) (fun e => by have := hzo4 _ e; omega)) (by first | (simp; done) | (simp; omega)) _
        have hl_z9 := hb_z9.lt
        have hb_n9 : Blk w9 (zz) 28 #[.int .i64 35, .int .i64 0, .int .i64 1, .string ⟨#[]⟩, .string ⟨#[]⟩, .int .i64 x2.2, .slice A9 (([(Tr.mk k op m p t a ks)] ++ [u4]).length + 1) c9] := by rw [hW]; exact Blk.set6 (Blk.wr hb_n8 hgx (by omega) (.inr rfl)) _
        have hl_n9 := hb_n9.lt
        have hk_n9 : KidX w9 (lo) (zz) (.slice A9 (([(Tr.mk k op m p t a ks)] ++ [u4]).length + 1) c9) (([(Tr.mk k op m p t a ks)] ++ [u4]) ++ [v8]) := by rw [hW]; exact hKx.setCell (.inr rfl) _
        have hk_y9 : KidP w9 (lo) (fun q => X q ∨ q = w.heap.size + 1) (.slice A9 (([(Tr.mk k op m p t a ks)] ++ [u4]).length + 1) c9) (([(Tr.mk k op m p t a ks)] ++ [u4]) ++ [v8]) := by rw [hW]; exact KidX.set2 hKx hKz rfl _
        rw [← hW]
        have hbl9 := hP9.lt
        have hgl9 := hP9.toks.lt
        have hs9 : w8.heap.size ≤ w9.heap.size := by rw [hW]; simpa using hsx
        clear hW hPx hKx hKz hgx hgy hgo hsx
        have HQ9 := Lib.hid hq9
        clear hq9
        obtain ⟨_, n9_0, n9_1, n9_2, n9_3, n9_4, n9_5, n9_6, n9_f⟩ := hb_n9.all7
        go_wp2_with fail
        obtain ⟨w10, hW⟩ : ∃ W, W = w9.setCell ⟨zz, 2, none⟩ (.int .i64 3) := ⟨_, rfl⟩
        have hP10 : PS E w10 l9 (o + 1) := by rw [hW]; exact psA
        have hG10 : Gr (· = E.b) w w10 := by rw [hW]; exact grA
        have hb_z10 : Blk w10 (w.heap.size + 1) 28 #[.int .i64 0, .int .i64 0, .int .i64 0, .string ⟨#[]⟩, .string ⟨#[]⟩, .int .i64 0, .slice none 0 0] := by rw [hW]; exact bkA
        have hl_z10 := hb_z10.lt
        have hb_n10 : Blk w10 (zz) 28 #[.int .i64 35, .int .i64 0, .int .i64 3, .string ⟨#[]⟩, .string ⟨#[]⟩, .int .i64 x2.2, .slice A9 (([(Tr.mk k op m p t a ks)] ++ [u4]).length + 1) c9] := by rw [hW]; exact bkA
        have hl_n10 := hb_n10.lt
        have hk_n10 : KidX w10 (lo) (zz) (.slice A9 (([(Tr.mk k op m p t a ks)] ++ [u4]).length + 1) c9) (([(Tr.mk k op m p t a ks)] ++ [u4]) ++ [v8]) := by rw [hW]; exact kxA
        have hk_y10 : KidP w10 (lo) (fun q => X q ∨ q = w.heap.size + 1) (.slice A9 (([(Tr.mk k op m p t a ks)] ++ [u4]).length + 1) c9) (([(Tr.mk k op m p t a ks)] ++ [u4]) ++ [v8]) := by rw [hW]; exact KidX.set2 hk_n9 hk_y9 rfl _
        have hs10 : w9.heap.size ≤ w10.heap.size := by rw [hW]; first | (simp; done) | (simp; omega)
        rw [← hW]
        have hbl10 := hP10.lt
        have hgl10 := hP10.toks.lt
        clear hW
        go_wp2_with (first
          | (go_at_call 59; (with_reducible refine (leave_any E _ l9 (o) [93] ⟨#[93]⟩ _ _ psA rfl (by simp) HQ9.out).mono ?_); rintro e w11 ⟨hg11, ⟨a, k, hb, rfl⟩ | ⟨y10, l11, rfl, hq11, hP11⟩⟩; exact And.intro rfl ⟨Gr.trans grA hg11, .inl ⟨_, _, hb, rfl⟩⟩; have hG11 : Gr (· = E.b) w w11 := Gr.trans grA hg11; have HQ11 := Lib.hid hq11; clear hq11; have hbl11 := hP11.lt; have hgl11 := hP11.toks.lt; have hs11 : w10.heap.size + 0 ≤ w11.heap.size := (by have := hg11.size; simpa using this); have hb_z11 : Blk w11 (w.heap.size + 1) 28 #[.int .i64 0, .int .i64 0, .int .i64 0, .string ⟨#[]⟩, .string ⟨#[]⟩, .int .i64 0, .slice none 0 0] := Blk.call (b := E.b) bkA hg11 (by omega); have hl_z11 := hb_z11.lt; obtain ⟨_, z11_0, z11_1, z11_2, z11_3, z11_4, z11_5, z11_6, z11_f⟩ := hb_z11.all7; have hb_n11 : Blk w11 (zz) 28 #[.int .i64 35, .int .i64 0, .int .i64 3, .string ⟨#[]⟩, .string ⟨#[]⟩, .int .i64 x2.2, .slice A9 (([(Tr.mk k op m p t a ks)] ++ [u4]).length + 1) c9] := Blk.call (b := E.b) bkA hg11 (by omega); have hl_n11 := hb_n11.lt; obtain ⟨_, n11_0, n11_1, n11_2, n11_3, n11_4, n11_5, n11_6, n11_f⟩ := hb_n11.all7; have hk_n11 : KidX w11 (lo) (zz) (.slice A9 (([(Tr.mk k op m p t a ks)] ++ [u4]).length + 1) c9) (([(Tr.mk k op m p t a ks)] ++ [u4]) ++ [v8]) := KidX.call (b := E.b) kxA hg11 (by omega); have hk_y11 : KidP w11 (lo) (fun q => X q ∨ q = w.heap.size + 1) (.slice A9 (([(Tr.mk k op m p t a ks)] ++ [u4]).length + 1) c9) (([(Tr.mk k op m p t a ks)] ++ [u4]) ++ [v8]) := KidP.call (b := E.b) kpA hg11 (by omega)))
        exact ret7 Tryz.results97 rfl rfl b7A ⟨grA, .inr ⟨35, 0, 3, [], [], x2.2, (([(Tr.mk k op m p t a ks)] ++ [u4]) ++ [v8]), A9, c9, l11, rfl, HQ11.out, KidP.sub (X := fun q => X q ∨ q = w.heap.size + 1) (v := .slice A9 (([(Tr.mk k op m p t a ks)] ++ [u4]).length + 1) c9) (ks := (([(Tr.mk k op m p t a ks)] ++ [u4]) ++ [v8])) kpA (fun q hq _ => .inl hq), (by simp [LIM]), psA⟩⟩
end Go.Proofs.YtihnnbeepfgphaaGreatDoor

/-! ## PF28: Expressions of two: walks. -/
namespace Go.Proofs.YtihnnbeepfgphaaGreatDoor
open Go.RowKit
set_option linter.unusedVariables false
set_option linter.unusedSimpArgs false
attribute [local go_sem ↓] tok_f0 tok_f1 tok_f2 tok_f3

theorem opOf_le (m : List UInt8) : (opOf m).2 ≤ 5 := by
  by_cases h0 : m = [124, 124]
  · subst h0; decide
  by_cases h1 : m = [38, 38]
  · subst h1; decide
  by_cases h2 : m = [61, 61]
  · subst h2; decide
  by_cases h3 : m = [33, 61]
  · subst h3; decide
  by_cases h4 : m = [60]
  · subst h4; decide
  by_cases h5 : m = [60, 61]
  · subst h5; decide
  by_cases h6 : m = [62]
  · subst h6; decide
  by_cases h7 : m = [62, 61]
  · subst h7; decide
  by_cases h8 : m = [43]
  · subst h8; decide
  by_cases h9 : m = [45]
  · subst h9; decide
  by_cases h10 : m = [42]
  · subst h10; decide
  by_cases h11 : m = [47]
  · subst h11; decide
  by_cases h12 : m = [37]
  · subst h12; decide
  simp only [opOf, if_neg h0, if_neg h1, if_neg h2, if_neg h3, if_neg h4, if_neg h5, if_neg h6, if_neg h7, if_neg h8, if_neg h9, if_neg h10, if_neg h11, if_neg h12]
  decide
theorem opOf_mark {l : List T} {k : Nat} (hk : 1 ≤ k) (h : ¬ (opOf (mark l)).2 < k) : mark l ≠ [] := by
  intro e
  rw [e] at h
  exact h (by show 0 < k; omega)
set_option maxRecDepth 100000 in
set_option maxHeartbeats 4000000 in
theorem binary_step (n : Nat) (hn : n ≤ LIM) (H : ∀ m, m ≤ n → AllN m) (kk : Nat) (hk1 : 1 ≤ kk) (hk6 : kk ≤ 6) : C1 (n + 1) 70 kk (.binary kk) := by
  intro E w l o g r hP hq hr
  simp only [go, bnd_bnd] at hq
  have hlt := hP.lt
  have hgt := hP.toks.lt
  have hne := hP.ne
  have HR := Lib.hid hr
  have Hn := H n (Nat.le_refl _)
  have HQ0 := Lib.hid hq
  clear hr hq
  go_enter Tryz.func70, Tryz.ntmps70
  go_wp2_with (first
    | (go_at_call 80; refine (Hn.unary E _ l (o) _ r psA HQ0.out HR.out).mono ?_; rintro e w1 ⟨hg1, ⟨a, k, hb, rfl⟩ | ⟨k1, op1, m1, p1, t1, a1, ks1, A1, c1, l1, rfl, hq1, hk_11, hn1, hP1⟩⟩; exact And.intro rfl ⟨Gr.trans grA hg1, .inl ⟨_, _, hb, rfl⟩⟩; have hG1 : Gr (· = E.b) w w1 := Gr.trans grA hg1; have HQ1 := Lib.hid hq1; clear hq1; have hbl1 := hP1.lt; have hgl1 := hP1.toks.lt; have hs1 : w.heap.size + 1 ≤ w1.heap.size := (by have := hg1.size; simpa using this); have hb_z1 : Blk w1 (w.heap.size) 28 #[.int .i64 0, .int .i64 0, .int .i64 0, .string ⟨#[]⟩, .string ⟨#[]⟩, .int .i64 0, .slice none 0 0] := Blk.call (b := E.b) bkA hg1 (by omega); have hl_z1 := hb_z1.lt; have hk_11 := Kid.mono (lo' := w.heap.size + 1) hk_11 (by simp); have hkx1 : KidP w1 (w.heap.size + 1) (· = w1.heap.size) (.slice A1 ks1.length c1) ks1 := Kid.p hk_11 (fun q hq => .inr (by have h9 : q = w1.heap.size := hq; omega))))
  go_loopg [] n (fun gk wr => ∃ (k op m : Int) (p t : List UInt8) (a : Nat) (ks : List Tr) (A : Option Addr) (c : Nat) (l2 : List T), PS E wr l2 o ∧ bnd (go gk (.bins kk (.mk k op m p t a ks)) l2 o) g = r ∧ Gr (· = E.b) w wr ∧ Blk wr w.heap.size 28 #[.int .i64 0, .int .i64 0, .int .i64 0, .string ⟨#[]⟩, .string ⟨#[]⟩, .int .i64 0, .slice none 0 0] ∧ Blk wr w1.heap.size 28 #[.int .i64 k, .int .i64 op, .int .i64 m, .string (bs p), .string (bs t), .int .i64 a, .slice A ks.length c] ∧ KidP wr (w.heap.size + 1) (· = w1.heap.size) (.slice A ks.length c) ks ∧ ks.length ≤ 3 * LIM ∧ w1.heap.size + 1 ≤ wr.heap.size ∧ gk ≤ n)
  case atStart => exact ⟨k1, op1, m1, p1, t1, a1, ks1, A1, c1, l1, psA, HQ1.out, grA, bkA, Blk.new _ _ _, hkx1.alloc _, hn1, by simp, Nat.le_refl _⟩
  case round =>
    obtain ⟨k, op, m, p, t, a, ks, A, c, l2, hP2, hq2, hG2, hz2, hb2, hk2, hn2, hs2, hgk⟩ := hrel
    cases gk with
    | zero => exact absurd (by rw [← hq2]; rfl) HR.out
    | succ f =>
      simp only [go, bnd_ite, bnd_ok, bnd_bnd, bnd_takeR] at hq2
      have hbl2 := hP2.lt
      have hgl2 := hP2.toks.lt
      have h5 := opOf_le (mark l2)
      by_cases hs : (opOf (mark l2)).2 < kk
      · rw [if_pos hs] at hq2
        obtain ⟨⟨oo, ss⟩, hPo⟩ : ∃ P, opOf (mark l2) = P := ⟨_, rfl⟩
        rw [hPo] at hs h5
        dsimp only at hs h5
        have HO := Lib.hid hPo
        have HQ2 := Lib.hid hq2
        have hss : ((ss : Nat) : Int) < ((kk : Nat) : Int) := by omega
        have hs0 : (0 : Int) ≤ ((ss : Nat) : Int) := by omega
        clear hPo hq2 hs
        go_wp2_with (go_at_call 81; refine (operation_any E _ l2 o hP2).mono ?_; rw [HO.out]; rintro e w3 ⟨rfl, hb3⟩; have hP3 := hP2.below hb3; have hG3 : Gr (· = E.b) w w3 := Gr.trans hG2 (Gr.of_below hb3); have hz3 := hz2.bel hb3; have hbb3 := hb2.bel hb3; have hk3 := hk2.bel hb3; obtain ⟨zl, z0, z1, z2, z3, z4, z5, z6, zf⟩ := hz3.all7; obtain ⟨bl, b0, b1, b2, b3, b4, b5, b6, bf⟩ := hbb3.all7)
        exact ret7 Tryz.results70 rfl rfl b7A ⟨grA, .inr ⟨k, op, m, p, t, a, ks, A, c, l2, rfl, HQ2.out, Kid.mono (lo := w.heap.size + 1) (KidP.kid (X := (· = w1.heap.size)) kpA) (by omega), hn2, psA⟩⟩
      · rw [if_neg hs] at hq2
        have hmk := opOf_mark hk1 hs
        obtain ⟨⟨oo, ss⟩, hPo⟩ : ∃ P, opOf (mark l2) = P := ⟨_, rfl⟩
        rw [hPo] at hs hq2 h5
        dsimp only at hs hq2 h5
        obtain ⟨x, l3, rfl⟩ := hP2.cons
        rw [takeR_cons] at hq2
        have HX := Lib.hid (good_mark hP2.good hmk)
        have HO := Lib.hid hPo
        have HQ2 := Lib.hid hq2
        have hss : ¬ ((ss : Nat) : Int) < ((kk : Nat) : Int) := by omega
        have hs0 : (0 : Int) ≤ ((ss : Nat) : Int) := by omega
        have hs5 : ((ss : Nat) : Int) ≤ 5 := by omega
        have HH := (H f (by omega)).binary (ss + 1) (by omega) (by omega)
        rw [show ((ss + 1 : Nat) : Int) = (ss : Int) + 1 by omega] at HH
        clear hPo hq2 hs hmk
        go_wp2_with (first
          | (go_at_call 81; refine (operation_any E _ (x :: l3) o hP2).mono ?_; rw [HO.out]; rintro e w3 ⟨rfl, hb3⟩; have hP3 := hP2.below hb3; have hG3 : Gr (· = E.b) w w3 := Gr.trans hG2 (Gr.of_below hb3); have hz3 := hz2.bel hb3; have hbb3 := hb2.bel hb3; have hk3 := hk2.bel hb3; have hs3 := hb3.size)
          | (go_at_call 40; refine (take_any E _ x l3 o hP3 HX.out).mono ?_; rintro e w4 ⟨rfl, hg4, hP4⟩; have hG4 := hG3.trans hg4; have hz4 := hz3.call hg4 (by omega); have hbb4 := hbb3.call hg4 (by omega); have hk4 := hk3.call hg4 (by omega); have hs4 := hg4.size)
          | (go_at_call 70; refine (HH E _ l3 o _ r hP4 HQ2.out HR.out).mono ?_; rintro e w5 ⟨hg5, ⟨a, k, hb, rfl⟩ | ⟨k5, op5, m5, p5, t5, a5, ks5, A5, c5, l5, rfl, hq5, hk5, hn5, hP5⟩⟩; exact And.intro rfl ⟨Gr.trans hG4 hg5, .inl ⟨_, _, hb, rfl⟩⟩; have hG5 := hG4.trans hg5; have HQ5 := Lib.hid hq5; clear hq5; have hz5 := hz4.call hg5 (by omega); have hbb5 := hbb4.call hg5 (by omega); have hkk5 := hk4.call hg5 (by omega); have hs5 := hg5.size; have hbl5 := hP5.lt; have hgl5 := hP5.toks.lt; have hky5 : KidP w5 (w.heap.size + 1) (· = w1.heap.size) (.slice A5 ks5.length c5) ks5 := (Kid.p hk5 (fun q hq => .inl (by have h9 : q = w1.heap.size := hq; omega))).mono (by omega); obtain ⟨bl, b0, b1, b2, b3, b4, b5, b6, bf⟩ := hbb5.all7))
        obtain ⟨V, hV⟩ : ∃ V, V = ((((((w5.setCell ⟨w1.heap.size, 0, none⟩ (.int .i64 31)).setCell ⟨w1.heap.size, 1, none⟩ (.int .i64 oo)).setCell ⟨w1.heap.size, 2, none⟩ (.int .i64 0)).setCell ⟨w1.heap.size, 3, none⟩ (.string ⟨#[]⟩)).setCell ⟨w1.heap.size, 4, none⟩ (.string ⟨#[]⟩)).setCell ⟨w1.heap.size, 5, none⟩ (.int .i64 x.2)).setCell ⟨w1.heap.size, 6, none⟩ (.slice (some ⟨w5.heap.size + 1, 0, none⟩) 2 2) := ⟨_, rfl⟩
        have hPV : PS E V l5 o := by rw [hV]; exact psA
        have hGV : Gr (· = E.b) w V := by rw [hV]; exact grA
        have hZV : Blk V w.heap.size 28 #[.int .i64 0, .int .i64 0, .int .i64 0, .string ⟨#[]⟩, .string ⟨#[]⟩, .int .i64 0, .slice none 0 0] := by rw [hV]; exact bkA
        have hBV : Blk V w1.heap.size 28 #[.int .i64 31, .int .i64 oo, .int .i64 0, .string ⟨#[]⟩, .string ⟨#[]⟩, .int .i64 x.2, .slice (some ⟨w5.heap.size + 1, 0, none⟩) 2 2] := by rw [hV]; exact b7A
        have hkV : KidP V (w.heap.size + 1) (· = w1.heap.size) (.slice A ks.length c) ks := by
          rw [hV]
          iterate 7 (refine KidP.setCell ?_ (by exact .inr rfl) _)
          assumption
        have hyV : KidP V (w.heap.size + 1) (· = w1.heap.size) (.slice A5 ks5.length c5) ks5 := by
          rw [hV]
          iterate 7 (refine KidP.setCell ?_ (by exact .inr rfl) _)
          assumption
        have hsV : V.heap.size = w5.heap.size := by rw [hV]; simp
        rw [← hV]
        clear hV
        have hlit := KidP.lit2_at (g := w5.heap.size + 1) (k := k) (op := op) (m := m) (p := p) (t := t) (a := a) (k' := k5) (op' := op5) (m' := m5) (p' := p5) (t' := t5) (a' := a5) (hkV.alloc (.cells #[.int .i64 k5, .int .i64 op5, .int .i64 m5, .string (bs p5), .string (bs t5), .int .i64 a5, .slice A5 ks5.length c5] 28)) (hyV.alloc (.cells #[.int .i64 k5, .int .i64 op5, .int .i64 m5, .string (bs p5), .string (bs t5), .int .i64 a5, .slice A5 ks5.length c5] 28)) (by simp; omega) (fun q hq => by have h9 : q = w1.heap.size := hq; simp; omega) (by simp; omega)
        go_roundg f
        case measure => omega
        case rel => exact ⟨31, oo, 0, [], [], x.2, [.mk k op m p t a ks, .mk k5 op5 m5 p5 t5 a5 ks5], _, 2, l5, (hPV.alloc _).alloc _, HQ5.out, (hGV.alloc _).alloc _, (hZV.alloc _).alloc _, (hBV.alloc _).alloc _, hlit, by simp [LIM], by simp; omega, by omega⟩

end Go.Proofs.YtihnnbeepfgphaaGreatDoor

/-! ## PF29: Signs ahead, and what stands behind: walks. -/
namespace Go.Proofs.YtihnnbeepfgphaaGreatDoor
open Go.RowKit
set_option linter.unusedVariables false
set_option linter.unusedSimpArgs false
attribute [local go_sem ↓] tok_f0 tok_f1 tok_f2 tok_f3

set_option maxRecDepth 100000 in
set_option maxHeartbeats 4000000 in
theorem unary_step (n : Nat) (hn : n ≤ LIM) (H : ∀ m, m ≤ n → AllN m) : C0 (n + 1) 80 .unary := by
  intro E w l o g r hP hq hr
  simp only [go, bnd_takeR, bnd_ite, bnd_bnd, bnd_ok] at hq
  have hlt := hP.lt
  have hgt := hP.toks.lt
  have hne := hP.ne
  have HR := Lib.hid hr
  have Hn := H n (Nat.le_refl _)
  clear hr
  obtain ⟨x1, l1, rfl⟩ := hP.cons
  by_cases hm : mark (x1 :: l1) = [45]
  · rw [if_pos hm, takeR_cons] at hq
    have HX := Lib.hid (good_mark hP.good (by rw [hm]; simp))
    have HM := Lib.hid hm
    have HQ0 := Lib.hid hq
    clear hq hm
    go_enter Tryz.func80, Tryz.ntmps80
    go_wp2_with (first
      | (go_at_call 38; refine (mark_any E _ (x1 :: l1) (o) psA).mono ?_; rw [HM.out, show bs [45] = ⟨#[45]⟩ from rfl]; rintro e w1 ⟨rfl, hg1⟩; have hP1 : PS E w1 (x1 :: l1) (o) := PS.below psA hg1; have hG1 : Gr (· = E.b) w w1 := Gr.trans grA (Gr.of_below hg1); have hbl1 := hP1.lt; have hgl1 := hP1.toks.lt; have hs1 : w.heap.size + 1 ≤ w1.heap.size := (by have := hg1.size; simpa using this); have hb_z1 : Blk w1 (w.heap.size) 28 #[.int .i64 0, .int .i64 0, .int .i64 0, .string ⟨#[]⟩, .string ⟨#[]⟩, .int .i64 0, .slice none 0 0] := Blk.bel bkA hg1; have hl_z1 := hb_z1.lt)
      | (go_at_call 93; refine (ofOne_any n Hn 1 E _ x1 l1 o _ r psA HX.out HQ0.out HR.out).mono ?_; rintro e w2 ⟨hg2, ⟨a, k, hb, rfl⟩ | ⟨k2, op2, m2, p2, t2, a2, ks2, A2, c2, l2, rfl, hq2, hk_22, hn2, hP2⟩⟩; exact And.intro rfl ⟨Gr.trans grA hg2, .inl ⟨_, _, hb, rfl⟩⟩; have hG2 : Gr (· = E.b) w w2 := Gr.trans grA hg2; have HQ2 := Lib.hid hq2; clear hq2; have hbl2 := hP2.lt; have hgl2 := hP2.toks.lt; have hs2 : w1.heap.size + 0 ≤ w2.heap.size := (by have := hg2.size; simpa using this); have hb_z2 : Blk w2 (w.heap.size) 28 #[.int .i64 0, .int .i64 0, .int .i64 0, .string ⟨#[]⟩, .string ⟨#[]⟩, .int .i64 0, .slice none 0 0] := Blk.call (b := E.b) bkA hg2 (by omega); have hl_z2 := hb_z2.lt; obtain ⟨_, z2_0, z2_1, z2_2, z2_3, z2_4, z2_5, z2_6, z2_f⟩ := hb_z2.all7; have hk_22 := Kid.mono (lo' := w1.heap.size + 0) hk_22 (by simp)))
    exact ret7 Tryz.results80 rfl rfl b7A ⟨grA, .inr ⟨k2, op2, m2, p2, t2, a2, ks2, A2, c2, l2, rfl, HQ2.out, Kid.mono (lo := w1.heap.size + 0) kdA (by omega), hn2, psA⟩⟩
  rw [if_neg hm] at hq
  have hm_2d := bs_beq3 hm
  clear hm
  by_cases hm : mark (x1 :: l1) = [33]
  · rw [if_pos hm, takeR_cons] at hq
    have HX := Lib.hid (good_mark hP.good (by rw [hm]; simp))
    have HM := Lib.hid hm
    have HQ0 := Lib.hid hq
    clear hq hm
    go_enter Tryz.func80, Tryz.ntmps80
    go_wp2_with (first
      | (go_at_call 38; refine (mark_any E _ (x1 :: l1) (o) psA).mono ?_; rw [HM.out, show bs [33] = ⟨#[33]⟩ from rfl]; rintro e w1 ⟨rfl, hg1⟩; have hP1 : PS E w1 (x1 :: l1) (o) := PS.below psA hg1; have hG1 : Gr (· = E.b) w w1 := Gr.trans grA (Gr.of_below hg1); have hbl1 := hP1.lt; have hgl1 := hP1.toks.lt; have hs1 : w.heap.size + 1 ≤ w1.heap.size := (by have := hg1.size; simpa using this); have hb_z1 : Blk w1 (w.heap.size) 28 #[.int .i64 0, .int .i64 0, .int .i64 0, .string ⟨#[]⟩, .string ⟨#[]⟩, .int .i64 0, .slice none 0 0] := Blk.bel bkA hg1; have hl_z1 := hb_z1.lt)
      | (go_at_call 93; refine (ofOne_any n Hn 3 E _ x1 l1 o _ r psA HX.out HQ0.out HR.out).mono ?_; rintro e w2 ⟨hg2, ⟨a, k, hb, rfl⟩ | ⟨k2, op2, m2, p2, t2, a2, ks2, A2, c2, l2, rfl, hq2, hk_22, hn2, hP2⟩⟩; exact And.intro rfl ⟨Gr.trans grA hg2, .inl ⟨_, _, hb, rfl⟩⟩; have hG2 : Gr (· = E.b) w w2 := Gr.trans grA hg2; have HQ2 := Lib.hid hq2; clear hq2; have hbl2 := hP2.lt; have hgl2 := hP2.toks.lt; have hs2 : w1.heap.size + 0 ≤ w2.heap.size := (by have := hg2.size; simpa using this); have hb_z2 : Blk w2 (w.heap.size) 28 #[.int .i64 0, .int .i64 0, .int .i64 0, .string ⟨#[]⟩, .string ⟨#[]⟩, .int .i64 0, .slice none 0 0] := Blk.call (b := E.b) bkA hg2 (by omega); have hl_z2 := hb_z2.lt; obtain ⟨_, z2_0, z2_1, z2_2, z2_3, z2_4, z2_5, z2_6, z2_f⟩ := hb_z2.all7; have hk_22 := Kid.mono (lo' := w1.heap.size + 0) hk_22 (by simp)))
    exact ret7 Tryz.results80 rfl rfl b7A ⟨grA, .inr ⟨k2, op2, m2, p2, t2, a2, ks2, A2, c2, l2, rfl, HQ2.out, Kid.mono (lo := w1.heap.size + 0) kdA (by omega), hn2, psA⟩⟩
  rw [if_neg hm] at hq
  have hm_21 := bs_beq3 hm
  clear hm
  by_cases hm : mark (x1 :: l1) = [38]
  · rw [if_pos hm] at hq
    have HM := Lib.hid hm
    have HQ0 := Lib.hid hq
    clear hq hm
    go_enter Tryz.func80, Tryz.ntmps80
    go_wp2_with (first
      | (go_at_call 38; refine (mark_any E _ (x1 :: l1) (o) psA).mono ?_; rw [HM.out, show bs [38] = ⟨#[38]⟩ from rfl]; rintro e w1 ⟨rfl, hg1⟩; have hP1 : PS E w1 (x1 :: l1) (o) := PS.below psA hg1; have hG1 : Gr (· = E.b) w w1 := Gr.trans grA (Gr.of_below hg1); have hbl1 := hP1.lt; have hgl1 := hP1.toks.lt; have hs1 : w.heap.size + 1 ≤ w1.heap.size := (by have := hg1.size; simpa using this); have hb_z1 : Blk w1 (w.heap.size) 28 #[.int .i64 0, .int .i64 0, .int .i64 0, .string ⟨#[]⟩, .string ⟨#[]⟩, .int .i64 0, .slice none 0 0] := Blk.bel bkA hg1; have hl_z1 := hb_z1.lt)
      | (go_at_call 94; refine (Hn.newStruct E _ (x1 :: l1) (o) _ r psA HQ0.out HR.out).mono ?_; rintro e w2 ⟨hg2, ⟨a, k, hb, rfl⟩ | ⟨k2, op2, m2, p2, t2, a2, ks2, A2, c2, l2, rfl, hq2, hk_22, hn2, hP2⟩⟩; exact And.intro rfl ⟨Gr.trans grA hg2, .inl ⟨_, _, hb, rfl⟩⟩; have hG2 : Gr (· = E.b) w w2 := Gr.trans grA hg2; have HQ2 := Lib.hid hq2; clear hq2; have hbl2 := hP2.lt; have hgl2 := hP2.toks.lt; have hs2 : w1.heap.size + 0 ≤ w2.heap.size := (by have := hg2.size; simpa using this); have hb_z2 : Blk w2 (w.heap.size) 28 #[.int .i64 0, .int .i64 0, .int .i64 0, .string ⟨#[]⟩, .string ⟨#[]⟩, .int .i64 0, .slice none 0 0] := Blk.call (b := E.b) bkA hg2 (by omega); have hl_z2 := hb_z2.lt; obtain ⟨_, z2_0, z2_1, z2_2, z2_3, z2_4, z2_5, z2_6, z2_f⟩ := hb_z2.all7; have hk_22 := Kid.mono (lo' := w1.heap.size + 0) hk_22 (by simp)))
    exact ret7 Tryz.results80 rfl rfl b7A ⟨grA, .inr ⟨k2, op2, m2, p2, t2, a2, ks2, A2, c2, l2, rfl, HQ2.out, Kid.mono (lo := w1.heap.size + 0) kdA (by omega), hn2, psA⟩⟩
  rw [if_neg hm] at hq
  have hm_26 := bs_beq3 hm
  have HQ0 := Lib.hid hq
  clear hm hq
  go_enter Tryz.func80, Tryz.ntmps80
  go_wp2_with (first
    | (go_at_call 38; refine (mark_any E _ (x1 :: l1) (o) psA).mono ?_; rintro e w1 ⟨rfl, hg1⟩; have hP1 : PS E w1 (x1 :: l1) (o) := PS.below psA hg1; have hG1 : Gr (· = E.b) w w1 := Gr.trans grA (Gr.of_below hg1); have hbl1 := hP1.lt; have hgl1 := hP1.toks.lt; have hs1 : w.heap.size + 1 ≤ w1.heap.size := (by have := hg1.size; simpa using this); have hb_z1 : Blk w1 (w.heap.size) 28 #[.int .i64 0, .int .i64 0, .int .i64 0, .string ⟨#[]⟩, .string ⟨#[]⟩, .int .i64 0, .slice none 0 0] := Blk.bel bkA hg1; have hl_z1 := hb_z1.lt)
    | (go_at_call 95; refine (Hn.first E _ (x1 :: l1) (o) _ r psA HQ0.out HR.out).mono ?_; rintro e w2 ⟨hg2, ⟨a, k, hb, rfl⟩ | ⟨k2, op2, m2, p2, t2, a2, ks2, A2, c2, l2, rfl, hq2, hk_22, hn2, hP2⟩⟩; exact And.intro rfl ⟨Gr.trans grA hg2, .inl ⟨_, _, hb, rfl⟩⟩; have hG2 : Gr (· = E.b) w w2 := Gr.trans grA hg2; have HQ2 := Lib.hid hq2; clear hq2; have hbl2 := hP2.lt; have hgl2 := hP2.toks.lt; have hs2 : w1.heap.size + 0 ≤ w2.heap.size := (by have := hg2.size; simpa using this); have hb_z2 : Blk w2 (w.heap.size) 28 #[.int .i64 0, .int .i64 0, .int .i64 0, .string ⟨#[]⟩, .string ⟨#[]⟩, .int .i64 0, .slice none 0 0] := Blk.call (b := E.b) bkA hg2 (by omega); have hl_z2 := hb_z2.lt; have hk_22 := Kid.mono (lo' := w1.heap.size + 0) hk_22 (by simp); have hkx2 : KidP w2 (w.heap.size + 1) (· = w2.heap.size) (.slice A2 ks2.length c2) ks2 := (Kid.p hk_22 (fun q hq => .inr (by have h9 : q = w2.heap.size := hq; omega))).mono (by omega)))
  go_loopg [] n (fun gk wr => ∃ (k op m : Int) (p t : List UInt8) (a : Nat) (ks : List Tr) (A : Option Addr) (c : Nat) (l3 : List T), PS E wr l3 o ∧ bnd (go gk (.behind (.mk k op m p t a ks)) l3 o) g = r ∧ Gr (· = E.b) w wr ∧ Blk wr w.heap.size 28 #[.int .i64 0, .int .i64 0, .int .i64 0, .string ⟨#[]⟩, .string ⟨#[]⟩, .int .i64 0, .slice none 0 0] ∧ Blk wr w2.heap.size 28 #[.int .i64 k, .int .i64 op, .int .i64 m, .string (bs p), .string (bs t), .int .i64 a, .slice A ks.length c] ∧ KidP wr (w.heap.size + 1) (· = w2.heap.size) (.slice A ks.length c) ks ∧ ks.length ≤ 3 * LIM ∧ w2.heap.size + 1 ≤ wr.heap.size ∧ gk ≤ n)
  case atStart => exact ⟨k2, op2, m2, p2, t2, a2, ks2, A2, c2, l2, psA, HQ2.out, grA, bkA, Blk.new _ _ _, hkx2.alloc _, hn2, by simp, Nat.le_refl _⟩
  case round =>
    obtain ⟨k, op, m, p, t, a, ks, A, c, l3, hP3, hq3, hG3, hz3, hb3, hk3, hn3, hs3, hgk⟩ := hrel
    cases gk with
    | zero => exact absurd (by rw [← hq3]; rfl) HR.out
    | succ f =>
      simp only [go, bnd_ite, bnd_ok, bnd_bnd] at hq3
      have hbl3 := hP3.lt
      have hgl3 := hP3.toks.lt
      have Hf := H f (by omega)
      by_cases hm : mark l3 = [40]
      · rw [if_pos hm] at hq3
        have HM := Lib.hid hm
        have HQ3 := Lib.hid hq3
        clear hq3 hm
        go_wp2_with (first
          | (go_at_call 38; refine (mark_any E _ l3 o hP3).mono ?_; rw [HM.out, show bs [40] = ⟨#[40]⟩ from rfl]; rintro e w4 ⟨rfl, hb4⟩; have hP4 := hP3.below hb4; have hG4 : Gr (· = E.b) w w4 := Gr.trans hG3 (Gr.of_below hb4); have hz4 := hz3.bel hb4; have hbb4 := hb3.bel hb4; have hk4 := hk3.bel hb4; have hs4 := hb4.size; obtain ⟨zl, z0, z1, z2, z3, z4, z5, z6, zf⟩ := hz4.all7; obtain ⟨bl, b0, b1, b2, b3, b4, b5, b6, bf⟩ := hbb4.all7)
          | (go_at_call 96; refine (Hf.call E _ l3 o (w.heap.size + 1) (· = w2.heap.size) _ r k op m p t a ks A c hP4 (by omega) (by omega) (by omega) (fun q hq => by have h9 : q = w2.heap.size := hq; omega) hk4 HQ3.out HR.out).mono ?_; rintro e w5 ⟨hg5, ⟨a, k, hb, rfl⟩ | ⟨k5, op5, m5, p5, t5, a5, ks5, A5, c5, l5, rfl, hq5, hk5, hn5, hP5⟩⟩; exact And.intro rfl ⟨Gr.trans hG4 hg5, .inl ⟨_, _, hb, rfl⟩⟩; have hG5 := hG4.trans hg5; have HQ5 := Lib.hid hq5; clear hq5; have hz5 := hz4.call hg5 (by omega); have hbb5 := hbb4.call hg5 (by omega); have hs5 := hg5.size; have hbl5 := hP5.lt; have hgl5 := hP5.toks.lt; obtain ⟨nl, n0, n1, n2, n3, n4, n5, n6, nf⟩ := hbb5.all7))
        obtain ⟨V, hV⟩ : ∃ V, V = ((((((w5.setCell ⟨w2.heap.size, 0, none⟩ (.int .i64 k5)).setCell ⟨w2.heap.size, 1, none⟩ (.int .i64 op5)).setCell ⟨w2.heap.size, 2, none⟩ (.int .i64 m5)).setCell ⟨w2.heap.size, 3, none⟩ (.string (bs p5))).setCell ⟨w2.heap.size, 4, none⟩ (.string (bs t5))).setCell ⟨w2.heap.size, 5, none⟩ (.int .i64 a5)).setCell ⟨w2.heap.size, 6, none⟩ (.slice A5 ks5.length c5) := ⟨_, rfl⟩
        have hPV : PS E V l5 o := by rw [hV]; exact psA
        have hGV : Gr (· = E.b) w V := by rw [hV]; exact grA
        have hZV : Blk V w.heap.size 28 #[.int .i64 0, .int .i64 0, .int .i64 0, .string ⟨#[]⟩, .string ⟨#[]⟩, .int .i64 0, .slice none 0 0] := by rw [hV]; exact bkA
        have hBV : Blk V w2.heap.size 28 #[.int .i64 k5, .int .i64 op5, .int .i64 m5, .string (bs p5), .string (bs t5), .int .i64 a5, .slice A5 ks5.length c5] := by rw [hV]; exact b7A
        have hkV : KidP V (w.heap.size + 1) (· = w2.heap.size) (.slice A5 ks5.length c5) ks5 := by
          rw [hV]
          iterate 7 (refine KidP.setCell ?_ (by exact .inr rfl) _)
          exact hk5
        have hsV : V.heap.size = w5.heap.size := by rw [hV]; simp
        rw [← hV]
        clear hV
        go_roundg f
        case measure => omega
        case rel => exact ⟨k5, op5, m5, p5, t5, a5, ks5, A5, c5, l5, hPV, HQ5.out, hGV, hZV, hBV, hkV, hn5, by omega, by omega⟩
      rw [if_neg hm] at hq3
      have hx_28 := bs_beq3 hm
      clear hm
      by_cases hm : mark l3 = [91]
      · rw [if_pos hm] at hq3
        have HM := Lib.hid hm
        have HQ3 := Lib.hid hq3
        clear hq3 hm
        go_wp2_with (first
          | (go_at_call 38; refine (mark_any E _ l3 o hP3).mono ?_; rw [HM.out, show bs [91] = ⟨#[91]⟩ from rfl]; rintro e w4 ⟨rfl, hb4⟩; have hP4 := hP3.below hb4; have hG4 : Gr (· = E.b) w w4 := Gr.trans hG3 (Gr.of_below hb4); have hz4 := hz3.bel hb4; have hbb4 := hb3.bel hb4; have hk4 := hk3.bel hb4; have hs4 := hb4.size; obtain ⟨zl, z0, z1, z2, z3, z4, z5, z6, zf⟩ := hz4.all7; obtain ⟨bl, b0, b1, b2, b3, b4, b5, b6, bf⟩ := hbb4.all7)
          | (go_at_call 97; refine (Hf.indexed E _ l3 o (w.heap.size + 1) (· = w2.heap.size) _ r k op m p t a ks A c hP4 (by omega) (by omega) (by omega) (fun q hq => by have h9 : q = w2.heap.size := hq; omega) hk4 HQ3.out HR.out).mono ?_; rintro e w5 ⟨hg5, ⟨a, k, hb, rfl⟩ | ⟨k5, op5, m5, p5, t5, a5, ks5, A5, c5, l5, rfl, hq5, hk5, hn5, hP5⟩⟩; exact And.intro rfl ⟨Gr.trans hG4 hg5, .inl ⟨_, _, hb, rfl⟩⟩; have hG5 := hG4.trans hg5; have HQ5 := Lib.hid hq5; clear hq5; have hz5 := hz4.call hg5 (by omega); have hbb5 := hbb4.call hg5 (by omega); have hs5 := hg5.size; have hbl5 := hP5.lt; have hgl5 := hP5.toks.lt; obtain ⟨nl, n0, n1, n2, n3, n4, n5, n6, nf⟩ := hbb5.all7))
        obtain ⟨V, hV⟩ : ∃ V, V = ((((((w5.setCell ⟨w2.heap.size, 0, none⟩ (.int .i64 k5)).setCell ⟨w2.heap.size, 1, none⟩ (.int .i64 op5)).setCell ⟨w2.heap.size, 2, none⟩ (.int .i64 m5)).setCell ⟨w2.heap.size, 3, none⟩ (.string (bs p5))).setCell ⟨w2.heap.size, 4, none⟩ (.string (bs t5))).setCell ⟨w2.heap.size, 5, none⟩ (.int .i64 a5)).setCell ⟨w2.heap.size, 6, none⟩ (.slice A5 ks5.length c5) := ⟨_, rfl⟩
        have hPV : PS E V l5 o := by rw [hV]; exact psA
        have hGV : Gr (· = E.b) w V := by rw [hV]; exact grA
        have hZV : Blk V w.heap.size 28 #[.int .i64 0, .int .i64 0, .int .i64 0, .string ⟨#[]⟩, .string ⟨#[]⟩, .int .i64 0, .slice none 0 0] := by rw [hV]; exact bkA
        have hBV : Blk V w2.heap.size 28 #[.int .i64 k5, .int .i64 op5, .int .i64 m5, .string (bs p5), .string (bs t5), .int .i64 a5, .slice A5 ks5.length c5] := by rw [hV]; exact b7A
        have hkV : KidP V (w.heap.size + 1) (· = w2.heap.size) (.slice A5 ks5.length c5) ks5 := by
          rw [hV]
          iterate 7 (refine KidP.setCell ?_ (by exact .inr rfl) _)
          exact hk5
        have hsV : V.heap.size = w5.heap.size := by rw [hV]; simp
        rw [← hV]
        clear hV
        go_roundg f
        case measure => omega
        case rel => exact ⟨k5, op5, m5, p5, t5, a5, ks5, A5, c5, l5, hPV, HQ5.out, hGV, hZV, hBV, hkV, hn5, by omega, by omega⟩
      rw [if_neg hm] at hq3
      have hx_5b := bs_beq3 hm
      clear hm
      by_cases hm : mark l3 = [46]
      · rw [if_pos hm] at hq3
        have HM := Lib.hid hm
        have HQ3 := Lib.hid hq3
        clear hq3 hm
        go_wp2_with (first
          | (go_at_call 38; refine (mark_any E _ l3 o hP3).mono ?_; rw [HM.out, show bs [46] = ⟨#[46]⟩ from rfl]; rintro e w4 ⟨rfl, hb4⟩; have hP4 := hP3.below hb4; have hG4 : Gr (· = E.b) w w4 := Gr.trans hG3 (Gr.of_below hb4); have hz4 := hz3.bel hb4; have hbb4 := hb3.bel hb4; have hk4 := hk3.bel hb4; have hs4 := hb4.size; obtain ⟨zl, z0, z1, z2, z3, z4, z5, z6, zf⟩ := hz4.all7; obtain ⟨bl, b0, b1, b2, b3, b4, b5, b6, bf⟩ := hbb4.all7)
          | (go_at_call 98; refine (Hf.selected E _ l3 o (w.heap.size + 1) (· = w2.heap.size) _ r k op m p t a ks A c hP4 (by omega) (by omega) (by omega) (fun q hq => by have h9 : q = w2.heap.size := hq; omega) hk4 HQ3.out HR.out).mono ?_; rintro e w5 ⟨hg5, ⟨a, k, hb, rfl⟩ | ⟨k5, op5, m5, p5, t5, a5, ks5, A5, c5, l5, rfl, hq5, hk5, hn5, hP5⟩⟩; exact And.intro rfl ⟨Gr.trans hG4 hg5, .inl ⟨_, _, hb, rfl⟩⟩; have hG5 := hG4.trans hg5; have HQ5 := Lib.hid hq5; clear hq5; have hz5 := hz4.call hg5 (by omega); have hbb5 := hbb4.call hg5 (by omega); have hs5 := hg5.size; have hbl5 := hP5.lt; have hgl5 := hP5.toks.lt; obtain ⟨nl, n0, n1, n2, n3, n4, n5, n6, nf⟩ := hbb5.all7))
        obtain ⟨V, hV⟩ : ∃ V, V = ((((((w5.setCell ⟨w2.heap.size, 0, none⟩ (.int .i64 k5)).setCell ⟨w2.heap.size, 1, none⟩ (.int .i64 op5)).setCell ⟨w2.heap.size, 2, none⟩ (.int .i64 m5)).setCell ⟨w2.heap.size, 3, none⟩ (.string (bs p5))).setCell ⟨w2.heap.size, 4, none⟩ (.string (bs t5))).setCell ⟨w2.heap.size, 5, none⟩ (.int .i64 a5)).setCell ⟨w2.heap.size, 6, none⟩ (.slice A5 ks5.length c5) := ⟨_, rfl⟩
        have hPV : PS E V l5 o := by rw [hV]; exact psA
        have hGV : Gr (· = E.b) w V := by rw [hV]; exact grA
        have hZV : Blk V w.heap.size 28 #[.int .i64 0, .int .i64 0, .int .i64 0, .string ⟨#[]⟩, .string ⟨#[]⟩, .int .i64 0, .slice none 0 0] := by rw [hV]; exact bkA
        have hBV : Blk V w2.heap.size 28 #[.int .i64 k5, .int .i64 op5, .int .i64 m5, .string (bs p5), .string (bs t5), .int .i64 a5, .slice A5 ks5.length c5] := by rw [hV]; exact b7A
        have hkV : KidP V (w.heap.size + 1) (· = w2.heap.size) (.slice A5 ks5.length c5) ks5 := by
          rw [hV]
          iterate 7 (refine KidP.setCell ?_ (by exact .inr rfl) _)
          exact hk5
        have hsV : V.heap.size = w5.heap.size := by rw [hV]; simp
        rw [← hV]
        clear hV
        go_roundg f
        case measure => omega
        case rel => exact ⟨k5, op5, m5, p5, t5, a5, ks5, A5, c5, l5, hPV, HQ5.out, hGV, hZV, hBV, hkV, hn5, by omega, by omega⟩
      rw [if_neg hm] at hq3
      have hx_2e := bs_beq3 hm
      clear hm
      have HQ3 := Lib.hid hq3
      clear hq3
      go_wp2_with (go_at_call 38; refine (mark_any E _ l3 o hP3).mono ?_; rintro e w4 ⟨rfl, hb4⟩; have hP4 := hP3.below hb4; have hG4 : Gr (· = E.b) w w4 := Gr.trans hG3 (Gr.of_below hb4); have hz4 := hz3.bel hb4; have hbb4 := hb3.bel hb4; have hk4 := hk3.bel hb4; have hs4 := hb4.size; obtain ⟨zl, z0, z1, z2, z3, z4, z5, z6, zf⟩ := hz4.all7; obtain ⟨bl, b0, b1, b2, b3, b4, b5, b6, bf⟩ := hbb4.all7)
      exact ret7 Tryz.results80 rfl rfl b7A ⟨grA, .inr ⟨k, op, m, p, t, a, ks, A, c, l3, rfl, HQ3.out, Kid.mono (lo := w.heap.size + 1) (KidP.kid (X := (· = w2.heap.size)) kpA) (by omega), hn3, psA⟩⟩
end Go.Proofs.YtihnnbeepfgphaaGreatDoor

/-! ## PF30: Lists of parts: walks. -/
namespace Go.Proofs.YtihnnbeepfgphaaGreatDoor
open Go.RowKit
set_option linter.unusedVariables false
set_option linter.unusedSimpArgs false
attribute [local go_sem ↓] tok_f0 tok_f1 tok_f2 tok_f3

theorem part_any {n : Nat} (Hn : AllN n) (p : Pt) : C0 n p.fn p.nt := by
  cases p
  · exact Hn.expr
  · exact Hn.key
  · exact Hn.param
  · exact Hn.typeOf
  · exact Hn.typeVar
  · exact Hn.field
  · exact Hn.sig
theorem wpList_push {ops : Array Oper} {rest : List Oper} {o : Oper} {a : Act} {Q : Exit → Act → World → Prop} {w : World} {lo N b g : Nat} {v : Value} {ks0 : List Tr} {t : Tr} (hgd : o.guard = none) (s x : Operand)
    (ho : o.op = .call { callee := .builtin .append, args := #[s, x], argTypes := #[26, 26] })
    (hK : Kid w lo v ks0) (hv : ∀ q, v.ownBlock = some q → q < N) (hN : Kid w N (.slice (some ⟨g, 0, none⟩) 1 1) [t]) (hlo : lo ≤ N) (hb : b < lo) (hlen : ks0.length ≤ 3 * LIM) (hsz : lo ≤ w.heap.size) (hs : a.eval s = v) (hx : a.eval x = .slice (some ⟨g, 0, none⟩) 1 1)
    (hk : ∀ A c w', Kid w' lo (.slice A (ks0.length + 1) c) (ks0 ++ [t]) → Gr (fun k => v.ownBlock = some k) w w' → wpList Tryz.prog ops Q rest (a.put o.dst (.slice A (ks0.length + 1) c)) w') : wpList Tryz.prog ops Q (o :: rest) a w :=
  wpList_plain hgd fun _ hK' => kid_push (h := b) (X := fun _ => False) (hK.x hb) (Kid.p hK nofun) nofun nofun hv hN hlo (by omega) hlen hsz (by omega) s x ho hs hx fun A c w' _ h2 _ h4 => hK' _ _ (hk A c w' h2.kid h4)
set_option maxRecDepth 100000 in
set_option maxHeartbeats 4000000 in
theorem list_step (n : Nat) (hn : n ≤ LIM) (H : ∀ m, m ≤ n → AllN m) (p : Pt) : CL (n + 1) p := by
  intro E w l o g r fv hfv hP hq hr
  subst hfv
  simp only [go, bnd_bnd] at hq
  have HC : ∀ m, m ≤ n → ∀ (E : Env) (w : World) (l : List T) (o : Nat) (g : Tr → List T → R) (r : R), PS E w l o → bnd (go m p.nt l o) g = r → r ≠ .out → Calls Tryz.prog p.fn #[.pointer (some ⟨E.b, 0, none⟩)] w (NodeP E w w.heap.size o g r) := fun m hm => part_any (H m hm) p
  have hcf : ∀ w, (callFunc p.fn #[.pointer (some ⟨E.b, 0, none⟩)]).run Tryz.prog w = .ok (.enter p.fn #[.pointer (some ⟨E.b, 0, none⟩)]) w := by
    intro w
    cases p <;> rfl
  obtain ⟨fq, hfq⟩ : ∃ q, p.fn = q := ⟨_, rfl⟩
  rw [hfq] at HC hcf ⊢
  clear hfq
  have hlt := hP.lt
  have hgt := hP.toks.lt
  have hne := hP.ne
  have HR := Lib.hid hr
  have HN := Lib.hid hn
  have HQ0 := Lib.hid hq
  have H1 := HC n (Nat.le_refl _)
  clear hr hq hn
  go_enter Tryz.func61, Tryz.ntmps61
  go_wp2_with ((with_reducible refine (H1 E _ l o _ r hP HQ0.out HR.out).mono ?_); rintro e w1 ⟨hg1, ⟨a, k, hb, rfl⟩ | ⟨k1, op1, m1, p1, t1, a1, ks1, A1, c1, l1, rfl, hq1, hk1, hn1, hP1⟩⟩; exact And.intro rfl ⟨Gr.trans grA hg1, .inl ⟨_, _, hb, rfl⟩⟩; have hG1 : Gr (· = E.b) w w1 := Gr.trans grA hg1; have HQ1 := Lib.hid hq1; clear hq1; have hbl1 := hP1.lt; have hgl1 := hP1.toks.lt; have hs1 : w.heap.size ≤ w1.heap.size := hg1.size)
  have hlit := Kid.lit1 (lo := w.heap.size) (k := k1) (op := op1) (m := m1) (p := p1) (t := t1) (a := a1) hk1 hs1
  go_loopg [5] n (fun gk v wr => ∃ (acc : List Tr) (A : Option Addr) (c : Nat) (l2 : List T), v = .slice A acc.length c ∧ acc.length + gk ≤ n + 1 ∧ PS E wr l2 o ∧ bnd (go gk (.lists p acc) l2 o) g = r ∧ Gr (· = E.b) w wr ∧ Kid wr w.heap.size (.slice A acc.length c) acc ∧ w.heap.size ≤ wr.heap.size ∧ gk ≤ n)
  case atStart => exact ⟨[(Tr.mk k1 op1 m1 p1 t1 a1 ks1)], _, 1, l1, rfl, by simp; omega, psA, HQ1.out, grA, hlit, by simp; omega, Nat.le_refl _⟩
  case round =>
    obtain ⟨acc, A, c, l2, rfl, hac, hP2, hq2, hG2, hK2, hs2, hgk⟩ := hrel
    cases gk with
    | zero => exact absurd (by rw [← hq2]; rfl) HR.out
    | succ f =>
      simp only [go, bnd_ite, bnd_ok, bnd_bnd, bnd_takeR] at hq2
      have hbl2 := hP2.lt
      have hgl2 := hP2.toks.lt
      have Hf := HC f (by omega)
      by_cases hm : mark l2 = [44]
      · rw [if_pos hm] at hq2
        have HM := Lib.hid hm
        have HQ2 := Lib.hid hq2
        clear hq2 hm
        go_wp2_with (first
          | (go_at_call 26; refine (skip_yes E _ l2 o [44] _ hP2 rfl (by simp) HM.out).mono ?_; rintro e w3 ⟨rfl, hg3, xs, l3, hll3, hP3⟩; have hG3 : Gr (· = E.b) w w3 := hG2.trans hg3; have hq3 := HQ2.out; rw [hll3, takeR_cons] at hq3; have HQ3 := Lib.hid hq3; clear hq3 hll3; have hK3 := hK2.call hg3 (by omega); have hs3 := hg3.size)
          | ((with_reducible refine (Hf E _ l3 o _ r hP3 HQ3.out HR.out).mono ?_); rintro e w4 ⟨hg4, ⟨a, k, hb, rfl⟩ | ⟨k4, op4, m4, p4, t4, a4, ks4, A4, c4, l4, rfl, hq4, hk4, hn4, hP4⟩⟩; exact And.intro rfl ⟨Gr.trans hG3 hg4, .inl ⟨_, _, hb, rfl⟩⟩; have hG4 := hG3.trans hg4; have HQ4 := Lib.hid hq4; clear hq4; have hK4 := hK3.call hg4 (by omega); have hs4 := hg4.size; have hlit4 := Kid.lit1 (lo := w3.heap.size) (k := k4) (op := op4) (m := m4) (p := p4) (t := t4) (a := a4) hk4 hs4; have hown := fun q e => (hK3.own (g := q) e).2; have hbl4 := hP4.lt; have hgl4 := hP4.toks.lt)
          | (at_builtin; refine wpList_push (lo := w.heap.size) (N := w3.heap.size) (b := E.b) (v := .slice A acc.length c) (ks0 := acc) (t := (Tr.mk k4 op4 m4 p4 t4 a4 ks4)) rfl _ _ rfl (hK4.alloc _) hown hlit4 (by omega) hlt (by have := HN.out; unfold LIM at *; omega) (by simp; omega) rfl rfl ?_; intro A5 c5 w5 hK5 hg5))
        have hs5 : w4.heap.size + 1 ≤ w5.heap.size := by have := hg5.size; simpa using this
        have hP5 : PS E w5 l4 o := (hP4.alloc _).gr hg5 (fun e => by have := (hK4.own e).1; omega) (fun e => by have := (hK4.own e).1; omega)
        have hG5 : Gr (· = E.b) w w5 := (hG4.alloc _).wide hg5 (fun k hk e => by have := (hK4.own e).1; omega)
        go_roundg f
        case measure => omega
        case rel => exact ⟨acc ++ [(Tr.mk k4 op4 m4 p4 t4 a4 ks4)], A5, c5, l4, by simp, by simp; omega, hP5, HQ4.out, hG5, by simpa using hK5, by omega, by omega⟩
      · rw [if_neg hm] at hq2
        have HM := Lib.hid hm
        have HQ2 := Lib.hid hq2
        clear hq2 hm
        go_wp2_with (go_at_call 26; refine (skip_no E _ l2 o [44] _ hP2 rfl HM.out).mono ?_; rintro e w3 ⟨rfl, hb3⟩; have hP3 := hP2.below hb3; have hG3 : Gr (· = E.b) w w3 := Gr.trans hG2 (Gr.of_below hb3); have hK3 := hK2.bel hb3)
        go_ret
        exact ⟨hG3, .inr ⟨acc, A, c, l2, rfl, HQ2.out, hK3, by have := HN.out; unfold LIM at *; omega, hP3⟩⟩
end Go.Proofs.YtihnnbeepfgphaaGreatDoor
