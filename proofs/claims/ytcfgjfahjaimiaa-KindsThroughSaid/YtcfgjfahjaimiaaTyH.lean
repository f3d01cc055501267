/-
  Types' texts: written, Text: walks.
-/
import Derived.Test.YtcfgjfahjaimiaaTyG
namespace Go.Proofs.Ytcfgjfahjaimiaa
open Go.RowKit
set_option linter.unusedVariables false
set_option linter.unusedSimpArgs false

set_option maxRecDepth 100000 in
set_option maxHeartbeats 4000000 in
theorem written_step (N : Nat) (ih : WC N) (hN : N ≤ 2000000) : WC (N + 1) := by
  rintro ⟨k, p, n, la, lr⟩ hct w base F vs v l hr hF hbs hown hl
  rw [count_mk] at hct
  rw [sz_mk] at hl
  obtain ⟨A, c, B, d, rfl, ha, hb⟩ := hr.openL
  have hne0 : v.ownBlock ≠ some w.heap.size := fun h => by have := (hown.lt _ h).2; omega
  have hlv := fun q (h : v.ownBlock = some q) => (hown.lt q h).1
  have HO := Lib.hid hown
  have HA := Lib.hid ha
  have HB := Lib.hid hb
  clear hr ha hb hown
  show Calls Try.prog 47 #[v, .agg #[.int .i64 k, .string p, .string n, .slice A la.length c, .slice B lr.length d]] w _
  by_cases h0 : k = 0
  · subst h0
    have hX : txt (.mk 0 p n la lr) = [110, 111, 110, 101] := by rw [txt_mk]; rfl
    rw [hX]
    have hrun := app_string (w := w.alloc (.cells #[.int .i64 0, .string p, .string n, .slice A la.length c, .slice B lr.length d] 26)) (HO.out.alloc _) 79 ⟨#[110, 111, 110, 101]⟩ (by show l.length + 4 ≤ _; omega) (by simp; omega)
    go_enter Try.func47, Try.ntmps47
    go_wp2_with (at_builtin; refine wpList_app rfl (.tmp 9) (.const (.string ⟨#[110, 111, 110, 101]⟩)) _ _ rfl _ _ rfl rfl _ hrun ?_; intro v1 w1 hA1)
    go_ret
    exact ⟨v1, rfl, AppP.from hA1⟩
  by_cases h1 : k = 1
  · subst h1
    have hX : txt (.mk 1 p n la lr) = [105, 110, 116] := by rw [txt_mk]; rfl
    rw [hX]
    have hrun := app_string (w := w.alloc (.cells #[.int .i64 1, .string p, .string n, .slice A la.length c, .slice B lr.length d] 26)) (HO.out.alloc _) 79 ⟨#[105, 110, 116]⟩ (by show l.length + 3 ≤ _; omega) (by simp; omega)
    go_enter Try.func47, Try.ntmps47
    go_wp2_with (at_builtin; refine wpList_app rfl (.tmp 13) (.const (.string ⟨#[105, 110, 116]⟩)) _ _ rfl _ _ rfl rfl _ hrun ?_; intro v1 w1 hA1)
    go_ret
    exact ⟨v1, rfl, AppP.from hA1⟩
  by_cases h2 : k = 2
  · subst h2
    have hX : txt (.mk 2 p n la lr) = [98, 111, 111, 108] := by rw [txt_mk]; rfl
    rw [hX]
    have hrun := app_string (w := w.alloc (.cells #[.int .i64 2, .string p, .string n, .slice A la.length c, .slice B lr.length d] 26)) (HO.out.alloc _) 79 ⟨#[98, 111, 111, 108]⟩ (by show l.length + 4 ≤ _; omega) (by simp; omega)
    go_enter Try.func47, Try.ntmps47
    go_wp2_with (at_builtin; refine wpList_app rfl (.tmp 17) (.const (.string ⟨#[98, 111, 111, 108]⟩)) _ _ rfl _ _ rfl rfl _ hrun ?_; intro v1 w1 hA1)
    go_ret
    exact ⟨v1, rfl, AppP.from hA1⟩
  by_cases h3 : k = 3
  · subst h3
    have hX : txt (.mk 3 p n la lr) = [115, 116, 114, 105, 110, 103] := by rw [txt_mk]; rfl
    rw [hX]
    have hrun := app_string (w := w.alloc (.cells #[.int .i64 3, .string p, .string n, .slice A la.length c, .slice B lr.length d] 26)) (HO.out.alloc _) 79 ⟨#[115, 116, 114, 105, 110, 103]⟩ (by show l.length + 6 ≤ _; omega) (by simp; omega)
    go_enter Try.func47, Try.ntmps47
    go_wp2_with (at_builtin; refine wpList_app rfl (.tmp 21) (.const (.string ⟨#[115, 116, 114, 105, 110, 103]⟩)) _ _ rfl _ _ rfl rfl _ hrun ?_; intro v1 w1 hA1)
    go_ret
    exact ⟨v1, rfl, AppP.from hA1⟩
  by_cases h4 : k = 4
  · subst h4
    have hX : txt (.mk 4 p n la lr) = [110, 105, 108] := by rw [txt_mk]; rfl
    rw [hX]
    have hrun := app_string (w := w.alloc (.cells #[.int .i64 4, .string p, .string n, .slice A la.length c, .slice B lr.length d] 26)) (HO.out.alloc _) 79 ⟨#[110, 105, 108]⟩ (by show l.length + 3 ≤ _; omega) (by simp; omega)
    go_enter Try.func47, Try.ntmps47
    go_wp2_with (at_builtin; refine wpList_app rfl (.tmp 25) (.const (.string ⟨#[110, 105, 108]⟩)) _ _ rfl _ _ rfl rfl _ hrun ?_; intro v1 w1 hA1)
    go_ret
    exact ⟨v1, rfl, AppP.from hA1⟩
  by_cases h9 : k = 9
  · subst h9
    have hX : txt (.mk 9 p n la lr) = n.data.toList := by rw [txt_mk]; rfl
    rw [hX]
    have hrun := app_string (w := w.alloc (.cells #[.int .i64 9, .string p, .string n, .slice A la.length c, .slice B lr.length d] 26)) (HO.out.alloc _) 79 n (by omega) (by simp; omega)
    go_enter Try.func47, Try.ntmps47
    go_wp2_with (at_builtin; refine wpList_app rfl (.tmp 53) (.tmp 55) _ _ rfl _ _ rfl rfl _ hrun ?_; intro v1 w1 hA1)
    go_ret
    exact ⟨v1, rfl, AppP.from hA1⟩
  by_cases h8 : k = 8
  · subst h8
    have hX : txt (.mk 8 p n la lr) = p.data.toList ++ ([46] ++ n.data.toList) := by rw [txt_mk]; rfl
    rw [hX]
    have HD := Lib.hid (declared_any (w.alloc (.cells #[.int .i64 8, .string p, .string n, .slice A la.length c, .slice B lr.length d] 26)) base v l 8 p n A B la lr c d (by simp; omega) (HO.out.alloc _) (by omega))
    go_enter Try.func47, Try.ntmps47
    go_wp2_with (go_at_call 62; refine HD.out.mono ?_; rintro e w5 ⟨v5, rfl, hA5⟩)
    go_ret
    exact ⟨v5, rfl, AppP.from hA5⟩
  by_cases h7 : k = 7
  · subst h7
    have hX : txt (.mk 7 p n la lr) = [102, 117, 110, 99, 40] ++ (txtJ la ++ ([41] ++ (if lr.length = 0 then [] else [32] ++ txtF lr))) := by rw [txt_mk]; rfl
    have HD := wfunc_any N ih 7 p n la lr (by omega) hN (w.alloc (.cells #[.int .i64 7, .string p, .string n, .slice A la.length c, .slice B lr.length d] 26)) base F v l A B c d (HA.out.bel ((Below.refl _ w).alloc (Nat.le_refl _) _)) (HB.out.bel ((Below.refl _ w).alloc (Nat.le_refl _) _)) hF (by simp; omega) (HO.out.alloc _) (by omega)
    rw [← hX] at HD
    obtain ⟨X, hXX⟩ : ∃ X, l ++ txt (.mk 7 p n la lr) = X := ⟨_, rfl⟩
    rw [hXX] at HD ⊢
    have HD := Lib.hid HD
    clear hX hXX
    go_enter Try.func47, Try.ntmps47
    go_wp2_with (go_at_call 64; refine HD.out.mono ?_; rintro e w5 ⟨v5, rfl, hA5⟩)
    go_ret
    exact ⟨v5, rfl, AppP.from hA5⟩
  by_cases h5 : k = 5
  · subst h5
    have hX : txt (.mk 5 p n la lr) = [42] ++ (p.data.toList ++ ([46] ++ n.data.toList)) := by rw [txt_mk]; rfl
    rw [hX]
    go_enter Try.func47, Try.ntmps47
    go_wp2
    have hbx0 : Blk (w.alloc (.cells #[.int .i64 5, .string p, .string n, .slice A la.length c, .slice B lr.length d] 26)).drew w.heap.size 26 #[.int .i64 5, .string p, .string n, .slice A la.length c, .slice B lr.length d] := (Blk.new _ _ _).drew
    refine wp_region_held_drew (S := fun W => Blk W w.heap.size 26 #[.int .i64 5, .string p, .string n, .slice A la.length c, .slice B lr.length d]) (by kernel_rfl) hbx0 (fun hS0 => ?_)
    refine wpAnyH_take (i := 0) (v := v) rfl (by kernel_rfl) (by kernel_rfl) (by kernel_rfl) (fun _ _ _ h => h) (Or.inl ⟨rfl, fun w' hS => by (unfold execOp; go_simp)⟩) hS0 ?_
    simp only [Act.put, List.getElem_toArray, List.getElem_cons_zero, List.getElem_cons_succ, List.setIfInBounds_toArray, List.set_cons_zero, List.set_cons_succ]
    refine wpAnyH_take (i := 3) (v := .agg #[.int .i64 5, .string p, .string n, .slice A la.length c, .slice B lr.length d]) rfl (by kernel_rfl) (by kernel_rfl) (by kernel_rfl) (fun _ _ _ h => h) (Or.inl ⟨rfl, fun w' hS => by (have z0 := hS.cell 0; have z1 := hS.cell 1; have z2 := hS.cell 2; have z3 := hS.cell 3; have z4 := hS.cell 4; have zl := hS.lt; unfold execOp; go_simp)⟩) hS0 ?_
    simp only [Act.put, List.getElem_toArray, List.getElem_cons_zero, List.getElem_cons_succ, List.setIfInBounds_toArray, List.set_cons_zero, List.set_cons_succ]
    have ho1 : (w.alloc (.cells #[.int .i64 5, .string p, .string n, .slice A la.length c, .slice B lr.length d] 26)).drew.ownsRow base 5 1 v l.length (l.map byteV) := HO.out.alloc _
    have hsz1 : (w.alloc (.cells #[.int .i64 5, .string p, .string n, .slice A la.length c, .slice B lr.length d] 26)).drew.heap.size = w.heap.size + 1 := by show (w.alloc _).heap.size = _; simp
    refine wpAnyH_one (i := 1) (by kernel_rfl) rfl rfl (op_val (v := .slice (some ⟨w.heap.size + 1, 0, none⟩) 1 1) (w' := ((w.alloc (.cells #[.int .i64 5, .string p, .string n, .slice A la.length c, .slice B lr.length d] 26)).drew).alloc (.cells #[.int .u8 42] 5)) (by unfold execOp; go_simp) (And.intro (hbx0.alloc _) ?_))
    simp only [Act.put, List.getElem_toArray, List.getElem_cons_zero, List.getElem_cons_succ, List.setIfInBounds_toArray, List.set_cons_zero, List.set_cons_succ]
    have hbq : Blk (((w.alloc (.cells #[.int .i64 5, .string p, .string n, .slice A la.length c, .slice B lr.length d] 26)).drew).alloc (.cells #[.int .u8 42] 5)) (w.heap.size + 1) 5 #[.int .u8 (42 : UInt8).toNat] := Blk.new_at (by rw [hsz1])
    refine wpAnyH_one (i := 2) (by kernel_rfl) rfl rfl (op_app (.tmp 29) (.tmp 30) _ _ rfl _ _ rfl rfl _ (app_one (ho1.alloc _) 79 (w.heap.size + 1) 42 hbq (by omega) (by simp only [World.size_alloc, hsz1]; omega)) ?_)
    intro v2 w2 hA2
    have hbx2 := hA2.blk (hbx0.alloc _) hne0
    refine And.intro hbx2 ?_
    simp only [Act.put, List.getElem_toArray, List.getElem_cons_zero, List.getElem_cons_succ, List.setIfInBounds_toArray, List.set_cons_zero, List.set_cons_succ]
    have hs2 := hA2.size
    simp only [World.size_alloc, hsz1] at hs2
    have hq2 := hA2.far (g := w.heap.size) (by simp only [World.size_alloc, hsz1]; omega) hne0
    have hA2 := AppP.from (AppP.drewF (AppP.from hA2))
    refine wpAnyH_one (i := 4) (by kernel_rfl) rfl rfl (op_call (args := #[v2, .agg #[.int .i64 5, .string p, .string n, .slice A la.length c, .slice B lr.length d]]) (f := 62) (by unfold execOp; go_simp) ((declared_any w2 base v2 _ 5 p n A B la lr c d (by omega) hA2.own (by simp only [List.length_append, List.length_cons, List.length_nil]; omega)).mono ?_))
    rintro e w5 ⟨v5, rfl, hA5⟩
    have hne2 : v2.ownBlock ≠ some w.heap.size := hq2
    refine And.intro (hA5.blk hbx2 hne2) ?_
    simp only [Act.put, List.getElem_toArray, List.getElem_cons_zero, List.getElem_cons_succ, List.setIfInBounds_toArray, List.set_cons_zero, List.set_cons_succ]
    refine wpAnyH_one (i := 5) (by kernel_rfl) rfl rfl (op_val (v := v5) (by unfold execOp; go_simp) (And.intro (hA5.blk hbx2 hne2) ?_))
    simp only [Act.put, List.getElem_toArray, List.getElem_cons_zero, List.getElem_cons_succ, List.setIfInBounds_toArray, List.set_cons_zero, List.set_cons_succ]
    refine wpAnyH_done (by kernel_rfl) ?_ _
    go_wp2
    go_ret
    exact ⟨v5, rfl, by simpa [List.append_assoc] using hA2.trans hA5⟩
  by_cases h6 : k = 6
  · subst h6
    have hX : txt (.mk 6 p n la lr) = [91, 93] ++ txtF la := by rw [txt_mk]; rfl
    rw [hX]
    go_enter Try.func47, Try.ntmps47
    go_wp2
    have hbx0 : Blk (w.alloc (.cells #[.int .i64 6, .string p, .string n, .slice A la.length c, .slice B lr.length d] 26)).drew w.heap.size 26 #[.int .i64 6, .string p, .string n, .slice A la.length c, .slice B lr.length d] := (Blk.new _ _ _).drew
    refine wp_region_held_drew (S := fun W => Blk W w.heap.size 26 #[.int .i64 6, .string p, .string n, .slice A la.length c, .slice B lr.length d]) (by kernel_rfl) hbx0 (fun hS0 => ?_)
    refine wpAnyH_take (i := 0) (v := v) rfl (by kernel_rfl) (by kernel_rfl) (by kernel_rfl) (fun _ _ _ h => h) (Or.inl ⟨rfl, fun w' hS => by (unfold execOp; go_simp)⟩) hS0 ?_
    simp only [Act.put, List.getElem_toArray, List.getElem_cons_zero, List.getElem_cons_succ, List.setIfInBounds_toArray, List.set_cons_zero, List.set_cons_succ]
    refine wpAnyH_take (i := 2) (v := .pointer (some ⟨w.heap.size, 3, none⟩)) rfl (by kernel_rfl) (by kernel_rfl) (by kernel_rfl) (fun _ _ _ h => h) (Or.inl ⟨rfl, fun w' hS => by (unfold execOp; go_simp)⟩) hS0 ?_
    simp only [Act.put, List.getElem_toArray, List.getElem_cons_zero, List.getElem_cons_succ, List.setIfInBounds_toArray, List.set_cons_zero, List.set_cons_succ]
    refine wpAnyH_take (i := 3) (v := .slice A la.length c) rfl (by kernel_rfl) (by kernel_rfl) (by kernel_rfl) (fun _ _ _ h => h) (Or.inl ⟨rfl, fun w' hS => by (have z0 := hS.cell 3; have zl := hS.lt; unfold execOp; go_simp)⟩) hS0 ?_
    simp only [Act.put, List.getElem_toArray, List.getElem_cons_zero, List.getElem_cons_succ, List.setIfInBounds_toArray, List.set_cons_zero, List.set_cons_succ]
    have ho1 : (w.alloc (.cells #[.int .i64 6, .string p, .string n, .slice A la.length c, .slice B lr.length d] 26)).drew.ownsRow base 5 1 v l.length (l.map byteV) := HO.out.alloc _
    have hsz1 : (w.alloc (.cells #[.int .i64 6, .string p, .string n, .slice A la.length c, .slice B lr.length d] 26)).drew.heap.size = w.heap.size + 1 := by show (w.alloc _).heap.size = _; simp
    refine wpAnyH_one (i := 1) (by kernel_rfl) rfl rfl (op_app (.tmp 41) (.const (.string ⟨#[91, 93]⟩)) _ _ rfl _ _ rfl rfl _ (app_string ho1 79 ⟨#[91, 93]⟩ (by show l.length + 2 ≤ _; omega) (by rw [hsz1]; omega)) ?_)
    intro v2 w2 hA2
    have hbx2 := hA2.blk hbx0 hne0
    have hs2 := hA2.size
    rw [hsz1] at hs2
    have hne2 : v2.ownBlock ≠ some w.heap.size := hA2.far (by rw [hsz1]; omega) hne0
    have hA2 := AppP.from (AppP.drewF hA2)
    refine And.intro hbx2 ?_
    simp only [Act.put, List.getElem_toArray, List.getElem_cons_zero, List.getElem_cons_succ, List.setIfInBounds_toArray, List.set_cons_zero, List.set_cons_succ]
    refine wpAnyH_one (i := 4) (by kernel_rfl) rfl rfl (op_call (args := #[v2, .slice A la.length c]) (f := 63) (by unfold execOp; go_simp) ((wfirst_any N ih la (by omega) w2 base F v2 _ A c (hA2.sl hlv hF HA.out) hF (by omega) hA2.own (by simp only [List.length_append]; show l.length + 2 + _ ≤ _; omega)).mono ?_))
    rintro e w5 ⟨v5, rfl, hA5⟩
    refine And.intro (hA5.blk hbx2 hne2) ?_
    simp only [Act.put, List.getElem_toArray, List.getElem_cons_zero, List.getElem_cons_succ, List.setIfInBounds_toArray, List.set_cons_zero, List.set_cons_succ]
    refine wpAnyH_one (i := 5) (by kernel_rfl) rfl rfl (op_val (v := v5) (by unfold execOp; go_simp) (And.intro (hA5.blk hbx2 hne2) ?_))
    simp only [Act.put, List.getElem_toArray, List.getElem_cons_zero, List.getElem_cons_succ, List.setIfInBounds_toArray, List.set_cons_zero, List.set_cons_succ]
    refine wpAnyH_done (by kernel_rfl) ?_ _
    go_wp2
    go_ret
    exact ⟨v5, rfl, by have := hA2.trans hA5; rw [List.append_assoc] at this; exact this⟩
  have hX : txt (.mk k p n la lr) = [] := by rw [txt_mk, if_neg h0, if_neg h1, if_neg h2, if_neg h3, if_neg h4, if_neg h5, if_neg h8, if_neg h6, if_neg h7, if_neg h9]
  rw [hX, List.append_nil]
  have e0 : (k == 0) = false := by simpa using h0
  have e1 : (k == 1) = false := by simpa using h1
  have e2 : (k == 2) = false := by simpa using h2
  have e3 : (k == 3) = false := by simpa using h3
  have e4 : (k == 4) = false := by simpa using h4
  have e5 : (k == 5) = false := by simpa using h5
  have e6 : (k == 6) = false := by simpa using h6
  have e7 : (k == 7) = false := by simpa using h7
  have e8 : (k == 8) = false := by simpa using h8
  have e9 : (k == 9) = false := by simpa using h9
  clear h0 h1 h2 h3 h4 h5 h6 h7 h8 h9 hX
  go_enter Try.func47, Try.ntmps47
  go_wp2
  go_ret
  exact ⟨v, rfl, AppP.alloc_ (AppP.here HO.out) _⟩
theorem written_all : ∀ N : Nat, N ≤ 2000000 → WC N
  | 0, _ => fun t h => by have := count_pos t; omega
  | N + 1, h => written_step N (written_all N (by omega)) (by omega)
set_option maxRecDepth 100000 in
set_option maxHeartbeats 2000000 in
theorem text_any (t : Ty) (ht : t.sz ≤ 1500000) (w : World) (F : Nat → Prop) (vs : List Value) (hr : RT w F t vs) (hF : ∀ g, F g → g < w.heap.size) :
    Calls Try.prog 23 #[.agg vs.toArray] w fun e w' => e = .returned (.string (bs (txt t))) ∧ Below w.heap.size w w' := by
  have hc := count_sz t
  obtain ⟨k, p, n, A, m, c, B, l, d, rfl⟩ := hr.shape
  have HI := Lib.hid (written_all 1500000 (by omega) t (by omega) (w.alloc (.cells #[.int .i64 k, .string p, .string n, .slice A m c, .slice B l d] 26)) w.heap.size F _ (.slice none 0 0) [] (hr.bel ((Below.refl _ w).alloc (Nat.le_refl _) _)) hF (by simp) (World.ownsRow_nil _ _ _ 1) (by simp; omega))
  clear hr
  show Calls Try.prog 23 #[.agg #[.int .i64 k, .string p, .string n, .slice A m c, .slice B l d]] w _
  go_enter Try.func23, Try.ntmps23
  go_wp2_with (go_at_call 47; refine HI.out.mono ?_; rintro e w5 ⟨v5, rfl, hA5⟩; have hcv := own_string hA5.own; simp only [List.nil_append] at hcv)
  go_ret
  refine ⟨rfl, ((Below.refl _ w).alloc (Nat.le_refl _) _).trans (Gr.belowN hA5.2.1 (by simp) (by intro q h1 h2; simp [Value.ownBlock] at h2))⟩
end Go.Proofs.Ytcfgjfahjaimiaa
