/-
  Parameters and what is handed to them: the search's pair.
-/
import Derived.Test.YtcfgjfahjaimiaaTyL
namespace Go.Proofs.Ytcfgjfahjaimiaa
open Go.RowKit
set_option linter.unusedVariables false
set_option linter.unusedSimpArgs false

theorem three_bel (w : World) (a b c : Obj) : Below w.heap.size w (((w.alloc a).alloc b).alloc c) := (((Below.refl _ w).alloc (Nat.le_refl _) _).alloc (by simp) _).alloc (by simp; omega) _
set_option maxRecDepth 100000 in
set_option maxHeartbeats 2000000 in
theorem pair_step (l : List ByteArray) (hll : l.length ≤ 100000) (N : Nat) (ih : PC l N) (hN : N ≤ 2000000) : PC l (N + 1) := by
  rintro ⟨k, p, n, la, lr⟩ ⟨k', p', n', la', lr'⟩ hct hsz hct2 w F F' m g cc fd vs us hsc hr hF hF' hr'
  rw [count_mk] at hct
  rw [mx_mk] at hsz
  rw [count_mk] at hct2
  obtain ⟨A, c, B, d, rfl, ha, hb⟩ := hr.openL
  obtain ⟨A', c', B', d', rfl, ha', hb'⟩ := hr'.openL
  rw [pairT_mk]
  have hgl := hsc.2.2.2.lt
  show Calls Try.prog 42 #[.agg #[.map (some m), .slice (some ⟨g, 0, none⟩) l.length cc], .agg #[.int .i64 k, .string p, .string n, .slice A la.length c, .slice B lr.length d], .agg #[.int .i64 k', .string p', .string n', .slice A' la'.length c', .slice B' lr'.length d']] w _
  by_cases h9 : k = 9
  · subst h9
    rw [if_pos rfl]
    have HT := Lib.hid (fun w' (h : Below w.heap.size w w') => take_any w' F' m g cc l fd n _ _ (hsc.bel h).1 hll hsc.2.2.1 (hsc.bel h).2.2.2 hsc.2.1 (by omega) (hr'.bel h))
    rw [hsc.2.2.1] at HT
    obtain ⟨tt, htt⟩ : ∃ x, takeP l fd n (.mk k' p' n' la' lr') = x := ⟨_, rfl⟩
    rw [htt] at HT ⊢
    clear hsc hr hr' ha hb ha' hb' htt ih
    go_enter Try.func42, Try.ntmps42
    go_wp2_with (go_at_call 61; refine (HT.out _ (three_bel w _ _ _)).mono ?_; rintro e w5 ⟨rfl, hf5, hg5⟩)
    go_ret
    exact ⟨rfl, hf5, (Gr.of_below (three_bel w _ _ _)).trans (hg5.mono (fun _ _ h => h))⟩
  · rw [if_neg h9]
    have h9b : (k == 9) = false := by simpa using h9
    by_cases hk : k = k'
    · subst hk
      by_cases h6 : k = 6 ∨ k = 7
      · rw [if_pos ⟨rfl, h6⟩]
        have H1 := Lib.hid (fun w' (h : Below w.heap.size w w') => pairs_pair l N ih hN la la' (by omega) (by omega) w' F F' m g cc fd A A' c c' (hsc.bel h) (ha.bel h) hF hF' (ha'.bel h) (by omega))
        have hlen1 := pairL_len l la la' fd
        obtain ⟨t1, ht1⟩ : ∃ x, pairL l la la' fd = x := ⟨_, rfl⟩
        rw [ht1] at H1 hlen1 ⊢
        obtain ⟨b1, f1⟩ := t1
        have H2 := Lib.hid (fun w' (h : Gr (fun x => x = g) w w') (hf : Fd w' F' g f1) => pairs_pair l N ih hN lr lr' (by omega) (by omega) w' F F' m g cc f1 B B' d d' (hsc.gr h hf hlen1) (hb.gr h hF) hF hF' (hb'.gr h hF') (by omega))
        have hT : thenP (b1, f1) (fun fd1 => pairL l lr lr' fd1) = if b1 = true then pairL l lr lr' f1 else (b1, f1) := rfl
        rw [hT]
        obtain ⟨t2, ht2⟩ : ∃ x, pairL l lr lr' f1 = x := ⟨_, rfl⟩
        rw [ht2] at H2 ⊢
        obtain ⟨b2, f2⟩ := t2
        have HG := Lib.hid hgl
        clear hsc hr hr' ha hb ha' hb' h9 ih hT ht1 ht2 hlen1
        cases b1 with
        | false =>
          rw [if_neg (by simp)]
          rcases h6 with h6 | h7
          · subst h6
            go_enter Try.func42, Try.ntmps42
            go_wp2_with (first | (go_at_call 41; ((with_reducible refine (H1.out _ (three_bel w _ _ _)).mono ?_); rintro e w5 ⟨rfl, hf5, hg5⟩; have hB5 := (Gr.of_below (three_bel w _ _ _)).trans hg5; have hb0 : Blk w5 w.heap.size 72 #[.map (some m), .slice (some ⟨g, 0, none⟩) l.length cc] := hg5.blk (((Blk.new w 72 _).alloc _).alloc _) (by have := HG.out; omega); have hb1 : Blk w5 (w.heap.size + 1) 26 #[.int .i64 6, .string p, .string n, .slice A la.length c, .slice B lr.length d] := hg5.blk ((Blk.new_at (w := (w.alloc (.cells #[.map (some m), .slice (some ⟨g, 0, none⟩) l.length cc] 72))) (by simp)).alloc _) (by have := HG.out; omega); have hb2 : Blk w5 (w.heap.size + 2) 26 #[.int .i64 6, .string p', .string n', .slice A' la'.length c', .slice B' lr'.length d'] := hg5.blk (Blk.new_at (w := ((w.alloc (.cells #[.map (some m), .slice (some ⟨g, 0, none⟩) l.length cc] 72)).alloc (.cells #[.int .i64 6, .string p, .string n, .slice A la.length c, .slice B lr.length d] 26))) (by simp)) (by have := HG.out; omega); have x0 := hb0.cell 0; have x1 := hb0.cell 1; have y4 := hb1.cell 4; have z4 := hb2.cell 4; have xl := hb0.lt; have yl := hb1.lt; have zl := hb2.lt)))
            go_ret
            exact ⟨rfl, hf5, hB5⟩
          · subst h7
            go_enter Try.func42, Try.ntmps42
            go_wp2_with (first | (go_at_call 41; ((with_reducible refine (H1.out _ (three_bel w _ _ _)).mono ?_); rintro e w5 ⟨rfl, hf5, hg5⟩; have hB5 := (Gr.of_below (three_bel w _ _ _)).trans hg5; have hb0 : Blk w5 w.heap.size 72 #[.map (some m), .slice (some ⟨g, 0, none⟩) l.length cc] := hg5.blk (((Blk.new w 72 _).alloc _).alloc _) (by have := HG.out; omega); have hb1 : Blk w5 (w.heap.size + 1) 26 #[.int .i64 7, .string p, .string n, .slice A la.length c, .slice B lr.length d] := hg5.blk ((Blk.new_at (w := (w.alloc (.cells #[.map (some m), .slice (some ⟨g, 0, none⟩) l.length cc] 72))) (by simp)).alloc _) (by have := HG.out; omega); have hb2 : Blk w5 (w.heap.size + 2) 26 #[.int .i64 7, .string p', .string n', .slice A' la'.length c', .slice B' lr'.length d'] := hg5.blk (Blk.new_at (w := ((w.alloc (.cells #[.map (some m), .slice (some ⟨g, 0, none⟩) l.length cc] 72)).alloc (.cells #[.int .i64 7, .string p, .string n, .slice A la.length c, .slice B lr.length d] 26))) (by simp)) (by have := HG.out; omega); have x0 := hb0.cell 0; have x1 := hb0.cell 1; have y4 := hb1.cell 4; have z4 := hb2.cell 4; have xl := hb0.lt; have yl := hb1.lt; have zl := hb2.lt)))
            go_ret
            exact ⟨rfl, hf5, hB5⟩
        | true =>
          rw [if_pos rfl]
          rcases h6 with h6 | h7
          · subst h6
            go_enter Try.func42, Try.ntmps42
            go_wp2_with (first | (go_at_call 41; ((with_reducible refine (H1.out _ (three_bel w _ _ _)).mono ?_); rintro e w5 ⟨rfl, hf5, hg5⟩; have hB5 := (Gr.of_below (three_bel w _ _ _)).trans hg5; have hb0 : Blk w5 w.heap.size 72 #[.map (some m), .slice (some ⟨g, 0, none⟩) l.length cc] := hg5.blk (((Blk.new w 72 _).alloc _).alloc _) (by have := HG.out; omega); have hb1 : Blk w5 (w.heap.size + 1) 26 #[.int .i64 6, .string p, .string n, .slice A la.length c, .slice B lr.length d] := hg5.blk ((Blk.new_at (w := (w.alloc (.cells #[.map (some m), .slice (some ⟨g, 0, none⟩) l.length cc] 72))) (by simp)).alloc _) (by have := HG.out; omega); have hb2 : Blk w5 (w.heap.size + 2) 26 #[.int .i64 6, .string p', .string n', .slice A' la'.length c', .slice B' lr'.length d'] := hg5.blk (Blk.new_at (w := ((w.alloc (.cells #[.map (some m), .slice (some ⟨g, 0, none⟩) l.length cc] 72)).alloc (.cells #[.int .i64 6, .string p, .string n, .slice A la.length c, .slice B lr.length d] 26))) (by simp)) (by have := HG.out; omega); have x0 := hb0.cell 0; have x1 := hb0.cell 1; have y4 := hb1.cell 4; have z4 := hb2.cell 4; have xl := hb0.lt; have yl := hb1.lt; have zl := hb2.lt)) | (go_at_call 41; ((with_reducible refine (H2.out _ hB5 hf5).mono ?_); rintro e w6 ⟨rfl, hf6, hg6⟩)))
            go_ret
            exact ⟨rfl, hf6, hB5.trans hg6⟩
          · subst h7
            go_enter Try.func42, Try.ntmps42
            go_wp2_with (first | (go_at_call 41; ((with_reducible refine (H1.out _ (three_bel w _ _ _)).mono ?_); rintro e w5 ⟨rfl, hf5, hg5⟩; have hB5 := (Gr.of_below (three_bel w _ _ _)).trans hg5; have hb0 : Blk w5 w.heap.size 72 #[.map (some m), .slice (some ⟨g, 0, none⟩) l.length cc] := hg5.blk (((Blk.new w 72 _).alloc _).alloc _) (by have := HG.out; omega); have hb1 : Blk w5 (w.heap.size + 1) 26 #[.int .i64 7, .string p, .string n, .slice A la.length c, .slice B lr.length d] := hg5.blk ((Blk.new_at (w := (w.alloc (.cells #[.map (some m), .slice (some ⟨g, 0, none⟩) l.length cc] 72))) (by simp)).alloc _) (by have := HG.out; omega); have hb2 : Blk w5 (w.heap.size + 2) 26 #[.int .i64 7, .string p', .string n', .slice A' la'.length c', .slice B' lr'.length d'] := hg5.blk (Blk.new_at (w := ((w.alloc (.cells #[.map (some m), .slice (some ⟨g, 0, none⟩) l.length cc] 72)).alloc (.cells #[.int .i64 7, .string p, .string n, .slice A la.length c, .slice B lr.length d] 26))) (by simp)) (by have := HG.out; omega); have x0 := hb0.cell 0; have x1 := hb0.cell 1; have y4 := hb1.cell 4; have z4 := hb2.cell 4; have xl := hb0.lt; have yl := hb1.lt; have zl := hb2.lt)) | (go_at_call 41; ((with_reducible refine (H2.out _ hB5 hf5).mono ?_); rintro e w6 ⟨rfl, hf6, hg6⟩)))
            go_ret
            exact ⟨rfl, hf6, hB5.trans hg6⟩
      · rw [if_neg (fun h => h6 h.2)]
        have h6b : (k == 6) = false := by simp; omega
        have h7b : (k == 7) = false := by simp; omega
        have HS := Lib.hid hsc
        clear hsc hr hr' ha hb ha' hb' h6 h9 ih
        go_enter Try.func42, Try.ntmps42
        go_wp2
        go_ret
        exact ⟨rfl, HS.out.2.2.2.bel (three_bel w _ _ _), Gr.of_below (three_bel w _ _ _)⟩
    · rw [if_neg (fun h => hk h.1)]
      have hkb : (k == k') = false := by simpa using hk
      have HS := Lib.hid hsc
      clear hsc hr hr' ha hb ha' hb' hk h9 ih
      go_enter Try.func42, Try.ntmps42
      go_wp2
      go_ret
      exact ⟨rfl, HS.out.2.2.2.bel (three_bel w _ _ _), Gr.of_below (three_bel w _ _ _)⟩
theorem pair_all (l : List ByteArray) (hll : l.length ≤ 100000) : ∀ N : Nat, N ≤ 2000000 → PC l N
  | 0, _ => fun a b h => by have := count_pos a; omega
  | N + 1, h => pair_step l hll N (pair_all l hll N (by omega)) (by omega)
end Go.Proofs.Ytcfgjfahjaimiaa

