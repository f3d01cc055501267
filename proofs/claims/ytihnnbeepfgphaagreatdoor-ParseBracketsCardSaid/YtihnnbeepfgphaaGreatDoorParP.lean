/-
  A text, parsed: walks.
-/
import Derived.Test.YtihnnbeepfgphaaGreatDoorParZ
import Derived.Test.YtihnnbeepfgphaaGreatDoorParP1
namespace Go.Proofs.YtihnnbeepfgphaaGreatDoor
open Go.RowKit
set_option linter.unusedVariables false
set_option linter.unusedSimpArgs false

theorem Gr.belowN {S : Nat → Prop} {w w' : World} {B : Nat} (h : Gr S w w') (hB : B ≤ w.heap.size) (hs : ∀ k, k < B → ¬ S k) : Below B w w' :=
  ⟨h.os, h.tape, h.output, h.size, fun k hk => h.block k (by omega) (hs k hk)⟩
theorem Rep.belW {w w' : World} {F : Nat → Prop} {t : Tr} {vs : List Value} (h : Rep w F t vs) (hb : Below w.heap.size w w') : Rep w' F t vs :=
  Rep.keep (fun g _ hg => hb.block g hg) hb.size (fun g _ h => h) _ _ h
set_option maxRecDepth 100000 in
set_option maxHeartbeats 2000000 in
theorem ptext_ok (s : ByteArray) (ts : List T) (P : Nat) (w : World) (ht : ErrT w) (h : lexD s.data.toList = (ts, 0, 0)) (hP : gd P ts) :
    Calls Tryz.prog 13 #[.string s] w (ParseP w (parseT ts)) := by
  obtain ⟨hgood, hnums, hlen⟩ := lexD_good h
  have hne : ts ≠ [] := by rintro rfl; exact hgood
  have HT := Lib.hid ht
  have HH := Lib.hid h
  have hmf : ∀ (fn : Fn) (first cap : Array Value) (w : World), (Instr.makeFunc fn first cap).run Tryz.prog w = .ok (.func fn first cap) w := fun _ _ _ _ => rfl
  have HF := Lib.hid (file_any (10 * ts.length) (by unfold LIM; omega))
  clear ht h
  go_enter_defers Tryz.func13, Tryz.ntmps13
  go_wp2_with (go_at_call 18; refine (lex_toks _ ts _ (((HT.out.alloc _).alloc _).alloc _) hne HH.out).mono ?_; rintro e w1 ⟨g, c, rfl, hb1, hgc, htk⟩; have hs1 : w.heap.size + 3 ≤ w1.heap.size := (by have := hb1.size; simpa using this); have hb_z1 : Blk w1 (w.heap.size) 28 #[.int .i64 0, .int .i64 0, .int .i64 0, .string ⟨#[]⟩, .string ⟨#[]⟩, .int .i64 0, .slice none 0 0] := Blk.bel bkA hb1; have hb_i1 : Blk w1 (w.heap.size + 1) 3 #[.int .i64 0] := Blk.bel bkA hb1; have hb_e1 : Blk w1 (w.heap.size + 2) 29 #[.int .i64 0] := Blk.bel bkA hb1; have q1 := hb_i1.cell 0; have f1 := hb_i1.frozen 0; have q2 := hb_e1.cell 0; have f2 := hb_e1.frozen 0)
  have nz1 : w.heap.size ≠ w.heap.size + 1 := by omega
  have nz2 : w.heap.size ≠ w.heap.size + 1 + 1 := by omega
  have nz3 : w.heap.size + 1 ≠ w.heap.size + 1 + 1 := by omega
  have hg1 : g ≠ w.heap.size + 1 := by
    rintro rfl
    obtain ⟨x, r, rfl⟩ := List.exists_cons_of_ne_nil hne
    have h1 := (htk.cell 0 x rfl).2.1
    have h2 := hb_i1.cell 1
    rw [h1] at h2
    cases h2
  have hg2 : g ≠ w.heap.size + 1 + 1 := by
    rintro rfl
    obtain ⟨x, r, rfl⟩ := List.exists_cons_of_ne_nil hne
    have h1 := (htk.cell 0 x rfl).2.1
    have h2 := hb_e1.cell 1
    rw [h1] at h2
    cases h2
  obtain ⟨V, hV⟩ : ∃ V, V = (w1.setCell ⟨w.heap.size + 1, 0, none⟩ (.int .i64 0)).setCell ⟨w.heap.size + 1 + 1, 0, none⟩ (.int .i64 0) := ⟨_, rfl⟩
  have v2 : Blk V w.heap.size 28 #[.int .i64 0, .int .i64 0, .int .i64 0, .string ⟨#[]⟩, .string ⟨#[]⟩, .int .i64 0, .slice none 0 0] := by rw [hV]; exact Blk.far (Blk.far hb_z1 nz1 _) nz2 _
  have v3 : Blk V (w.heap.size + 1) 3 #[.int .i64 0] := by rw [hV]; exact Blk.far (hb_i1.set_ 0 (.int .i64 0)) nz3 _
  have v4 : Blk V (w.heap.size + 1 + 1) 29 #[.int .i64 0] := by rw [hV]; exact (Blk.far (p := ⟨w.heap.size + 1, 0, none⟩) hb_e1 nz3.symm (.int .i64 0)).set_ 0 (.int .i64 0)
  have hB : Below w.heap.size w V := by rw [hV]; exact ((((((Below.refl _ w).alloc (Nat.le_refl _) _).alloc (by simp) _).alloc (by simp; omega) _).trans (hb1.mono (by simp; omega))).setCell (by simp) _).setCell (by simp; omega) _
  have vT : Toks V g ts := by rw [hV]; exact Toks.gr htk ((Gr.setCell (S := fun q => q = w.heap.size + 1 ∨ q = w.heap.size + 1 + 1) (Gr.refl w1) (.inr (.inl rfl)) _).setCell (.inr (.inr rfl)) _) (by rintro (h | h); exact hg1 h; exact hg2 h)
  have hsz : V.heap.size = w1.heap.size := by rw [hV]; simp
  rw [← hV, ← hsz]
  have hgV := vT.lt
  have hPS : PS ⟨V.heap.size, g, c, ts⟩ (V.alloc (.cells #[.slice (some ⟨g, 0, none⟩) ts.length c, .int .i64 0, .int .i64 0] 53)) ts 0 := by
    refine ⟨?_, vT.below ((Below.refl _ _).alloc (Nat.le_refl _) _), Nat.ne_of_lt hgV, hgood, List.suffix_refl _, by omega, hlen, hnums⟩
    have e : psC ⟨V.heap.size, g, c, ts⟩ ts 0 = #[.slice (some ⟨g, 0, none⟩) ts.length c, .int .i64 0, .int .i64 0] := by simp [psC]
    rw [e]
    exact Blk.new _ _ _
  have hout := (file_fine hP).out
  have hq : bnd (go (10 * ts.length + 1) .file ts 0) R.ok = go (10 * ts.length + 1) .file ts 0 := by
    cases go (10 * ts.length + 1) .file ts 0 <;> rfl
  have hl2 := v2.lt
  have hl3 := v3.lt
  have hl4 := v4.lt
  clear hV hb_z1 hb_i1 hb_e1 q1 f1 q2 f2 hb1 htk hsz hs1 hgc
  refine (HF.out ⟨V.heap.size, g, c, ts⟩ _ ts 0 R.ok _ hPS hq hout).mono ?_
  obtain ⟨r, hr⟩ : ∃ r, go (10 * ts.length + 1) .file ts 0 = r := ⟨_, rfl⟩
  have hpb : ∀ a k, r = .bad a k → parseT ts = .fault a k := fun a k h => by unfold parseT; rw [hr, h]
  have hpo : ∀ t l, r = .ok t l → parseT ts = if 3000 < t.nodes then .fault 0 2 else if 100 < t.deep then .fault 0 3 else .tree t := fun t l h => by unfold parseT; rw [hr, h]
  have hnf : ∀ t l, r = .ok t l → t.nodes ≤ 2 * ts.length := fun t l e => nodes_file (hr.trans e)
  rw [hr]
  rintro e w2 ⟨hg2, ⟨a, k, hbad, rfl⟩ | ⟨k, op, n, p, t, a, ks, A, c2, l, rfl, hok, hkid, hlk, hP2⟩⟩
  · have HPB := hpb _ _ hbad
    clear hr hpo hnf hpb
    have hg2 : Gr (· = V.heap.size) _ w2 := hg2
    subst hbad
    rw [HPB]
    have y2 : Blk w2 w.heap.size 28 #[.int .i64 0, .int .i64 0, .int .i64 0, .string ⟨#[]⟩, .string ⟨#[]⟩, .int .i64 0, .slice none 0 0] := (v2.alloc _).gr hg2 (Nat.ne_of_lt hl2)
    have y3 : Blk w2 (w.heap.size + 1) 3 #[.int .i64 0] := (v3.alloc _).gr hg2 (Nat.ne_of_lt hl3)
    have y4 : Blk w2 (w.heap.size + 1 + 1) 29 #[.int .i64 0] := (v4.alloc _).gr hg2 (Nat.ne_of_lt hl4)
    have hB2 : Below w.heap.size w w2 := (hB.alloc hB.size _).trans (Gr.belowN hg2 (by simp; omega) (by intro q h1 h2; omega))
    refine leave_gave _ w.heap.size (w.heap.size + 1) (w.heap.size + 1 + 1) 0 0 a k _ w2 w.heap.size rfl rfl rfl y2 ⟨_, _, _, _, _, _, _, rfl⟩ y3 y4 (Nat.le_refl _) (by omega) (by omega) fun w' hb => ⟨hB2.trans hb, .inr ⟨a, k, rfl, rfl⟩⟩
  · have hnf := hnf _ _ hok.symm
    have hg2 : Gr (· = V.heap.size) _ w2 := hg2
    have HO := Lib.hid (hpo _ _ hok.symm)
    clear hr hpb hpo
    subst hok
    have y2 : Blk w2 w.heap.size 28 #[.int .i64 0, .int .i64 0, .int .i64 0, .string ⟨#[]⟩, .string ⟨#[]⟩, .int .i64 0, .slice none 0 0] := (v2.alloc _).gr hg2 (Nat.ne_of_lt hl2)
    have y3 : Blk w2 (w.heap.size + 1) 3 #[.int .i64 0] := (v3.alloc _).gr hg2 (Nat.ne_of_lt hl3)
    have y4 : Blk w2 (w.heap.size + 1 + 1) 29 #[.int .i64 0] := (v4.alloc _).gr hg2 (Nat.ne_of_lt hl4)
    obtain ⟨_, z2_0, z2_1, z2_2, z2_3, z2_4, z2_5, z2_6, z2_f⟩ := y2.all7
    have hB2 : Below w.heap.size w w2 := (hB.alloc hB.size _).trans (Gr.belowN hg2 (by simp; omega) (by intro q h1 h2; omega))
    go_wp2_with fail
    obtain ⟨U, hU⟩ : ∃ U, U = ((((((w2.setCell ⟨w.heap.size, 0, none⟩ (.int .i64 k)).setCell ⟨w.heap.size, 1, none⟩ (.int .i64 op)).setCell ⟨w.heap.size, 2, none⟩ (.int .i64 n)).setCell ⟨w.heap.size, 3, none⟩ (.string (bs p))).setCell ⟨w.heap.size, 4, none⟩ (.string (bs t))).setCell ⟨w.heap.size, 5, none⟩ (.int .i64 a)).setCell ⟨w.heap.size, 6, none⟩ (.slice A ks.length c2) := ⟨_, rfl⟩
    have x2 : Blk U w.heap.size 28 #[.int .i64 k, .int .i64 op, .int .i64 n, .string (bs p), .string (bs t), .int .i64 a, .slice A ks.length c2] := by rw [hU]; exact y2.seven _ _ _ _ _ _ _
    have x3 : Blk U (w.heap.size + 1) 3 #[.int .i64 0] := by rw [hU]; exact Blk.far (Blk.far (Blk.far (Blk.far (Blk.far (Blk.far (Blk.far y3 nz1.symm _) nz1.symm _) nz1.symm _) nz1.symm _) nz1.symm _) nz1.symm _) nz1.symm _
    have x4 : Blk U (w.heap.size + 1 + 1) 29 #[.int .i64 0] := by rw [hU]; exact Blk.far (Blk.far (Blk.far (Blk.far (Blk.far (Blk.far (Blk.far y4 nz2.symm _) nz2.symm _) nz2.symm _) nz2.symm _) nz2.symm _) nz2.symm _) nz2.symm _
    have hB3 : Below w.heap.size w U := by rw [hU]; exact ((((((hB2.setCell (by simp) _).setCell (by simp) _).setCell (by simp) _).setCell (by simp) _).setCell (by simp) _).setCell (by simp) _).setCell (by simp) _
    have hrep : Rep U (Fp (V.heap.size + 1)) (.mk k op n p t a ks) (ndC k op n p t a (.slice A ks.length c2)) := by
      have h0 := hkid.rep k op n p t a
      rw [World.size_alloc] at h0
      rw [hU]
      exact h0.gr (put7_gr (S := (· = w.heap.size)) (g := w.heap.size) (i := 0) (Gr.refl w2) (.inr rfl)) (fun q h1 h2 h3 => by have h1 : V.heap.size + 1 ≤ q := h1; have : q = w.heap.size := h3; omega) (fun q _ h => h)
    rw [← hU]
    clear hU y2 y3 y4 z2_0 z2_1 z2_2 z2_3 z2_4 z2_5 z2_6 z2_f hkid hP2 hg2
    have hck := check_any (.mk k op n p t a ks) (by omega) U _ _ hrep
    refine hck.mono ?_
    rintro e w5 ⟨hb5, he⟩
    have u2 := Blk.bel x2 hb5
    have u3 := Blk.bel x3 hb5
    have u4 := Blk.bel x4 hb5
    have hB5 := hB3.trans (hb5.mono hB3.size)
    have hrep5 := hrep.belW hb5
    clear hck hrep x2 x3 x4 hb5 hB3
    by_cases h1 : 3000 < (Tr.mk k op n p t a ks).nodes
    · rw [if_pos h1] at he
      subst he
      exact leave_gave _ w.heap.size (w.heap.size + 1) (w.heap.size + 1 + 1) 0 0 0 2 _ w5 w.heap.size rfl rfl rfl u2 ⟨_, _, _, _, _, _, _, rfl⟩ u3 u4 (Nat.le_refl _) (by omega) (by omega) fun w' hb => ⟨hB5.trans hb, .inr ⟨0, 2, by rw [HO.out, if_pos h1], rfl⟩⟩
    by_cases h2 : 100 < (Tr.mk k op n p t a ks).deep
    · rw [if_neg h1, if_pos h2] at he
      subst he
      exact leave_gave _ w.heap.size (w.heap.size + 1) (w.heap.size + 1 + 1) 0 0 0 3 _ w5 w.heap.size rfl rfl rfl u2 ⟨_, _, _, _, _, _, _, rfl⟩ u3 u4 (Nat.le_refl _) (by omega) (by omega) fun w' hb => ⟨hB5.trans hb, .inr ⟨0, 3, by rw [HO.out, if_neg h1, if_pos h2], rfl⟩⟩
    · rw [if_neg h1, if_neg h2] at he
      subst he
      have HT := Lib.hid (show parseT ts = .tree (.mk k op n p t a ks) by rw [HO.out, if_neg h1, if_neg h2])
      clear HO h1 h2
      obtain ⟨_, z2_0, z2_1, z2_2, z2_3, z2_4, z2_5, z2_6, z2_f⟩ := u2.all7
      have z3_0 := u3.cell 0
      have z3_f := u3.frozen 0
      have z4_0 := u4.cell 0
      have z4_f := u4.frozen 0
      go_wp2
      refine leave_back _ w.heap.size (w.heap.size + 1) (w.heap.size + 1 + 1) _ _ _ _ _ _ _ _ _ _ rfl rfl rfl (Blk.far (Blk.far (u2.seven (.int .i64 k) (.int .i64 op) (.int .i64 n) (.string (bs p)) (.string (bs t)) (.int .i64 a) (.slice A ks.length c2)) nz1 _) nz2 _) ?_ ?_ ⟨?_, .inl ⟨_, _, HT.out, ?_, rfl⟩⟩
      · exact Blk.far (Blk.set_ (Blk.far (Blk.far (Blk.far (Blk.far (Blk.far (Blk.far (Blk.far u3 nz1.symm _) nz1.symm _) nz1.symm _) nz1.symm _) nz1.symm _) nz1.symm _) nz1.symm _) 0 _) nz3 _
      · exact Blk.set_ (Blk.far (Blk.far (Blk.far (Blk.far (Blk.far (Blk.far (Blk.far (Blk.far u4 nz2.symm _) nz2.symm _) nz2.symm _) nz2.symm _) nz2.symm _) nz2.symm _) nz2.symm _) nz3.symm _) 0 _
      · exact ((((((((hB5.setCell (by simp) _).setCell (by simp) _).setCell (by simp) _).setCell (by simp) _).setCell (by simp) _).setCell (by simp) _).setCell (by simp) _).setCell (by simp) _).setCell (by simp; omega) _
      · refine hrep5.gr (S := fun q => q = w.heap.size ∨ q = w.heap.size + 1 ∨ q = w.heap.size + 1 + 1) (((put7_gr (g := w.heap.size) (i := 0) (Gr.refl w5) (.inr (.inl rfl))).setCell (.inr (.inr (.inl rfl))) _).setCell (.inr (.inr (.inr rfl))) _) (fun q h1 h2 h3 => ?_) (fun q _ h => ?_)
        · have h1 : V.heap.size + 1 ≤ q := h1
          rcases h3 with h3 | h3 | h3 <;> omega
        · have h : V.heap.size + 1 ≤ q := h
          show w.heap.size ≤ q
          omega
/-- A text, parsed. -/
theorem parse_any (s : ByteArray) (w : World) (ht : ErrT w) : Calls Tryz.prog 13 #[.string s] w (ParseP w (parseD s.data.toList)) := by
  rcases lexD_cases s.data.toList with ⟨ts, h⟩ | ⟨p, k, h, hp, hk⟩
  · have e : parseD s.data.toList = parseT ts := by unfold parseD; rw [h]; rfl
    rw [e]
    exact ptext_ok s ts _ w ht h ⟨(lexD_good h).1, lexD_places h⟩
  · have e : parseD s.data.toList = .fault p k := by unfold parseD; rw [h]; rcases hk with rfl | rfl <;> rfl
    rw [e]
    exact parse_err s p k w ht h hk
end Go.Proofs.YtihnnbeepfgphaaGreatDoor
