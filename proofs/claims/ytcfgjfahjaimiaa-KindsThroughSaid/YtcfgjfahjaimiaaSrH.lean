/-
  symMerge, where both parts are longer.
-/
import Derived.Test.YtcfgjfahjaimiaaSrE
namespace Go.Proofs.Ytcfgjfahjaimiaa
open Go.RowKit
set_option linter.unusedVariables false
set_option linter.unusedSimpArgs false

set_option maxRecDepth 100000 in
set_option maxHeartbeats 8000000 in
theorem sym3b_any (N : Nat) (ih : SymC N) (x y : List Fi) (u v : TF) (w : World) (F : Nat → Prop) (g n cap : Nat) (hn : (x ++ (sn u ++ (sn v ++ y))).length = n) (hn2 : n ≤ 100000) (h : FdT w F g (x ++ (sn u ++ (sn v ++ y)))) (hu0 : 0 < u.length) (hv0 : 0 < v.length) (su : Srt.Sd ltF u) (sv : Srt.Sd ltF v) (hap : Srt.Ap u v) (a m b : Nat) (ha : a = x.length) (hm : m = x.length + u.length) (hb : b = x.length + u.length + v.length) (hu2 : 1 < u.length) (hv2 : 1 < v.length) (hN : u.length + v.length ≤ N + 1) (md : Nat) (hmd : 2 * md ≤ a + b ∧ a + b ≤ 2 * md + 1) (hbr : m ≤ md) :
    Calls Try.prog 78 #[.slice (some ⟨g, 0, none⟩) n cap, .int .i64 a, .int .i64 m, .int .i64 b, .func (Fn.func 50) #[] #[]] w (SdP F g x (u ++ v) y w) := by
  have n2 : (n : Int) ≤ 100000 := by omega
  have hn1 := hn
  simp only [List.length_append, sn_len] at hn1
  obtain ⟨sA, md2, esA, wsA, usA, ehA, whA, hA1, hA2, hA3, hA4⟩ := mid_ex a b (by omega) (by omega)
  obtain rfl : md2 = md := by omega
  obtain ⟨d0, hd0⟩ : ∃ d, m - a = d := ⟨_, rfl⟩
  have e0 : (m : Int) - (a : Int) = (d0 : Int) := by omega
  have w0 : IntKind.i64.wrap (d0 : Int) = (d0 : Int) := wrap_nat (by omega)
  have f0 : ¬ (d0 : Int) = 1 := by omega
  have f00 : ((d0 : Int) == 1) = false := by simpa using f0
  have f01 : ¬ d0 = 1 := by omega
  obtain ⟨d1, hd1⟩ : ∃ d, b - m = d := ⟨_, rfl⟩
  have e1 : (b : Int) - (m : Int) = (d1 : Int) := by omega
  have w1 : IntKind.i64.wrap (d1 : Int) = (d1 : Int) := wrap_nat (by omega)
  have f1 : ¬ (d1 : Int) = 1 := by omega
  have f10 : ((d1 : Int) == 1) = false := by simpa using f1
  have f11 : ¬ d1 = 1 := by omega
  have f12 : (0 : Int) ≤ (sA : Int) := by omega
  obtain ⟨nn, hnn⟩ : ∃ k, md2 + m = k := ⟨_, rfl⟩
  have e2 : (md2 : Int) + (m : Int) = (nn : Int) := by omega
  have w2 : IntKind.i64.wrap (nn : Int) = (nn : Int) := wrap_nat (by omega)
  obtain ⟨p, hp⟩ : ∃ k, nn - 1 = k := ⟨_, rfl⟩
  have e3 : (nn : Int) - 1 = (p : Int) := by omega
  have w3 : IntKind.i64.wrap (p : Int) = (p : Int) := wrap_nat (by omega)
  obtain ⟨lo, hlo⟩ : ∃ k, a = k := ⟨_, rfl⟩
  obtain ⟨r0, hr0⟩ : ∃ k, m = k := ⟨_, rfl⟩
  have g1 : ¬ (md2 : Int) < (m : Int) := by omega
  have g2 : decide (md2 < m) = false := decide_eq_false (by omega)
  have HIH := Lib.hid ih
  have HH := Lib.hid h
  have HSV := Lib.hid (And.intro su (And.intro sv hap))
  have HN := Lib.hid (show x.length + (u.length + (v.length + y.length)) = n ∧ n ≤ 100000 ∧ a = x.length ∧ m = a + u.length ∧ b = m + v.length ∧ 1 < u.length ∧ 1 < v.length ∧ u.length + v.length ≤ N + 1 ∧ 2 * md2 ≤ a + b ∧ a + b ≤ 2 * md2 + 1 ∧ md2 + m = nn ∧ nn - 1 = p ∧ (m ≤ md2 ∧ a = lo ∧ m = r0) from ⟨by omega, hn2, ha, by omega, by omega, hu2, hv2, hN, by omega, by omega, hnn, hp, ⟨hbr, hlo, hr0⟩⟩)
  clear hn hn1 h hu0 hv0 su sv hap ha hm hb hu2 hv2 hN hmd hbr hA1 hA2 hA3 hA4 hd0 hd1 hnn hp ih hlo hr0
  go_enter Try.func78, Try.ntmps78
  go_wp2
  go_loopg [20, 21, 23] (r0 - lo) (fun gk v20 v21 v23 wr => ∃ st r : Nat, gk = r - st ∧ v20 = .int .i64 st ∧ v21 = .int .i64 r ∧ lo ≤ st ∧ st ≤ r ∧ r ≤ r0 ∧ (∀ zu zv, lo < st → u[st - 1 - a]? = some zu → v[nn - st - m]? = some zv → Srt.L ltF zu zv) ∧ (∀ zu zv, r < r0 → u[r - a]? = some zu → v[nn - 1 - r - m]? = some zv → Srt.L ltF zv zu) ∧ Below w.heap.size w wr)
  case atStart => exact ⟨a, m, by have := HN.out; omega, rfl, rfl, by have := HN.out; omega, by have := HN.out; omega, by have := HN.out; omega, fun _ _ hz => absurd hz (by have := HN.out; omega), fun _ _ hz => absurd hz (by have := HN.out; omega), Below.refl _ w⟩
  case round =>
    obtain ⟨st, r, rfl, rfl, rfl, hlo, hij, hr0, hl, hr, hbl⟩ := hrel
    obtain ⟨q1, q2, q3, q4, q5, q6, q7, q8, q9, q10, q11, q12, q13⟩ := HN.out
    have HBL := Lib.hid hbl
    clear e0 w0 f0 f00 f01 e1 w1 f1 f10 f11 f12 e3 w3 g1 g2 esA wsA usA ehA
    rcases Nat.lt_or_ge st r with hlt | hge
    · obtain ⟨s, c, es, ws, us, eh, wh, hih, hhj, -, -⟩ := mid_ex st r hlt (by omega)
      have f1 : (st : Int) < (r : Int) := by omega
      have f2 : decide (st < r) = true := decide_eq_true hlt
      have f3 : (0 : Int) ≤ (s : Int) := by omega
      obtain ⟨q, hq⟩ : ∃ q, p - c = q := ⟨_, rfl⟩
      have eq : (p : Int) - (c : Int) = (q : Int) := by omega
      obtain ⟨zu, hzu⟩ : ∃ z, u[c - a]? = some z := ⟨_, List.getElem?_eq_getElem (by omega)⟩
      obtain ⟨zv, hzv⟩ : ∃ z, v[q - m]? = some z := ⟨_, List.getElem?_eq_getElem (by omega)⟩
      have hfx := HH.out.bel hbl
      obtain ⟨U, hU⟩ : ∃ Z, zu.2 = Z := ⟨_, rfl⟩
      obtain ⟨V, hV⟩ : ∃ E, zv.2 = E := ⟨_, rfl⟩
      have gj : (x ++ (sn u ++ (sn v ++ y)))[c]? = some U := by
        have := get_u x y u v (c - a) zu hzu
        rw [hU] at this
        rwa [show x.length + (c - a) = c by omega] at this
      have gi : (x ++ (sn u ++ (sn v ++ y)))[q]? = some V := by
        have := get_v x y u v (q - m) zv hzv
        rw [hV] at this
        rwa [show x.length + u.length + (q - m) = q by omega] at this
      have i0 : (0 : Int) ≤ (q : Int) := by omega
      have j0 : (0 : Int) ≤ (c : Int) := by omega
      have i1 : (q : Int) < (n : Int) := by omega
      have j1 : (c : Int) < (n : Int) := by omega
      have wi : IntKind.i64.wrap (q : Int) = (q : Int) := wrap_nat (by omega)
      have wj : IntKind.i64.wrap (c : Int) = (c : Int) := wrap_nat (by omega)
      have iN : q < n := by omega
      have jN : c < n := by omega
      cases hq2 : ltF V U with
      | false =>
        obtain ⟨c', hc'⟩ : ∃ k, c + 1 = k := ⟨_, rfl⟩
        have e2' : (c : Int) + 1 = (c' : Int) := by omega
        have w2' : IntKind.i64.wrap (c' : Int) = (c' : Int) := wrap_nat (by omega)
        have HR := Lib.hid (show lo ≤ c' ∧ c' ≤ r ∧ r ≤ r0 ∧ st < c' ∧ (∀ zu zv, lo < c' → u[c' - 1 - a]? = some zu → v[nn - c' - m]? = some zv → Srt.L ltF zu zv) ∧ (∀ zu zv, r < r0 → u[r - a]? = some zu → v[nn - 1 - r - m]? = some zv → Srt.L ltF zv zu) from ⟨by omega, by omega, hr0, by omega, fun z1 z2 _ h1 h2 => by rw [show c' - 1 - a = c - a by omega, hzu] at h1; rw [show nn - c' - m = q - m by omega, hzv] at h2; cases h1; cases h2; exact Srt.L.of_false (by rw [hU, hV]; exact hq2) (HSV.out.2.2 _ (List.mem_of_getElem? hzu) _ (List.mem_of_getElem? hzv)), hr⟩)
        have hq := hq2
        clear hbl hl hr hlo hij hr0 q1 q2 q3 q4 q5 q6 q7 q8 q9 q10 q11 q12 q13 hlt hih hhj hzu hzv hU hV hc' hq2
        go_wp2
        have GL := Lib.hid (hfx.lt)
        obtain ⟨a1, a2, a3, a4, a5, a6, a7, a8, a9, hra, ac0, ac1, ac2, ac3, ac4, ac5⟩ := (hfx).at_ gi
        obtain ⟨a0, an⟩ : ∃ zz, V.name = zz := ⟨_, rfl⟩
        rw [an] at hra ac0
        obtain ⟨b1, b2, b3, b4, b5, b6, b7, b8, b9, hrb, bc0, bc1, bc2, bc3, bc4, bc5⟩ := (hfx).at_ gj
        obtain ⟨b0, bn⟩ : ∃ zz, U.name = zz := ⟨_, rfl⟩
        rw [bn] at hrb bc0
        refine wp_region_held_drew (S := fun V => Below wr.heap.size wr V) (by kernel_rfl) (Below.refl _ _).drew (fun hS0 => ?_)
        generalize wr.drew = W1 at hS0 ⊢
        refine wpAnyH_take (i := 0) (v := ((.func (Fn.func 50) #[] #[]))) rfl (by kernel_rfl) (by kernel_rfl) (by kernel_rfl) (fun _ _ _ h => h) (Or.inl ⟨rfl, fun w' hS => by (unfold execOp; go_simp)⟩) hS0 ?_
        simp only [Act.put, List.getElem_toArray, List.getElem_cons_zero, List.getElem_cons_succ, List.setIfInBounds_toArray, List.set_cons_zero, List.set_cons_succ]
        refine wpAnyH_take (i := 1) (v := (.slice (some ⟨g, 0, none⟩) n cap)) rfl (by kernel_rfl) (by kernel_rfl) (by kernel_rfl) (fun _ _ _ h => h) (Or.inl ⟨rfl, fun w' hS => by (unfold execOp; go_simp)⟩) hS0 ?_
        simp only [Act.put, List.getElem_toArray, List.getElem_cons_zero, List.getElem_cons_succ, List.setIfInBounds_toArray, List.set_cons_zero, List.set_cons_succ]
        refine wpAnyH_take (i := 2) (v := (.int .i64 (p : Nat))) rfl (by kernel_rfl) (by kernel_rfl) (by kernel_rfl) (fun _ _ _ h => h) (Or.inl ⟨rfl, fun w' hS => by (unfold execOp; go_simp)⟩) hS0 ?_
        simp only [Act.put, List.getElem_toArray, List.getElem_cons_zero, List.getElem_cons_succ, List.setIfInBounds_toArray, List.set_cons_zero, List.set_cons_succ]
        refine wpAnyH_take (i := 3) (v := (.int .i64 (c : Nat))) rfl (by kernel_rfl) (by kernel_rfl) (by kernel_rfl) (fun _ _ _ h => h) (Or.inl ⟨rfl, fun w' hS => by (unfold execOp; go_simp)⟩) hS0 ?_
        simp only [Act.put, List.getElem_toArray, List.getElem_cons_zero, List.getElem_cons_succ, List.setIfInBounds_toArray, List.set_cons_zero, List.set_cons_succ]
        refine wpAnyH_take (i := 4) (v := (.int .i64 (q : Nat))) rfl (by kernel_rfl) (by kernel_rfl) (by kernel_rfl) (fun _ _ _ h => h) (Or.inl ⟨rfl, fun w' hS => by (unfold execOp; go_simp)⟩) hS0 ?_
        simp only [Act.put, List.getElem_toArray, List.getElem_cons_zero, List.getElem_cons_succ, List.setIfInBounds_toArray, List.set_cons_zero, List.set_cons_succ]
        refine wpAnyH_take (i := 5) (v := (.pointer (some ⟨g, q * 6, none⟩))) rfl (by kernel_rfl) (by kernel_rfl) (by kernel_rfl) (fun _ _ _ h => h) (Or.inl ⟨rfl, fun w' hS => by (unfold execOp; go_simp)⟩) hS0 ?_
        simp only [Act.put, List.getElem_toArray, List.getElem_cons_zero, List.getElem_cons_succ, List.setIfInBounds_toArray, List.set_cons_zero, List.set_cons_succ]
        refine wpAnyH_take (i := 6) (v := (.agg #[.string a0, .int .i64 a1, .string a2, .string a3, .slice a4 a5 a6, .slice a7 a8 a9])) rfl (by kernel_rfl) (by kernel_rfl) (by kernel_rfl) (fun _ _ _ h => h) (Or.inl ⟨rfl, fun w' hS => by (have y0 := (World.cell?_of_block (hS.block g GL.out)).trans ac0; have y1 := (World.cell?_of_block (hS.block g GL.out)).trans ac1; have y2 := (World.cell?_of_block (hS.block g GL.out)).trans ac2; have y3 := (World.cell?_of_block (hS.block g GL.out)).trans ac3; have y4 := (World.cell?_of_block (hS.block g GL.out)).trans ac4; have y5 := (World.cell?_of_block (hS.block g GL.out)).trans ac5; unfold execOp; go_simp)⟩) hS0 ?_
        simp only [Act.put, List.getElem_toArray, List.getElem_cons_zero, List.getElem_cons_succ, List.setIfInBounds_toArray, List.set_cons_zero, List.set_cons_succ]
        refine wpAnyH_take (i := 7) (v := (.slice (some ⟨g, 0, none⟩) n cap)) rfl (by kernel_rfl) (by kernel_rfl) (by kernel_rfl) (fun _ _ _ h => h) (Or.inl ⟨rfl, fun w' hS => by (unfold execOp; go_simp)⟩) hS0 ?_
        simp only [Act.put, List.getElem_toArray, List.getElem_cons_zero, List.getElem_cons_succ, List.setIfInBounds_toArray, List.set_cons_zero, List.set_cons_succ]
        refine wpAnyH_take (i := 8) (v := (.int .i64 (c : Nat))) rfl (by kernel_rfl) (by kernel_rfl) (by kernel_rfl) (fun _ _ _ h => h) (Or.inl ⟨rfl, fun w' hS => by (unfold execOp; go_simp)⟩) hS0 ?_
        simp only [Act.put, List.getElem_toArray, List.getElem_cons_zero, List.getElem_cons_succ, List.setIfInBounds_toArray, List.set_cons_zero, List.set_cons_succ]
        refine wpAnyH_take (i := 9) (v := (.pointer (some ⟨g, c * 6, none⟩))) rfl (by kernel_rfl) (by kernel_rfl) (by kernel_rfl) (fun _ _ _ h => h) (Or.inl ⟨rfl, fun w' hS => by (unfold execOp; go_simp)⟩) hS0 ?_
        simp only [Act.put, List.getElem_toArray, List.getElem_cons_zero, List.getElem_cons_succ, List.setIfInBounds_toArray, List.set_cons_zero, List.set_cons_succ]
        refine wpAnyH_take (i := 10) (v := (.agg #[.string b0, .int .i64 b1, .string b2, .string b3, .slice b4 b5 b6, .slice b7 b8 b9])) rfl (by kernel_rfl) (by kernel_rfl) (by kernel_rfl) (fun _ _ _ h => h) (Or.inl ⟨rfl, fun w' hS => by (have y0 := (World.cell?_of_block (hS.block g GL.out)).trans bc0; have y1 := (World.cell?_of_block (hS.block g GL.out)).trans bc1; have y2 := (World.cell?_of_block (hS.block g GL.out)).trans bc2; have y3 := (World.cell?_of_block (hS.block g GL.out)).trans bc3; have y4 := (World.cell?_of_block (hS.block g GL.out)).trans bc4; have y5 := (World.cell?_of_block (hS.block g GL.out)).trans bc5; unfold execOp; go_simp)⟩) hS0 ?_
        simp only [Act.put, List.getElem_toArray, List.getElem_cons_zero, List.getElem_cons_succ, List.setIfInBounds_toArray, List.set_cons_zero, List.set_cons_succ]
        refine wpAnyH_one (i := 11) (by kernel_rfl) rfl rfl (op_call (args := #[.agg #[.string a0, .int .i64 a1, .string a2, .string a3, .slice a4 a5 a6, .slice a7 a8 a9], .agg #[.string b0, .int .i64 b1, .string b2, .string b3, .slice b4 b5 b6, .slice b7 b8 b9]]) (f := 50) (by unfold execOp; go_simp) ((cmp_any V U W1 F F [.string a0, .int .i64 a1, .string a2, .string a3, .slice a4 a5 a6, .slice a7 a8 a9] [.string b0, .int .i64 b1, .string b2, .string b3, .slice b4 b5 b6, .slice b7 b8 b9] (RFi_keeps _ _ _ _ _ _ (fun k _ hl => hS0.block k hl) hS0.size (fun _ _ h => h) hra) (RFi_keeps _ _ _ _ _ _ (fun k _ hl => hS0.block k hl) hS0.size (fun _ _ h => h) hrb)).mono ?_))
        rintro e w2 ⟨⟨nn, rfl, hlt⟩, hb2⟩
        have hS2 := hS0.trans (hb2.mono hS0.size)
        rw [hq] at hlt
        have hn0 : ¬ nn < 0 := of_decide_eq_false hlt
        refine And.intro hS2 ?_
        simp only [Act.put, List.getElem_toArray, List.getElem_cons_zero, List.getElem_cons_succ, List.setIfInBounds_toArray, List.set_cons_zero, List.set_cons_succ]
        refine wpAnyH_take (i := 12) (v := (.bool false)) rfl (by kernel_rfl) (by kernel_rfl) (by kernel_rfl) (fun _ _ _ h => h) (Or.inl ⟨rfl, fun w' hS => by (unfold execOp; go_simp)⟩) hS2 ?_
        simp only [Act.put, List.getElem_toArray, List.getElem_cons_zero, List.getElem_cons_succ, List.setIfInBounds_toArray, List.set_cons_zero, List.set_cons_succ]
        refine wpAnyH_take (i := 13) (v := (.bool true)) rfl (by kernel_rfl) (by kernel_rfl) (by kernel_rfl) (fun _ _ _ h => h) (Or.inl ⟨rfl, fun w' hS => by (unfold execOp; go_simp)⟩) hS2 ?_
        simp only [Act.put, List.getElem_toArray, List.getElem_cons_zero, List.getElem_cons_succ, List.setIfInBounds_toArray, List.set_cons_zero, List.set_cons_succ]
        refine wpAnyH_done (by kernel_rfl) ?_ _
        go_wp2
        go_roundg (r - c')
        case measure => have := HR.out; omega
        case rel => exact ⟨c', r, rfl, rfl, rfl, HR.out.1, HR.out.2.1, HR.out.2.2.1, HR.out.2.2.2.2.1, HR.out.2.2.2.2.2, HBL.out.trans (hS2.mono HBL.out.size)⟩
      | true =>
        have HR := Lib.hid (show lo ≤ st ∧ st ≤ c ∧ c ≤ r0 ∧ c < r ∧ (∀ zu zv, lo < st → u[st - 1 - a]? = some zu → v[nn - st - m]? = some zv → Srt.L ltF zu zv) ∧ (∀ zu zv, c < r0 → u[c - a]? = some zu → v[nn - 1 - c - m]? = some zv → Srt.L ltF zv zu) from ⟨by omega, by omega, by omega, by omega, hl, fun z1 z2 _ h1 h2 => by rw [hzu] at h1; rw [show nn - 1 - c - m = q - m by omega, hzv] at h2; cases h1; cases h2; exact Srt.L.of_true (by rw [hU, hV]; exact hq2)⟩)
        have hq := hq2
        clear hbl hl hr hlo hij hr0 q1 q2 q3 q4 q5 q6 q7 q8 q9 q10 q11 q12 q13 hlt hih hhj hzu hzv hU hV hq2
        go_wp2
        have GL := Lib.hid (hfx.lt)
        obtain ⟨a1, a2, a3, a4, a5, a6, a7, a8, a9, hra, ac0, ac1, ac2, ac3, ac4, ac5⟩ := (hfx).at_ gi
        obtain ⟨a0, an⟩ : ∃ zz, V.name = zz := ⟨_, rfl⟩
        rw [an] at hra ac0
        obtain ⟨b1, b2, b3, b4, b5, b6, b7, b8, b9, hrb, bc0, bc1, bc2, bc3, bc4, bc5⟩ := (hfx).at_ gj
        obtain ⟨b0, bn⟩ : ∃ zz, U.name = zz := ⟨_, rfl⟩
        rw [bn] at hrb bc0
        refine wp_region_held_drew (S := fun V => Below wr.heap.size wr V) (by kernel_rfl) (Below.refl _ _).drew (fun hS0 => ?_)
        generalize wr.drew = W1 at hS0 ⊢
        refine wpAnyH_take (i := 0) (v := ((.func (Fn.func 50) #[] #[]))) rfl (by kernel_rfl) (by kernel_rfl) (by kernel_rfl) (fun _ _ _ h => h) (Or.inl ⟨rfl, fun w' hS => by (unfold execOp; go_simp)⟩) hS0 ?_
        simp only [Act.put, List.getElem_toArray, List.getElem_cons_zero, List.getElem_cons_succ, List.setIfInBounds_toArray, List.set_cons_zero, List.set_cons_succ]
        refine wpAnyH_take (i := 1) (v := (.slice (some ⟨g, 0, none⟩) n cap)) rfl (by kernel_rfl) (by kernel_rfl) (by kernel_rfl) (fun _ _ _ h => h) (Or.inl ⟨rfl, fun w' hS => by (unfold execOp; go_simp)⟩) hS0 ?_
        simp only [Act.put, List.getElem_toArray, List.getElem_cons_zero, List.getElem_cons_succ, List.setIfInBounds_toArray, List.set_cons_zero, List.set_cons_succ]
        refine wpAnyH_take (i := 2) (v := (.int .i64 (p : Nat))) rfl (by kernel_rfl) (by kernel_rfl) (by kernel_rfl) (fun _ _ _ h => h) (Or.inl ⟨rfl, fun w' hS => by (unfold execOp; go_simp)⟩) hS0 ?_
        simp only [Act.put, List.getElem_toArray, List.getElem_cons_zero, List.getElem_cons_succ, List.setIfInBounds_toArray, List.set_cons_zero, List.set_cons_succ]
        refine wpAnyH_take (i := 3) (v := (.int .i64 (c : Nat))) rfl (by kernel_rfl) (by kernel_rfl) (by kernel_rfl) (fun _ _ _ h => h) (Or.inl ⟨rfl, fun w' hS => by (unfold execOp; go_simp)⟩) hS0 ?_
        simp only [Act.put, List.getElem_toArray, List.getElem_cons_zero, List.getElem_cons_succ, List.setIfInBounds_toArray, List.set_cons_zero, List.set_cons_succ]
        refine wpAnyH_take (i := 4) (v := (.int .i64 (q : Nat))) rfl (by kernel_rfl) (by kernel_rfl) (by kernel_rfl) (fun _ _ _ h => h) (Or.inl ⟨rfl, fun w' hS => by (unfold execOp; go_simp)⟩) hS0 ?_
        simp only [Act.put, List.getElem_toArray, List.getElem_cons_zero, List.getElem_cons_succ, List.setIfInBounds_toArray, List.set_cons_zero, List.set_cons_succ]
        refine wpAnyH_take (i := 5) (v := (.pointer (some ⟨g, q * 6, none⟩))) rfl (by kernel_rfl) (by kernel_rfl) (by kernel_rfl) (fun _ _ _ h => h) (Or.inl ⟨rfl, fun w' hS => by (unfold execOp; go_simp)⟩) hS0 ?_
        simp only [Act.put, List.getElem_toArray, List.getElem_cons_zero, List.getElem_cons_succ, List.setIfInBounds_toArray, List.set_cons_zero, List.set_cons_succ]
        refine wpAnyH_take (i := 6) (v := (.agg #[.string a0, .int .i64 a1, .string a2, .string a3, .slice a4 a5 a6, .slice a7 a8 a9])) rfl (by kernel_rfl) (by kernel_rfl) (by kernel_rfl) (fun _ _ _ h => h) (Or.inl ⟨rfl, fun w' hS => by (have y0 := (World.cell?_of_block (hS.block g GL.out)).trans ac0; have y1 := (World.cell?_of_block (hS.block g GL.out)).trans ac1; have y2 := (World.cell?_of_block (hS.block g GL.out)).trans ac2; have y3 := (World.cell?_of_block (hS.block g GL.out)).trans ac3; have y4 := (World.cell?_of_block (hS.block g GL.out)).trans ac4; have y5 := (World.cell?_of_block (hS.block g GL.out)).trans ac5; unfold execOp; go_simp)⟩) hS0 ?_
        simp only [Act.put, List.getElem_toArray, List.getElem_cons_zero, List.getElem_cons_succ, List.setIfInBounds_toArray, List.set_cons_zero, List.set_cons_succ]
        refine wpAnyH_take (i := 7) (v := (.slice (some ⟨g, 0, none⟩) n cap)) rfl (by kernel_rfl) (by kernel_rfl) (by kernel_rfl) (fun _ _ _ h => h) (Or.inl ⟨rfl, fun w' hS => by (unfold execOp; go_simp)⟩) hS0 ?_
        simp only [Act.put, List.getElem_toArray, List.getElem_cons_zero, List.getElem_cons_succ, List.setIfInBounds_toArray, List.set_cons_zero, List.set_cons_succ]
        refine wpAnyH_take (i := 8) (v := (.int .i64 (c : Nat))) rfl (by kernel_rfl) (by kernel_rfl) (by kernel_rfl) (fun _ _ _ h => h) (Or.inl ⟨rfl, fun w' hS => by (unfold execOp; go_simp)⟩) hS0 ?_
        simp only [Act.put, List.getElem_toArray, List.getElem_cons_zero, List.getElem_cons_succ, List.setIfInBounds_toArray, List.set_cons_zero, List.set_cons_succ]
        refine wpAnyH_take (i := 9) (v := (.pointer (some ⟨g, c * 6, none⟩))) rfl (by kernel_rfl) (by kernel_rfl) (by kernel_rfl) (fun _ _ _ h => h) (Or.inl ⟨rfl, fun w' hS => by (unfold execOp; go_simp)⟩) hS0 ?_
        simp only [Act.put, List.getElem_toArray, List.getElem_cons_zero, List.getElem_cons_succ, List.setIfInBounds_toArray, List.set_cons_zero, List.set_cons_succ]
        refine wpAnyH_take (i := 10) (v := (.agg #[.string b0, .int .i64 b1, .string b2, .string b3, .slice b4 b5 b6, .slice b7 b8 b9])) rfl (by kernel_rfl) (by kernel_rfl) (by kernel_rfl) (fun _ _ _ h => h) (Or.inl ⟨rfl, fun w' hS => by (have y0 := (World.cell?_of_block (hS.block g GL.out)).trans bc0; have y1 := (World.cell?_of_block (hS.block g GL.out)).trans bc1; have y2 := (World.cell?_of_block (hS.block g GL.out)).trans bc2; have y3 := (World.cell?_of_block (hS.block g GL.out)).trans bc3; have y4 := (World.cell?_of_block (hS.block g GL.out)).trans bc4; have y5 := (World.cell?_of_block (hS.block g GL.out)).trans bc5; unfold execOp; go_simp)⟩) hS0 ?_
        simp only [Act.put, List.getElem_toArray, List.getElem_cons_zero, List.getElem_cons_succ, List.setIfInBounds_toArray, List.set_cons_zero, List.set_cons_succ]
        refine wpAnyH_one (i := 11) (by kernel_rfl) rfl rfl (op_call (args := #[.agg #[.string a0, .int .i64 a1, .string a2, .string a3, .slice a4 a5 a6, .slice a7 a8 a9], .agg #[.string b0, .int .i64 b1, .string b2, .string b3, .slice b4 b5 b6, .slice b7 b8 b9]]) (f := 50) (by unfold execOp; go_simp) ((cmp_any V U W1 F F [.string a0, .int .i64 a1, .string a2, .string a3, .slice a4 a5 a6, .slice a7 a8 a9] [.string b0, .int .i64 b1, .string b2, .string b3, .slice b4 b5 b6, .slice b7 b8 b9] (RFi_keeps _ _ _ _ _ _ (fun k _ hl => hS0.block k hl) hS0.size (fun _ _ h => h) hra) (RFi_keeps _ _ _ _ _ _ (fun k _ hl => hS0.block k hl) hS0.size (fun _ _ h => h) hrb)).mono ?_))
        rintro e w2 ⟨⟨nn, rfl, hlt⟩, hb2⟩
        have hS2 := hS0.trans (hb2.mono hS0.size)
        rw [hq] at hlt
        have hn0 : nn < 0 := of_decide_eq_true hlt
        refine And.intro hS2 ?_
        simp only [Act.put, List.getElem_toArray, List.getElem_cons_zero, List.getElem_cons_succ, List.setIfInBounds_toArray, List.set_cons_zero, List.set_cons_succ]
        refine wpAnyH_take (i := 12) (v := (.bool true)) rfl (by kernel_rfl) (by kernel_rfl) (by kernel_rfl) (fun _ _ _ h => h) (Or.inl ⟨rfl, fun w' hS => by (unfold execOp; go_simp)⟩) hS2 ?_
        simp only [Act.put, List.getElem_toArray, List.getElem_cons_zero, List.getElem_cons_succ, List.setIfInBounds_toArray, List.set_cons_zero, List.set_cons_succ]
        refine wpAnyH_take (i := 13) (v := (.bool false)) rfl (by kernel_rfl) (by kernel_rfl) (by kernel_rfl) (fun _ _ _ h => h) (Or.inl ⟨rfl, fun w' hS => by (unfold execOp; go_simp)⟩) hS2 ?_
        simp only [Act.put, List.getElem_toArray, List.getElem_cons_zero, List.getElem_cons_succ, List.setIfInBounds_toArray, List.set_cons_zero, List.set_cons_succ]
        refine wpAnyH_done (by kernel_rfl) ?_ _
        go_wp2
        go_roundg (c - st)
        case measure => have := HR.out; omega
        case rel => exact ⟨st, c, rfl, rfl, rfl, HR.out.1, HR.out.2.1, HR.out.2.2.1, HR.out.2.2.2.2.1, HR.out.2.2.2.2.2, HBL.out.trans (hS2.mono HBL.out.size)⟩
    · obtain rfl : st = r := by omega
      have f1 : ¬ (st : Int) < (st : Int) := by omega
      have f2 : decide (st < st) = false := decide_eq_false (by omega)
      obtain ⟨u1, u2, v1, v2, hu, hv, hu1, hv1, k1, k2⟩ := sym_found (u := u) (v := v) (a := a) (m := m) (b := b) (md := md2) (nn := nn) (st := st) (lo := lo) (r0 := r0) q4 q5 hlo hr0 (by omega) (by omega) (by omega) (by omega) (by omega) hl hr
      obtain ⟨en, hen⟩ : ∃ k, nn - st = k := ⟨_, rfl⟩
      have e4 : (nn : Int) - (st : Int) = (en : Int) := by omega
      have w4 : IntKind.i64.wrap (en : Int) = (en : Int) := wrap_nat (by omega)
      have hul := congrArg List.length hu
      have hvl := congrArg List.length hv
      rw [List.length_append] at hul hvl
      have hfx := HH.out.bel hbl
      rw [hu, hv, sn_app, sn_app] at hfx
      have HF := Lib.hid (show FdT wr F g ((x ++ sn u1) ++ (sn u2 ++ (sn v1 ++ (sn v2 ++ y)))) by simpa using hfx)
      obtain ⟨su, sv, hap⟩ := HSV.out
      rw [hu] at su hap
      rw [hv] at sv hap
      have HSP := Lib.hid (fun (s1 s2 : TF) (p1 : s1.Perm (u1 ++ v1)) (p2 : s2.Perm (u2 ++ v2)) (d1 : Srt.Sd ltF s1) (d2 : Srt.Sd ltF s2) => Srt.sym_split weakF su sv k1 k2 p1 p2 d1 d2)
      have HE := Lib.hid (show u = u1 ++ u2 ∧ v = v1 ++ v2 from ⟨hu, hv⟩)
      have HS := Lib.hid (show Srt.Sd ltF u1 ∧ Srt.Sd ltF u2 ∧ Srt.Sd ltF v1 ∧ Srt.Sd ltF v2 from ⟨su.left, su.right, sv.left, sv.right⟩)
      have HL := Lib.hid (show a = x.length ∧ x.length + u1.length = st ∧ st + u2.length = m ∧ m + v1.length = en ∧ en + v2.length = b ∧ st + v1.length = md2 ∧ md2 + u2.length = en ∧ x.length + (u1.length + (u2.length + (v1.length + (v2.length + y.length)))) = n ∧ n ≤ 100000 ∧ a < md2 ∧ md2 < b ∧ 1 < u1.length + u2.length ∧ 1 < v1.length + v2.length from ⟨q3, by omega, by omega, by omega, by omega, by omega, by omega, by omega, q2, by omega, by omega, by omega, by omega⟩)
      have HROT := Lib.hid (fun (h1 : 0 < u2.length) (h2 : 0 < v1.length) => rot_any (x ++ sn u1) (sn u2) (sn v1) (sn v2 ++ y) wr F g n cap (.func (Fn.func 50) #[] #[]) (by simp only [List.length_append, sn_len]; omega) q2 HF.out (by rw [sn_len]; exact h1) (by rw [sn_len]; exact h2) st m en (by simp only [List.length_append, sn_len]; omega) (by simp only [List.length_append, sn_len]; omega) (by simp only [List.length_append, sn_len]; omega))
      have H1 := Lib.hid (fun (h1 : 0 < u1.length) (h2 : 0 < v1.length) (w' : World) (hf : FdT w' F g (x ++ (sn u1 ++ (sn v1 ++ (sn u2 ++ (sn v2 ++ y)))))) => HIH.out x (sn u2 ++ (sn v2 ++ y)) u1 v1 w' F g n cap (by simp only [List.length_append, sn_len]; omega) q2 hf h1 h2 su.left sv.left (fun x hx y hy => hap x (by simp [hx]) y (by simp [hy])) a st md2 q3 (by omega) (by omega) (by omega))
      have H2 := Lib.hid (fun (h1 : 0 < u2.length) (h2 : 0 < v2.length) (s1 : TF) (hs : s1.Perm (u1 ++ v1)) (w' : World) (hf : FdT w' F g ((x ++ sn s1) ++ (sn u2 ++ (sn v2 ++ y)))) => HIH.out (x ++ sn s1) y u2 v2 w' F g n cap (by have := hs.length_eq; simp only [List.length_append, sn_len] at this ⊢; omega) q2 hf h1 h2 su.right sv.right (fun x hx y hy => hap x (by simp [hx]) y (by simp [hy])) md2 en b (by have := hs.length_eq; simp only [List.length_append, sn_len] at this ⊢; omega) (by have := hs.length_eq; simp only [List.length_append, sn_len] at this ⊢; omega) (by have := hs.length_eq; simp only [List.length_append, sn_len] at this ⊢; omega) (by omega))
      clear hbl hl hr hlo hij hr0 q1 q2 q3 q4 q5 q6 q7 q8 q9 q10 q11 q12 q13 hge hu hv hu1 hv1 k1 k2 hen hul hvl hfx su sv hap
      rcases Nat.eq_zero_or_pos u1.length with n1 | n1 <;> rcases Nat.eq_zero_or_pos v1.length with n3 | n3 <;> rcases Nat.eq_zero_or_pos u2.length with n4 | n4 <;> rcases Nat.eq_zero_or_pos v2.length with n5 | n5
      · have := HL.out; omega
      · have := HL.out; omega
      · have := HL.out; omega
      · have := HL.out; omega
      · have := HL.out; omega
      · have := HL.out; omega
      · obtain ⟨l1, l2, l3, l4, l5, l6, l7, l8, l9, l10, l11, l12, l13⟩ := HL.out
        have zu1 : u1 = [] := List.length_eq_zero_iff.1 (by omega)
        have zv2 : v2 = [] := List.length_eq_zero_iff.1 (by omega)
        have c1 : (st : Int) < (m : Int) := by omega
        have c1d : decide (st < m) = true := decide_eq_true (by omega)
        have c2 : (m : Int) < (en : Int) := by omega
        have c2d : decide (m < en) = true := decide_eq_true (by omega)
        have c3 : ¬ (a : Int) < (st : Int) := by omega
        have c3d : decide (a < st) = false := decide_eq_false (by omega)
        have c4 : (st : Int) < (md2 : Int) := by omega
        have c4d : decide (st < md2) = true := decide_eq_true (by omega)
        have c5 : (md2 : Int) < (en : Int) := by omega
        have c5d : decide (md2 < en) = true := decide_eq_true (by omega)
        have c6 : ¬ (en : Int) < (b : Int) := by omega
        have c6d : decide (en < b) = false := decide_eq_false (by omega)
        have HROT2 := Lib.hid (HROT.out (by omega) (by omega))
        clear l1 l2 l3 l4 l5 l6 l7 l8 l9 l10 l11 l12 l13
        go_wp2_with (first | (go_at_call 83; (with_reducible refine HROT2.out.mono ?_); rintro e w5 ⟨rfl, hs5⟩; have HF1 := Lib.hid (show FdT w5 F g (x ++ (sn u1 ++ (sn v1 ++ (sn u2 ++ (sn v2 ++ y))))) by simpa using hs5.2); have HG1 := Lib.hid ((Gr.of_below (S := fun x => x = g) HBL.out).trans hs5.1); clear hs5; have HSS1 := Lib.hid (show (u1 ++ v1).Perm (u1 ++ v1) ∧ Srt.Sd ltF (u1 ++ v1) from ⟨.refl _, by have := HS.out; first | (rw [zu1]; simpa using this.2.2.1) | (rw [zv1]; simpa using this.1)⟩); obtain ⟨s1, hs1e⟩ : ∃ s, u1 ++ v1 = s := ⟨_, rfl⟩; have HS1 := Lib.hid (show s1.Perm (u1 ++ v1) ∧ Srt.Sd ltF s1 from hs1e ▸ HSS1.out); have HF2 := Lib.hid (show FdT w5 F g ((x ++ sn s1) ++ (sn u2 ++ (sn v2 ++ y))) by rw [← hs1e, sn_app]; simpa using HF1.out); have HG2 := Lib.hid HG1.out; clear hs1e))
        have HS2 := Lib.hid (show (u2 ++ v2).Perm (u2 ++ v2) ∧ Srt.Sd ltF (u2 ++ v2) from ⟨.refl _, by have := HS.out; first | (rw [zu2]; simpa using this.2.2.2) | (rw [zv2]; simpa using this.2.1)⟩)
        have HF3 := Lib.hid (show FdT w5 F g ((x ++ sn s1) ++ (sn (u2 ++ v2) ++ y)) by rw [sn_app]; simpa using HF2.out)
        have HG3 := Lib.hid HG2.out
        refine bodyPost_end (results_none rfl _ _ _) rfl ?_
        have hsp := HSP.out s1 (u2 ++ v2) HS1.out.1 HS2.out.1 HS1.out.2 HS2.out.2
        obtain ⟨k1, k2⟩ := HE.out
        exact ⟨rfl, s1 ++ (u2 ++ v2), by rw [k1, k2]; exact hsp.1, hsp.2, HG3.out, by rw [sn_app]; simpa using HF3.out⟩
      · obtain ⟨l1, l2, l3, l4, l5, l6, l7, l8, l9, l10, l11, l12, l13⟩ := HL.out
        have zu1 : u1 = [] := List.length_eq_zero_iff.1 (by omega)
        have c1 : (st : Int) < (m : Int) := by omega
        have c1d : decide (st < m) = true := decide_eq_true (by omega)
        have c2 : (m : Int) < (en : Int) := by omega
        have c2d : decide (m < en) = true := decide_eq_true (by omega)
        have c3 : ¬ (a : Int) < (st : Int) := by omega
        have c3d : decide (a < st) = false := decide_eq_false (by omega)
        have c4 : (st : Int) < (md2 : Int) := by omega
        have c4d : decide (st < md2) = true := decide_eq_true (by omega)
        have c5 : (md2 : Int) < (en : Int) := by omega
        have c5d : decide (md2 < en) = true := decide_eq_true (by omega)
        have c6 : (en : Int) < (b : Int) := by omega
        have c6d : decide (en < b) = true := decide_eq_true (by omega)
        have HROT2 := Lib.hid (HROT.out (by omega) (by omega))
        have H22 := Lib.hid (H2.out (by omega) (by omega))
        clear l1 l2 l3 l4 l5 l6 l7 l8 l9 l10 l11 l12 l13
        go_wp2_with (first | (go_at_call 78; have _g := HS1; (with_reducible refine (H22.out s1 HS1.out.1 _ HF2.out).mono ?_); rintro e w7 ⟨rfl, s2, hp2, hd2, hs2⟩; have HS2 := Lib.hid (show s2.Perm (u2 ++ v2) ∧ Srt.Sd ltF s2 from ⟨hp2, hd2⟩); have HF3 := Lib.hid hs2.2; have HG3 := Lib.hid (HG2.out.trans hs2.1); clear hp2 hd2 hs2) | (go_at_call 83; (with_reducible refine HROT2.out.mono ?_); rintro e w5 ⟨rfl, hs5⟩; have HF1 := Lib.hid (show FdT w5 F g (x ++ (sn u1 ++ (sn v1 ++ (sn u2 ++ (sn v2 ++ y))))) by simpa using hs5.2); have HG1 := Lib.hid ((Gr.of_below (S := fun x => x = g) HBL.out).trans hs5.1); clear hs5; have HSS1 := Lib.hid (show (u1 ++ v1).Perm (u1 ++ v1) ∧ Srt.Sd ltF (u1 ++ v1) from ⟨.refl _, by have := HS.out; first | (rw [zu1]; simpa using this.2.2.1) | (rw [zv1]; simpa using this.1)⟩); obtain ⟨s1, hs1e⟩ : ∃ s, u1 ++ v1 = s := ⟨_, rfl⟩; have HS1 := Lib.hid (show s1.Perm (u1 ++ v1) ∧ Srt.Sd ltF s1 from hs1e ▸ HSS1.out); have HF2 := Lib.hid (show FdT w5 F g ((x ++ sn s1) ++ (sn u2 ++ (sn v2 ++ y))) by rw [← hs1e, sn_app]; simpa using HF1.out); have HG2 := Lib.hid HG1.out; clear hs1e))
        refine bodyPost_end (results_none rfl _ _ _) rfl ?_
        have hsp := HSP.out s1 s2 HS1.out.1 HS2.out.1 HS1.out.2 HS2.out.2
        obtain ⟨k1, k2⟩ := HE.out
        exact ⟨rfl, s1 ++ s2, by rw [k1, k2]; exact hsp.1, hsp.2, HG3.out, by rw [sn_app]; simpa using HF3.out⟩
      · have := HL.out; omega
      · obtain ⟨l1, l2, l3, l4, l5, l6, l7, l8, l9, l10, l11, l12, l13⟩ := HL.out
        have zv1 : v1 = [] := List.length_eq_zero_iff.1 (by omega)
        have zu2 : u2 = [] := List.length_eq_zero_iff.1 (by omega)
        have c1 : ¬ (st : Int) < (m : Int) := by omega
        have c1d : decide (st < m) = false := decide_eq_false (by omega)
        have c2 : ¬ (m : Int) < (en : Int) := by omega
        have c2d : decide (m < en) = false := decide_eq_false (by omega)
        have c3 : (a : Int) < (st : Int) := by omega
        have c3d : decide (a < st) = true := decide_eq_true (by omega)
        have c4 : ¬ (st : Int) < (md2 : Int) := by omega
        have c4d : decide (st < md2) = false := decide_eq_false (by omega)
        have c5 : ¬ (md2 : Int) < (en : Int) := by omega
        have c5d : decide (md2 < en) = false := decide_eq_false (by omega)
        have c6 : (en : Int) < (b : Int) := by omega
        have c6d : decide (en < b) = true := decide_eq_true (by omega)
        have HF1 := Lib.hid (show FdT wr F g (x ++ (sn u1 ++ (sn v1 ++ (sn u2 ++ (sn v2 ++ y))))) by have := HF.out; first | (rw [zu2] at this ⊢; simpa [sn] using this) | (rw [zv1] at this ⊢; simpa [sn] using this))
        have HG1 := Lib.hid (Gr.of_below (S := fun x => x = g) HBL.out)
        have HSS1 := Lib.hid (show (u1 ++ v1).Perm (u1 ++ v1) ∧ Srt.Sd ltF (u1 ++ v1) from ⟨.refl _, by have := HS.out; first | (rw [zu1]; simpa using this.2.2.1) | (rw [zv1]; simpa using this.1)⟩)
        obtain ⟨s1, hs1e⟩ : ∃ s, u1 ++ v1 = s := ⟨_, rfl⟩
        have HS1 := Lib.hid (show s1.Perm (u1 ++ v1) ∧ Srt.Sd ltF s1 from hs1e ▸ HSS1.out)
        have HF2 := Lib.hid (show FdT wr F g ((x ++ sn s1) ++ (sn u2 ++ (sn v2 ++ y))) by rw [← hs1e, sn_app]; simpa using HF1.out)
        have HG2 := Lib.hid HG1.out
        clear hs1e
        clear l1 l2 l3 l4 l5 l6 l7 l8 l9 l10 l11 l12 l13
        go_wp2
        have HS2 := Lib.hid (show (u2 ++ v2).Perm (u2 ++ v2) ∧ Srt.Sd ltF (u2 ++ v2) from ⟨.refl _, by have := HS.out; first | (rw [zu2]; simpa using this.2.2.2) | (rw [zv2]; simpa using this.2.1)⟩)
        have HF3 := Lib.hid (show FdT wr F g ((x ++ sn s1) ++ (sn (u2 ++ v2) ++ y)) by rw [sn_app]; simpa using HF2.out)
        have HG3 := Lib.hid HG2.out
        refine bodyPost_end (results_none rfl _ _ _) rfl ?_
        have hsp := HSP.out s1 (u2 ++ v2) HS1.out.1 HS2.out.1 HS1.out.2 HS2.out.2
        obtain ⟨k1, k2⟩ := HE.out
        exact ⟨rfl, s1 ++ (u2 ++ v2), by rw [k1, k2]; exact hsp.1, hsp.2, HG3.out, by rw [sn_app]; simpa using HF3.out⟩
      · have := HL.out; omega
      · obtain ⟨l1, l2, l3, l4, l5, l6, l7, l8, l9, l10, l11, l12, l13⟩ := HL.out
        have zv1 : v1 = [] := List.length_eq_zero_iff.1 (by omega)
        have c1 : (st : Int) < (m : Int) := by omega
        have c1d : decide (st < m) = true := decide_eq_true (by omega)
        have c2 : ¬ (m : Int) < (en : Int) := by omega
        have c2d : decide (m < en) = false := decide_eq_false (by omega)
        have c3 : (a : Int) < (st : Int) := by omega
        have c3d : decide (a < st) = true := decide_eq_true (by omega)
        have c4 : ¬ (st : Int) < (md2 : Int) := by omega
        have c4d : decide (st < md2) = false := decide_eq_false (by omega)
        have c5 : (md2 : Int) < (en : Int) := by omega
        have c5d : decide (md2 < en) = true := decide_eq_true (by omega)
        have c6 : (en : Int) < (b : Int) := by omega
        have c6d : decide (en < b) = true := decide_eq_true (by omega)
        have HF1 := Lib.hid (show FdT wr F g (x ++ (sn u1 ++ (sn v1 ++ (sn u2 ++ (sn v2 ++ y))))) by have := HF.out; first | (rw [zu2] at this ⊢; simpa [sn] using this) | (rw [zv1] at this ⊢; simpa [sn] using this))
        have HG1 := Lib.hid (Gr.of_below (S := fun x => x = g) HBL.out)
        have H22 := Lib.hid (H2.out (by omega) (by omega))
        have HSS1 := Lib.hid (show (u1 ++ v1).Perm (u1 ++ v1) ∧ Srt.Sd ltF (u1 ++ v1) from ⟨.refl _, by have := HS.out; first | (rw [zu1]; simpa using this.2.2.1) | (rw [zv1]; simpa using this.1)⟩)
        obtain ⟨s1, hs1e⟩ : ∃ s, u1 ++ v1 = s := ⟨_, rfl⟩
        have HS1 := Lib.hid (show s1.Perm (u1 ++ v1) ∧ Srt.Sd ltF s1 from hs1e ▸ HSS1.out)
        have HF2 := Lib.hid (show FdT wr F g ((x ++ sn s1) ++ (sn u2 ++ (sn v2 ++ y))) by rw [← hs1e, sn_app]; simpa using HF1.out)
        have HG2 := Lib.hid HG1.out
        clear hs1e
        clear l1 l2 l3 l4 l5 l6 l7 l8 l9 l10 l11 l12 l13
        go_wp2_with (first | (go_at_call 78; have _g := HS1; (with_reducible refine (H22.out s1 HS1.out.1 _ HF2.out).mono ?_); rintro e w7 ⟨rfl, s2, hp2, hd2, hs2⟩; have HS2 := Lib.hid (show s2.Perm (u2 ++ v2) ∧ Srt.Sd ltF s2 from ⟨hp2, hd2⟩); have HF3 := Lib.hid hs2.2; have HG3 := Lib.hid (HG2.out.trans hs2.1); clear hp2 hd2 hs2))
        refine bodyPost_end (results_none rfl _ _ _) rfl ?_
        have hsp := HSP.out s1 s2 HS1.out.1 HS2.out.1 HS1.out.2 HS2.out.2
        obtain ⟨k1, k2⟩ := HE.out
        exact ⟨rfl, s1 ++ s2, by rw [k1, k2]; exact hsp.1, hsp.2, HG3.out, by rw [sn_app]; simpa using HF3.out⟩
      · have := HL.out; omega
      · obtain ⟨l1, l2, l3, l4, l5, l6, l7, l8, l9, l10, l11, l12, l13⟩ := HL.out
        have zu2 : u2 = [] := List.length_eq_zero_iff.1 (by omega)
        have c1 : ¬ (st : Int) < (m : Int) := by omega
        have c1d : decide (st < m) = false := decide_eq_false (by omega)
        have c2 : (m : Int) < (en : Int) := by omega
        have c2d : decide (m < en) = true := decide_eq_true (by omega)
        have c3 : (a : Int) < (st : Int) := by omega
        have c3d : decide (a < st) = true := decide_eq_true (by omega)
        have c4 : (st : Int) < (md2 : Int) := by omega
        have c4d : decide (st < md2) = true := decide_eq_true (by omega)
        have c5 : ¬ (md2 : Int) < (en : Int) := by omega
        have c5d : decide (md2 < en) = false := decide_eq_false (by omega)
        have c6 : (en : Int) < (b : Int) := by omega
        have c6d : decide (en < b) = true := decide_eq_true (by omega)
        have HF1 := Lib.hid (show FdT wr F g (x ++ (sn u1 ++ (sn v1 ++ (sn u2 ++ (sn v2 ++ y))))) by have := HF.out; first | (rw [zu2] at this ⊢; simpa [sn] using this) | (rw [zv1] at this ⊢; simpa [sn] using this))
        have HG1 := Lib.hid (Gr.of_below (S := fun x => x = g) HBL.out)
        have H12 := Lib.hid (H1.out (by omega) (by omega))
        clear l1 l2 l3 l4 l5 l6 l7 l8 l9 l10 l11 l12 l13
        go_wp2_with (first | (go_at_call 78; have _g := HF1; (with_reducible refine (H12.out _ HF1.out).mono ?_); rintro e w6 ⟨rfl, s1, hp1, hd1, hs1⟩; have HS1 := Lib.hid (show s1.Perm (u1 ++ v1) ∧ Srt.Sd ltF s1 from ⟨hp1, hd1⟩); have HF2 := Lib.hid (show FdT w6 F g ((x ++ sn s1) ++ (sn u2 ++ (sn v2 ++ y))) by simpa using hs1.2); have HG2 := Lib.hid (HG1.out.trans hs1.1); clear hp1 hd1 hs1))
        have HS2 := Lib.hid (show (u2 ++ v2).Perm (u2 ++ v2) ∧ Srt.Sd ltF (u2 ++ v2) from ⟨.refl _, by have := HS.out; first | (rw [zu2]; simpa using this.2.2.2) | (rw [zv2]; simpa using this.2.1)⟩)
        have HF3 := Lib.hid (show FdT w6 F g ((x ++ sn s1) ++ (sn (u2 ++ v2) ++ y)) by rw [sn_app]; simpa using HF2.out)
        have HG3 := Lib.hid HG2.out
        refine bodyPost_end (results_none rfl _ _ _) rfl ?_
        have hsp := HSP.out s1 (u2 ++ v2) HS1.out.1 HS2.out.1 HS1.out.2 HS2.out.2
        obtain ⟨k1, k2⟩ := HE.out
        exact ⟨rfl, s1 ++ (u2 ++ v2), by rw [k1, k2]; exact hsp.1, hsp.2, HG3.out, by rw [sn_app]; simpa using HF3.out⟩
      · obtain ⟨l1, l2, l3, l4, l5, l6, l7, l8, l9, l10, l11, l12, l13⟩ := HL.out
        have zv2 : v2 = [] := List.length_eq_zero_iff.1 (by omega)
        have c1 : (st : Int) < (m : Int) := by omega
        have c1d : decide (st < m) = true := decide_eq_true (by omega)
        have c2 : (m : Int) < (en : Int) := by omega
        have c2d : decide (m < en) = true := decide_eq_true (by omega)
        have c3 : (a : Int) < (st : Int) := by omega
        have c3d : decide (a < st) = true := decide_eq_true (by omega)
        have c4 : (st : Int) < (md2 : Int) := by omega
        have c4d : decide (st < md2) = true := decide_eq_true (by omega)
        have c5 : (md2 : Int) < (en : Int) := by omega
        have c5d : decide (md2 < en) = true := decide_eq_true (by omega)
        have c6 : ¬ (en : Int) < (b : Int) := by omega
        have c6d : decide (en < b) = false := decide_eq_false (by omega)
        have HROT2 := Lib.hid (HROT.out (by omega) (by omega))
        have H12 := Lib.hid (H1.out (by omega) (by omega))
        clear l1 l2 l3 l4 l5 l6 l7 l8 l9 l10 l11 l12 l13
        go_wp2_with (first | (go_at_call 78; have _g := HF1; (with_reducible refine (H12.out _ HF1.out).mono ?_); rintro e w6 ⟨rfl, s1, hp1, hd1, hs1⟩; have HS1 := Lib.hid (show s1.Perm (u1 ++ v1) ∧ Srt.Sd ltF s1 from ⟨hp1, hd1⟩); have HF2 := Lib.hid (show FdT w6 F g ((x ++ sn s1) ++ (sn u2 ++ (sn v2 ++ y))) by simpa using hs1.2); have HG2 := Lib.hid (HG1.out.trans hs1.1); clear hp1 hd1 hs1) | (go_at_call 83; (with_reducible refine HROT2.out.mono ?_); rintro e w5 ⟨rfl, hs5⟩; have HF1 := Lib.hid (show FdT w5 F g (x ++ (sn u1 ++ (sn v1 ++ (sn u2 ++ (sn v2 ++ y))))) by simpa using hs5.2); have HG1 := Lib.hid ((Gr.of_below (S := fun x => x = g) HBL.out).trans hs5.1); clear hs5))
        have HS2 := Lib.hid (show (u2 ++ v2).Perm (u2 ++ v2) ∧ Srt.Sd ltF (u2 ++ v2) from ⟨.refl _, by have := HS.out; first | (rw [zu2]; simpa using this.2.2.2) | (rw [zv2]; simpa using this.2.1)⟩)
        have HF3 := Lib.hid (show FdT w6 F g ((x ++ sn s1) ++ (sn (u2 ++ v2) ++ y)) by rw [sn_app]; simpa using HF2.out)
        have HG3 := Lib.hid HG2.out
        refine bodyPost_end (results_none rfl _ _ _) rfl ?_
        have hsp := HSP.out s1 (u2 ++ v2) HS1.out.1 HS2.out.1 HS1.out.2 HS2.out.2
        obtain ⟨k1, k2⟩ := HE.out
        exact ⟨rfl, s1 ++ (u2 ++ v2), by rw [k1, k2]; exact hsp.1, hsp.2, HG3.out, by rw [sn_app]; simpa using HF3.out⟩
      · obtain ⟨l1, l2, l3, l4, l5, l6, l7, l8, l9, l10, l11, l12, l13⟩ := HL.out
        have c1 : (st : Int) < (m : Int) := by omega
        have c1d : decide (st < m) = true := decide_eq_true (by omega)
        have c2 : (m : Int) < (en : Int) := by omega
        have c2d : decide (m < en) = true := decide_eq_true (by omega)
        have c3 : (a : Int) < (st : Int) := by omega
        have c3d : decide (a < st) = true := decide_eq_true (by omega)
        have c4 : (st : Int) < (md2 : Int) := by omega
        have c4d : decide (st < md2) = true := decide_eq_true (by omega)
        have c5 : (md2 : Int) < (en : Int) := by omega
        have c5d : decide (md2 < en) = true := decide_eq_true (by omega)
        have c6 : (en : Int) < (b : Int) := by omega
        have c6d : decide (en < b) = true := decide_eq_true (by omega)
        have HROT2 := Lib.hid (HROT.out (by omega) (by omega))
        have H12 := Lib.hid (H1.out (by omega) (by omega))
        have H22 := Lib.hid (H2.out (by omega) (by omega))
        clear l1 l2 l3 l4 l5 l6 l7 l8 l9 l10 l11 l12 l13
        go_wp2_with (first | (go_at_call 78; have _g := HS1; (with_reducible refine (H22.out s1 HS1.out.1 _ HF2.out).mono ?_); rintro e w7 ⟨rfl, s2, hp2, hd2, hs2⟩; have HS2 := Lib.hid (show s2.Perm (u2 ++ v2) ∧ Srt.Sd ltF s2 from ⟨hp2, hd2⟩); have HF3 := Lib.hid hs2.2; have HG3 := Lib.hid (HG2.out.trans hs2.1); clear hp2 hd2 hs2) | (go_at_call 78; have _g := HF1; (with_reducible refine (H12.out _ HF1.out).mono ?_); rintro e w6 ⟨rfl, s1, hp1, hd1, hs1⟩; have HS1 := Lib.hid (show s1.Perm (u1 ++ v1) ∧ Srt.Sd ltF s1 from ⟨hp1, hd1⟩); have HF2 := Lib.hid (show FdT w6 F g ((x ++ sn s1) ++ (sn u2 ++ (sn v2 ++ y))) by simpa using hs1.2); have HG2 := Lib.hid (HG1.out.trans hs1.1); clear hp1 hd1 hs1) | (go_at_call 83; (with_reducible refine HROT2.out.mono ?_); rintro e w5 ⟨rfl, hs5⟩; have HF1 := Lib.hid (show FdT w5 F g (x ++ (sn u1 ++ (sn v1 ++ (sn u2 ++ (sn v2 ++ y))))) by simpa using hs5.2); have HG1 := Lib.hid ((Gr.of_below (S := fun x => x = g) HBL.out).trans hs5.1); clear hs5))
        refine bodyPost_end (results_none rfl _ _ _) rfl ?_
        have hsp := HSP.out s1 s2 HS1.out.1 HS2.out.1 HS1.out.2 HS2.out.2
        obtain ⟨k1, k2⟩ := HE.out
        exact ⟨rfl, s1 ++ s2, by rw [k1, k2]; exact hsp.1, hsp.2, HG3.out, by rw [sn_app]; simpa using HF3.out⟩
end Go.Proofs.Ytcfgjfahjaimiaa
