/-
  symMerge, where the left part is one.
-/
import Derived.Test.YtcfgjfahjaimiaaSrA
namespace Go.Proofs.Ytcfgjfahjaimiaa
open Go.RowKit
set_option linter.unusedVariables false
set_option linter.unusedSimpArgs false

theorem mid_ex (i j : Nat) (h : i < j) (hj : j ≤ 100000) : ∃ s h : Nat, (i : Int) + (j : Int) = (s : Int) ∧ IntKind.i64.wrap (s : Int) = (s : Int) ∧ IntKind.u64.wrap (s : Int) = (s : Int) ∧ (s : Int) / 2 = (h : Int) ∧ IntKind.i64.wrap (h : Int) = (h : Int) ∧ i ≤ h ∧ h < j ∧ s = i + j ∧ h = s / 2 := by
  refine ⟨i + j, (i + j) / 2, by omega, wrap_nat (by omega), ?_, by omega, wrap_nat (by omega), by omega, by omega, rfl, rfl⟩
  rw [IntKind.wrap_u64]; omega
theorem sn_get {l : TF} {i : Nat} {e : Nat × Fi} (h : l[i]? = some e) : (sn l)[i]? = some e.2 := by unfold sn; rw [List.getElem?_map, h]; rfl
theorem get_u (x y : List Fi) (u v : TF) (i : Nat) (e : Nat × Fi) (h : u[i]? = some e) : (x ++ (sn u ++ (sn v ++ y)))[x.length + i]? = some e.2 := by
  have hi := (List.getElem?_eq_some_iff.1 h).1
  rw [List.getElem?_append_right (by omega), Nat.add_sub_cancel_left, List.getElem?_append_left (by rw [sn_len]; exact hi)]
  exact sn_get h
theorem get_v (x y : List Fi) (u v : TF) (i : Nat) (e : Nat × Fi) (h : v[i]? = some e) : (x ++ (sn u ++ (sn v ++ y)))[x.length + u.length + i]? = some e.2 := by
  have hi := (List.getElem?_eq_some_iff.1 h).1
  rw [List.getElem?_append_right (by omega), show x.length + u.length + i - x.length = u.length + i by omega, List.getElem?_append_right (by rw [sn_len]; omega), sn_len, Nat.add_sub_cancel_left, List.getElem?_append_left (by rw [sn_len]; exact hi)]
  exact sn_get h
theorem last_at {l : TF} {k : Nat} {z : Nat × Fi} (hk : 0 < k) (h : l[k - 1]? = some z) {m : TF} (hm : m = l.take k) : m.getLast? = some z := by
  subst hm
  have hi := (List.getElem?_eq_some_iff.1 h).1
  rw [List.getLast?_eq_getElem?, List.length_take, show min k l.length - 1 = k - 1 by omega, List.getElem?_take, if_pos (by omega)]
  exact h
theorem head_at {l : TF} {k : Nat} : (l.drop k).head? = l[k]? := by rw [List.head?_drop]
set_option maxRecDepth 100000 in
set_option maxHeartbeats 8000000 in
theorem sym1_any (x y : List Fi) (e : Nat × Fi) (v : TF) (w : World) (F : Nat → Prop) (g n cap : Nat) (hn : (x ++ (sn [e] ++ (sn v ++ y))).length = n) (hn2 : n ≤ 100000) (h : FdT w F g (x ++ (sn [e] ++ (sn v ++ y)))) (hv0 : 0 < v.length) (sv : Srt.Sd ltF v) (hap : Srt.Ap [e] v) (a m b : Nat) (ha : a = x.length) (hm : m = x.length + 1) (hb : b = x.length + 1 + v.length) :
    Calls Try.prog 78 #[.slice (some ⟨g, 0, none⟩) n cap, .int .i64 a, .int .i64 m, .int .i64 b, .func (Fn.func 50) #[] #[]] w (SdP F g x (e :: v) y w) := by
  have n2 : (n : Int) ≤ 100000 := by omega
  have hn1 := hn
  simp only [List.length_append, sn_len, List.length_cons, List.length_nil] at hn1
  have e1 : (m : Int) - (a : Int) = 1 := by omega
  have HH := Lib.hid h
  have HSV := Lib.hid (And.intro sv hap)
  have HN := Lib.hid (show x.length + (1 + (v.length + y.length)) = n ∧ n ≤ 100000 ∧ a = x.length ∧ m = x.length + 1 ∧ b = x.length + 1 + v.length ∧ 0 < v.length from ⟨by omega, hn2, ha, hm, hb, hv0⟩)
  clear hn hn1 h hv0 sv hap ha hm hb
  go_enter Try.func78, Try.ntmps78
  go_wp2
  go_loopg [10, 11, 12] (b - m) (fun gk v10 v11 v12 wr => ∃ i j : Nat, gk = j - i ∧ v10 = .int .i64 i ∧ v11 = .int .i64 j ∧ m ≤ i ∧ i ≤ j ∧ j ≤ b ∧ (∀ z, m < i → v[i - m - 1]? = some z → Srt.L ltF z e) ∧ (∀ z, v[j - m]? = some z → Srt.L ltF e z) ∧ Below w.heap.size w wr)
  case atStart => exact ⟨m, b, rfl, rfl, rfl, Nat.le_refl _, by have := HN.out; omega, Nat.le_refl _, fun z hz => absurd hz (by omega), fun z hz => by have := (List.getElem?_eq_some_iff.1 hz).1; have := HN.out; omega, Below.refl _ w⟩
  case round =>
    obtain ⟨i, j, rfl, rfl, rfl, hmi, hij, hjb, hl, hr, hbl⟩ := hrel
    obtain ⟨q1, q2, q3, q4, q5, q6⟩ := HN.out
    have HBL := Lib.hid hbl
    rcases Nat.lt_or_ge i j with hlt | hge
    · obtain ⟨s, h, es, ws, us, eh, wh, hih, hhj, -, -⟩ := mid_ex i j hlt (by omega)
      have f1 : (i : Int) < (j : Int) := by omega
      have f2 : decide (i < j) = true := decide_eq_true hlt
      have f3 : (0 : Int) ≤ (s : Int) := by omega
      obtain ⟨z, hz⟩ : ∃ z, v[h - m]? = some z := ⟨_, List.getElem?_eq_getElem (by omega)⟩
      have hfx := HH.out.bel hbl
      obtain ⟨Z, hZ⟩ : ∃ Z, z.2 = Z := ⟨_, rfl⟩
      obtain ⟨E, hE⟩ : ∃ E, e.2 = E := ⟨_, rfl⟩
      have gj : (x ++ (sn [e] ++ (sn v ++ y)))[h]? = some Z := by
        have := get_v x y [e] v (h - m) z hz
        rw [hZ] at this
        rwa [show x.length + [e].length + (h - m) = h by simp; omega] at this
      have gi : (x ++ (sn [e] ++ (sn v ++ y)))[a]? = some E := by
        have := get_u x y [e] v 0 e rfl
        rw [hE] at this
        rwa [show x.length + 0 = a by omega] at this
      have i0 : (0 : Int) ≤ (h : Int) := by omega
      have j0 : (0 : Int) ≤ (a : Int) := by omega
      have i1 : (h : Int) < (n : Int) := by omega
      have j1 : (a : Int) < (n : Int) := by omega
      have wi : IntKind.i64.wrap (h : Int) = (h : Int) := wrap_nat (by omega)
      have wj : IntKind.i64.wrap (a : Int) = (a : Int) := wrap_nat (by omega)
      have iN : h < n := by omega
      have jN : a < n := by omega
      cases hq : ltF Z E with
      | true =>
        obtain ⟨h', hh'⟩ : ∃ k, h + 1 = k := ⟨_, rfl⟩
        have e2 : (h : Int) + 1 = (h' : Int) := by omega
        have w2' : IntKind.i64.wrap (h' : Int) = (h' : Int) := wrap_nat (by omega)
        have HR := Lib.hid (show m ≤ h' ∧ h' ≤ j ∧ j ≤ b ∧ i < h' ∧ (∀ z, m < h' → v[h' - m - 1]? = some z → Srt.L ltF z e) ∧ (∀ z, v[j - m]? = some z → Srt.L ltF e z) from ⟨by omega, by omega, hjb, by omega, fun z' _ hz' => by rw [show h' - m - 1 = h - m by omega, hz] at hz'; cases hz'; exact Srt.L.of_true (by rw [hZ, hE]; exact hq), hr⟩)
        clear hbl hl hr hmi hij hjb q1 q2 q3 q4 q5 q6 hlt hih hhj hz hZ hE hh'
        go_wp2
        have GL := Lib.hid (hfx.lt)
        obtain ⟨a1, a2, a3, a4, a5, a6, a7, a8, a9, hra, ac0, ac1, ac2, ac3, ac4, ac5⟩ := (hfx).at_ gj
        obtain ⟨a0, an⟩ : ∃ zz, Z.name = zz := ⟨_, rfl⟩
        rw [an] at hra ac0
        obtain ⟨b1, b2, b3, b4, b5, b6, b7, b8, b9, hrb, bc0, bc1, bc2, bc3, bc4, bc5⟩ := (hfx).at_ gi
        obtain ⟨b0, bn⟩ : ∃ zz, E.name = zz := ⟨_, rfl⟩
        rw [bn] at hrb bc0
        refine wp_region_held_drew (S := fun V => Below wr.heap.size wr V) (by kernel_rfl) (Below.refl _ _).drew (fun hS0 => ?_)
        generalize wr.drew = W1 at hS0 ⊢
        refine wpAnyH_take (i := 0) (v := ((.func (Fn.func 50) #[] #[]))) rfl (by kernel_rfl) (by kernel_rfl) (by kernel_rfl) (fun _ _ _ h => h) (Or.inl ⟨rfl, fun w' hS => by (unfold execOp; go_simp)⟩) hS0 ?_
        simp only [Act.put, List.getElem_toArray, List.getElem_cons_zero, List.getElem_cons_succ, List.setIfInBounds_toArray, List.set_cons_zero, List.set_cons_succ]
        refine wpAnyH_take (i := 1) (v := (.slice (some ⟨g, 0, none⟩) n cap)) rfl (by kernel_rfl) (by kernel_rfl) (by kernel_rfl) (fun _ _ _ h => h) (Or.inl ⟨rfl, fun w' hS => by (unfold execOp; go_simp)⟩) hS0 ?_
        simp only [Act.put, List.getElem_toArray, List.getElem_cons_zero, List.getElem_cons_succ, List.setIfInBounds_toArray, List.set_cons_zero, List.set_cons_succ]
        refine wpAnyH_take (i := 2) (v := (.int .i64 (h : Nat))) rfl (by kernel_rfl) (by kernel_rfl) (by kernel_rfl) (fun _ _ _ h => h) (Or.inl ⟨rfl, fun w' hS => by (unfold execOp; go_simp)⟩) hS0 ?_
        simp only [Act.put, List.getElem_toArray, List.getElem_cons_zero, List.getElem_cons_succ, List.setIfInBounds_toArray, List.set_cons_zero, List.set_cons_succ]
        refine wpAnyH_take (i := 3) (v := (.pointer (some ⟨g, h * 6, none⟩))) rfl (by kernel_rfl) (by kernel_rfl) (by kernel_rfl) (fun _ _ _ h => h) (Or.inl ⟨rfl, fun w' hS => by (unfold execOp; go_simp)⟩) hS0 ?_
        simp only [Act.put, List.getElem_toArray, List.getElem_cons_zero, List.getElem_cons_succ, List.setIfInBounds_toArray, List.set_cons_zero, List.set_cons_succ]
        refine wpAnyH_take (i := 4) (v := (.agg #[.string a0, .int .i64 a1, .string a2, .string a3, .slice a4 a5 a6, .slice a7 a8 a9])) rfl (by kernel_rfl) (by kernel_rfl) (by kernel_rfl) (fun _ _ _ h => h) (Or.inl ⟨rfl, fun w' hS => by (have y0 := (World.cell?_of_block (hS.block g GL.out)).trans ac0; have y1 := (World.cell?_of_block (hS.block g GL.out)).trans ac1; have y2 := (World.cell?_of_block (hS.block g GL.out)).trans ac2; have y3 := (World.cell?_of_block (hS.block g GL.out)).trans ac3; have y4 := (World.cell?_of_block (hS.block g GL.out)).trans ac4; have y5 := (World.cell?_of_block (hS.block g GL.out)).trans ac5; unfold execOp; go_simp)⟩) hS0 ?_
        simp only [Act.put, List.getElem_toArray, List.getElem_cons_zero, List.getElem_cons_succ, List.setIfInBounds_toArray, List.set_cons_zero, List.set_cons_succ]
        refine wpAnyH_take (i := 5) (v := (.slice (some ⟨g, 0, none⟩) n cap)) rfl (by kernel_rfl) (by kernel_rfl) (by kernel_rfl) (fun _ _ _ h => h) (Or.inl ⟨rfl, fun w' hS => by (unfold execOp; go_simp)⟩) hS0 ?_
        simp only [Act.put, List.getElem_toArray, List.getElem_cons_zero, List.getElem_cons_succ, List.setIfInBounds_toArray, List.set_cons_zero, List.set_cons_succ]
        refine wpAnyH_take (i := 6) (v := (.int .i64 (a : Nat))) rfl (by kernel_rfl) (by kernel_rfl) (by kernel_rfl) (fun _ _ _ h => h) (Or.inl ⟨rfl, fun w' hS => by (unfold execOp; go_simp)⟩) hS0 ?_
        simp only [Act.put, List.getElem_toArray, List.getElem_cons_zero, List.getElem_cons_succ, List.setIfInBounds_toArray, List.set_cons_zero, List.set_cons_succ]
        refine wpAnyH_take (i := 7) (v := (.pointer (some ⟨g, a * 6, none⟩))) rfl (by kernel_rfl) (by kernel_rfl) (by kernel_rfl) (fun _ _ _ h => h) (Or.inl ⟨rfl, fun w' hS => by (unfold execOp; go_simp)⟩) hS0 ?_
        simp only [Act.put, List.getElem_toArray, List.getElem_cons_zero, List.getElem_cons_succ, List.setIfInBounds_toArray, List.set_cons_zero, List.set_cons_succ]
        refine wpAnyH_take (i := 8) (v := (.agg #[.string b0, .int .i64 b1, .string b2, .string b3, .slice b4 b5 b6, .slice b7 b8 b9])) rfl (by kernel_rfl) (by kernel_rfl) (by kernel_rfl) (fun _ _ _ h => h) (Or.inl ⟨rfl, fun w' hS => by (have y0 := (World.cell?_of_block (hS.block g GL.out)).trans bc0; have y1 := (World.cell?_of_block (hS.block g GL.out)).trans bc1; have y2 := (World.cell?_of_block (hS.block g GL.out)).trans bc2; have y3 := (World.cell?_of_block (hS.block g GL.out)).trans bc3; have y4 := (World.cell?_of_block (hS.block g GL.out)).trans bc4; have y5 := (World.cell?_of_block (hS.block g GL.out)).trans bc5; unfold execOp; go_simp)⟩) hS0 ?_
        simp only [Act.put, List.getElem_toArray, List.getElem_cons_zero, List.getElem_cons_succ, List.setIfInBounds_toArray, List.set_cons_zero, List.set_cons_succ]
        refine wpAnyH_one (i := 9) (by kernel_rfl) rfl rfl (op_call (args := #[.agg #[.string a0, .int .i64 a1, .string a2, .string a3, .slice a4 a5 a6, .slice a7 a8 a9], .agg #[.string b0, .int .i64 b1, .string b2, .string b3, .slice b4 b5 b6, .slice b7 b8 b9]]) (f := 50) (by unfold execOp; go_simp) ((cmp_any Z E W1 F F [.string a0, .int .i64 a1, .string a2, .string a3, .slice a4 a5 a6, .slice a7 a8 a9] [.string b0, .int .i64 b1, .string b2, .string b3, .slice b4 b5 b6, .slice b7 b8 b9] (RFi_keeps _ _ _ _ _ _ (fun k _ hl => hS0.block k hl) hS0.size (fun _ _ h => h) hra) (RFi_keeps _ _ _ _ _ _ (fun k _ hl => hS0.block k hl) hS0.size (fun _ _ h => h) hrb)).mono ?_))
        rintro e w2 ⟨⟨nn, rfl, hlt⟩, hb2⟩
        have hS2 := hS0.trans (hb2.mono hS0.size)
        rw [hq] at hlt
        have hn0 : nn < 0 := of_decide_eq_true hlt
        refine And.intro hS2 ?_
        simp only [Act.put, List.getElem_toArray, List.getElem_cons_zero, List.getElem_cons_succ, List.setIfInBounds_toArray, List.set_cons_zero, List.set_cons_succ]
        refine wpAnyH_take (i := 10) (v := (.bool true)) rfl (by kernel_rfl) (by kernel_rfl) (by kernel_rfl) (fun _ _ _ h => h) (Or.inl ⟨rfl, fun w' hS => by (unfold execOp; go_simp)⟩) hS2 ?_
        simp only [Act.put, List.getElem_toArray, List.getElem_cons_zero, List.getElem_cons_succ, List.setIfInBounds_toArray, List.set_cons_zero, List.set_cons_succ]
        refine wpAnyH_done (by kernel_rfl) ?_ _
        go_wp2
        go_roundg (j - h')
        case measure => have := HR.out; omega
        case rel => exact ⟨h', j, rfl, rfl, rfl, HR.out.1, HR.out.2.1, HR.out.2.2.1, HR.out.2.2.2.2.1, HR.out.2.2.2.2.2, HBL.out.trans (hS2.mono HBL.out.size)⟩
      | false =>
        have HR := Lib.hid (show m ≤ i ∧ i ≤ h ∧ h ≤ b ∧ h < j ∧ (∀ z, m < i → v[i - m - 1]? = some z → Srt.L ltF z e) ∧ (∀ z, v[h - m]? = some z → Srt.L ltF e z) from ⟨by omega, by omega, by omega, by omega, hl, fun z' hz' => by rw [hz] at hz'; cases hz'; exact Srt.L.of_false (by rw [hZ, hE]; exact hq) (HSV.out.2 e (by simp) _ (List.mem_of_getElem? hz))⟩)
        clear hbl hl hr hmi hij hjb q1 q2 q3 q4 q5 q6 hlt hih hhj hz hZ hE
        go_wp2
        have GL := Lib.hid (hfx.lt)
        obtain ⟨a1, a2, a3, a4, a5, a6, a7, a8, a9, hra, ac0, ac1, ac2, ac3, ac4, ac5⟩ := (hfx).at_ gj
        obtain ⟨a0, an⟩ : ∃ zz, Z.name = zz := ⟨_, rfl⟩
        rw [an] at hra ac0
        obtain ⟨b1, b2, b3, b4, b5, b6, b7, b8, b9, hrb, bc0, bc1, bc2, bc3, bc4, bc5⟩ := (hfx).at_ gi
        obtain ⟨b0, bn⟩ : ∃ zz, E.name = zz := ⟨_, rfl⟩
        rw [bn] at hrb bc0
        refine wp_region_held_drew (S := fun V => Below wr.heap.size wr V) (by kernel_rfl) (Below.refl _ _).drew (fun hS0 => ?_)
        generalize wr.drew = W1 at hS0 ⊢
        refine wpAnyH_take (i := 0) (v := ((.func (Fn.func 50) #[] #[]))) rfl (by kernel_rfl) (by kernel_rfl) (by kernel_rfl) (fun _ _ _ h => h) (Or.inl ⟨rfl, fun w' hS => by (unfold execOp; go_simp)⟩) hS0 ?_
        simp only [Act.put, List.getElem_toArray, List.getElem_cons_zero, List.getElem_cons_succ, List.setIfInBounds_toArray, List.set_cons_zero, List.set_cons_succ]
        refine wpAnyH_take (i := 1) (v := (.slice (some ⟨g, 0, none⟩) n cap)) rfl (by kernel_rfl) (by kernel_rfl) (by kernel_rfl) (fun _ _ _ h => h) (Or.inl ⟨rfl, fun w' hS => by (unfold execOp; go_simp)⟩) hS0 ?_
        simp only [Act.put, List.getElem_toArray, List.getElem_cons_zero, List.getElem_cons_succ, List.setIfInBounds_toArray, List.set_cons_zero, List.set_cons_succ]
        refine wpAnyH_take (i := 2) (v := (.int .i64 (h : Nat))) rfl (by kernel_rfl) (by kernel_rfl) (by kernel_rfl) (fun _ _ _ h => h) (Or.inl ⟨rfl, fun w' hS => by (unfold execOp; go_simp)⟩) hS0 ?_
        simp only [Act.put, List.getElem_toArray, List.getElem_cons_zero, List.getElem_cons_succ, List.setIfInBounds_toArray, List.set_cons_zero, List.set_cons_succ]
        refine wpAnyH_take (i := 3) (v := (.pointer (some ⟨g, h * 6, none⟩))) rfl (by kernel_rfl) (by kernel_rfl) (by kernel_rfl) (fun _ _ _ h => h) (Or.inl ⟨rfl, fun w' hS => by (unfold execOp; go_simp)⟩) hS0 ?_
        simp only [Act.put, List.getElem_toArray, List.getElem_cons_zero, List.getElem_cons_succ, List.setIfInBounds_toArray, List.set_cons_zero, List.set_cons_succ]
        refine wpAnyH_take (i := 4) (v := (.agg #[.string a0, .int .i64 a1, .string a2, .string a3, .slice a4 a5 a6, .slice a7 a8 a9])) rfl (by kernel_rfl) (by kernel_rfl) (by kernel_rfl) (fun _ _ _ h => h) (Or.inl ⟨rfl, fun w' hS => by (have y0 := (World.cell?_of_block (hS.block g GL.out)).trans ac0; have y1 := (World.cell?_of_block (hS.block g GL.out)).trans ac1; have y2 := (World.cell?_of_block (hS.block g GL.out)).trans ac2; have y3 := (World.cell?_of_block (hS.block g GL.out)).trans ac3; have y4 := (World.cell?_of_block (hS.block g GL.out)).trans ac4; have y5 := (World.cell?_of_block (hS.block g GL.out)).trans ac5; unfold execOp; go_simp)⟩) hS0 ?_
        simp only [Act.put, List.getElem_toArray, List.getElem_cons_zero, List.getElem_cons_succ, List.setIfInBounds_toArray, List.set_cons_zero, List.set_cons_succ]
        refine wpAnyH_take (i := 5) (v := (.slice (some ⟨g, 0, none⟩) n cap)) rfl (by kernel_rfl) (by kernel_rfl) (by kernel_rfl) (fun _ _ _ h => h) (Or.inl ⟨rfl, fun w' hS => by (unfold execOp; go_simp)⟩) hS0 ?_
        simp only [Act.put, List.getElem_toArray, List.getElem_cons_zero, List.getElem_cons_succ, List.setIfInBounds_toArray, List.set_cons_zero, List.set_cons_succ]
        refine wpAnyH_take (i := 6) (v := (.int .i64 (a : Nat))) rfl (by kernel_rfl) (by kernel_rfl) (by kernel_rfl) (fun _ _ _ h => h) (Or.inl ⟨rfl, fun w' hS => by (unfold execOp; go_simp)⟩) hS0 ?_
        simp only [Act.put, List.getElem_toArray, List.getElem_cons_zero, List.getElem_cons_succ, List.setIfInBounds_toArray, List.set_cons_zero, List.set_cons_succ]
        refine wpAnyH_take (i := 7) (v := (.pointer (some ⟨g, a * 6, none⟩))) rfl (by kernel_rfl) (by kernel_rfl) (by kernel_rfl) (fun _ _ _ h => h) (Or.inl ⟨rfl, fun w' hS => by (unfold execOp; go_simp)⟩) hS0 ?_
        simp only [Act.put, List.getElem_toArray, List.getElem_cons_zero, List.getElem_cons_succ, List.setIfInBounds_toArray, List.set_cons_zero, List.set_cons_succ]
        refine wpAnyH_take (i := 8) (v := (.agg #[.string b0, .int .i64 b1, .string b2, .string b3, .slice b4 b5 b6, .slice b7 b8 b9])) rfl (by kernel_rfl) (by kernel_rfl) (by kernel_rfl) (fun _ _ _ h => h) (Or.inl ⟨rfl, fun w' hS => by (have y0 := (World.cell?_of_block (hS.block g GL.out)).trans bc0; have y1 := (World.cell?_of_block (hS.block g GL.out)).trans bc1; have y2 := (World.cell?_of_block (hS.block g GL.out)).trans bc2; have y3 := (World.cell?_of_block (hS.block g GL.out)).trans bc3; have y4 := (World.cell?_of_block (hS.block g GL.out)).trans bc4; have y5 := (World.cell?_of_block (hS.block g GL.out)).trans bc5; unfold execOp; go_simp)⟩) hS0 ?_
        simp only [Act.put, List.getElem_toArray, List.getElem_cons_zero, List.getElem_cons_succ, List.setIfInBounds_toArray, List.set_cons_zero, List.set_cons_succ]
        refine wpAnyH_one (i := 9) (by kernel_rfl) rfl rfl (op_call (args := #[.agg #[.string a0, .int .i64 a1, .string a2, .string a3, .slice a4 a5 a6, .slice a7 a8 a9], .agg #[.string b0, .int .i64 b1, .string b2, .string b3, .slice b4 b5 b6, .slice b7 b8 b9]]) (f := 50) (by unfold execOp; go_simp) ((cmp_any Z E W1 F F [.string a0, .int .i64 a1, .string a2, .string a3, .slice a4 a5 a6, .slice a7 a8 a9] [.string b0, .int .i64 b1, .string b2, .string b3, .slice b4 b5 b6, .slice b7 b8 b9] (RFi_keeps _ _ _ _ _ _ (fun k _ hl => hS0.block k hl) hS0.size (fun _ _ h => h) hra) (RFi_keeps _ _ _ _ _ _ (fun k _ hl => hS0.block k hl) hS0.size (fun _ _ h => h) hrb)).mono ?_))
        rintro e w2 ⟨⟨nn, rfl, hlt⟩, hb2⟩
        have hS2 := hS0.trans (hb2.mono hS0.size)
        rw [hq] at hlt
        have hn0 : ¬ nn < 0 := of_decide_eq_false hlt
        refine And.intro hS2 ?_
        simp only [Act.put, List.getElem_toArray, List.getElem_cons_zero, List.getElem_cons_succ, List.setIfInBounds_toArray, List.set_cons_zero, List.set_cons_succ]
        refine wpAnyH_take (i := 10) (v := (.bool false)) rfl (by kernel_rfl) (by kernel_rfl) (by kernel_rfl) (fun _ _ _ h => h) (Or.inl ⟨rfl, fun w' hS => by (unfold execOp; go_simp)⟩) hS2 ?_
        simp only [Act.put, List.getElem_toArray, List.getElem_cons_zero, List.getElem_cons_succ, List.setIfInBounds_toArray, List.set_cons_zero, List.set_cons_succ]
        refine wpAnyH_done (by kernel_rfl) ?_ _
        go_wp2
        go_roundg (h - i)
        case measure => have := HR.out; omega
        case rel => exact ⟨i, h, rfl, rfl, rfl, HR.out.1, HR.out.2.1, HR.out.2.2.1, HR.out.2.2.2.2.1, HR.out.2.2.2.2.2, HBL.out.trans (hS2.mono HBL.out.size)⟩
    · obtain rfl : i = j := by omega
      have f1 : ¬ (i : Int) < (i : Int) := by omega
      have f2 : decide (i < i) = false := decide_eq_false (by omega)
      obtain ⟨v1, v2, hv, hv1, e3, e4⟩ : ∃ v1 v2, v = v1 ++ v2 ∧ v1.length = i - m ∧ (∀ z, v1.getLast? = some z → Srt.L ltF z e) ∧ (∀ z, v2.head? = some z → Srt.L ltF e z) := by
        refine ⟨v.take (i - m), v.drop (i - m), (List.take_append_drop _ _).symm, by rw [List.length_take]; omega, fun z hz => ?_, fun z hz => hr z (by rw [← head_at]; exact hz)⟩
        rcases Nat.lt_or_ge m i with h1 | h1
        · have h2 : v[i - m - 1]? = some v[i - m - 1] := List.getElem?_eq_getElem (by omega)
          have h3 := last_at (by omega) h2 rfl
          rw [h3] at hz
          cases hz
          exact hl _ h1 h2
        · rw [show i - m = 0 by omega] at hz
          simp at hz
      obtain ⟨I1, hI1⟩ : ∃ k, i - 1 = k := ⟨_, rfl⟩
      have e5 : (i : Int) - 1 = (I1 : Int) := by omega
      have w5 : IntKind.i64.wrap (I1 : Int) = (I1 : Int) := wrap_nat (by omega)
      have HV := Lib.hid (show v = v1 ++ v2 ∧ a + v1.length = I1 ∧ Srt.Sd ltF (v1 ++ e :: v2) from ⟨hv, by omega, Srt.put_split weakF (hv ▸ HSV.out.1) e3 e4⟩)
      have hfx := HH.out.bel hbl
      rw [hv, sn_app] at hfx
      have HF := Lib.hid (show FdT wr F g (x ++ (e.2 :: (sn v1 ++ (sn v2 ++ y)))) by simpa [sn] using hfx)
      clear hbl hl hr hmi hij hjb q1 q2 q3 q4 q5 q6 hge hv hv1 e3 e4 hI1 hfx
      go_wp2
      go_loopg [13] v1.length (fun gk v13 wr => ∃ (k : Nat) (p1 p2 : TF), gk = p2.length ∧ v13 = .int .i64 k ∧ v1 = p1 ++ p2 ∧ a + p1.length = k ∧ Gr (fun x => x = g) w wr ∧ FdT wr F g (x ++ (sn p1 ++ (e.2 :: (sn p2 ++ (sn v2 ++ y))))))
      case atStart => exact ⟨a, [], v1, rfl, rfl, rfl, by simp, Gr.of_below HBL.out, HF.out⟩
      case round =>
        obtain ⟨k, p1, p2, rfl, rfl, rfl, hk, hgr, hfx⟩ := hrel
        obtain ⟨q1, q2, q3, q4, q5, q6⟩ := HN.out
        obtain ⟨r1, r2, r3⟩ := HV.out
        have HGX := Lib.hid hgr
        cases p2 with
        | nil =>
          have f1 : ¬ (k : Int) < (I1 : Int) := by simp at r2; omega
          have f2 : decide (k < I1) = false := decide_eq_false (by simp at r2; omega)
          have HE := Lib.hid (show SdP F g x (e :: v) y w (.returned (.tuple #[])) wr from ⟨rfl, p1 ++ e :: v2, by rw [r1, List.append_nil]; exact List.perm_middle, by simpa using r3, hgr, by simpa [sn] using hfx⟩)
          clear hgr hfx r1 r2 r3 q1 q2 q3 q4 q5 q6 hk
          go_wp2
          refine bodyPost_ret (results_none rfl _ _ _) rfl ?_
          exact HE.out
        | cons d p2 =>
          obtain ⟨P, hP⟩ : ∃ P, x ++ sn p1 = P := ⟨_, rfl⟩
          obtain ⟨Z, hZ⟩ : ∃ Z, sn p2 ++ (sn v2 ++ y) = Z := ⟨_, rfl⟩
          have el : x ++ (sn p1 ++ (e.2 :: (sn (d :: p2) ++ (sn v2 ++ y)))) = P ++ e.2 :: ([] ++ d.2 :: Z) := by rw [← hP, ← hZ]; simp [sn]
          have er : P ++ d.2 :: ([] ++ e.2 :: Z) = x ++ (sn (p1 ++ [d]) ++ (e.2 :: (sn p2 ++ (sn v2 ++ y)))) := by rw [← hP, ← hZ]; simp [sn]
          rw [el] at hfx
          have lP := congrArg List.length hP
          have lZ := congrArg List.length hZ
          have rr := congrArg List.length r1
          simp only [List.length_append, sn_len, List.length_cons, List.length_nil] at lP lZ hk rr r2
          obtain ⟨k', hk'⟩ : ∃ k', k + 1 = k' := ⟨_, rfl⟩
          have lk : P.length = k := by omega
          have ga := sw_get1 P [] Z e.2 d.2
          have gb := sw_get2 P [] Z e.2 d.2
          have gs := sw_12 P [] Z e.2 d.2
          rw [lk, List.length_nil, Nat.add_zero, hk'] at gb gs
          rw [lk] at ga
          rw [er] at gs
          have ll : (P ++ e.2 :: ([] ++ d.2 :: Z)).length = n := by simp only [List.length_append, List.length_cons, List.length_nil]; omega
          obtain ⟨D, hD⟩ : ∃ D, d.2 = D := ⟨_, rfl⟩
          obtain ⟨E, hE⟩ : ∃ E, e.2 = E := ⟨_, rfl⟩
          rw [hD, hE] at hfx ga gb ll
          have gs : ((P ++ E :: ([] ++ D :: Z)).set k D).set k' E = x ++ (sn (p1 ++ [d]) ++ (e.2 :: (sn p2 ++ (sn v2 ++ y)))) := by rw [← hD, ← hE]; exact gs
          have ek : (k : Int) + 1 = (k' : Int) := by omega
          have f1 : (k : Int) < (I1 : Int) := by omega
          have f2 : decide (k < I1) = true := decide_eq_true (by omega)
          have i0 : (0 : Int) ≤ (k : Int) := by omega
          have j0 : (0 : Int) ≤ (k' : Int) := by omega
          have i1 : (k : Int) < (n : Int) := by omega
          have j1 : (k' : Int) < (n : Int) := by omega
          have wi : IntKind.i64.wrap (k : Int) = (k : Int) := wrap_nat (by omega)
          have wj : IntKind.i64.wrap (k' : Int) = (k' : Int) := wrap_nat (by omega)
          have iN : k < n := by omega
          have jN : k' < n := by omega
          have HK := Lib.hid (show a + (p1 ++ [d]).length = k' by simp; omega)
          clear hgr hP hZ el er lP lZ rr lk hk hk' hD hE r1 r2 r3 q1 q2 q3 q4 q5 q6
          go_wp2
          have hfd0 : FdT wr.drew F g (P ++ E :: ([] ++ D :: Z)) := hfx.gr (S := fun _ => False) (Gr.refl _).drew (fun h => h) (fun _ _ h => h)
          have hg0 : Gr (fun x => x = g) wr wr.drew := (Gr.refl wr).drew
          refine wp_region_held_drew (S := fun _ => True) (by kernel_rfl) trivial (fun hS0 => ?_)
          generalize wr.drew = W1 at hfd0 hg0 ⊢
          obtain ⟨a1, a2, a3, a4, a5, a6, a7, a8, a9, hra, ac0, ac1, ac2, ac3, ac4, ac5⟩ := (hfd0).at_ ga
          obtain ⟨a0, an⟩ : ∃ zz, E.name = zz := ⟨_, rfl⟩
          rw [an] at hra ac0
          obtain ⟨b1, b2, b3, b4, b5, b6, b7, b8, b9, hrb, bc0, bc1, bc2, bc3, bc4, bc5⟩ := (hfd0).at_ gb
          obtain ⟨b0, bn⟩ : ∃ zz, D.name = zz := ⟨_, rfl⟩
          rw [bn] at hrb bc0
          have hP1 := hfd0.put (i := k) (by omega) hrb
          have hG1 := putCs_gr g [.string b0, .int .i64 b1, .string b2, .string b3, .slice b4 b5 b6, .slice b7 b8 b9] (k * 6) W1
          have hV := hfd0.swap (i := k) (j := k') (by omega) (by omega) hra hrb
          have hG := hG1.trans (putCs_gr g [.string a0, .int .i64 a1, .string a2, .string a3, .slice a4 a5 a6, .slice a7 a8 a9] (k' * 6) (putCs W1 g (k * 6) [.string b0, .int .i64 b1, .string b2, .string b3, .slice b4 b5 b6, .slice b7 b8 b9]))
          obtain ⟨z, hz⟩ : ∃ z, ((P ++ E :: ([] ++ D :: Z)).set (k) D)[k']? = some z := ⟨_, List.getElem?_eq_getElem (by rw [List.length_set]; omega)⟩
          obtain ⟨z1, z2, z3, z4, z5, z6, z7, z8, z9, hrz, zc0, zc1, zc2, zc3, zc4, zc5⟩ := (hP1).at_ hz
          obtain ⟨z0, zn⟩ : ∃ zz, z.name = zz := ⟨_, rfl⟩
          rw [zn] at hrz zc0
          have fi0 := hfd0.thaw (k * 6)
          have fj0 := hP1.thaw (k' * 6)
          have fi1 := hfd0.thaw (k * 6 + 1)
          have fj1 := hP1.thaw (k' * 6 + 1)
          have fi2 := hfd0.thaw (k * 6 + 2)
          have fj2 := hP1.thaw (k' * 6 + 2)
          have fi3 := hfd0.thaw (k * 6 + 3)
          have fj3 := hP1.thaw (k' * 6 + 3)
          have fi4 := hfd0.thaw (k * 6 + 4)
          have fj4 := hP1.thaw (k' * 6 + 4)
          have fi5 := hfd0.thaw (k * 6 + 5)
          have fj5 := hP1.thaw (k' * 6 + 5)
          have gl := hfd0.lt
          have gl2 := hP1.lt
          obtain ⟨V1, hV1⟩ : ∃ V, putCs W1 g (k * 6) [.string b0, .int .i64 b1, .string b2, .string b3, .slice b4 b5 b6, .slice b7 b8 b9] = V := ⟨_, rfl⟩
          rw [hV1] at hV hG hP1 hG1 hrz zc0 zc1 zc2 zc3 zc4 zc5 fj0 fj1 fj2 fj3 fj4 fj5 gl2
          obtain ⟨V2, hV2⟩ : ∃ V, putCs V1 g (k' * 6) [.string a0, .int .i64 a1, .string a2, .string a3, .slice a4 a5 a6, .slice a7 a8 a9] = V := ⟨_, rfl⟩
          rw [hV2] at hV hG
          clear hP1 hG1 hrz hra hrb
          refine wpAnyH_take (i := 0) (v := (.slice (some ⟨g, 0, none⟩) n cap)) rfl (by kernel_rfl) (by kernel_rfl) (by kernel_rfl) (fun _ _ _ h => h) (Or.inl ⟨rfl, fun w' hS => by (unfold execOp; go_simp)⟩) hS0 ?_
          simp only [Act.put, List.getElem_toArray, List.getElem_cons_zero, List.getElem_cons_succ, List.setIfInBounds_toArray, List.set_cons_zero, List.set_cons_succ]
          refine wpAnyH_take (i := 1) (v := (.int .i64 (k : Nat))) rfl (by kernel_rfl) (by kernel_rfl) (by kernel_rfl) (fun _ _ _ h => h) (Or.inl ⟨rfl, fun w' hS => by (unfold execOp; go_simp)⟩) hS0 ?_
          simp only [Act.put, List.getElem_toArray, List.getElem_cons_zero, List.getElem_cons_succ, List.setIfInBounds_toArray, List.set_cons_zero, List.set_cons_succ]
          refine wpAnyH_take (i := 2) (v := (.slice (some ⟨g, 0, none⟩) n cap)) rfl (by kernel_rfl) (by kernel_rfl) (by kernel_rfl) (fun _ _ _ h => h) (Or.inl ⟨rfl, fun w' hS => by (unfold execOp; go_simp)⟩) hS0 ?_
          simp only [Act.put, List.getElem_toArray, List.getElem_cons_zero, List.getElem_cons_succ, List.setIfInBounds_toArray, List.set_cons_zero, List.set_cons_succ]
          refine wpAnyH_take (i := 3) (v := (.int .i64 (k : Nat))) rfl (by kernel_rfl) (by kernel_rfl) (by kernel_rfl) (fun _ _ _ h => h) (Or.inl ⟨rfl, fun w' hS => by (unfold execOp; go_simp)⟩) hS0 ?_
          simp only [Act.put, List.getElem_toArray, List.getElem_cons_zero, List.getElem_cons_succ, List.setIfInBounds_toArray, List.set_cons_zero, List.set_cons_succ]
          refine wpAnyH_take (i := 4) (v := (.int .i64 (k' : Nat))) rfl (by kernel_rfl) (by kernel_rfl) (by kernel_rfl) (fun _ _ _ h => h) (Or.inl ⟨rfl, fun w' hS => by (unfold execOp; go_simp)⟩) hS0 ?_
          simp only [Act.put, List.getElem_toArray, List.getElem_cons_zero, List.getElem_cons_succ, List.setIfInBounds_toArray, List.set_cons_zero, List.set_cons_succ]
          refine wpAnyH_take (i := 5) (v := (.slice (some ⟨g, 0, none⟩) n cap)) rfl (by kernel_rfl) (by kernel_rfl) (by kernel_rfl) (fun _ _ _ h => h) (Or.inl ⟨rfl, fun w' hS => by (unfold execOp; go_simp)⟩) hS0 ?_
          simp only [Act.put, List.getElem_toArray, List.getElem_cons_zero, List.getElem_cons_succ, List.setIfInBounds_toArray, List.set_cons_zero, List.set_cons_succ]
          refine wpAnyH_take (i := 6) (v := (.int .i64 (k : Nat))) rfl (by kernel_rfl) (by kernel_rfl) (by kernel_rfl) (fun _ _ _ h => h) (Or.inl ⟨rfl, fun w' hS => by (unfold execOp; go_simp)⟩) hS0 ?_
          simp only [Act.put, List.getElem_toArray, List.getElem_cons_zero, List.getElem_cons_succ, List.setIfInBounds_toArray, List.set_cons_zero, List.set_cons_succ]
          refine wpAnyH_take (i := 7) (v := (.int .i64 (k' : Nat))) rfl (by kernel_rfl) (by kernel_rfl) (by kernel_rfl) (fun _ _ _ h => h) (Or.inl ⟨rfl, fun w' hS => by (unfold execOp; go_simp)⟩) hS0 ?_
          simp only [Act.put, List.getElem_toArray, List.getElem_cons_zero, List.getElem_cons_succ, List.setIfInBounds_toArray, List.set_cons_zero, List.set_cons_succ]
          refine wpAnyH_take (i := 8) (v := (.pointer (some ⟨g, k' * 6, none⟩))) rfl (by kernel_rfl) (by kernel_rfl) (by kernel_rfl) (fun _ _ _ h => h) (Or.inl ⟨rfl, fun w' hS => by (unfold execOp; go_simp)⟩) hS0 ?_
          simp only [Act.put, List.getElem_toArray, List.getElem_cons_zero, List.getElem_cons_succ, List.setIfInBounds_toArray, List.set_cons_zero, List.set_cons_succ]
          refine wpAnyH_take (i := 10) (v := (.slice (some ⟨g, 0, none⟩) n cap)) rfl (by kernel_rfl) (by kernel_rfl) (by kernel_rfl) (fun _ _ _ h => h) (Or.inl ⟨rfl, fun w' hS => by (unfold execOp; go_simp)⟩) hS0 ?_
          simp only [Act.put, List.getElem_toArray, List.getElem_cons_zero, List.getElem_cons_succ, List.setIfInBounds_toArray, List.set_cons_zero, List.set_cons_succ]
          refine wpAnyH_take (i := 11) (v := (.int .i64 (k : Nat))) rfl (by kernel_rfl) (by kernel_rfl) (by kernel_rfl) (fun _ _ _ h => h) (Or.inl ⟨rfl, fun w' hS => by (unfold execOp; go_simp)⟩) hS0 ?_
          simp only [Act.put, List.getElem_toArray, List.getElem_cons_zero, List.getElem_cons_succ, List.setIfInBounds_toArray, List.set_cons_zero, List.set_cons_succ]
          refine wpAnyH_take (i := 12) (v := (.pointer (some ⟨g, k * 6, none⟩))) rfl (by kernel_rfl) (by kernel_rfl) (by kernel_rfl) (fun _ _ _ h => h) (Or.inl ⟨rfl, fun w' hS => by (unfold execOp; go_simp)⟩) hS0 ?_
          simp only [Act.put, List.getElem_toArray, List.getElem_cons_zero, List.getElem_cons_succ, List.setIfInBounds_toArray, List.set_cons_zero, List.set_cons_succ]
          refine wpAnyH_two (i := 9) (j := 13) (by kernel_rfl) rfl rfl rfl rfl (op_val (v := .agg #[.string b0, .int .i64 b1, .string b2, .string b3, .slice b4 b5 b6, .slice b7 b8 b9]) (w' := W1) (by unfold execOp; go_simp) (And.intro trivial ?_)) (op_val (v := .agg #[.string a0, .int .i64 a1, .string a2, .string a3, .slice a4 a5 a6, .slice a7 a8 a9]) (w' := W1) (by unfold execOp; go_simp) (And.intro trivial ?_))
          · simp only [Act.put, List.getElem_toArray, List.getElem_cons_zero, List.getElem_cons_succ, List.setIfInBounds_toArray, List.set_cons_zero, List.set_cons_succ]
            refine wpAnyH_one (i := 13) (by kernel_rfl) rfl rfl (op_val (v := .agg #[.string a0, .int .i64 a1, .string a2, .string a3, .slice a4 a5 a6, .slice a7 a8 a9]) (w' := W1) (by unfold execOp; go_simp) (And.intro trivial ?_))
            simp only [Act.put, List.getElem_toArray, List.getElem_cons_zero, List.getElem_cons_succ, List.setIfInBounds_toArray, List.set_cons_zero, List.set_cons_succ]
            refine wpAnyH_take (i := 14) (v := (.pointer (some ⟨g, k * 6, none⟩))) rfl (by kernel_rfl) (by kernel_rfl) (by kernel_rfl) (fun _ _ _ h => h) (Or.inl ⟨rfl, fun w' hS => by (unfold execOp; go_simp)⟩) hS0 ?_
            simp only [Act.put, List.getElem_toArray, List.getElem_cons_zero, List.getElem_cons_succ, List.setIfInBounds_toArray, List.set_cons_zero, List.set_cons_succ]
            refine wpAnyH_one (i := 15) (by kernel_rfl) rfl rfl (op_skip (w' := V1) (by rw [← hV1]; simp only [putCs]; unfold execOp; go_simp) (And.intro trivial ?_))
            simp only [Act.put, List.getElem_toArray, List.getElem_cons_zero, List.getElem_cons_succ, List.setIfInBounds_toArray, List.set_cons_zero, List.set_cons_succ]
            refine wpAnyH_take (i := 16) (v := (.pointer (some ⟨g, k' * 6, none⟩))) rfl (by kernel_rfl) (by kernel_rfl) (by kernel_rfl) (fun _ _ _ h => h) (Or.inl ⟨rfl, fun w' hS => by (unfold execOp; go_simp)⟩) hS0 ?_
            simp only [Act.put, List.getElem_toArray, List.getElem_cons_zero, List.getElem_cons_succ, List.setIfInBounds_toArray, List.set_cons_zero, List.set_cons_succ]
            refine wpAnyH_one (i := 17) (by kernel_rfl) rfl rfl (op_skip (w' := V2) (by rw [← hV2]; simp only [putCs]; unfold execOp; go_simp) (And.intro trivial ?_))
            simp only [Act.put, List.getElem_toArray, List.getElem_cons_zero, List.getElem_cons_succ, List.setIfInBounds_toArray, List.set_cons_zero, List.set_cons_succ]
            refine wpAnyH_done (by kernel_rfl) ?_ _
            try go_wp2
            go_roundg p2.length
            case measure => simp
            case rel =>
              rw [gs] at hV
              exact ⟨k', p1 ++ [d], p2, rfl, rfl, by simp, HK.out, (HGX.out.trans hg0).trans hG, hV⟩
          · simp only [Act.put, List.getElem_toArray, List.getElem_cons_zero, List.getElem_cons_succ, List.setIfInBounds_toArray, List.set_cons_zero, List.set_cons_succ]
            refine wpAnyH_one (i := 9) (by kernel_rfl) rfl rfl (op_val (v := .agg #[.string b0, .int .i64 b1, .string b2, .string b3, .slice b4 b5 b6, .slice b7 b8 b9]) (w' := W1) (by unfold execOp; go_simp) (And.intro trivial ?_))
            simp only [Act.put, List.getElem_toArray, List.getElem_cons_zero, List.getElem_cons_succ, List.setIfInBounds_toArray, List.set_cons_zero, List.set_cons_succ]
            refine wpAnyH_take (i := 14) (v := (.pointer (some ⟨g, k * 6, none⟩))) rfl (by kernel_rfl) (by kernel_rfl) (by kernel_rfl) (fun _ _ _ h => h) (Or.inl ⟨rfl, fun w' hS => by (unfold execOp; go_simp)⟩) hS0 ?_
            simp only [Act.put, List.getElem_toArray, List.getElem_cons_zero, List.getElem_cons_succ, List.setIfInBounds_toArray, List.set_cons_zero, List.set_cons_succ]
            refine wpAnyH_one (i := 15) (by kernel_rfl) rfl rfl (op_skip (w' := V1) (by rw [← hV1]; simp only [putCs]; unfold execOp; go_simp) (And.intro trivial ?_))
            simp only [Act.put, List.getElem_toArray, List.getElem_cons_zero, List.getElem_cons_succ, List.setIfInBounds_toArray, List.set_cons_zero, List.set_cons_succ]
            refine wpAnyH_take (i := 16) (v := (.pointer (some ⟨g, k' * 6, none⟩))) rfl (by kernel_rfl) (by kernel_rfl) (by kernel_rfl) (fun _ _ _ h => h) (Or.inl ⟨rfl, fun w' hS => by (unfold execOp; go_simp)⟩) hS0 ?_
            simp only [Act.put, List.getElem_toArray, List.getElem_cons_zero, List.getElem_cons_succ, List.setIfInBounds_toArray, List.set_cons_zero, List.set_cons_succ]
            refine wpAnyH_one (i := 17) (by kernel_rfl) rfl rfl (op_skip (w' := V2) (by rw [← hV2]; simp only [putCs]; unfold execOp; go_simp) (And.intro trivial ?_))
            simp only [Act.put, List.getElem_toArray, List.getElem_cons_zero, List.getElem_cons_succ, List.setIfInBounds_toArray, List.set_cons_zero, List.set_cons_succ]
            refine wpAnyH_done (by kernel_rfl) ?_ _
            try go_wp2
            go_roundg p2.length
            case measure => simp
            case rel =>
              rw [gs] at hV
              exact ⟨k', p1 ++ [d], p2, rfl, rfl, by simp, HK.out, (HGX.out.trans hg0).trans hG, hV⟩
end Go.Proofs.Ytcfgjfahjaimiaa

namespace Go.Proofs.Ytcfgjfahjaimiaa
open Go.RowKit
set_option linter.unusedVariables false
set_option linter.unusedSimpArgs false

set_option maxRecDepth 100000 in
set_option maxHeartbeats 8000000 in
theorem sym2_any (x y : List Fi) (u : TF) (e : Nat × Fi) (w : World) (F : Nat → Prop) (g n cap : Nat) (hn : (x ++ (sn u ++ (sn [e] ++ y))).length = n) (hn2 : n ≤ 100000) (h : FdT w F g (x ++ (sn u ++ (sn [e] ++ y)))) (hu0 : 0 < u.length) (su : Srt.Sd ltF u) (hap : Srt.Ap u [e]) (a m b : Nat) (ha : a = x.length) (hm : m = x.length + u.length) (hb : b = x.length + u.length + 1) (hu2 : 1 < u.length) :
    Calls Try.prog 78 #[.slice (some ⟨g, 0, none⟩) n cap, .int .i64 a, .int .i64 m, .int .i64 b, .func (Fn.func 50) #[] #[]] w (SdP F g x (u ++ [e]) y w) := by
  have n2 : (n : Int) ≤ 100000 := by omega
  have hn1 := hn
  simp only [List.length_append, sn_len, List.length_cons, List.length_nil] at hn1
  obtain ⟨d0, hd0⟩ : ∃ d, m - a = d := ⟨_, rfl⟩
  have e0 : (m : Int) - (a : Int) = (d0 : Int) := by omega
  have w0 : IntKind.i64.wrap (d0 : Int) = (d0 : Int) := wrap_nat (by omega)
  have f0 : ¬ (d0 : Int) = 1 := by omega
  have f00 : ((d0 : Int) == 1) = false := by simpa using f0
  have f01 : ¬ d0 = 1 := by omega
  have e1 : (b : Int) - (m : Int) = 1 := by omega
  have HH := Lib.hid h
  have HSU := Lib.hid (And.intro su hap)
  have HN := Lib.hid (show x.length + (u.length + (1 + y.length)) = n ∧ n ≤ 100000 ∧ a = x.length ∧ m = x.length + u.length ∧ b = x.length + u.length + 1 ∧ 1 < u.length from ⟨by omega, hn2, ha, hm, hb, hu2⟩)
  clear hn hn1 h hu0 su hap ha hm hb hu2 hd0
  go_enter Try.func78, Try.ntmps78
  go_wp2
  go_loopg [14, 15, 16] (m - a) (fun gk v14 v15 v16 wr => ∃ i j : Nat, gk = j - i ∧ v14 = .int .i64 i ∧ v15 = .int .i64 j ∧ a ≤ i ∧ i ≤ j ∧ j ≤ m ∧ (∀ z, a < i → u[i - a - 1]? = some z → Srt.L ltF z e) ∧ (∀ z, u[j - a]? = some z → Srt.L ltF e z) ∧ Below w.heap.size w wr)
  case atStart => exact ⟨a, m, rfl, rfl, rfl, Nat.le_refl _, by have := HN.out; omega, Nat.le_refl _, fun z hz => absurd hz (by omega), fun z hz => by have := (List.getElem?_eq_some_iff.1 hz).1; have := HN.out; omega, Below.refl _ w⟩
  case round =>
    obtain ⟨i, j, rfl, rfl, rfl, hmi, hij, hjb, hl, hr, hbl⟩ := hrel
    obtain ⟨q1, q2, q3, q4, q5, q6⟩ := HN.out
    have HBL := Lib.hid hbl
    clear e0 w0 f0 f00 f01
    rcases Nat.lt_or_ge i j with hlt | hge
    · obtain ⟨s, h, es, ws, us, eh, wh, hih, hhj, -, -⟩ := mid_ex i j hlt (by omega)
      have f1 : (i : Int) < (j : Int) := by omega
      have f2 : decide (i < j) = true := decide_eq_true hlt
      have f3 : (0 : Int) ≤ (s : Int) := by omega
      obtain ⟨z, hz⟩ : ∃ z, u[h - a]? = some z := ⟨_, List.getElem?_eq_getElem (by omega)⟩
      have hfx := HH.out.bel hbl
      obtain ⟨Z, hZ⟩ : ∃ Z, z.2 = Z := ⟨_, rfl⟩
      obtain ⟨E, hE⟩ : ∃ E, e.2 = E := ⟨_, rfl⟩
      have gj : (x ++ (sn u ++ (sn [e] ++ y)))[h]? = some Z := by
        have := get_u x y u [e] (h - a) z hz
        rw [hZ] at this
        rwa [show x.length + (h - a) = h by omega] at this
      have gi : (x ++ (sn u ++ (sn [e] ++ y)))[m]? = some E := by
        have := get_v x y u [e] 0 e rfl
        rw [hE] at this
        rwa [show x.length + u.length + 0 = m by omega] at this
      have i0 : (0 : Int) ≤ (m : Int) := by omega
      have j0 : (0 : Int) ≤ (h : Int) := by omega
      have i1 : (m : Int) < (n : Int) := by omega
      have j1 : (h : Int) < (n : Int) := by omega
      have wi : IntKind.i64.wrap (m : Int) = (m : Int) := wrap_nat (by omega)
      have wj : IntKind.i64.wrap (h : Int) = (h : Int) := wrap_nat (by omega)
      have iN : m < n := by omega
      have jN : h < n := by omega
      cases hq : ltF E Z with
      | false =>
        obtain ⟨h', hh'⟩ : ∃ k, h + 1 = k := ⟨_, rfl⟩
        have e2 : (h : Int) + 1 = (h' : Int) := by omega
        have w2' : IntKind.i64.wrap (h' : Int) = (h' : Int) := wrap_nat (by omega)
        have HR := Lib.hid (show a ≤ h' ∧ h' ≤ j ∧ j ≤ m ∧ i < h' ∧ (∀ z, a < h' → u[h' - a - 1]? = some z → Srt.L ltF z e) ∧ (∀ z, u[j - a]? = some z → Srt.L ltF e z) from ⟨by omega, by omega, hjb, by omega, fun z' _ hz' => by rw [show h' - a - 1 = h - a by omega, hz] at hz'; cases hz'; exact Srt.L.of_false (by rw [hZ, hE]; exact hq) (HSU.out.2 _ (List.mem_of_getElem? hz) e (by simp)), hr⟩)
        clear hbl hl hr hmi hij hjb q1 q2 q3 q4 q5 q6 hlt hih hhj hz hZ hE hh'
        go_wp2
        have GL := Lib.hid (hfx.lt)
        obtain ⟨a1, a2, a3, a4, a5, a6, a7, a8, a9, hra, ac0, ac1, ac2, ac3, ac4, ac5⟩ := (hfx).at_ gi
        obtain ⟨a0, an⟩ : ∃ zz, E.name = zz := ⟨_, rfl⟩
        rw [an] at hra ac0
        obtain ⟨b1, b2, b3, b4, b5, b6, b7, b8, b9, hrb, bc0, bc1, bc2, bc3, bc4, bc5⟩ := (hfx).at_ gj
        obtain ⟨b0, bn⟩ : ∃ zz, Z.name = zz := ⟨_, rfl⟩
        rw [bn] at hrb bc0
        refine wp_region_held_drew (S := fun V => Below wr.heap.size wr V) (by kernel_rfl) (Below.refl _ _).drew (fun hS0 => ?_)
        generalize wr.drew = W1 at hS0 ⊢
        refine wpAnyH_take (i := 0) (v := ((.func (Fn.func 50) #[] #[]))) rfl (by kernel_rfl) (by kernel_rfl) (by kernel_rfl) (fun _ _ _ h => h) (Or.inl ⟨rfl, fun w' hS => by (unfold execOp; go_simp)⟩) hS0 ?_
        simp only [Act.put, List.getElem_toArray, List.getElem_cons_zero, List.getElem_cons_succ, List.setIfInBounds_toArray, List.set_cons_zero, List.set_cons_succ]
        refine wpAnyH_take (i := 1) (v := (.slice (some ⟨g, 0, none⟩) n cap)) rfl (by kernel_rfl) (by kernel_rfl) (by kernel_rfl) (fun _ _ _ h => h) (Or.inl ⟨rfl, fun w' hS => by (unfold execOp; go_simp)⟩) hS0 ?_
        simp only [Act.put, List.getElem_toArray, List.getElem_cons_zero, List.getElem_cons_succ, List.setIfInBounds_toArray, List.set_cons_zero, List.set_cons_succ]
        refine wpAnyH_take (i := 2) (v := (.int .i64 (m : Nat))) rfl (by kernel_rfl) (by kernel_rfl) (by kernel_rfl) (fun _ _ _ h => h) (Or.inl ⟨rfl, fun w' hS => by (unfold execOp; go_simp)⟩) hS0 ?_
        simp only [Act.put, List.getElem_toArray, List.getElem_cons_zero, List.getElem_cons_succ, List.setIfInBounds_toArray, List.set_cons_zero, List.set_cons_succ]
        refine wpAnyH_take (i := 3) (v := (.pointer (some ⟨g, m * 6, none⟩))) rfl (by kernel_rfl) (by kernel_rfl) (by kernel_rfl) (fun _ _ _ h => h) (Or.inl ⟨rfl, fun w' hS => by (unfold execOp; go_simp)⟩) hS0 ?_
        simp only [Act.put, List.getElem_toArray, List.getElem_cons_zero, List.getElem_cons_succ, List.setIfInBounds_toArray, List.set_cons_zero, List.set_cons_succ]
        refine wpAnyH_take (i := 4) (v := (.agg #[.string a0, .int .i64 a1, .string a2, .string a3, .slice a4 a5 a6, .slice a7 a8 a9])) rfl (by kernel_rfl) (by kernel_rfl) (by kernel_rfl) (fun _ _ _ h => h) (Or.inl ⟨rfl, fun w' hS => by (have y0 := (World.cell?_of_block (hS.block g GL.out)).trans ac0; have y1 := (World.cell?_of_block (hS.block g GL.out)).trans ac1; have y2 := (World.cell?_of_block (hS.block g GL.out)).trans ac2; have y3 := (World.cell?_of_block (hS.block g GL.out)).trans ac3; have y4 := (World.cell?_of_block (hS.block g GL.out)).trans ac4; have y5 := (World.cell?_of_block (hS.block g GL.out)).trans ac5; unfold execOp; go_simp)⟩) hS0 ?_
        simp only [Act.put, List.getElem_toArray, List.getElem_cons_zero, List.getElem_cons_succ, List.setIfInBounds_toArray, List.set_cons_zero, List.set_cons_succ]
        refine wpAnyH_take (i := 5) (v := (.slice (some ⟨g, 0, none⟩) n cap)) rfl (by kernel_rfl) (by kernel_rfl) (by kernel_rfl) (fun _ _ _ h => h) (Or.inl ⟨rfl, fun w' hS => by (unfold execOp; go_simp)⟩) hS0 ?_
        simp only [Act.put, List.getElem_toArray, List.getElem_cons_zero, List.getElem_cons_succ, List.setIfInBounds_toArray, List.set_cons_zero, List.set_cons_succ]
        refine wpAnyH_take (i := 6) (v := (.int .i64 (h : Nat))) rfl (by kernel_rfl) (by kernel_rfl) (by kernel_rfl) (fun _ _ _ h => h) (Or.inl ⟨rfl, fun w' hS => by (unfold execOp; go_simp)⟩) hS0 ?_
        simp only [Act.put, List.getElem_toArray, List.getElem_cons_zero, List.getElem_cons_succ, List.setIfInBounds_toArray, List.set_cons_zero, List.set_cons_succ]
        refine wpAnyH_take (i := 7) (v := (.pointer (some ⟨g, h * 6, none⟩))) rfl (by kernel_rfl) (by kernel_rfl) (by kernel_rfl) (fun _ _ _ h => h) (Or.inl ⟨rfl, fun w' hS => by (unfold execOp; go_simp)⟩) hS0 ?_
        simp only [Act.put, List.getElem_toArray, List.getElem_cons_zero, List.getElem_cons_succ, List.setIfInBounds_toArray, List.set_cons_zero, List.set_cons_succ]
        refine wpAnyH_take (i := 8) (v := (.agg #[.string b0, .int .i64 b1, .string b2, .string b3, .slice b4 b5 b6, .slice b7 b8 b9])) rfl (by kernel_rfl) (by kernel_rfl) (by kernel_rfl) (fun _ _ _ h => h) (Or.inl ⟨rfl, fun w' hS => by (have y0 := (World.cell?_of_block (hS.block g GL.out)).trans bc0; have y1 := (World.cell?_of_block (hS.block g GL.out)).trans bc1; have y2 := (World.cell?_of_block (hS.block g GL.out)).trans bc2; have y3 := (World.cell?_of_block (hS.block g GL.out)).trans bc3; have y4 := (World.cell?_of_block (hS.block g GL.out)).trans bc4; have y5 := (World.cell?_of_block (hS.block g GL.out)).trans bc5; unfold execOp; go_simp)⟩) hS0 ?_
        simp only [Act.put, List.getElem_toArray, List.getElem_cons_zero, List.getElem_cons_succ, List.setIfInBounds_toArray, List.set_cons_zero, List.set_cons_succ]
        refine wpAnyH_one (i := 9) (by kernel_rfl) rfl rfl (op_call (args := #[.agg #[.string a0, .int .i64 a1, .string a2, .string a3, .slice a4 a5 a6, .slice a7 a8 a9], .agg #[.string b0, .int .i64 b1, .string b2, .string b3, .slice b4 b5 b6, .slice b7 b8 b9]]) (f := 50) (by unfold execOp; go_simp) ((cmp_any E Z W1 F F [.string a0, .int .i64 a1, .string a2, .string a3, .slice a4 a5 a6, .slice a7 a8 a9] [.string b0, .int .i64 b1, .string b2, .string b3, .slice b4 b5 b6, .slice b7 b8 b9] (RFi_keeps _ _ _ _ _ _ (fun k _ hl => hS0.block k hl) hS0.size (fun _ _ h => h) hra) (RFi_keeps _ _ _ _ _ _ (fun k _ hl => hS0.block k hl) hS0.size (fun _ _ h => h) hrb)).mono ?_))
        rintro e w2 ⟨⟨nn, rfl, hlt⟩, hb2⟩
        have hS2 := hS0.trans (hb2.mono hS0.size)
        rw [hq] at hlt
        have hn0 : ¬ nn < 0 := of_decide_eq_false hlt
        refine And.intro hS2 ?_
        simp only [Act.put, List.getElem_toArray, List.getElem_cons_zero, List.getElem_cons_succ, List.setIfInBounds_toArray, List.set_cons_zero, List.set_cons_succ]
        refine wpAnyH_take (i := 10) (v := (.bool false)) rfl (by kernel_rfl) (by kernel_rfl) (by kernel_rfl) (fun _ _ _ h => h) (Or.inl ⟨rfl, fun w' hS => by (unfold execOp; go_simp)⟩) hS2 ?_
        simp only [Act.put, List.getElem_toArray, List.getElem_cons_zero, List.getElem_cons_succ, List.setIfInBounds_toArray, List.set_cons_zero, List.set_cons_succ]
        refine wpAnyH_take (i := 11) (v := (.bool true)) rfl (by kernel_rfl) (by kernel_rfl) (by kernel_rfl) (fun _ _ _ h => h) (Or.inl ⟨rfl, fun w' hS => by (unfold execOp; go_simp)⟩) hS2 ?_
        simp only [Act.put, List.getElem_toArray, List.getElem_cons_zero, List.getElem_cons_succ, List.setIfInBounds_toArray, List.set_cons_zero, List.set_cons_succ]
        refine wpAnyH_done (by kernel_rfl) ?_ _
        go_wp2
        go_roundg (j - h')
        case measure => have := HR.out; omega
        case rel => exact ⟨h', j, rfl, rfl, rfl, HR.out.1, HR.out.2.1, HR.out.2.2.1, HR.out.2.2.2.2.1, HR.out.2.2.2.2.2, HBL.out.trans (hS2.mono HBL.out.size)⟩
      | true =>
        have HR := Lib.hid (show a ≤ i ∧ i ≤ h ∧ h ≤ m ∧ h < j ∧ (∀ z, a < i → u[i - a - 1]? = some z → Srt.L ltF z e) ∧ (∀ z, u[h - a]? = some z → Srt.L ltF e z) from ⟨by omega, by omega, by omega, by omega, hl, fun z' hz' => by rw [hz] at hz'; cases hz'; exact Srt.L.of_true (by rw [hZ, hE]; exact hq)⟩)
        clear hbl hl hr hmi hij hjb q1 q2 q3 q4 q5 q6 hlt hih hhj hz hZ hE
        go_wp2
        have GL := Lib.hid (hfx.lt)
        obtain ⟨a1, a2, a3, a4, a5, a6, a7, a8, a9, hra, ac0, ac1, ac2, ac3, ac4, ac5⟩ := (hfx).at_ gi
        obtain ⟨a0, an⟩ : ∃ zz, E.name = zz := ⟨_, rfl⟩
        rw [an] at hra ac0
        obtain ⟨b1, b2, b3, b4, b5, b6, b7, b8, b9, hrb, bc0, bc1, bc2, bc3, bc4, bc5⟩ := (hfx).at_ gj
        obtain ⟨b0, bn⟩ : ∃ zz, Z.name = zz := ⟨_, rfl⟩
        rw [bn] at hrb bc0
        refine wp_region_held_drew (S := fun V => Below wr.heap.size wr V) (by kernel_rfl) (Below.refl _ _).drew (fun hS0 => ?_)
        generalize wr.drew = W1 at hS0 ⊢
        refine wpAnyH_take (i := 0) (v := ((.func (Fn.func 50) #[] #[]))) rfl (by kernel_rfl) (by kernel_rfl) (by kernel_rfl) (fun _ _ _ h => h) (Or.inl ⟨rfl, fun w' hS => by (unfold execOp; go_simp)⟩) hS0 ?_
        simp only [Act.put, List.getElem_toArray, List.getElem_cons_zero, List.getElem_cons_succ, List.setIfInBounds_toArray, List.set_cons_zero, List.set_cons_succ]
        refine wpAnyH_take (i := 1) (v := (.slice (some ⟨g, 0, none⟩) n cap)) rfl (by kernel_rfl) (by kernel_rfl) (by kernel_rfl) (fun _ _ _ h => h) (Or.inl ⟨rfl, fun w' hS => by (unfold execOp; go_simp)⟩) hS0 ?_
        simp only [Act.put, List.getElem_toArray, List.getElem_cons_zero, List.getElem_cons_succ, List.setIfInBounds_toArray, List.set_cons_zero, List.set_cons_succ]
        refine wpAnyH_take (i := 2) (v := (.int .i64 (m : Nat))) rfl (by kernel_rfl) (by kernel_rfl) (by kernel_rfl) (fun _ _ _ h => h) (Or.inl ⟨rfl, fun w' hS => by (unfold execOp; go_simp)⟩) hS0 ?_
        simp only [Act.put, List.getElem_toArray, List.getElem_cons_zero, List.getElem_cons_succ, List.setIfInBounds_toArray, List.set_cons_zero, List.set_cons_succ]
        refine wpAnyH_take (i := 3) (v := (.pointer (some ⟨g, m * 6, none⟩))) rfl (by kernel_rfl) (by kernel_rfl) (by kernel_rfl) (fun _ _ _ h => h) (Or.inl ⟨rfl, fun w' hS => by (unfold execOp; go_simp)⟩) hS0 ?_
        simp only [Act.put, List.getElem_toArray, List.getElem_cons_zero, List.getElem_cons_succ, List.setIfInBounds_toArray, List.set_cons_zero, List.set_cons_succ]
        refine wpAnyH_take (i := 4) (v := (.agg #[.string a0, .int .i64 a1, .string a2, .string a3, .slice a4 a5 a6, .slice a7 a8 a9])) rfl (by kernel_rfl) (by kernel_rfl) (by kernel_rfl) (fun _ _ _ h => h) (Or.inl ⟨rfl, fun w' hS => by (have y0 := (World.cell?_of_block (hS.block g GL.out)).trans ac0; have y1 := (World.cell?_of_block (hS.block g GL.out)).trans ac1; have y2 := (World.cell?_of_block (hS.block g GL.out)).trans ac2; have y3 := (World.cell?_of_block (hS.block g GL.out)).trans ac3; have y4 := (World.cell?_of_block (hS.block g GL.out)).trans ac4; have y5 := (World.cell?_of_block (hS.block g GL.out)).trans ac5; unfold execOp; go_simp)⟩) hS0 ?_
        simp only [Act.put, List.getElem_toArray, List.getElem_cons_zero, List.getElem_cons_succ, List.setIfInBounds_toArray, List.set_cons_zero, List.set_cons_succ]
        refine wpAnyH_take (i := 5) (v := (.slice (some ⟨g, 0, none⟩) n cap)) rfl (by kernel_rfl) (by kernel_rfl) (by kernel_rfl) (fun _ _ _ h => h) (Or.inl ⟨rfl, fun w' hS => by (unfold execOp; go_simp)⟩) hS0 ?_
        simp only [Act.put, List.getElem_toArray, List.getElem_cons_zero, List.getElem_cons_succ, List.setIfInBounds_toArray, List.set_cons_zero, List.set_cons_succ]
        refine wpAnyH_take (i := 6) (v := (.int .i64 (h : Nat))) rfl (by kernel_rfl) (by kernel_rfl) (by kernel_rfl) (fun _ _ _ h => h) (Or.inl ⟨rfl, fun w' hS => by (unfold execOp; go_simp)⟩) hS0 ?_
        simp only [Act.put, List.getElem_toArray, List.getElem_cons_zero, List.getElem_cons_succ, List.setIfInBounds_toArray, List.set_cons_zero, List.set_cons_succ]
        refine wpAnyH_take (i := 7) (v := (.pointer (some ⟨g, h * 6, none⟩))) rfl (by kernel_rfl) (by kernel_rfl) (by kernel_rfl) (fun _ _ _ h => h) (Or.inl ⟨rfl, fun w' hS => by (unfold execOp; go_simp)⟩) hS0 ?_
        simp only [Act.put, List.getElem_toArray, List.getElem_cons_zero, List.getElem_cons_succ, List.setIfInBounds_toArray, List.set_cons_zero, List.set_cons_succ]
        refine wpAnyH_take (i := 8) (v := (.agg #[.string b0, .int .i64 b1, .string b2, .string b3, .slice b4 b5 b6, .slice b7 b8 b9])) rfl (by kernel_rfl) (by kernel_rfl) (by kernel_rfl) (fun _ _ _ h => h) (Or.inl ⟨rfl, fun w' hS => by (have y0 := (World.cell?_of_block (hS.block g GL.out)).trans bc0; have y1 := (World.cell?_of_block (hS.block g GL.out)).trans bc1; have y2 := (World.cell?_of_block (hS.block g GL.out)).trans bc2; have y3 := (World.cell?_of_block (hS.block g GL.out)).trans bc3; have y4 := (World.cell?_of_block (hS.block g GL.out)).trans bc4; have y5 := (World.cell?_of_block (hS.block g GL.out)).trans bc5; unfold execOp; go_simp)⟩) hS0 ?_
        simp only [Act.put, List.getElem_toArray, List.getElem_cons_zero, List.getElem_cons_succ, List.setIfInBounds_toArray, List.set_cons_zero, List.set_cons_succ]
        refine wpAnyH_one (i := 9) (by kernel_rfl) rfl rfl (op_call (args := #[.agg #[.string a0, .int .i64 a1, .string a2, .string a3, .slice a4 a5 a6, .slice a7 a8 a9], .agg #[.string b0, .int .i64 b1, .string b2, .string b3, .slice b4 b5 b6, .slice b7 b8 b9]]) (f := 50) (by unfold execOp; go_simp) ((cmp_any E Z W1 F F [.string a0, .int .i64 a1, .string a2, .string a3, .slice a4 a5 a6, .slice a7 a8 a9] [.string b0, .int .i64 b1, .string b2, .string b3, .slice b4 b5 b6, .slice b7 b8 b9] (RFi_keeps _ _ _ _ _ _ (fun k _ hl => hS0.block k hl) hS0.size (fun _ _ h => h) hra) (RFi_keeps _ _ _ _ _ _ (fun k _ hl => hS0.block k hl) hS0.size (fun _ _ h => h) hrb)).mono ?_))
        rintro e w2 ⟨⟨nn, rfl, hlt⟩, hb2⟩
        have hS2 := hS0.trans (hb2.mono hS0.size)
        rw [hq] at hlt
        have hn0 : nn < 0 := of_decide_eq_true hlt
        refine And.intro hS2 ?_
        simp only [Act.put, List.getElem_toArray, List.getElem_cons_zero, List.getElem_cons_succ, List.setIfInBounds_toArray, List.set_cons_zero, List.set_cons_succ]
        refine wpAnyH_take (i := 10) (v := (.bool true)) rfl (by kernel_rfl) (by kernel_rfl) (by kernel_rfl) (fun _ _ _ h => h) (Or.inl ⟨rfl, fun w' hS => by (unfold execOp; go_simp)⟩) hS2 ?_
        simp only [Act.put, List.getElem_toArray, List.getElem_cons_zero, List.getElem_cons_succ, List.setIfInBounds_toArray, List.set_cons_zero, List.set_cons_succ]
        refine wpAnyH_take (i := 11) (v := (.bool false)) rfl (by kernel_rfl) (by kernel_rfl) (by kernel_rfl) (fun _ _ _ h => h) (Or.inl ⟨rfl, fun w' hS => by (unfold execOp; go_simp)⟩) hS2 ?_
        simp only [Act.put, List.getElem_toArray, List.getElem_cons_zero, List.getElem_cons_succ, List.setIfInBounds_toArray, List.set_cons_zero, List.set_cons_succ]
        refine wpAnyH_done (by kernel_rfl) ?_ _
        go_wp2
        go_roundg (h - i)
        case measure => have := HR.out; omega
        case rel => exact ⟨i, h, rfl, rfl, rfl, HR.out.1, HR.out.2.1, HR.out.2.2.1, HR.out.2.2.2.2.1, HR.out.2.2.2.2.2, HBL.out.trans (hS2.mono HBL.out.size)⟩
    · obtain rfl : i = j := by omega
      have f1 : ¬ (i : Int) < (i : Int) := by omega
      have f2 : decide (i < i) = false := decide_eq_false (by omega)
      obtain ⟨v1, v2, hv, hv1, e3, e4⟩ : ∃ v1 v2, u = v1 ++ v2 ∧ v1.length = i - a ∧ (∀ z, v1.getLast? = some z → Srt.L ltF z e) ∧ (∀ z, v2.head? = some z → Srt.L ltF e z) := by
        refine ⟨u.take (i - a), u.drop (i - a), (List.take_append_drop _ _).symm, by rw [List.length_take]; omega, fun z hz => ?_, fun z hz => hr z (by rw [← head_at]; exact hz)⟩
        rcases Nat.lt_or_ge a i with h1 | h1
        · have h2 : u[i - a - 1]? = some u[i - a - 1] := List.getElem?_eq_getElem (by omega)
          have h3 := last_at (by omega) h2 rfl
          rw [h3] at hz
          cases hz
          exact hl _ h1 h2
        · rw [show i - a = 0 by omega] at hz
          simp at hz
      have HV := Lib.hid (show u = v1 ++ v2 ∧ a + v1.length = i ∧ Srt.Sd ltF (v1 ++ e :: v2) from ⟨hv, by omega, Srt.put_split weakF (hv ▸ HSU.out.1) e3 e4⟩)
      have hfx := HH.out.bel hbl
      rw [hv, sn_app] at hfx
      have HF := Lib.hid (show FdT wr F g (x ++ (sn v1 ++ (sn v2 ++ (e.2 :: y)))) by simpa [sn] using hfx)
      have HM := Lib.hid (show m = i + v2.length by have := congrArg List.length hv; rw [List.length_append] at this; omega)
      clear hbl hl hr hmi hij hjb q1 q2 q3 q4 q5 q6 hge hv hv1 e3 e4 hfx
      go_wp2
      go_loopg [17] v2.length (fun gk v17 wr => ∃ (k : Nat) (p1 p2 : TF), gk = p1.length ∧ v17 = .int .i64 k ∧ v2 = p1 ++ p2 ∧ i + p1.length = k ∧ Gr (fun x => x = g) w wr ∧ FdT wr F g (x ++ (sn v1 ++ (sn p1 ++ (e.2 :: (sn p2 ++ y))))))
      case atStart => exact ⟨m, v2, [], rfl, rfl, by simp, HM.out.symm, Gr.of_below HBL.out, HF.out⟩
      case round =>
        obtain ⟨k, p1, p2, rfl, rfl, rfl, hk, hgr, hfx⟩ := hrel
        obtain ⟨q1, q2, q3, q4, q5, q6⟩ := HN.out
        obtain ⟨r1, r2, r3⟩ := HV.out
        have HGX := Lib.hid hgr
        rcases List.eq_nil_or_concat p1 with rfl | ⟨p0, d, rfl⟩
        · have f1 : ¬ (i : Int) < (k : Int) := by simp at hk; omega
          have f2 : decide (i < k) = false := decide_eq_false (by simp at hk; omega)
          have HE := Lib.hid (show SdP F g x (u ++ [e]) y w (.returned (.tuple #[])) wr from ⟨rfl, v1 ++ e :: p2, by rw [r1]; refine List.perm_middle.trans ?_; simpa using (List.perm_append_comm (l₁ := [e]) (l₂ := v1 ++ p2)), by simpa using r3, hgr, by simpa [sn] using hfx⟩)
          clear hgr hfx r1 r2 r3 q1 q2 q3 q4 q5 q6 hk
          go_wp2
          refine bodyPost_ret (results_none rfl _ _ _) rfl ?_
          exact HE.out
        · rw [List.concat_eq_append] at *
          obtain ⟨P, hP⟩ : ∃ P, x ++ (sn v1 ++ sn p0) = P := ⟨_, rfl⟩
          obtain ⟨Z, hZ⟩ : ∃ Z, sn p2 ++ y = Z := ⟨_, rfl⟩
          have el : x ++ (sn v1 ++ (sn (p0 ++ [d]) ++ (e.2 :: (sn p2 ++ y)))) = P ++ d.2 :: ([] ++ e.2 :: Z) := by rw [← hP, ← hZ]; simp [sn]
          have er : P ++ e.2 :: ([] ++ d.2 :: Z) = x ++ (sn v1 ++ (sn p0 ++ (e.2 :: (sn (d :: p2) ++ y)))) := by rw [← hP, ← hZ]; simp [sn]
          rw [el] at hfx
          have lP := congrArg List.length hP
          have lZ := congrArg List.length hZ
          have rr := congrArg List.length r1
          simp only [List.length_append, sn_len, List.length_cons, List.length_nil] at lP lZ hk rr r2
          obtain ⟨k', hk'⟩ : ∃ k', k - 1 = k' := ⟨_, rfl⟩
          have lk : P.length = k' := by omega
          have kk : k' + 1 = k := by omega
          have ga := sw_get1 P [] Z d.2 e.2
          have gb := sw_get2 P [] Z d.2 e.2
          have gs := sw_21 P [] Z d.2 e.2
          rw [lk, List.length_nil, Nat.add_zero, kk] at gb gs
          rw [lk] at ga
          rw [er] at gs
          have ll : (P ++ d.2 :: ([] ++ e.2 :: Z)).length = n := by simp only [List.length_append, List.length_cons, List.length_nil]; omega
          obtain ⟨D, hD⟩ : ∃ D, d.2 = D := ⟨_, rfl⟩
          obtain ⟨E, hE⟩ : ∃ E, e.2 = E := ⟨_, rfl⟩
          rw [hD, hE] at hfx ga gb ll
          have gs : ((P ++ D :: ([] ++ E :: Z)).set k D).set k' E = x ++ (sn v1 ++ (sn p0 ++ (e.2 :: (sn (d :: p2) ++ y)))) := by rw [← hD, ← hE]; exact gs
          have ek : (k : Int) - 1 = (k' : Int) := by omega
          have f1 : (i : Int) < (k : Int) := by omega
          have f2 : decide (i < k) = true := decide_eq_true (by omega)
          have i0 : (0 : Int) ≤ (k : Int) := by omega
          have j0 : (0 : Int) ≤ (k' : Int) := by omega
          have i1 : (k : Int) < (n : Int) := by omega
          have j1 : (k' : Int) < (n : Int) := by omega
          have wi : IntKind.i64.wrap (k : Int) = (k : Int) := wrap_nat (by omega)
          have wj : IntKind.i64.wrap (k' : Int) = (k' : Int) := wrap_nat (by omega)
          have iN : k < n := by omega
          have jN : k' < n := by omega
          have HK := Lib.hid (show i + p0.length = k' by omega)
          clear hgr hP hZ el er lP lZ rr lk hk hk' hD hE r1 r2 r3 q1 q2 q3 q4 q5 q6 kk
          go_wp2
          have hfd0 : FdT wr.drew F g (P ++ D :: ([] ++ E :: Z)) := hfx.gr (S := fun _ => False) (Gr.refl _).drew (fun h => h) (fun _ _ h => h)
          have hg0 : Gr (fun x => x = g) wr wr.drew := (Gr.refl wr).drew
          refine wp_region_held_drew (S := fun _ => True) (by kernel_rfl) trivial (fun hS0 => ?_)
          generalize wr.drew = W1 at hfd0 hg0 ⊢
          obtain ⟨a1, a2, a3, a4, a5, a6, a7, a8, a9, hra, ac0, ac1, ac2, ac3, ac4, ac5⟩ := (hfd0).at_ gb
          obtain ⟨a0, an⟩ : ∃ zz, E.name = zz := ⟨_, rfl⟩
          rw [an] at hra ac0
          obtain ⟨b1, b2, b3, b4, b5, b6, b7, b8, b9, hrb, bc0, bc1, bc2, bc3, bc4, bc5⟩ := (hfd0).at_ ga
          obtain ⟨b0, bn⟩ : ∃ zz, D.name = zz := ⟨_, rfl⟩
          rw [bn] at hrb bc0
          have hP1 := hfd0.put (i := k) (by omega) hrb
          have hG1 := putCs_gr g [.string b0, .int .i64 b1, .string b2, .string b3, .slice b4 b5 b6, .slice b7 b8 b9] (k * 6) W1
          have hV := hfd0.swap (i := k) (j := k') (by omega) (by omega) hra hrb
          have hG := hG1.trans (putCs_gr g [.string a0, .int .i64 a1, .string a2, .string a3, .slice a4 a5 a6, .slice a7 a8 a9] (k' * 6) (putCs W1 g (k * 6) [.string b0, .int .i64 b1, .string b2, .string b3, .slice b4 b5 b6, .slice b7 b8 b9]))
          obtain ⟨z, hz⟩ : ∃ z, ((P ++ D :: ([] ++ E :: Z)).set (k) D)[k']? = some z := ⟨_, List.getElem?_eq_getElem (by rw [List.length_set]; omega)⟩
          obtain ⟨z1, z2, z3, z4, z5, z6, z7, z8, z9, hrz, zc0, zc1, zc2, zc3, zc4, zc5⟩ := (hP1).at_ hz
          obtain ⟨z0, zn⟩ : ∃ zz, z.name = zz := ⟨_, rfl⟩
          rw [zn] at hrz zc0
          have fi0 := hfd0.thaw (k * 6)
          have fj0 := hP1.thaw (k' * 6)
          have fi1 := hfd0.thaw (k * 6 + 1)
          have fj1 := hP1.thaw (k' * 6 + 1)
          have fi2 := hfd0.thaw (k * 6 + 2)
          have fj2 := hP1.thaw (k' * 6 + 2)
          have fi3 := hfd0.thaw (k * 6 + 3)
          have fj3 := hP1.thaw (k' * 6 + 3)
          have fi4 := hfd0.thaw (k * 6 + 4)
          have fj4 := hP1.thaw (k' * 6 + 4)
          have fi5 := hfd0.thaw (k * 6 + 5)
          have fj5 := hP1.thaw (k' * 6 + 5)
          have gl := hfd0.lt
          have gl2 := hP1.lt
          obtain ⟨V1, hV1⟩ : ∃ V, putCs W1 g (k * 6) [.string b0, .int .i64 b1, .string b2, .string b3, .slice b4 b5 b6, .slice b7 b8 b9] = V := ⟨_, rfl⟩
          rw [hV1] at hV hG hP1 hG1 hrz zc0 zc1 zc2 zc3 zc4 zc5 fj0 fj1 fj2 fj3 fj4 fj5 gl2
          obtain ⟨V2, hV2⟩ : ∃ V, putCs V1 g (k' * 6) [.string a0, .int .i64 a1, .string a2, .string a3, .slice a4 a5 a6, .slice a7 a8 a9] = V := ⟨_, rfl⟩
          rw [hV2] at hV hG
          clear hP1 hG1 hrz hra hrb
          refine wpAnyH_take (i := 0) (v := (.slice (some ⟨g, 0, none⟩) n cap)) rfl (by kernel_rfl) (by kernel_rfl) (by kernel_rfl) (fun _ _ _ h => h) (Or.inl ⟨rfl, fun w' hS => by (unfold execOp; go_simp)⟩) hS0 ?_
          simp only [Act.put, List.getElem_toArray, List.getElem_cons_zero, List.getElem_cons_succ, List.setIfInBounds_toArray, List.set_cons_zero, List.set_cons_succ]
          refine wpAnyH_take (i := 1) (v := (.int .i64 (k : Nat))) rfl (by kernel_rfl) (by kernel_rfl) (by kernel_rfl) (fun _ _ _ h => h) (Or.inl ⟨rfl, fun w' hS => by (unfold execOp; go_simp)⟩) hS0 ?_
          simp only [Act.put, List.getElem_toArray, List.getElem_cons_zero, List.getElem_cons_succ, List.setIfInBounds_toArray, List.set_cons_zero, List.set_cons_succ]
          refine wpAnyH_take (i := 2) (v := (.slice (some ⟨g, 0, none⟩) n cap)) rfl (by kernel_rfl) (by kernel_rfl) (by kernel_rfl) (fun _ _ _ h => h) (Or.inl ⟨rfl, fun w' hS => by (unfold execOp; go_simp)⟩) hS0 ?_
          simp only [Act.put, List.getElem_toArray, List.getElem_cons_zero, List.getElem_cons_succ, List.setIfInBounds_toArray, List.set_cons_zero, List.set_cons_succ]
          refine wpAnyH_take (i := 3) (v := (.int .i64 (k : Nat))) rfl (by kernel_rfl) (by kernel_rfl) (by kernel_rfl) (fun _ _ _ h => h) (Or.inl ⟨rfl, fun w' hS => by (unfold execOp; go_simp)⟩) hS0 ?_
          simp only [Act.put, List.getElem_toArray, List.getElem_cons_zero, List.getElem_cons_succ, List.setIfInBounds_toArray, List.set_cons_zero, List.set_cons_succ]
          refine wpAnyH_take (i := 4) (v := (.int .i64 (k' : Nat))) rfl (by kernel_rfl) (by kernel_rfl) (by kernel_rfl) (fun _ _ _ h => h) (Or.inl ⟨rfl, fun w' hS => by (unfold execOp; go_simp)⟩) hS0 ?_
          simp only [Act.put, List.getElem_toArray, List.getElem_cons_zero, List.getElem_cons_succ, List.setIfInBounds_toArray, List.set_cons_zero, List.set_cons_succ]
          refine wpAnyH_take (i := 5) (v := (.slice (some ⟨g, 0, none⟩) n cap)) rfl (by kernel_rfl) (by kernel_rfl) (by kernel_rfl) (fun _ _ _ h => h) (Or.inl ⟨rfl, fun w' hS => by (unfold execOp; go_simp)⟩) hS0 ?_
          simp only [Act.put, List.getElem_toArray, List.getElem_cons_zero, List.getElem_cons_succ, List.setIfInBounds_toArray, List.set_cons_zero, List.set_cons_succ]
          refine wpAnyH_take (i := 6) (v := (.int .i64 (k : Nat))) rfl (by kernel_rfl) (by kernel_rfl) (by kernel_rfl) (fun _ _ _ h => h) (Or.inl ⟨rfl, fun w' hS => by (unfold execOp; go_simp)⟩) hS0 ?_
          simp only [Act.put, List.getElem_toArray, List.getElem_cons_zero, List.getElem_cons_succ, List.setIfInBounds_toArray, List.set_cons_zero, List.set_cons_succ]
          refine wpAnyH_take (i := 7) (v := (.int .i64 (k' : Nat))) rfl (by kernel_rfl) (by kernel_rfl) (by kernel_rfl) (fun _ _ _ h => h) (Or.inl ⟨rfl, fun w' hS => by (unfold execOp; go_simp)⟩) hS0 ?_
          simp only [Act.put, List.getElem_toArray, List.getElem_cons_zero, List.getElem_cons_succ, List.setIfInBounds_toArray, List.set_cons_zero, List.set_cons_succ]
          refine wpAnyH_take (i := 8) (v := (.pointer (some ⟨g, k' * 6, none⟩))) rfl (by kernel_rfl) (by kernel_rfl) (by kernel_rfl) (fun _ _ _ h => h) (Or.inl ⟨rfl, fun w' hS => by (unfold execOp; go_simp)⟩) hS0 ?_
          simp only [Act.put, List.getElem_toArray, List.getElem_cons_zero, List.getElem_cons_succ, List.setIfInBounds_toArray, List.set_cons_zero, List.set_cons_succ]
          refine wpAnyH_take (i := 10) (v := (.slice (some ⟨g, 0, none⟩) n cap)) rfl (by kernel_rfl) (by kernel_rfl) (by kernel_rfl) (fun _ _ _ h => h) (Or.inl ⟨rfl, fun w' hS => by (unfold execOp; go_simp)⟩) hS0 ?_
          simp only [Act.put, List.getElem_toArray, List.getElem_cons_zero, List.getElem_cons_succ, List.setIfInBounds_toArray, List.set_cons_zero, List.set_cons_succ]
          refine wpAnyH_take (i := 11) (v := (.int .i64 (k : Nat))) rfl (by kernel_rfl) (by kernel_rfl) (by kernel_rfl) (fun _ _ _ h => h) (Or.inl ⟨rfl, fun w' hS => by (unfold execOp; go_simp)⟩) hS0 ?_
          simp only [Act.put, List.getElem_toArray, List.getElem_cons_zero, List.getElem_cons_succ, List.setIfInBounds_toArray, List.set_cons_zero, List.set_cons_succ]
          refine wpAnyH_take (i := 12) (v := (.pointer (some ⟨g, k * 6, none⟩))) rfl (by kernel_rfl) (by kernel_rfl) (by kernel_rfl) (fun _ _ _ h => h) (Or.inl ⟨rfl, fun w' hS => by (unfold execOp; go_simp)⟩) hS0 ?_
          simp only [Act.put, List.getElem_toArray, List.getElem_cons_zero, List.getElem_cons_succ, List.setIfInBounds_toArray, List.set_cons_zero, List.set_cons_succ]
          refine wpAnyH_two (i := 9) (j := 13) (by kernel_rfl) rfl rfl rfl rfl (op_val (v := .agg #[.string b0, .int .i64 b1, .string b2, .string b3, .slice b4 b5 b6, .slice b7 b8 b9]) (w' := W1) (by unfold execOp; go_simp) (And.intro trivial ?_)) (op_val (v := .agg #[.string a0, .int .i64 a1, .string a2, .string a3, .slice a4 a5 a6, .slice a7 a8 a9]) (w' := W1) (by unfold execOp; go_simp) (And.intro trivial ?_))
          · simp only [Act.put, List.getElem_toArray, List.getElem_cons_zero, List.getElem_cons_succ, List.setIfInBounds_toArray, List.set_cons_zero, List.set_cons_succ]
            refine wpAnyH_one (i := 13) (by kernel_rfl) rfl rfl (op_val (v := .agg #[.string a0, .int .i64 a1, .string a2, .string a3, .slice a4 a5 a6, .slice a7 a8 a9]) (w' := W1) (by unfold execOp; go_simp) (And.intro trivial ?_))
            simp only [Act.put, List.getElem_toArray, List.getElem_cons_zero, List.getElem_cons_succ, List.setIfInBounds_toArray, List.set_cons_zero, List.set_cons_succ]
            refine wpAnyH_take (i := 14) (v := (.pointer (some ⟨g, k * 6, none⟩))) rfl (by kernel_rfl) (by kernel_rfl) (by kernel_rfl) (fun _ _ _ h => h) (Or.inl ⟨rfl, fun w' hS => by (unfold execOp; go_simp)⟩) hS0 ?_
            simp only [Act.put, List.getElem_toArray, List.getElem_cons_zero, List.getElem_cons_succ, List.setIfInBounds_toArray, List.set_cons_zero, List.set_cons_succ]
            refine wpAnyH_one (i := 15) (by kernel_rfl) rfl rfl (op_skip (w' := V1) (by rw [← hV1]; simp only [putCs]; unfold execOp; go_simp) (And.intro trivial ?_))
            simp only [Act.put, List.getElem_toArray, List.getElem_cons_zero, List.getElem_cons_succ, List.setIfInBounds_toArray, List.set_cons_zero, List.set_cons_succ]
            refine wpAnyH_take (i := 16) (v := (.pointer (some ⟨g, k' * 6, none⟩))) rfl (by kernel_rfl) (by kernel_rfl) (by kernel_rfl) (fun _ _ _ h => h) (Or.inl ⟨rfl, fun w' hS => by (unfold execOp; go_simp)⟩) hS0 ?_
            simp only [Act.put, List.getElem_toArray, List.getElem_cons_zero, List.getElem_cons_succ, List.setIfInBounds_toArray, List.set_cons_zero, List.set_cons_succ]
            refine wpAnyH_one (i := 17) (by kernel_rfl) rfl rfl (op_skip (w' := V2) (by rw [← hV2]; simp only [putCs]; unfold execOp; go_simp) (And.intro trivial ?_))
            simp only [Act.put, List.getElem_toArray, List.getElem_cons_zero, List.getElem_cons_succ, List.setIfInBounds_toArray, List.set_cons_zero, List.set_cons_succ]
            refine wpAnyH_done (by kernel_rfl) ?_ _
            try go_wp2
            go_roundg p0.length
            case measure => simp
            case rel =>
              rw [gs] at hV
              exact ⟨k', p0, d :: p2, rfl, rfl, by simp, HK.out, (HGX.out.trans hg0).trans hG, hV⟩
          · simp only [Act.put, List.getElem_toArray, List.getElem_cons_zero, List.getElem_cons_succ, List.setIfInBounds_toArray, List.set_cons_zero, List.set_cons_succ]
            refine wpAnyH_one (i := 9) (by kernel_rfl) rfl rfl (op_val (v := .agg #[.string b0, .int .i64 b1, .string b2, .string b3, .slice b4 b5 b6, .slice b7 b8 b9]) (w' := W1) (by unfold execOp; go_simp) (And.intro trivial ?_))
            simp only [Act.put, List.getElem_toArray, List.getElem_cons_zero, List.getElem_cons_succ, List.setIfInBounds_toArray, List.set_cons_zero, List.set_cons_succ]
            refine wpAnyH_take (i := 14) (v := (.pointer (some ⟨g, k * 6, none⟩))) rfl (by kernel_rfl) (by kernel_rfl) (by kernel_rfl) (fun _ _ _ h => h) (Or.inl ⟨rfl, fun w' hS => by (unfold execOp; go_simp)⟩) hS0 ?_
            simp only [Act.put, List.getElem_toArray, List.getElem_cons_zero, List.getElem_cons_succ, List.setIfInBounds_toArray, List.set_cons_zero, List.set_cons_succ]
            refine wpAnyH_one (i := 15) (by kernel_rfl) rfl rfl (op_skip (w' := V1) (by rw [← hV1]; simp only [putCs]; unfold execOp; go_simp) (And.intro trivial ?_))
            simp only [Act.put, List.getElem_toArray, List.getElem_cons_zero, List.getElem_cons_succ, List.setIfInBounds_toArray, List.set_cons_zero, List.set_cons_succ]
            refine wpAnyH_take (i := 16) (v := (.pointer (some ⟨g, k' * 6, none⟩))) rfl (by kernel_rfl) (by kernel_rfl) (by kernel_rfl) (fun _ _ _ h => h) (Or.inl ⟨rfl, fun w' hS => by (unfold execOp; go_simp)⟩) hS0 ?_
            simp only [Act.put, List.getElem_toArray, List.getElem_cons_zero, List.getElem_cons_succ, List.setIfInBounds_toArray, List.set_cons_zero, List.set_cons_succ]
            refine wpAnyH_one (i := 17) (by kernel_rfl) rfl rfl (op_skip (w' := V2) (by rw [← hV2]; simp only [putCs]; unfold execOp; go_simp) (And.intro trivial ?_))
            simp only [Act.put, List.getElem_toArray, List.getElem_cons_zero, List.getElem_cons_succ, List.setIfInBounds_toArray, List.set_cons_zero, List.set_cons_succ]
            refine wpAnyH_done (by kernel_rfl) ?_ _
            try go_wp2
            go_roundg p0.length
            case measure => simp
            case rel =>
              rw [gs] at hV
              exact ⟨k', p0, d :: p2, rfl, rfl, by simp, HK.out, (HGX.out.trans hg0).trans hG, hV⟩
end Go.Proofs.Ytcfgjfahjaimiaa

namespace Go.Proofs.Ytcfgjfahjaimiaa
open Go.RowKit
set_option linter.unusedVariables false
set_option linter.unusedSimpArgs false

def SymC (N : Nat) : Prop := ∀ (x y : List Fi) (u v : TF) (w : World) (F : Nat → Prop) (g n cap : Nat), (x ++ (sn u ++ (sn v ++ y))).length = n → n ≤ 100000 → FdT w F g (x ++ (sn u ++ (sn v ++ y))) → 0 < u.length → 0 < v.length → Srt.Sd ltF u → Srt.Sd ltF v → Srt.Ap u v → ∀ (a m b : Nat), a = x.length → m = x.length + u.length → b = x.length + u.length + v.length → u.length + v.length ≤ N →
    Calls Try.prog 78 #[.slice (some ⟨g, 0, none⟩) n cap, .int .i64 a, .int .i64 m, .int .i64 b, .func (Fn.func 50) #[] #[]] w (SdP F g x (u ++ v) y w)
/-- What the search has found. -/
theorem sym_found {u v : TF} {a m b md nn st lo r0 : Nat} (hu : m = a + u.length) (hv : b = m + v.length) (h1 : lo ≤ st) (h2 : st ≤ r0) (hst : a ≤ st ∧ st ≤ m) (hen : m ≤ nn - st ∧ nn - st ≤ b) (hnn : st < nn) (c1 : st = lo → nn - st = b ∨ st = a) (c2 : st = r0 → nn - st = m ∨ st = m)
    (hl : ∀ zu zv, lo < st → u[st - 1 - a]? = some zu → v[nn - st - m]? = some zv → Srt.L ltF zu zv) (hr : ∀ zu zv, st < r0 → u[st - a]? = some zu → v[nn - 1 - st - m]? = some zv → Srt.L ltF zv zu) :
    ∃ u1 u2 v1 v2, u = u1 ++ u2 ∧ v = v1 ++ v2 ∧ u1.length = st - a ∧ v1.length = nn - st - m ∧ (∀ x y, u1.getLast? = some x → v2.head? = some y → Srt.L ltF x y) ∧ (∀ x y, v1.getLast? = some x → u2.head? = some y → Srt.L ltF x y) := by
  refine ⟨u.take (st - a), u.drop (st - a), v.take (nn - st - m), v.drop (nn - st - m), (List.take_append_drop _ _).symm, (List.take_append_drop _ _).symm, by rw [List.length_take]; omega, by rw [List.length_take]; omega, fun x y hx hy => ?_, fun x y hx hy => ?_⟩
  · rw [head_at] at hy
    have hy0 := (List.getElem?_eq_some_iff.1 hy).1
    rcases Nat.lt_or_ge a st with h3 | h3
    · have q : u[st - a - 1]? = some u[st - a - 1] := List.getElem?_eq_getElem (by omega)
      have q2 := last_at (by omega) q rfl
      rw [q2] at hx
      cases hx
      rcases Nat.lt_or_ge lo st with h4 | h4
      · exact hl _ _ h4 (by rw [show st - 1 - a = st - a - 1 by omega]; exact q) hy
      · rcases c1 (by omega) with h5 | h5 <;> omega
    · rw [show st - a = 0 by omega] at hx
      simp at hx
  · rw [head_at] at hy
    have hy0 := (List.getElem?_eq_some_iff.1 hy).1
    rcases Nat.lt_or_ge m (nn - st) with h3 | h3
    · have q : v[nn - st - m - 1]? = some v[nn - st - m - 1] := List.getElem?_eq_getElem (by omega)
      have q2 := last_at (by omega) q rfl
      rw [q2] at hx
      cases hx
      rcases Nat.lt_or_ge st r0 with h4 | h4
      · exact hr _ _ h4 hy (by rw [show nn - 1 - st - m = nn - st - m - 1 by omega]; exact q)
      · rcases c2 (by omega) with h5 | h5 <;> omega
    · rw [show nn - st - m = 0 by omega] at hx
      simp at hx
end Go.Proofs.Ytcfgjfahjaimiaa
