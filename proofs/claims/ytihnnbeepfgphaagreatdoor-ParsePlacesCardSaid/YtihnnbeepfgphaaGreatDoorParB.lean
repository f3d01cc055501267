/-
  A reader of tokens: walks of its small methods.
-/
import Derived.Test.YtihnnbeepfgphaaGreatDoorParM
namespace Go.Proofs.YtihnnbeepfgphaaGreatDoor
open Go.RowKit
set_option linter.unusedVariables false
set_option linter.unusedSimpArgs false


theorem tok_f0 (v0 v1 v2 v3 : Value) (w : World) : (Instr.field 58 (.agg #[v0, v1, v2, v3]) 0).run Tryz.prog w = .ok v0 w := by kernel_rfl
theorem tok_f1 (v0 v1 v2 v3 : Value) (w : World) : (Instr.field 58 (.agg #[v0, v1, v2, v3]) 1).run Tryz.prog w = .ok v1 w := by kernel_rfl
theorem tok_f2 (v0 v1 v2 v3 : Value) (w : World) : (Instr.field 58 (.agg #[v0, v1, v2, v3]) 2).run Tryz.prog w = .ok v2 w := by kernel_rfl
theorem tok_f3 (v0 v1 v2 v3 : Value) (w : World) : (Instr.field 58 (.agg #[v0, v1, v2, v3]) 3).run Tryz.prog w = .ok v3 w := by kernel_rfl
attribute [local go_sem ↓] tok_f0 tok_f1 tok_f2 tok_f3
set_option maxRecDepth 100000 in
set_option maxHeartbeats 2000000 in
theorem token_any (E : Env) (w : World) (x : T) (r : List T) (o : Nat) (h : PS E w (x :: r) o) :
    Calls Tryz.prog 27 #[.pointer (some ⟨E.b, 0, none⟩)] w fun e w' => e = .returned (.agg #[.int .i64 x.1.k, .string (bs x.1.t), .int .i64 x.1.n, .int .i64 x.2]) ∧ Below w.heap.size w w' := by
  obtain ⟨⟨tk, tt, tn⟩, p⟩ := x
  have hh := h.here
  have hbl := h.blk
  have hlt := h.lt
  have hll := h.len
  obtain ⟨j, hj⟩ : ∃ j, E.ts.length - (r.length + 1) = j := ⟨_, rfl⟩
  have hjl : j < E.ts.length := by
    rw [hj] at hh
    exact (List.getElem?_eq_some_iff.1 hh).1
  have hht := h.toks
  obtain ⟨B, hB⟩ : ∃ B, E.b = B := ⟨_, rfl⟩
  obtain ⟨G, hG⟩ : ∃ G, E.g = G := ⟨_, rfl⟩
  obtain ⟨N, hN⟩ : ∃ N, E.ts.length = N := ⟨_, rfl⟩
  obtain ⟨C, hC⟩ : ∃ C, E.c = C := ⟨_, rfl⟩
  unfold psC at hbl
  simp only [List.length_cons] at hbl
  rw [hj] at hh hbl
  rw [hN, hB, hG, hC] at hbl
  rw [hB] at hlt ⊢
  rw [hN] at hjl hll
  obtain ⟨q0, q1, q2, q3⟩ := hht.cell j _ hh
  have hgl := hht.lt
  rw [hG] at q0 q1 q2 q3 hgl
  dsimp only at q0 q1 q2 q3
  have j0 : (0 : Int) ≤ (j : Int) := by omega
  have j1 : (j : Int) < (N : Int) := by omega
  clear h hh hht hj hG hN hC hB
  go_enter Tryz.func27, Tryz.ntmps27
  go_wp2
  refine st_tail 10 (by kernel_rfl) (by kernel_rfl) ?_
  intro W hW
  have hgr : Below w.heap.size w W := by subst hW; exact (((Below.refl _ _).alloc (Nat.le_refl _) _).drew)
  have k0 := (hgr.cell (p := ⟨B, 0, none⟩) hlt).trans (hbl.cell 0)
  have k1 := (hgr.cell (p := ⟨B, 1, none⟩) hlt).trans (hbl.cell 1)
  have t0 := (hgr.cell (p := ⟨G, _, none⟩) hgl).trans q0
  have t1 := (hgr.cell (p := ⟨G, _, none⟩) hgl).trans q1
  have t2 := (hgr.cell (p := ⟨G, _, none⟩) hgl).trans q2
  have t3 := (hgr.cell (p := ⟨G, _, none⟩) hgl).trans q3
  simp only [List.getElem?_toArray, List.getElem?_cons_zero, List.getElem?_cons_succ] at k0 k1
  simp only [List.take_succ_cons, List.take_zero, List.drop_succ_cons, List.drop_zero]
  repeat still_step
  refine wpStill_nil ?_
  clear k0 k1 t0 t1 t2 t3 hgr
  subst hW
  go_wp2
  exact bodyPost_ret (v := .agg #[.int .i64 tk, .string (bs tt), .int .i64 tn, .int .i64 p]) (by simp [results, Tryz.results27, go_sem]) rfl ⟨rfl, ((Below.refl _ _).alloc (Nat.le_refl _) _).drew⟩
theorem Blk.cells4 {w : World} {h : Nat} {t : TypeId} {v0 v1 v2 v3 : Value} (k : Blk w h t #[v0, v1, v2, v3]) : w.cell? ⟨h, 0, none⟩ = some v0 ∧ w.cell? ⟨h, 1, none⟩ = some v1 ∧ w.cell? ⟨h, 2, none⟩ = some v2 ∧ w.cell? ⟨h, 3, none⟩ = some v3 :=
  ⟨k.cell 0, k.cell 1, k.cell 2, k.cell 3⟩
theorem below_gr {S : Nat → Prop} {w w' : World} (h : Below w.heap.size w w') : Gr S w w' := Gr.of_below h
set_option maxRecDepth 100000 in
set_option maxHeartbeats 2000000 in
theorem mark_any (E : Env) (w : World) (l : List T) (o : Nat) (h : PS E w l o) :
    Calls Tryz.prog 38 #[.pointer (some ⟨E.b, 0, none⟩)] w fun e w' => e = .returned (.string (bs (mark l))) ∧ Below w.heap.size w w' := by
  obtain ⟨x, r, rfl⟩ := h.cons
  have H := Lib.hid h
  clear h
  rw [mark_cons]
  obtain ⟨⟨tk, tt, tn⟩, p⟩ := x
  dsimp only
  by_cases h2 : tk = 2
  · subst h2
    rw [if_pos (.inl rfl)]
    go_enter Tryz.func38, Tryz.ntmps38
    go_wp2_with (go_at_call 27; refine (token_any E _ _ _ _ H.out).mono ?_; rintro e w1 ⟨rfl, hb⟩)
    go_ret
    exact ⟨rfl, hb.alloc hb.size _⟩
  by_cases h5 : tk = 5
  · subst h5
    rw [if_pos (.inr rfl)]
    go_enter Tryz.func38, Tryz.ntmps38
    go_wp2_with (go_at_call 27; refine (token_any E _ _ _ _ H.out).mono ?_; rintro e w1 ⟨rfl, hb⟩)
    go_ret
    exact ⟨rfl, hb.alloc hb.size _⟩
  rw [if_neg (fun h => h.elim h2 h5)]
  have e2 : (tk == 2) = false := by simpa using h2
  have e5 : (tk == 5) = false := by simpa using h5
  clear h2 h5
  go_enter Tryz.func38, Tryz.ntmps38
  go_wp2_with (go_at_call 27; refine (token_any E _ _ _ _ H.out).mono ?_; rintro e w1 ⟨rfl, hb⟩)
  go_ret
  exact ⟨rfl, hb.alloc hb.size _⟩

set_option maxRecDepth 100000 in
set_option maxHeartbeats 2000000 in
theorem refuse_any (E : Env) (w : World) (x : T) (r : List T) (o : Nat) (h : PS E w (x :: r) o) :
    Calls Tryz.prog 39 #[.pointer (some ⟨E.b, 0, none⟩)] w fun e w' => e = (.panicked [{ v := .iface 48 (.agg #[.int .i64 x.2, .int .i64 5]), recovered := false }]) ∧ Below w.heap.size w w' := by
  have H := Lib.hid h
  clear h
  go_enter Tryz.func39, Tryz.ntmps39
  go_wp2_with (go_at_call 27; refine (token_any E _ _ _ _ H.out).mono ?_; rintro e w1 ⟨rfl, hb⟩)
  exact ⟨rfl, rfl, hb⟩

theorem PS.cells {E : Env} {w : World} {l : List T} {o : Nat} (h : PS E w l o) :
    w.cell? ⟨E.b, 0, none⟩ = some (.slice (some ⟨E.g, 0, none⟩) E.ts.length E.c) ∧ w.cell? ⟨E.b, 1, none⟩ = some (.int .i64 ((E.ts.length - l.length : Nat) : Int)) ∧ w.cell? ⟨E.b, 2, none⟩ = some (.int .i64 (o : Int)) ∧ ∀ i, w.frozen? ⟨E.b, i, none⟩ = false :=
  ⟨h.blk.cell 0, h.blk.cell 1, h.blk.cell 2, fun i => h.blk.frozen i⟩
theorem PS.ne_new {E : Env} {w : World} {l : List T} {o : Nat} (h : PS E w l o) : E.b ≠ w.heap.size ∧ E.g ≠ w.heap.size := ⟨Nat.ne_of_lt h.lt, Nat.ne_of_lt h.toks.lt⟩
theorem four_new {w w1 : World} {v0 v1 v2 v3 : Value} {t : TypeId} (hb : Below (w.alloc (.cells #[v0, v1, v2, v3] t)).heap.size (w.alloc (.cells #[v0, v1, v2, v3] t)) w1) :
    w.heap.size < w1.heap.size ∧ w1.cell? ⟨w.heap.size, 0, none⟩ = some v0 ∧ w1.cell? ⟨w.heap.size, 1, none⟩ = some v1 ∧ w1.cell? ⟨w.heap.size, 2, none⟩ = some v2 ∧ w1.cell? ⟨w.heap.size, 3, none⟩ = some v3 ∧ ∀ i, w1.frozen? ⟨w.heap.size, i, none⟩ = false := by
  obtain ⟨q0, q1, q2, q3⟩ := one_box hb
  exact ⟨q2, q0 0 _ rfl, q0 1 _ rfl, q0 2 _ rfl, q0 3 _ rfl, q1⟩
set_option maxRecDepth 100000 in
set_option maxHeartbeats 2000000 in
theorem take_any (E : Env) (w : World) (x : T) (r : List T) (o : Nat) (h : PS E w (x :: r) o) (hx : x.1.k ≠ 0) :
    Calls Tryz.prog 40 #[.pointer (some ⟨E.b, 0, none⟩)] w fun e w' => e = .returned (.agg #[.int .i64 x.1.k, .string (bs x.1.t), .int .i64 x.1.n, .int .i64 x.2]) ∧ Gr (· = E.b) w w' ∧ PS E w' r o := by
  have hgt := h.toks.lt
  have hlt := h.lt
  have hll := h.len
  have hlr : r.length < E.ts.length := by have := h.suf.length_le; simp at this; omega
  obtain ⟨j, hj⟩ : ∃ j, E.ts.length - (x :: r).length = j := ⟨_, rfl⟩
  have hj2 : j + 1 = E.ts.length - r.length := by simp at hj; omega
  have H := Lib.hid h
  have HX := Lib.hid hx
  have HJ := Lib.hid hj
  have HJ2 := Lib.hid hj2
  have j0 : (0 : Int) ≤ (j : Int) := by omega
  have j1 : (j : Int) ≤ 8193 := by omega
  clear h hx hj hj2 hlr hll
  go_enter Tryz.func40, Tryz.ntmps40
  go_wp2_with (go_at_call 27; refine (token_any E _ _ _ _ (H.out.alloc _)).mono ?_; rintro e w1 ⟨rfl, hb⟩; have hP1 : PS E w1 (x :: r) o := (H.out.alloc _).below hb; obtain ⟨k0, k1, k2, kf⟩ := hP1.cells; rw [HJ.out] at k1; have hz := hb.size; simp at hz; have hbw : E.b < w1.heap.size := hP1.lt; have hgw : E.g < w1.heap.size := hP1.toks.lt; obtain ⟨zl, z0, z1, z2, z3, zf⟩ := four_new hb; have zb : ¬ w.heap.size = E.b := Nat.ne_of_gt hlt; have zg : ¬ w.heap.size = E.g := Nat.ne_of_gt hgt; have zn : ¬ w.heap.size = w1.heap.size := (by omega); have hG1 : Gr (· = E.b) w w1 := Gr.trans grA (Gr.of_below hb))
  exact bodyPost_ret (v := (.agg #[.int .i64 x.1.k, .string (bs x.1.t), .int .i64 x.1.n, .int .i64 x.2])) (by simp [results, Tryz.results40, go_sem, zl, z0, z1, z2, z3]) rfl ⟨rfl, grA, by (have hPt := PS.taken hP1 HX.out (.int .i64 ((j : Int) + 1)) (by rw [← HJ2.out]; simp)); exact psA⟩
theorem bs_inj {l m : List UInt8} (h : bs l = bs m) : l = m := by
  unfold bs at h
  injection h with h
  exact List.toArray_inj h
theorem bs_list2 (l : List UInt8) : (bs l).toList = l := by rw [ByteArray.toList_eq]; rfl
theorem bs_beq {l m : List UInt8} (h : ¬ l = m) : ((bs l).toList == (bs m).toList) = false := by rw [bs_list2, bs_list2]; simpa using h
theorem bs_ne {l m : List UInt8} (h : ¬ l = m) : ¬ bs l = bs m := fun h' => h (bs_inj h')
theorem takeR_cons (x : T) (r : List T) (f : T → List T → R) : takeR (x :: r) f = f x r := rfl
theorem refuse_cons (x : T) (r : List T) : refuse (x :: r) = .bad x.2 5 := rfl
/-- What a step may come to: the parser gives up, or a token is told and the parser goes on. -/
def TokP (E : Env) (w : World) (o : Nat) (f : T → List T → R) (r : R) (e : Ending) (w' : World) : Prop :=
  Gr (· = E.b) w w' ∧ ((∃ a k, r = .bad a k ∧ e = (.panicked [{ v := .iface 48 (.agg #[.int .i64 a, .int .i64 k]), recovered := false }])) ∨ ∃ x l, e = .returned (.agg #[.int .i64 x.1.k, .string (bs x.1.t), .int .i64 x.1.n, .int .i64 x.2]) ∧ f x l = r ∧ PS E w' l o)
theorem post_bad {P : Program} {fn : Func} {R : Ending → World → Prop} {a : Act} {w : World} {c : List PanicEntry} (hd : a.defers = []) (h : R (.panicked c) w) : bodyPost P fn R (.panic c) a w := ⟨hd, h⟩
theorem Blk.gr {S : Nat → Prop} {w w' : World} {g : Nat} {t : TypeId} {cs : Array Value} (hb : Blk w g t cs) (h : Gr S w w') (hs : ¬ S g) : Blk w' g t cs := h.blk hb hs
theorem Blk.all4 {w : World} {h : Nat} {t : TypeId} {v0 v1 v2 v3 : Value} (k : Blk w h t #[v0, v1, v2, v3]) : h < w.heap.size ∧ w.cell? ⟨h, 0, none⟩ = some v0 ∧ w.cell? ⟨h, 1, none⟩ = some v1 ∧ w.cell? ⟨h, 2, none⟩ = some v2 ∧ w.cell? ⟨h, 3, none⟩ = some v3 ∧ ∀ i, w.frozen? ⟨h, i, none⟩ = false :=
  ⟨k.lt, k.cell 0, k.cell 1, k.cell 2, k.cell 3, k.frozen⟩
theorem Blk.all7 {w : World} {h : Nat} {t : TypeId} {v0 v1 v2 v3 v4 v5 v6 : Value} (k : Blk w h t #[v0, v1, v2, v3, v4, v5, v6]) : h < w.heap.size ∧ w.cell? ⟨h, 0, none⟩ = some v0 ∧ w.cell? ⟨h, 1, none⟩ = some v1 ∧ w.cell? ⟨h, 2, none⟩ = some v2 ∧ w.cell? ⟨h, 3, none⟩ = some v3 ∧ w.cell? ⟨h, 4, none⟩ = some v4 ∧ w.cell? ⟨h, 5, none⟩ = some v5 ∧ w.cell? ⟨h, 6, none⟩ = some v6 ∧ ∀ i, w.frozen? ⟨h, i, none⟩ = false :=
  ⟨k.lt, k.cell 0, k.cell 1, k.cell 2, k.cell 3, k.cell 4, k.cell 5, k.cell 6, k.frozen⟩
/-- A token that lies in a box of the call's own is told. -/
theorem ret4 {fn : Func} {p : Tmp} {R : Ending → World → Prop} {a : Act} {w : World} {z : Nat} {v0 v1 v2 v3 : Value} (h : fn.results = #[.cell p 58]) (hp : a.tmps.getD p undef = .pointer (some ⟨z, 0, none⟩)) (hd : a.defers = [])
    (hb : Blk w z 58 #[v0, v1, v2, v3]) (hR : R (.returned (.agg #[v0, v1, v2, v3])) w) : bodyPost Tryz.prog fn R .ret a w :=
  bodyPost_ret (results_cell_row h a.tmps w z _ _ (0, 0) _ hp hb Tryz.underlying58 rfl (by kernel_rfl)) hd hR
theorem Blk.seven {w : World} {h : Nat} {t : TypeId} {u0 u1 u2 u3 u4 u5 u6 : Value} (k : Blk w h t #[u0, u1, u2, u3, u4, u5, u6]) (v0 v1 v2 v3 v4 v5 v6 : Value) : Blk (((((((w.setCell ⟨h, 0, none⟩ v0).setCell ⟨h, 1, none⟩ v1).setCell ⟨h, 2, none⟩ v2).setCell ⟨h, 3, none⟩ v3).setCell ⟨h, 4, none⟩ v4).setCell ⟨h, 5, none⟩ v5).setCell ⟨h, 6, none⟩ v6) h t #[v0, v1, v2, v3, v4, v5, v6] := by
  have := ((((((k.set_ 0 v0).set_ 1 v1).set_ 2 v2).set_ 3 v3).set_ 4 v4).set_ 5 v5).set_ 6 v6
  simpa using this
theorem Blk.four {w : World} {h : Nat} {t : TypeId} {u0 u1 u2 u3 : Value} (k : Blk w h t #[u0, u1, u2, u3]) (v0 v1 v2 v3 : Value) : Blk ((((w.setCell ⟨h, 0, none⟩ v0).setCell ⟨h, 1, none⟩ v1).setCell ⟨h, 2, none⟩ v2).setCell ⟨h, 3, none⟩ v3) h t #[v0, v1, v2, v3] :=
  (((k.set_ 0 v0).set_ 1 v1).set_ 2 v2).set_ 3 v3
set_option maxRecDepth 100000 in
set_option maxHeartbeats 2000000 in
theorem want_any (E : Env) (w : World) (l : List T) (o : Nat) (m : List UInt8) (s : ByteArray) (f : T → List T → R) (r : R) (hP : PS E w l o) (hs : s = bs m) (hm : m ≠ []) (hq : want m l f = r) :
    Calls Tryz.prog 24 #[.pointer (some ⟨E.b, 0, none⟩), .string s] w (TokP E w o f r) := by
  obtain ⟨x, t, rfl⟩ := hP.cons
  subst hs
  have hlt := hP.lt
  have hgt := hP.toks.lt
  unfold want at hq
  by_cases hmk : mark (x :: t) = m
  · rw [if_pos hmk, takeR_cons] at hq
    have hx := good_mark hP.good (by rw [hmk]; exact hm)
    have HX := Lib.hid hx
    have HQ := Lib.hid hq
    have HM := Lib.hid hmk
    clear hx hq hmk hm
    go_enter Tryz.func24, Tryz.ntmps24
    go_wp2_with (first
      | (go_at_call 38; refine (mark_any E _ _ _ (hP.alloc _)).mono ?_; rw [HM.out]; rintro e w1 ⟨rfl, hb⟩; have hP1 : PS E w1 (x :: t) o := (hP.alloc _).below hb; have hG1 : Gr (· = E.b) w w1 := Gr.trans grA (Gr.of_below hb); have hZ1 : Blk w1 w.heap.size _ _ := (Blk.new _ _ _).below hb (by simp))
      | (go_at_call 40; refine (take_any E _ _ _ _ hP1 HX.out).mono ?_; rintro e w2 ⟨rfl, hg2, hP2⟩; have hG2 := hG1.trans hg2; have hZ2 := hZ1.gr hg2 (by omega); obtain ⟨zl, z0, z1, z2, z3, zf⟩ := hZ2.all4))
    exact ret4 Tryz.results24 rfl rfl (by repeat (first | (with_reducible (first | assumption | exact Blk.new _ _ _ | refine Blk.alloc ?_ _ | refine Blk.drew ?_ | refine Blk.far ?_ (by first | assumption | (simp; done) | (simp; omega)) _)) | apply Blk.four)) ⟨grA, .inr ⟨_, _, rfl, HQ.out, psA⟩⟩
  · rw [if_neg hmk, refuse_cons] at hq
    have hmn := bs_beq hmk
    have HQ := Lib.hid hq
    clear hq hmk hm
    go_enter Tryz.func24, Tryz.ntmps24
    go_wp2_with (first
      | (go_at_call 38; refine (mark_any E _ _ _ (hP.alloc _)).mono ?_; rintro e w1 ⟨rfl, hb⟩; have hP1 : PS E w1 (x :: t) o := (hP.alloc _).below hb; have hG1 : Gr (· = E.b) w w1 := Gr.trans grA (Gr.of_below hb))
      | (go_at_call 39; refine (refuse_any E _ _ _ _ hP1).mono ?_; rintro e w2 ⟨rfl, hb2⟩))
    exact And.intro rfl ⟨hG1.trans (Gr.of_below hb2), .inl ⟨_, _, HQ.out.symm, rfl⟩⟩
set_option maxRecDepth 100000 in
set_option maxHeartbeats 2000000 in
theorem skip_yes (E : Env) (w : World) (l : List T) (o : Nat) (m : List UInt8) (s : ByteArray) (hP : PS E w l o) (hs : s = bs m) (hm : m ≠ []) (hmk : mark l = m) :
    Calls Tryz.prog 26 #[.pointer (some ⟨E.b, 0, none⟩), .string s] w fun e w' => e = .returned (.bool true) ∧ Gr (· = E.b) w w' ∧ ∃ x t, l = x :: t ∧ PS E w' t o := by
  obtain ⟨x, t, rfl⟩ := hP.cons
  subst hs
  have hlt := hP.lt
  have hll := hP.len
  have hlr : t.length < E.ts.length := by have := hP.suf.length_le; simp at this; omega
  obtain ⟨j, hj⟩ : ∃ j, E.ts.length - (x :: t).length = j := ⟨_, rfl⟩
  have hj2 : j + 1 = E.ts.length - t.length := by simp at hj; omega
  have HX := Lib.hid (good_mark hP.good (by rw [hmk]; exact hm))
  have HM := Lib.hid hmk
  have HJ := Lib.hid hj
  have HJ2 := Lib.hid hj2
  have j0 : (0 : Int) ≤ (j : Int) := by omega
  have j1 : (j : Int) ≤ 8193 := by omega
  clear hmk hm hj hj2 hlr hll
  go_enter Tryz.func26, Tryz.ntmps26
  go_wp2_with (go_at_call 38; refine (mark_any E _ _ _ hP).mono ?_; rw [HM.out]; rintro e w1 ⟨rfl, hb⟩; have hP1 : PS E w1 (x :: t) o := hP.below hb; obtain ⟨k0, k1, k2, kf⟩ := hP1.cells; rw [HJ.out] at k1)
  go_ret
  exact ⟨rfl, Gr.setCell (S := (· = E.b)) (p := ⟨E.b, 1, none⟩) (Gr.of_below hb) (.inr rfl) _, x, t, rfl, PS.taken hP1 HX.out _ (by rw [← HJ2.out]; simp)⟩
set_option maxRecDepth 100000 in
set_option maxHeartbeats 2000000 in
theorem skip_no (E : Env) (w : World) (l : List T) (o : Nat) (m : List UInt8) (s : ByteArray) (hP : PS E w l o) (hs : s = bs m) (hmk : ¬ mark l = m) :
    Calls Tryz.prog 26 #[.pointer (some ⟨E.b, 0, none⟩), .string s] w fun e w' => e = .returned (.bool false) ∧ Below w.heap.size w w' := by
  subst hs
  have hmn := bs_beq hmk
  clear hmk
  go_enter Tryz.func26, Tryz.ntmps26
  go_wp2_with (go_at_call 38; refine (mark_any E _ _ _ hP).mono ?_; rintro e w1 ⟨rfl, hb⟩)
  go_ret
  exact ⟨rfl, hb⟩
set_option maxRecDepth 100000 in
set_option maxHeartbeats 2000000 in
theorem wantK_any (E : Env) (w : World) (l : List T) (o : Nat) (k : Int) (f : T → List T → R) (r : R) (hP : PS E w l o) (hk : k ≠ 0) (hq : wantK k l f = r) :
    Calls Tryz.prog 41 #[.pointer (some ⟨E.b, 0, none⟩), .int .i64 k] w (TokP E w o f r) := by
  obtain ⟨x, t, rfl⟩ := hP.cons
  have hlt := hP.lt
  have hgt := hP.toks.lt
  unfold wantK at hq
  rw [kind_cons] at hq
  by_cases hkd : x.1.k = k
  · rw [if_pos hkd, takeR_cons] at hq
    have HX := Lib.hid (show x.1.k ≠ 0 by rw [hkd]; exact hk)
    have HQ := Lib.hid hq
    have hne : (x.1.k != k) = false := by rw [hkd]; simp
    clear hq hkd hk
    go_enter Tryz.func41, Tryz.ntmps41
    go_wp2_with (first
      | (go_at_call 27; refine (token_any E _ _ _ _ (hP.alloc _)).mono ?_; rintro e w1 ⟨rfl, hb⟩; have hP1 : PS E w1 (x :: t) o := (hP.alloc _).below hb; have hG1 : Gr (· = E.b) w w1 := Gr.trans grA (Gr.of_below hb); have hZ1 : Blk w1 w.heap.size _ _ := (Blk.new _ _ _).below hb (by simp))
      | (go_at_call 40; refine (take_any E _ _ _ _ hP1 HX.out).mono ?_; rintro e w2 ⟨rfl, hg2, hP2⟩; have hG2 := hG1.trans hg2; have hZ2 := hZ1.gr hg2 (by omega); obtain ⟨zl, z0, z1, z2, z3, zf⟩ := hZ2.all4))
    exact ret4 Tryz.results41 rfl rfl (by repeat (first | (with_reducible (first | assumption | exact Blk.new _ _ _ | refine Blk.alloc ?_ _ | refine Blk.drew ?_ | refine Blk.far ?_ (by first | assumption | (simp; done) | (simp; omega)) _)) | apply Blk.four)) ⟨grA, .inr ⟨_, _, rfl, HQ.out, psA⟩⟩
  · rw [if_neg hkd, refuse_cons] at hq
    have hne : (x.1.k != k) = true := by simpa using hkd
    have HQ := Lib.hid hq
    clear hq hkd hk
    go_enter Tryz.func41, Tryz.ntmps41
    go_wp2_with (first
      | (go_at_call 27; refine (token_any E _ _ _ _ (hP.alloc _)).mono ?_; rintro e w1 ⟨rfl, hb⟩; have hP1 : PS E w1 (x :: t) o := (hP.alloc _).below hb; have hG1 : Gr (· = E.b) w w1 := Gr.trans grA (Gr.of_below hb))
      | (go_at_call 39; refine (refuse_any E _ _ _ _ hP1).mono ?_; rintro e w2 ⟨rfl, hb2⟩))
    exact And.intro rfl ⟨hG1.trans (Gr.of_below hb2), .inl ⟨_, _, HQ.out.symm, rfl⟩⟩
set_option maxRecDepth 100000 in
set_option maxHeartbeats 2000000 in
theorem name_any (E : Env) (w : World) (l : List T) (o : Nat) (f : T → List T → R) (r : R) (hP : PS E w l o) (hq : wantK 1 l f = r) :
    Calls Tryz.prog 25 #[.pointer (some ⟨E.b, 0, none⟩)] w (TokP E w o f r) := by
  have hlt := hP.lt
  have hgt := hP.toks.lt
  have HQ := Lib.hid hq
  clear hq
  go_enter Tryz.func25, Tryz.ntmps25
  go_wp2_with (go_at_call 41; refine (wantK_any E _ _ _ 1 _ _ (hP.alloc _) (by simp) HQ.out).mono ?_; rintro e w1 ⟨hg1, ⟨a, k, hr, rfl⟩ | ⟨x, t, rfl, hq1, hP1⟩⟩; exact And.intro rfl ⟨Gr.trans grA hg1, .inl ⟨_, _, hr, rfl⟩⟩; have hG1 : Gr (· = E.b) w w1 := Gr.trans grA hg1; have hZ1 : Blk w1 w.heap.size _ _ := (Blk.new _ _ _).gr hg1 (by omega); have HQ1 := Lib.hid hq1; clear hq1; obtain ⟨zl, z0, z1, z2, z3, zf⟩ := hZ1.all4)
  exact ret4 Tryz.results25 rfl rfl (by repeat (first | (with_reducible (first | assumption | exact Blk.new _ _ _ | refine Blk.alloc ?_ _ | refine Blk.drew ?_ | refine Blk.far ?_ (by first | assumption | (simp; done) | (simp; omega)) _)) | apply Blk.four)) ⟨grA, .inr ⟨_, _, rfl, HQ1.out, psA⟩⟩
set_option maxRecDepth 100000 in
set_option maxHeartbeats 2000000 in
theorem enter_any (E : Env) (w : World) (l : List T) (o : Nat) (m : List UInt8) (s : ByteArray) (f : T → List T → R) (r : R) (hP : PS E w l o) (hs : s = bs m) (hm : m ≠ []) (hq : enter m l o f = r) :
    Calls Tryz.prog 58 #[.pointer (some ⟨E.b, 0, none⟩), .string s] w (TokP E w (o + 1) f r) := by
  subst hs
  have hlt := hP.lt
  have hgt := hP.toks.lt
  have hd := hP.deep
  have o0 : (0 : Int) ≤ (o : Int) := by omega
  have o1 : (o : Int) ≤ 40 := by omega
  unfold enter at hq
  by_cases h40 : o = 40
  · subst h40
    simp only [if_true] at hq
    have HQ := Lib.hid hq
    clear hq
    go_enter Tryz.func58, Tryz.ntmps58
    go_wp2_with (go_at_call 24; refine (want_any E _ _ _ m _ _ _ (hP.alloc _) rfl hm HQ.out).mono ?_; rintro e w1 ⟨hg1, ⟨a, k, hr, rfl⟩ | ⟨x, t, rfl, hq1, hP1⟩⟩; exact And.intro rfl ⟨Gr.trans grA hg1, .inl ⟨_, _, hr, rfl⟩⟩; have hG1 : Gr (· = E.b) w w1 := Gr.trans grA hg1; have HQ1 := Lib.hid hq1; clear hq1; obtain ⟨k0, k1, k2, kf⟩ := hP1.cells; have zl := hP1.lt)
    refine And.intro rfl ?_
    exact ⟨grA, .inl ⟨_, _, HQ1.out.symm, rfl⟩⟩
  · simp only [if_neg h40] at hq
    have hne : ((o : Int) == 40) = false := by simp; omega
    have HQ := Lib.hid hq
    have HO := Lib.hid h40
    clear hq h40
    go_enter Tryz.func58, Tryz.ntmps58
    go_wp2_with (go_at_call 24; refine (want_any E _ _ _ m _ _ _ (hP.alloc _) rfl hm HQ.out).mono ?_; rintro e w1 ⟨hg1, ⟨a, k, hr, rfl⟩ | ⟨x, t, rfl, hq1, hP1⟩⟩; exact And.intro rfl ⟨Gr.trans grA hg1, .inl ⟨_, _, hr, rfl⟩⟩; have hG1 : Gr (· = E.b) w w1 := Gr.trans grA hg1; have HQ1 := Lib.hid hq1; clear hq1; obtain ⟨k0, k1, k2, kf⟩ := hP1.cells; have bl := hP1.lt; have hgw := hP1.toks.lt; have hZ1 : Blk w1 w.heap.size _ _ := (Blk.new _ _ _).gr hg1 (by omega); obtain ⟨zl, z0, z1, z2, z3, zf⟩ := hZ1.all4; have zb : ¬ w.heap.size = E.b := (by omega); have zn : ¬ w.heap.size = w1.heap.size := (by omega))
    have hPt := PS.opened hP1 (o' := o + 1) (by have := HO.out; omega) (.int .i64 ((o : Int) + 1)) rfl
    exact ret4 Tryz.results58 rfl rfl (by repeat (first | (with_reducible (first | assumption | exact Blk.new _ _ _ | refine Blk.alloc ?_ _ | refine Blk.drew ?_ | refine Blk.far ?_ (by first | assumption | (simp; done) | (simp; omega)) _)) | apply Blk.four)) ⟨grA, .inr ⟨_, _, rfl, HQ1.out, psA⟩⟩
set_option maxRecDepth 100000 in
set_option maxHeartbeats 2000000 in
theorem leave_any (E : Env) (w : World) (l : List T) (o : Nat) (m : List UInt8) (s : ByteArray) (f : T → List T → R) (r : R) (hP : PS E w l (o + 1)) (hs : s = bs m) (hm : m ≠ []) (hq : want m l f = r) :
    Calls Tryz.prog 59 #[.pointer (some ⟨E.b, 0, none⟩), .string s] w fun e w' => Gr (· = E.b) w w' ∧ ((∃ a k, r = .bad a k ∧ e = (.panicked [{ v := .iface 48 (.agg #[.int .i64 a, .int .i64 k]), recovered := false }])) ∨ ∃ x l, e = .returned (.tuple #[]) ∧ f x l = r ∧ PS E w' l o) := by
  subst hs
  have hlt := hP.lt
  have hd := hP.deep
  have o0 : (0 : Int) ≤ (o : Int) := by omega
  have o1 : (o : Int) ≤ 40 := by omega
  have HQ := Lib.hid hq
  clear hq
  go_enter Tryz.func59, Tryz.ntmps59
  go_wp2_with (go_at_call 24; refine (want_any E _ _ _ m _ _ _ hP rfl hm HQ.out).mono ?_; rintro e w1 ⟨hg1, ⟨a, k, hr, rfl⟩ | ⟨x, t, rfl, hq1, hP1⟩⟩; exact And.intro rfl ⟨hg1, .inl ⟨_, _, hr, rfl⟩⟩; have HQ1 := Lib.hid hq1; clear hq1; obtain ⟨k0, k1, k2, kf⟩ := hP1.cells; have bl := hP1.lt; have k2 : w1.cell? ⟨E.b, 2, none⟩ = some (.int .i64 ((o : Int) + 1)) := k2)
  go_end0
  exact ⟨grA, .inr ⟨x, t, rfl, HQ1.out, PS.opened hP1 (by omega) _ (by simp)⟩⟩
end Go.Proofs.YtihnnbeepfgphaaGreatDoor
