/-
  Lists and records read: walks.
-/
import Derived.Test.YtnkojjkijkhlbaaRb
namespace Go.Proofs.Ytnkojjkijkhlbaa
open Go.RowKit
set_option linter.unusedVariables false
set_option linter.unusedSimpArgs false

/-- A record read, all its memory new. -/
def VRec {α : Type} (R : Rel α) (w w' : World) (x : α) (v : Value) : Prop := ∃ vs : List Value, v = .agg vs.toArray ∧ R w' (fun k => w.heap.size ≤ k) x vs
/-- A list read, all its memory new. -/
def VLst {α : Type} (n : Nat) (R : Rel α) (w w' : World) (l : List α) (v : Value) : Prop := ∃ A c, v = .slice A l.length c ∧ SlG n R w' (fun k => w.heap.size ≤ k) A l
theorem Gr.grownG {w w' : World} {g : Nat} (h : Gr (fun x => x = g) w w') : w.grownBy w' (some g) := ⟨h.os, h.tape, h.output, h.size, fun k hk hn => h.block k hk (fun e => hn (by rw [show k = g from e]))⟩
/-- Parts read so far: their row and what they are. -/
structure Pts {α : Type} (n : Nat) (T : TypeId) (R : Rel α) (w : World) (base : Nat) (A : Option Addr) (c : Nat) (l : List α) (xs : List Value) : Prop where
  own : w.ownsRow base T n (.slice A l.length c) l.length xs
  rows : RowsOf R w (fun k => base ≤ k ∧ (Value.slice A l.length c).ownBlock ≠ some k) l xs
  size : base ≤ w.heap.size
theorem Pts.gr {α : Type} {n : Nat} {T : TypeId} {R : Rel α} (hR : Keeps R) {w w' : World} {base : Nat} {A : Option Addr} {c : Nat} {l : List α} {xs : List Value} {g : Nat} (h : Pts n T R w base A c l xs) (hg : Gr (fun x => x = g) w w') (hb : g < base) : Pts n T R w' base A c l xs := by
  refine ⟨h.own.kept hg.grownG ?_, RowsOf.keep hR (fun k hk hl => hg.block k hl (fun e => by have e2 : k = g := e; omega)) hg.size (fun _ _ h => h) _ _ h.rows, Nat.le_trans h.size hg.size⟩
  cases hv : (Value.slice A l.length c).ownBlock with
  | none => exact Or.inl rfl
  | some q => exact Or.inr (fun e => by
      injection e with e
      have := (h.own.lt q hv).1
      omega)
theorem Pts.fin {α : Type} {n : Nat} {T : TypeId} {R : Rel α} (hR : Keeps R) (hz : Sized R n) (hn : 0 < n) {w : World} {base : Nat} {A : Option Addr} {c : Nat} {l : List α} {xs : List Value} (h : Pts n T R w base A c l xs) : SlG n R w (fun k => base ≤ k) A l := by
  refine ⟨xs, ⟨h.own.1, fun hl => ?_⟩, RowsOf.keep hR (fun _ _ _ => rfl) (Nat.le_refl _) (fun k _ hk => hk.1) _ _ h.rows⟩
  obtain ⟨q, cap, hv, hb, hlt⟩ := h.own.form hl
  have hA : A = some ⟨q, 0, none⟩ := by injection hv
  subst hA
  exact ⟨q, 0, rfl, hb, hlt, fun j u hu => by rw [Nat.zero_add, ← add0]; exact h.own.cells (g := q) rfl j u hu⟩
/-- Cells stored one behind another. -/
def putQ (w : World) (q : Nat) : Nat → List Value → World
  | _, [] => w
  | i, v :: r => putQ (w.setCell ⟨q, i, none⟩ v) q (i + 1) r
theorem putQ_gr (q : Nat) : ∀ (vs : List Value) (i : Nat) (w : World), Gr (fun x => x = q) w (putQ w q i vs)
  | [], i, w => Gr.refl w
  | v :: r, i, w => ((Gr.refl (S := fun x => x = q) w).setCell (p := ⟨q, i, none⟩) (Or.inr (show q = q from rfl)) v).trans (putQ_gr q r (i + 1) (w.setCell ⟨q, i, none⟩ v))
theorem putQ_os (q : Nat) : ∀ (vs : List Value) (i : Nat) (w : World), (putQ w q i vs).heap.size = w.heap.size
  | [], i, w => rfl
  | v :: r, i, w => by rw [putQ, putQ_os q r]; simp
theorem Rdr.putQ {w : World} {lo g : Nat} {A : Option Addr} {c : Nat} {bs : List Int} (h : Rdr w lo g A c bs) {q : Nat} (hq : g < q) (i : Nat) (vs : List Value) : Rdr (putQ w q i vs) lo g A c bs := by
  have hg := putQ_gr q vs i w
  refine ⟨hg.blk h.blk (fun e => by have e2 : g = q := e; omega), h.sl.keep1 hg (by have := h.log; omega) (by have := h.blk.lt; have := h.log; omega), h.cap, h.none_, h.len, h.log⟩
theorem Gr.fin {w wm : World} {g q : Nat} {cs : Array Value} {T : TypeId} (hq : q = w.heap.size) (h : Gr (fun x => x = g) (w.alloc (.cells cs T)) wm) (i : Nat) (vs : List Value) : Gr (fun x => x = g) w (putQ wm q i vs) := by
  have h1 : Gr (fun x => x = g) w (w.alloc (.cells cs T)) := (Gr.refl w).alloc _
  have h2 : Gr (fun x => x = g) w wm := h1.trans h
  exact h2.wide (putQ_gr q vs i wm) (fun n hn e => absurd (show n = q from e) (by omega))
theorem Keeps.fin {α : Type} {R : Rel α} (hR : Keeps R) {w wm wx : World} {q : Nat} {a : α} {us : List Value} (h : R wm (fun k => wx.heap.size ≤ k) a us) (hq : q < wx.heap.size) (hb : w.heap.size ≤ wx.heap.size) (i : Nat) (vs : List Value) : R (putQ wm q i vs) (fun k => w.heap.size ≤ k) a us :=
  hR _ _ _ _ _ _ (fun k hk hl => (putQ_gr q vs i wm).block k hl (fun e => by have e2 : k = q := e; omega)) (putQ_gr q vs i wm).size (fun k _ hk => Nat.le_trans hb hk) h
theorem Keeps.go {α : Type} {R : Rel α} (hR : Keeps R) {w1 w2 wx : World} {g : Nat} {a : α} {us : List Value} (h : R w1 (fun k => wx.heap.size ≤ k) a us) (hg : Gr (fun x => x = g) w1 w2) (hx : g < wx.heap.size) : R w2 (fun k => wx.heap.size ≤ k) a us :=
  hR _ _ _ _ _ _ (fun k hk hl => hg.block k hl (fun e => by have e2 : k = g := e; omega)) hg.size (fun k _ hk => hk) h
theorem SlG.fin {α : Type} {n : Nat} {R : Rel α} (hR : Keeps R) {w wi wm wx : World} {g q : Nat} {B : Option Addr} {l : List α} (h : SlG n R wi (fun k => wx.heap.size ≤ k) B l) (hg : Gr (fun x => x = g) wi wm) (h1 : g < wx.heap.size) (h2 : q < wx.heap.size) (h3 : w.heap.size ≤ wx.heap.size) (i : Nat) (vs : List Value) : SlG n R (putQ wm q i vs) (fun k => w.heap.size ≤ k) B l :=
  h.keep hR (fun k hk hl => ((putQ_gr q vs i wm).block k (Nat.lt_of_lt_of_le hl hg.size) (fun e => by have e2 : k = q := e; omega)).trans (hg.block k hl (fun e => by have e2 : k = g := e; omega))) (Nat.le_trans hg.size (putQ_gr q vs i wm).size) (fun k _ hk => Nat.le_trans h3 hk)
theorem Keeps.fin2 {α : Type} {R : Rel α} (hR : Keeps R) {w wi wm wx : World} {g q : Nat} {a : α} {us : List Value} (h : R wi (fun k => wx.heap.size ≤ k) a us) (hg : Gr (fun x => x = g) wi wm) (h1 : g < wx.heap.size) (h2 : q < wx.heap.size) (h3 : w.heap.size ≤ wx.heap.size) (i : Nat) (vs : List Value) : R (putQ wm q i vs) (fun k => w.heap.size ≤ k) a us :=
  hR _ _ _ _ _ _ (fun k hk hl => ((putQ_gr q vs i wm).block k (Nat.lt_of_lt_of_le hl hg.size) (fun e => by have e2 : k = q := e; omega)).trans (hg.block k hl (fun e => by have e2 : k = g := e; omega))) (Nat.le_trans hg.size (putQ_gr q vs i wm).size) (fun k _ hk => Nat.le_trans h3 hk) h
theorem SlG.keeps {α : Type} {R : Rel α} (n : Nat) (hR : Keeps R) : Keeps (fun w F (x : Option Addr × List α) (_ : List Value) => SlG n R w F x.1 x.2) := fun _ _ _ _ _ _ hk hs hF h => h.keep hR hk hs hF
theorem bindR_ret {α : Type} (q : Rd (List α)) (bs : List Int) : q bs = bindR q (fun r => retR ([] ++ r)) bs := by
  unfold bindR retR
  cases q bs with
  | none => rfl
  | some a => obtain ⟨x, r⟩ := a; rfl
theorem rep_none {α : Type} {p : Rd α} {n : Nat} {l : List α} {b : List Int} (h : p b = none) : bindR (repR p (n + 1)) (fun r => retR (l ++ r)) b = none := by
  apply bindR_none
  simp only [repR]
  exact bindR_none h
theorem rep_some {α : Type} {p : Rd α} {n : Nat} {l : List α} {b r1 : List Int} {a : α} (h : p b = some (a, r1)) : bindR (repR p (n + 1)) (fun r => retR (l ++ r)) b = bindR (repR p n) (fun r => retR ((l ++ [a]) ++ r)) r1 := by
  unfold bindR
  simp only [repR]
  rw [bindR_of h]
  unfold bindR retR
  cases repR p n r1 with
  | none => rfl
  | some x => obtain ⟨x, r⟩ := x; simp
theorem rep_end {α : Type} {p : Rd α} {l : List α} {b : List Int} : bindR (repR p 0) (fun r => retR (l ++ r)) b = some (l, b) := by
  unfold bindR
  simp [repR, retR]
/-- A reader of parts that each take something. -/
def Less {α : Type} (p : Rd α) : Prop := ∀ bs x r, Byt bs → p bs = some (x, r) → r.length < bs.length
theorem Bwd.less {α : Type} {p : Rd α} {enc : α → List Int} {Q : α → Prop} (h : Bwd p enc Q) (he : ∀ x, 0 < (enc x).length) : Less p := fun bs x r hb e => by
  obtain ⟨rfl, _⟩ := h bs x r hb e
  have := he x
  rw [List.length_append]
  omega
theorem Rdr.grown {w w' : World} {lo g : Nat} {A : Option Addr} {c : Nat} {bs : List Int} {row : Option Nat} (h : Rdr w lo g A c bs) (hg : w.grownBy w' row) (hr : ∀ k, row = some k → g < k) : Rdr w' lo g A c bs :=
  ⟨h.blk.grown hg (fun e => by have := hr g e.symm; omega), ⟨h.sl.1, h.sl.2.grown hg (by have := h.log; have := h.blk.lt; omega) (fun k e => by have := hr k e; have := h.log; omega)⟩, h.cap, h.none_, h.len, h.log⟩
theorem app_rec {n bytes : Nat} {T S : TypeId} {z : Value} (hS : Try.prog.underlying S = some (.slice T)) (hi : (Try.prog.info? T).map (fun i => (i.zero, i.size, i.bytes)) = some (some z, n, bytes)) (hzs : z.cells.size = n) (hn : 0 < n) {W : World} {base : Nat} {B : Option Addr} {d len : Nat} {xs : List Value}
    (ho : W.ownsRow base T n (.slice B len d) len xs) (ty : TypeId) {q : Nat} {vs : List Value} (hb : Blk W q T vs.toArray) (hv : vs.length = n) (h1 : ∀ u ∈ vs, u.oneCell' = true) (hl : len ≤ 262144) (hby : bytes ≤ 1000) (hbase : base ≤ W.heap.size) :
    ∃ v' w', (Builtin.append_ #[S, S] ty #[.slice B len d, .slice (some ⟨q, 0, none⟩) 1 1]).run Try.prog W = .ok v' w' ∧ w'.ownsRow base T n v' (len + 1) (xs ++ vs) ∧ W.grownBy w' (Value.slice B len d).ownBlock ∧ (v'.ownBlock = (Value.slice B len d).ownBlock ∨ v'.ownBlock = some W.heap.size) := by
  obtain ⟨i, hi1, hi2, hi3, hi4⟩ := info_parts hi
  have hrd : Reads W (q + 1) n (some ⟨q, 0, none⟩) 1 vs := ⟨by rw [hv, Nat.one_mul], fun _ => ⟨_, rfl, by show q < q + 1; omega, fun j u hu => by rw [add0, hb.cell, ← Array.getElem?_toList]; exact hu⟩⟩
  exact run_append_any (P := Try.prog) W base S ty T i z n bytes hS hi1 hi2 hi3 hi4 hzs hn _ _ _ ho (q + 1) (some ⟨q, 0, none⟩) 1 1 vs hrd h1 (by unfold maxLen; omega) (by
    have : (len + 1) * bytes ≤ 262145 * 1000 := Nat.mul_le_mul (by omega) hby
    omega) hbase
theorem Pts.more {α : Type} {n : Nat} {T : TypeId} {R : Rel α} (hR : Keeps R) {w1 W w3 : World} {base : Nat} {B : Option Addr} {d : Nat} {l : List α} {xs vs : List Value} (h : Pts n T R w1 base B d l xs) (hW : W = w1.alloc (.cells vs.toArray T)) {a : α} {wp : World} (ha : R w1 (fun k => wp.heap.size ≤ k) a vs) (hp : base ≤ wp.heap.size) (hold : ∀ q, (Value.slice B l.length d).ownBlock = some q → q < wp.heap.size)
    {B' : Option Addr} {d' : Nat} (ho : w3.ownsRow base T n (.slice B' (l.length + 1) d') (l.length + 1) (xs ++ vs)) (hg : W.grownBy w3 (Value.slice B l.length d).ownBlock) (hn : (Value.slice B' (l.length + 1) d').ownBlock = (Value.slice B l.length d).ownBlock ∨ (Value.slice B' (l.length + 1) d').ownBlock = some W.heap.size) : Pts n T R w3 base B' d' (l ++ [a]) (xs ++ vs) := by
  subst hW
  have e : (l ++ [a]).length = l.length + 1 := by simp
  have hb1 : Below w1.heap.size w1 (w1.alloc (.cells vs.toArray T)) := (Below.refl _ _).alloc (Nat.le_refl _) _
  have hsz : w1.heap.size ≤ w3.heap.size := Nat.le_trans hb1.size hg.size
  have hkk : ∀ k, k < w1.heap.size → (Value.slice B l.length d).ownBlock ≠ some k → w3.heap[k]? = w1.heap[k]? := fun k hk hne => (hg.block k (by simp; omega) (fun e => hne e.symm)).trans (hb1.block k hk)
  refine ⟨by rw [e]; exact ho, ?_, Nat.le_trans h.size hsz⟩
  have hF : ∀ k, k < w1.heap.size → (Value.slice B l.length d).ownBlock ≠ some k → (Value.slice B' (l ++ [a]).length d').ownBlock ≠ some k := fun k hk hne => by
    rw [e]
    rcases hn with hn | hn
    · rw [hn]; exact hne
    · rw [hn]; intro e2; injection e2 with e2; simp at e2; omega
  refine RowsOf.snoc ?_ (RowsOf.keep hR (fun k hk hl => hkk k hl hk.2) hsz (fun k hl hk => ⟨hk.1, hF k hl hk.2⟩) _ _ h.rows)
  exact hR _ _ _ _ _ _ (fun k hk hl => hkk k hl (fun e => by have := hold k e; omega)) hsz (fun k hl hk => ⟨Nat.le_trans hp hk, hF k hl (fun e => by have := hold k e; omega)⟩) ha
set_option maxRecDepth 100000 in
set_option maxHeartbeats 8000000 in
theorem rim_any  (w : World) (lo g : Nat) (A : Option Addr) (c : Nat) (bs : List Int) (h : Rdr w lo g A c bs)  :
    Calls Try.prog 59 #[.pointer (some ⟨g, 0, none⟩)] w (RdP lo g (imR bs) (VRec RIm) w) := by
  have hb0 : Below w.heap.size w (w.alloc (.cells #[.string ⟨#[]⟩, .int .i64 0] 83)) := (Below.refl _ w).alloc (Nat.le_refl _) _
  have HK0 := Lib.hid (Blk.new w 83 #[.string ⟨#[]⟩, .int .i64 0])
  have HG0 := Lib.hid (Gr.refl (S := fun x => x = g) (w.alloc (.cells #[.string ⟨#[]⟩, .int .i64 0] 83)))
  have HGX := Lib.hid (Gr.of_below (S := fun x => x = g) hb0)
  have HNE := Lib.hid (show g ≠ w.heap.size by have := h.blk.lt; omega)
  have HLT := Lib.hid h.blk.lt
  have HE1 := Lib.hid (show imR bs = _ from rfl)
  have HM1 := Lib.hid (rtext_any _ lo g A c bs (h.bel hb0))
  have HBY := Lib.hid h.sl.1
  clear h hb0
  go_enter Try.func59, Try.ntmps59
  go_wp2_with (first | (go_at_call 56; ((with_reducible refine HM2.out.mono ?_); rintro e w2 h2); rcases h2.cases with ⟨ho, rfl, hg⟩ | ⟨x2, b2, v2, A2, c2, ho, rfl, hv, hr, hg⟩; (· exact post_bad rfl ((RdP.bad (HE2.out.trans (bindR_none ho))).2 ⟨rfl, HGX.out.trans (HG1.out.trans hg)⟩)); obtain ⟨rfl, hi0, hi1⟩ := hv; have HE3 := Lib.hid (HE2.out.trans (bindR_of ho)); have HR2 := Lib.hid hr; have hg2 := HG1.out.trans hg; have HG2 := Lib.hid hg2; have HH2 := Lib.hid hg; have hk2 := Gr.blk hg2 HK0.out (fun e => HNE.out e.symm); have y20 := Blk.cell hk2 0; have f20 := Blk.frozen hk2 0; have y21 := Blk.cell hk2 1; have f21 := Blk.frozen hk2 1; have yl2 := Blk.lt hk2; have HZ2 := Lib.hid hg2.size; clear h2 ho hr hg hg2 hk2 ) | (go_at_call 57; ((with_reducible refine HM1.out.mono ?_); rintro e w1 h1); rcases h1.cases with ⟨ho, rfl, hg⟩ | ⟨x1, b1, v1, A1, c1, ho, rfl, hv, hr, hg⟩; (· exact post_bad rfl ((RdP.bad (HE1.out.trans (bindR_none ho))).2 ⟨rfl, HGX.out.trans (HG0.out.trans hg)⟩)); obtain rfl := (show _ = _ from hv); have HE2 := Lib.hid (HE1.out.trans (bindR_of ho)); have HR1 := Lib.hid hr; have hg1 := HG0.out.trans hg; have HG1 := Lib.hid hg1; have HH1 := Lib.hid hg; have hk1 := Gr.blk hg1 HK0.out (fun e => HNE.out e.symm); have y10 := Blk.cell hk1 0; have f10 := Blk.frozen hk1 0; have y11 := Blk.cell hk1 1; have f11 := Blk.frozen hk1 1; have yl1 := Blk.lt hk1; have HZ1 := Lib.hid hg1.size; have HM2 := Lib.hid (rword_any w1 lo g A1 c1 b1 hr); clear h1 ho hr hg hg1 hk1 ))
  have hlt := Nat.lt_of_lt_of_le (show w.heap.size < (w.alloc (.cells #[.string ⟨#[]⟩, .int .i64 0] 83)).heap.size by simp) HZ2.out
  refine bodyPost_ret (v := .agg #[.string x1, .int .i64 x2]) (by simp [results, Try.results59, go_sem, y20, y21, yl2]) rfl ?_
  clear y20 y21 yl2
  have HG9 := Gr.fin rfl HG2.out 0 [.string x1, .int .i64 x2]
  have HR9 := HR2.out.putQ HLT.out 0 [.string x1, .int .i64 x2]
  exact (RdP.good (HE3.out.trans rfl)).2 ⟨_, A2, c2, rfl, ⟨[.string x1, .int .i64 x2], rfl, rfl⟩, HR9, HG9⟩
set_option maxRecDepth 100000 in
set_option maxHeartbeats 8000000 in
theorem rlist_im (p : Rd Im) (lo g : Nat) (LIM : Nat) (hp : ∀ (w : World) (A : Option Addr) (c : Nat) (bs : List Int), Rdr w lo g A c bs → bs.length ≤ LIM → Calls Try.prog 59 #[.pointer (some ⟨g, 0, none⟩)] w (RdP lo g (p bs) (VRec RIm) w)) (hle : Less p) (w : World) (A : Option Addr) (c : Nat) (bs : List Int) (h : Rdr w lo g A c bs) (hlim : bs.length ≤ LIM) :
    Calls Try.prog 58 #[.pointer (some ⟨g, 0, none⟩), .func (Fn.func 59) #[] #[]] w (RdP lo g (listR p bs) (VLst 2 RIm) w) := by
  have HM := Lib.hid (rnumber_any w lo g A c bs h)
  have HPA := Lib.hid hp
  have HLE := Lib.hid hle
  have HLM := Lib.hid hlim
  have HB0 := Lib.hid h.sl.1
  have HGB := Lib.hid h.blk.lt
  have HL0 := Lib.hid h.len
  clear h hp hle hlim
  go_enter Try.func58, Try.ntmps58
  go_wp2_with (first
    | (go_at_call 35; ((with_reducible refine (refuse_any _).mono ?_); rintro e w2 ⟨rfl, rfl⟩))
    | (go_at_call 84; ((with_reducible refine HM.out.mono ?_); rintro e w1 h1); rcases h1.cases with ⟨ho, rfl, hg⟩ | ⟨x, b1, v, A1, c1, ho, rfl, ⟨rfl, hx0, hx1⟩, hr, hg⟩; (· exact post_bad rfl ((RdP.bad (bindR_none ho)).2 ⟨rfl, hg⟩)); have HR := Lib.hid hr; have HG1 := Lib.hid hg; have HO := Lib.hid (show listR p bs = (if x < 0 then none else repR p x.toNat b1) from bindR_of ho); have HBL := Lib.hid (show b1.length ≤ bs.length by (obtain ⟨rfl, _⟩ := wordR_bwd _ _ _ HB0.out ho); rw [List.length_append]; omega); clear h1 ho hr hg))
  · have hx : x < 0 := by assumption
    have ho : listR p bs = none := by rw [HO.out, if_pos hx]
    exact post_bad rfl ((RdP.bad ho).2 ⟨rfl, HG1.out⟩)
  · have hx : ¬ x < 0 := by first | assumption | omega
    obtain ⟨N, rfl⟩ : ∃ N : Nat, x = (N : Int) := ⟨x.toNat, by omega⟩
    have HO2 := Lib.hid (show listR p bs = bindR (repR p N) (fun r => retR ([] ++ r)) b1 by rw [HO.out, if_neg hx, ← bindR_ret]; simp)
    clear hx
    go_loopg [13, 6] N (fun gk v13 v6 wr => ∃ (j : Nat) (B : Option Addr) (d : Nat) (l : List Im) (xs : List Value) (A' : Option Addr) (c' : Nat) (b' : List Int), j + gk = N ∧ v13 = .int .i64 j ∧ v6 = .slice B l.length d ∧ Pts 2 83 RIm wr w.heap.size B d l xs ∧ Rdr wr lo g A' c' b' ∧ Gr (fun x => x = g) w wr ∧ l.length + b'.length ≤ b1.length ∧ listR p bs = bindR (repR p gk) (fun r => retR (l ++ r)) b')
    case atStart => exact ⟨0, none, 0, [], [], A1, c1, b1, by omega, rfl, rfl, ⟨World.ownsRow_nil _ _ _ _, rfl, HG1.out.size⟩, HR.out, HG1.out, by simp, HO2.out⟩
    case round =>
      obtain ⟨j, B, d, l, xs, A', c', b', hj, rfl, rfl, hpt, hrd, hg, hln, heq⟩ := hrel
      have HP := Lib.hid hpt
      have HRD := Lib.hid hrd
      have HG := Lib.hid hg
      have HLN := Lib.hid (show l.length ≤ 262144 by have := HBL.out; have := HL0.out; omega)
      have HLL := Lib.hid hln
      have HEQ := Lib.hid heq
      cases gk with
      | zero =>
        obtain rfl : j = N := by omega
        have HF := Lib.hid (hpt.fin RIm_keeps RIm_sized (by omega))
        clear hj hpt hrd hg hln heq
        go_wp2
        go_ret
        exact (RdP.good (HEQ.out.trans rep_end)).2 ⟨_, A', c', rfl, ⟨B, d, rfl, HF.out⟩, HRD.out, HG.out⟩
      | succ f =>
        have j1 : (j : Int) < (N : Int) := by omega
        have j0 : (0 : Int) ≤ (j : Int) := by omega
        have HPT := Lib.hid (HPA.out wr A' c' b' hrd (by have := HLM.out; have := HBL.out; omega))
        have HOLD := Lib.hid (fun q (hq : (Value.slice B l.length d).ownBlock = some q) => (hpt.own.lt q hq).2)
        have HSB := Lib.hid hpt.size
        clear hpt hrd hg hln heq
        go_wp2_with ((first
      | (at_builtin; refine wpList_app rfl _ _ _ _ rfl _ _ rfl rfl _ (app_rec (T := 83) Try.underlying22 (z := .agg #[.string ⟨#[]⟩, .int .i64 0]) (n := 2) (bytes := 24) (by kernel_rfl) rfl (by omega) (HP2.out.own.kept (row := none) HB3.out (by cases hv : (Value.slice B l.length d).ownBlock <;> simp)) 22 (vs := [.string nm, .int .i64 hh]) (Blk.new _ _ _) rfl (by intro u hu; simp at hu; rcases hu with rfl | rfl <;> rfl) (by have := HLN.out; omega) (by omega) (by have := HP2.out.size; simp; omega)) ?_; rintro v3 w3 ⟨ho3, hg3, hn3⟩; obtain ⟨B3, d3', rfl⟩ := own_shape ho3; have HO3 := Lib.hid ho3; have HG3 := Lib.hid hg3; have HN3 := Lib.hid hn3; clear ho3 hg3 hn3)
      | (go_at_call 59; ((with_reducible refine HPT.out.mono ?_); rintro e w2 h2); rcases h2.cases with ⟨ho, rfl, hg⟩ | ⟨x, b2, v, A2, c2, ho, rfl, ⟨vs, rfl, hs⟩, hr, hg⟩; (· exact post_bad rfl ((RdP.bad (HEQ.out.trans (rep_none ho))).2 ⟨rfl, HG.out.trans hg⟩)); obtain ⟨nm, hh⟩ := x; obtain rfl := (show vs = [.string nm, .int .i64 hh] from hs); have HS := Lib.hid hs; have HP2 := Lib.hid (HP.out.gr RIm_keeps hg HGB.out); have HR2 := Lib.hid hr; have HG2 := Lib.hid (HG.out.trans hg); have HE2 := Lib.hid (HEQ.out.trans (rep_some ho)); have HLS := Lib.hid (HLE.out _ _ _ HRD.out.sl.1 ho); have HB3 := Lib.hid (show w2.grownBy (w2.alloc (.cells #[.string nm, .int .i64 hh] 83)) none from ⟨rfl, rfl, rfl, by simp, fun k hk _ => Below.heap_alloc w2 _ k hk⟩); have HSZ := Lib.hid hg.size; clear h2 ho hs hr hg)))
        have HPN := Lib.hid (HP2.out.more RIm_keeps rfl HS.out HSB.out HOLD.out HO3.out HG3.out HN3.out)
        have HGW := Lib.hid (show Gr (fun x => x = g) w w3 from (HG2.out.alloc (.cells #[.string nm, .int .i64 hh] 83)).wide (Gr.of_grown (S := fun x => (Value.slice B l.length d).ownBlock = some x) HG3.out (fun k e _ => e)) (fun n hn e => absurd (HP2.out.own.lt n e).1 (by omega)))
        have HR3 := Lib.hid ((HR2.out.bel ((Below.refl _ _).alloc (Nat.le_refl _) (.cells #[.string nm, .int .i64 hh] 83))).grown HG3.out (fun k e => Nat.lt_of_lt_of_le HGB.out (HP2.out.own.lt k e).1))
        go_roundg f
        case measure => omega
        case rel => exact ⟨j + 1, B3, d3', _, _, A2, c2, b2, by omega, by go_num, by rw [List.length_append]; rfl, HPN.out, HR3.out, HGW.out, by have := HLL.out; have := HLS.out; rw [List.length_append]; simp only [List.length_cons, List.length_nil]; omega, HE2.out⟩
theorem wordR_less : Less wordR := Bwd.less wordR_bwd (fun x => by rw [le8_len]; omega)
theorem textR_less : Less textR := Bwd.less textR_bwd (fun x => by unfold encS8; rw [List.length_append, le8_len]; omega)
theorem flagR_less : Less flagR := Bwd.less flagR_bwd (fun x => by rw [le8_len]; omega)
theorem listR_less {α : Type} {p : Rd α} {enc : α → List Int} {Q : α → Prop} (h : Bwd p enc Q) : Less (listR p) := Bwd.less (listR_bwd h) (fun x => by unfold encLn; rw [List.length_append, le8_len]; omega)
theorem encT_pos (x : Ty) : 0 < (encT x).length := by cases x; rw [encT_mk, List.length_append, le8_len]; omega
theorem encE_pos (x : Ex) : 0 < (encE x).length := by cases x; rw [encE_mk, List.length_append, le8_len]; omega
theorem encS_pos (x : St) : 0 < (encS x).length := by cases x; rw [encS_mk, List.length_append, le8_len]; omega
theorem encS8_pos (s : ByteArray) : 0 < (encS8 s).length := by unfold encS8; rw [List.length_append, le8_len]; omega
theorem encIm_pos (x : Im) : 0 < (encIm x).length := by rw [encIm_mk, List.length_append]; have := encS8_pos x.name; omega
theorem encF_pos (x : Fi) : 0 < (encF x).length := by rw [encF_mk, List.length_append]; have := encS8_pos x.name; omega
theorem encD_pos (x : Dl) : 0 < (encD x).length := by rw [encD_mk, List.length_append, le8_len]; omega
theorem encFn_pos (x : Fn8) : 0 < (encFn x).length := by rw [encFn_mk, List.length_append]; have := encS8_pos x.name; omega
theorem RT_sized : Sized RT 5 := fun _ _ t vs h => h.length
theorem RTs_rows {w : World} {F : Nat → Prop} : ∀ (l : List Ty) (xs : List Value), RTs w F l xs ↔ RowsOf RT w F l xs
  | [], xs => by simp only [RTs, RowsOf]
  | t :: r, xs => by simp only [RTs, RowsOf, RTs_rows r]
theorem slt_of {w : World} {F : Nat → Prop} {A : Option Addr} {l : List Ty} (h : SlG 5 RT w F A l) : SlT w F A l := by
  obtain ⟨xs, h1, h2⟩ := h
  exact ⟨xs, h1, (RTs_rows _ _).2 h2⟩
end Go.Proofs.Ytnkojjkijkhlbaa
