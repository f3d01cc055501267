/-
  What one needs, gone through from the order's end: the walk.
-/
import Derived.RangeFuncFrom
import Derived.RangeFuncBox
import Derived.Maps.AppendAt
import Derived.Test.YtibfikadamfpdaaPln
import Derived.Test.YtibfikadamfpdaaOr
namespace Go.Proofs.Ytibfikadamfpdaa
open Go.RowKit Go.Shelf
set_option linter.unusedVariables false
set_option linter.unusedSimpArgs false

attribute [local go_sem] Oper.semAt_some

def stepS {n : Nat} (tt : Nat → Nat → Bool) (S : Nat → Bool) (x : It n) : Nat → Bool := if S x.1.2 = true then (fun j => S j || tt x.1.2 j) else S
def foldS {n : Nat} (tt : Nat → Nat → Bool) (a : Nat) (pre : List (It n)) : Nat → Bool := pre.foldl (stepS tt) (fun j => a == j)
theorem foldS_snoc {n : Nat} (tt : Nat → Nat → Bool) (a : Nat) (pre : List (It n)) (x : It n) : foldS tt a (pre ++ [x]) = stepS tt (foldS tt a pre) x := by simp [foldS]
theorem foldS_back {n : Nat} {tt : Nat → Nat → Bool} {a : Nat} (h0 : 0 < n) {L : List Nat} (hg : GoodO n tt L) : ∀ k, k ≤ L.length → BackI n tt a L (L.length - k) (foldS tt a (backN h0 L k))
  | 0, _ => BackI.start L
  | k + 1, hk => by
    have ih := foldS_back (a := a) h0 hg k (by omega)
    rw [backN_succ, foldS_snoc]
    have hm : L.length - 1 - k < L.length := by omega
    have he : L.length - k = (L.length - 1 - k) + 1 := by omega
    have he2 : L.length - (k + 1) = L.length - 1 - k := by omega
    rw [he] at ih
    rw [he2]
    have hx : (itemN h0 L (L.length - 1 - k)).1.2 = fl L (L.length - 1 - k) := item_2 h0 (hg.lt _ (List.mem_of_getElem? (fl_get hm)))
    unfold stepS
    rw [hx]
    by_cases hs : foldS tt a (backN h0 L k) (fl L (L.length - 1 - k)) = true
    · rw [if_pos hs]
      exact ih.put hg.lt hg.nod hg.beh hm hs
    · rw [if_neg hs]
      exact ih.skip (by simpa using hs)
/-- The needed ones' cells. -/
def NeedC (n gn : Nat) (S : Nat → Bool) (W : World) : Prop := ∀ j, j < n → W.cell? ⟨gn, j, none⟩ = some (.bool (S j)) ∧ W.frozen? ⟨gn, j, none⟩ = false
theorem need_own {n gn : Nat} {β : Type} {f : β → Nat → Bool} {v0 v2 : Value} {b0 b2 : Nat} : Own (fun (s : β) W => NeedC n gn (f s) W ∧ W.cell? ⟨b0, 0, none⟩ = some v0 ∧ W.cell? ⟨b2, 0, none⟩ = some v2) :=
  fun s A B row hs hg hr => ⟨fun j hj => ⟨cell_kept (hs.1 j hj).1 hg hr, (frozen_kept (hs.1 j hj).1 hg hr).trans (hs.1 j hj).2⟩, cell_kept hs.2.1 hg hr, cell_kept hs.2.2 hg hr⟩
theorem NeedC.set_ {n gn t : Nat} {S : Nat → Bool} {W : World} (h : NeedC n gn S W) (ht : t < n) (b : Bool) : NeedC n gn (fun j => if j = t then b else S j) (W.setCell ⟨gn, t, none⟩ (.bool b)) := by
  intro j hj
  obtain ⟨h1, h2⟩ := h j hj
  refine ⟨?_, by rw [World.frozen?_setCell]; exact h2⟩
  by_cases e : j = t
  · subst e
    show _ = some (Value.bool (if j = j then b else S j))
    rw [if_pos rfl]
    exact World.cell?_setCell_same' _ _ _ (by rw [h1]; rfl)
  · show _ = some (Value.bool (if j = t then b else S j))
    rw [if_neg e]
    exact (World.cell?_setCell_other _ _ _ _ (fun h => e (by simp at h <;> omega))).trans h1
theorem gr_putObj {S : Nat → Prop} {w : World} (hS : ∀ k, w.heap.size ≤ k → S k) (W : World) (l : Nat) (o o' : Obj) (hl : w.heap.size ≤ l) (_ : W.heap[l]? = some o) (_ : o.isCells = false) (_ : o.isWalk = false) : Gr S W (W.putObj l o') := by
  have hg := grownBy_putObj' W l o'
  exact ⟨hg.os, hg.tape, hg.output, hg.size, fun k hk hs => hg.block k hk fun e => by
    have : k = l := by injection e
    subst this
    exact hs (hS _ hl)⟩
theorem appI_int {F : Fence} {n : Nat} {w : World} {ops : Array Oper} {rest : List Oper} {o : Oper} {a : Act} {Q : Exit → Act → World → Prop} (hgd : o.guard = none) (s x : Operand)
    (ho : o.op = .call { callee := .builtin .append, args := #[s, x], argTypes := #[26, 26] })
    (base : Nat) (ov : Value) (l : List Nat) (y nb : Nat) (hs : a.eval s = ov) (hown : w.ownsRow base 3 1 ov l.length (ints l)) (hx : a.eval x = .slice (some ⟨nb, 0, none⟩) 1 1) (hb : Blk w nb 3 #[.int .i64 y]) (hl : l.length ≤ 1000) (hbase : base ≤ w.heap.size)
    (h : ∀ A' c' w', w'.ownsRow base 3 1 (.slice A' (l.length + 1) c') (l ++ [y]).length (ints (l ++ [y])) → w.grownBy w' ov.ownBlock → wpListIn F n Try.prog ops Q rest (a.put o.dst (.slice A' (l.length + 1) c')) w') : wpListIn F n Try.prog ops Q (o :: rest) a w := by
  obtain ⟨i0, hi0, hz0, hz1, hz2⟩ := info_parts int_info
  refine wpListIn_append_own w hgd s x _ ho base 3 i0 _ 1 8 Try.underlying26 hi0 hz0 hz1 hz2 rfl (by omega) ov l.length (ints l) hs hown ⟨nb, 0, none⟩ 1 1 [.int .i64 y] hx rfl (fun j u hu => by rw [add0]; exact (hb.cell j).trans (by simpa using hu)) (by simp [Value.oneCell']) (by simp only [maxLen]; omega) (by omega) hbase ?_
  intro v' w' h1 h2 _
  obtain ⟨A', c', rfl⟩ := own_shape h1
  exact h A' c' w' (by simpa [ints] using h1) h2
set_option maxRecDepth 100000 in
set_option maxHeartbeats 8000000 in
theorem below_in (F : Fence) (m : Nat) (h21 : F.fn 21) (h26 : F.fn 26) (h34 : F.fn 34) (hro : F.round = none) (hm : 3 ≤ m)
    (w : World) (B : Nat) (D A : Option Addr) (n d c a : Nat) (tt : Nat → Nat → Bool) (L : List Nat) (hT : SlN w B D (tabL n tt)) (hB : B ≤ w.heap.size) (hA : SlV w w.heap.size A (ints L)) (hg : GoodO n tt L) (hn : n ≤ 8) (ha : a < n) (hall : ∀ i, i < n → i ∈ L) :
    CallsIn F m Try.prog 21 #[.slice D n d, .slice A L.length c, .int .i64 a] w fun e w' =>
      (∃ S A' c', IsR n tt a S ∧ e = .returned (.slice A' (filtN n S).length c') ∧ SlV w' w'.heap.size A' (ints (filtN n S))) ∧ Below w.heap.size w w' := by
  have h1 : 1 ≤ m := by omega
  have hLn : L.length ≤ 1000 := by have := pigeon n L hg.nod hg.lt; omega
  have h0 : 0 < n := by omega
  have n1 : (n : Int) ≤ 8 := by omega
  have a0 : (0 : Int) ≤ (a : Int) := by omega
  have a1 : (a : Int) < (n : Int) := by omega
  have HT := Lib.hid hT
  have HA := Lib.hid hA
  have HG := Lib.hid hg
  have HALL := Lib.hid hall
  obtain ⟨W0, hW0⟩ : ∃ W0, w.alloc (.cells #[.slice D n d] 39) = W0 := ⟨_, rfl⟩
  have z0 : W0.heap.size = w.heap.size + 1 := by rw [← hW0]; simp
  have hmk := run_mkb n (by omega) W0
  obtain ⟨W1, hW1⟩ : ∃ W1, W0.alloc (.cells (List.replicate n (Value.bool false)).toArray 4) = W1 := ⟨_, rfl⟩
  have z1 : W1.heap.size = w.heap.size + 2 := by rw [← hW1]; simp [z0]
  rw [hW1, z0] at hmk
  have k0 : Blk W0 w.heap.size 39 #[.slice D n d] := by rw [← hW0]; exact Blk.new _ _ _
  have b01 : Below W0.heap.size W0 W1 := by rw [← hW1]; exact (Below.refl _ _).alloc (Nat.le_refl _) _
  have k1 : Blk W1 (w.heap.size + 1) 4 (rowB n fun _ => false).toArray := by rw [← hW1, ← rowB_zero, ← z0]; exact Blk.new _ _ _
  have c0 : W0.cell? ⟨w.heap.size, 0, none⟩ = some (.slice D n d) := k0.cell 0
  have b00 : Below w.heap.size w W0 := by rw [← hW0]; exact (Below.refl _ w).alloc (Nat.le_refl _) _
  obtain ⟨W3, hW3⟩ : ∃ W3, W1.alloc (.cells #[.slice (some ⟨w.heap.size + 1, 0, none⟩) n n] 44) = W3 := ⟨_, rfl⟩
  have z3 : W3.heap.size = w.heap.size + 3 := by rw [← hW3]; simp [z1]
  have b13 : Below W1.heap.size W1 W3 := by rw [← hW3]; exact (Below.refl _ _).alloc (Nat.le_refl _) _
  have k3 : Blk W3 (w.heap.size + 2) 44 #[.slice (some ⟨w.heap.size + 1, 0, none⟩) n n] := by rw [← hW3, ← z1]; exact Blk.new _ _ _
  have k13 := k1.bel2 b13
  have k03 := (k0.bel2 b01).bel2 b13
  have c3 : W3.cell? ⟨w.heap.size + 1, a, none⟩ = some (.bool false) := (k13.cell a).trans (by rw [List.getElem?_toArray]; exact rowB_get ha)
  have f3 := k13.frozen a
  have c32 : W3.cell? ⟨w.heap.size + 2, 0, none⟩ = some (.slice (some ⟨w.heap.size + 1, 0, none⟩) n n) := k3.cell 0
  obtain ⟨W4, hW4⟩ : ∃ W4, W3.setCell ⟨w.heap.size + 1, a, none⟩ (.bool true) = W4 := ⟨_, rfl⟩
  have z4 : W4.heap.size = w.heap.size + 3 := by rw [← hW4]; simp [z3]
  have b04 : Below w.heap.size w W4 := by
    rw [← hW4]
    exact ((b00.trans (b01.mono (by omega))).trans (b13.mono (by omega))).setCell (p := ⟨w.heap.size + 1, a, none⟩) (by simp) _
  have hnd4 : NeedC n (w.heap.size + 1) (fun j => a == j) W4 := by
    have h : NeedC n (w.heap.size + 1) (fun _ => false) W3 := fun j hj => ⟨(k13.cell j).trans (by rw [List.getElem?_toArray]; exact rowB_get (g := fun _ => false) hj), k13.frozen j⟩
    have h2 := h.set_ ha true
    rw [hW4] at h2
    intro j hj
    obtain ⟨q1, q2⟩ := h2 j hj
    refine ⟨?_, q2⟩
    rw [q1]
    by_cases e : j = a
    · subst e; simp
    · have e2 : ¬ a = j := fun h => e h.symm
      simp [e, e2]
  have c40 : W4.cell? ⟨w.heap.size, 0, none⟩ = some (.slice D n d) := by
    rw [← hW4]
    exact (World.cell?_setCell_other _ _ _ _ (fun h => by simp at h)).trans (k03.cell 0)
  have c42 : W4.cell? ⟨w.heap.size + 2, 0, none⟩ = some (.slice (some ⟨w.heap.size + 1, 0, none⟩) n n) := by
    rw [← hW4]
    exact (World.cell?_setCell_other _ _ _ _ (fun h => by simp at h)).trans c32
  clear k0 k1 k3 k13 k03 b01 b13 b00
  clear hT hA hg hall
  refine callsIn_of_wp_marks Try.func21 rfl h21 ?_ hro
  simp only [Try.ntmps21, List.size_toArray, List.length_cons, List.length_nil, Nat.reduceAdd, Nat.reduceSub, Array.replicate_succ, Array.replicate_zero, List.push_toArray, List.append_toArray, List.nil_append, List.cons_append]
  gi_wp2_with (gi_at_call 26; refine (backward_in F (m - 1) h26 hro _ _ _ _).mono ?_; rintro e w5 ⟨rfl, rfl⟩)
  obtain ⟨W5, hW5⟩ : ∃ W5, W4.alloc (.cells #[.slice A L.length c] 26) = W5 := ⟨_, rfl⟩
  have z5 : W5.heap.size = w.heap.size + 4 := by rw [← hW5]; simp [z4]
  have b45 : Below W4.heap.size W4 W5 := by rw [← hW5]; exact (Below.refl _ _).alloc (Nat.le_refl _) _
  have k5 : Blk W5 (w.heap.size + 3) 26 #[.slice A L.length c] := by rw [← hW5, ← z4]; exact Blk.new _ _ _
  have b05 : Below w.heap.size w W5 := b04.trans (b45.mono (by omega))
  have hI5 : NeedC n (w.heap.size + 1) (foldS tt a ([] : List (It n))) W5 ∧ W5.cell? ⟨w.heap.size, 0, none⟩ = some (.slice D n d) ∧ W5.cell? ⟨w.heap.size + 2, 0, none⟩ = some (.slice (some ⟨w.heap.size + 1, 0, none⟩) n n) :=
    ⟨fun j hj => ⟨(b45.cell (p := ⟨w.heap.size + 1, j, none⟩) (by show w.heap.size + 1 < _; omega)).trans (hnd4 j hj).1, (b45.frozen (p := ⟨w.heap.size + 1, j, none⟩) (by show w.heap.size + 1 < _; omega)).trans (hnd4 j hj).2⟩, (b45.cell (p := ⟨w.heap.size, 0, none⟩) (by show w.heap.size < _; omega)).trans c40, (b45.cell (p := ⟨w.heap.size + 2, 0, none⟩) (by show w.heap.size + 2 < _; omega)).trans c42⟩
  have hseq := back_stops F (m - 1) h34 hro (by omega) (w.heap.size + 3) c (fun k => k = w.heap.size + 1 ∨ w.heap.size + 4 ≤ k) h0 L HG.out.lt hLn W5 A (k5.cell 0) (by omega) ((HA.out.below b05).more b05.size) (fun g o e => by
    intro hS
    by_cases hL0 : 0 < L.length
    · obtain ⟨g', o', e', hg', _⟩ := HA.out (by rw [ints_length]; exact hL0)
      rw [e] at e'
      have e2 : g = g' := by injection e' with e'; injection e' with e' _
      omega
    · exact hL0 (by have := HALL.out 0 h0; exact List.length_pos_of_mem this))
  rw [hW5]
  refine wpIn_rangeFunc_ownG hro h1 (gf := 34) (lb := #[.pointer (some ⟨w.heap.size + 3, 0, none⟩)]) rfl h34 (enters_of Try.func34 (by kernel_rfl) rfl)
    hseq Gr.trans (fun W l o o' h1 h2 h3 h4 => gr_putObj (w := W5) (fun k hk => Or.inr (by omega)) W l o o' h1 h2 h3 h4) (Below.refl _ _) (fun _ => rfl)
    (fun pre W => (NeedC n (w.heap.size + 1) (foldS tt a pre) W ∧ W.cell? ⟨w.heap.size, 0, none⟩ = some (.slice D n d) ∧ W.cell? ⟨w.heap.size + 2, 0, none⟩ = some (.slice (some ⟨w.heap.size + 1, 0, none⟩) n n)) ∧ Below w.heap.size w W)
    (fun _ _ _ => False)
    (OwnFrom.and (Own.from need_own _) (ownFrom_below (Nat.le_refl _) (by omega)))
    (fun _ _ _ _ _ hs _ _ => hs)
    ⟨hI5, b05⟩
    (fun x => { tmps := #[.slice D n d, .slice A L.length c, .int .i64 (a : Int), .pointer (some ⟨w.heap.size, 0, none⟩), undef, undef, .slice none 0 0, .pointer (some ⟨w.heap.size + 2, 0, none⟩), undef, .int .i64 (x.1.2 : Int), undef, undef, undef, undef, undef, .slice D n d, .int .i64 (n : Int), .slice (some ⟨w.heap.size + 1, 0, none⟩) n n, .slice (some ⟨w.heap.size + 1, 0, none⟩) n n, .int .i64 (a : Int), .pointer (some ⟨w.heap.size + 1, a, none⟩), .slice A L.length c, .func (.func 34) #[] #[.pointer (some ⟨w.heap.size + 3, 0, none⟩)], .int .i64 (x.1.1 : Int), .int .i64 (x.1.2 : Int), undef, undef, undef, undef, undef, undef, undef, undef, undef, undef, undef, undef, undef, undef, undef, undef, undef, undef, undef, undef, undef, undef, undef, undef, undef, undef, undef, undef, undef, undef, undef, undef, undef, undef, undef, undef, undef, undef, undef, undef], defers := [] }) ?assign ?body ?done ?stop
  case assign =>
    intro l x W K hK
    dsimp only [encI]
    gi_wp2
    exact hK
  case stop =>
    rintro D c pre W _ _ h _
    exact h.elim
  case body =>
    rintro l pre x W ⟨⟨hnd, hc0, hc2⟩, hB2⟩ _
    obtain ⟨S, hS⟩ : ∃ S, foldS tt a pre = S := ⟨_, rfl⟩
    rw [hS] at hnd
    have hxn := x.2
    obtain ⟨p, hp⟩ : ∃ p, x.1.2 = p := ⟨_, rfl⟩
    have HSN := Lib.hid (show foldS tt a (pre ++ [x]) = if S p = true then (fun j => S j || tt p j) else S from by rw [foldS_snoc, hS]; unfold stepS; rw [hp])
    obtain ⟨p1, hp1⟩ : ∃ p, x.1.1 = p := ⟨_, rfl⟩
    rw [hp] at hxn ⊢
    rw [hp1]
    have p0 : (0 : Int) ≤ (p : Int) := by omega
    have p2 : (p : Int) < (n : Int) := by omega
    obtain ⟨hnp, _⟩ := hnd p hxn
    have HND := Lib.hid hnd
    have HB2 := Lib.hid hB2
    have HC0 := Lib.hid hc0
    have HC2 := Lib.hid hc2
    have hz := hB2.size
    clear hS hp hp1 hnd
    cases hsp : S p with
    | false =>
      rw [hsp] at hnp
      have HSP := Lib.hid hsp
      clear hsp hB2
      gi_wp2
      refine ⟨KeepsFrom.refl _ _, Gr.refl _, ⟨?_, HC0.out, HC2.out⟩, HB2.out⟩
      rw [HSN.out, if_neg (by rw [HSP.out]; simp)]
      exact HND.out
    | true =>
      rw [hsp] at hnp
      have HSP := Lib.hid hsp
      obtain ⟨dg, dof, RA, rc, rfl, hdg, hdc, hds⟩ := ((HT.out.more hB).below hB2).at_ (tabL_get hxn)
      rw [rowB_length] at hdc
      obtain ⟨rg, ro, rfl, hrg, hrc⟩ := hds (by rw [rowB_length]; exact h0)
      have HRC := Lib.hid (fun j (hj : j < n) => hrc j _ (rowB_get (g := tt p) hj))
      have hw2 := World.block_lt_of_cell? W _ HC2.out
      have hw2' : w.heap.size + 2 < W.heap.size := hw2
      clear hsp hB2 hds hrc hw2
      gi_wp2
      gi_loopw [35] (fun v35 wr => ∃ q k : Nat, q + k = n ∧ v35 = .int .i64 (q : Int) ∧ NeedC n (w.heap.size + 1) (fun j => S j || (decide (j < q) && tt p j)) wr ∧ Gr (fun k => k = w.heap.size + 1 ∨ w.heap.size + 4 ≤ k) W wr ∧ KeepsOthers W wr ∧ Gr (fun k => k = w.heap.size + 1) W wr) (fun v35 _ => n - (intOf v35).toNat)
      case atStart =>
        refine ⟨0, n, by omega, rfl, fun j hj => ?_, Gr.refl _, KeepsOthers.refl _, Gr.refl _⟩
        simpa using HND.out j hj
      case round =>
        obtain ⟨q, k, hq, rfl, hnd6, hg6, hk6, hgs⟩ := hrel
        have HN6 := Lib.hid hnd6
        have HG6 := Lib.hid hg6
        have HK6 := Lib.hid hk6
        have HGS := Lib.hid hgs
        clear hnd6 hg6 hk6
        have c2' : wr.cell? ⟨w.heap.size + 2, 0, none⟩ = some (.slice (some ⟨w.heap.size + 1, 0, none⟩) n n) := (hgs.cell (p := ⟨w.heap.size + 2, 0, none⟩) hw2' (by simp)).trans HC2.out
        have q0 : (0 : Int) ≤ (q : Int) := by omega
        cases k with
        | zero =>
          have hqn : q = n := by omega
          have hd : decide (q < n) = false := by simp; omega
          clear hgs hq
          gi_wp2
          refine ⟨HK6.out.from _, HG6.out, ⟨?_, ?_, c2'⟩, ?_⟩
          · intro j hj
            obtain ⟨u1, u2⟩ := HN6.out j hj
            refine ⟨?_, u2⟩
            rw [u1, HSN.out, if_pos HSP.out, hqn]
            simp [hj]
          · exact (HGS.out.cell (p := ⟨w.heap.size, 0, none⟩) (by show w.heap.size < _; omega) (by simp)).trans HC0.out
          · exact HB2.out.trans (HGS.out.belowN hz (fun k hk e => by omega))
        | succ k =>
          have q1 : (q : Int) < (n : Int) := by omega
          have hqn : q < n := by omega
          have hro := (hgs.cell (p := ⟨rg, ro + q, none⟩) (by show rg < _; omega) (by show rg ≠ _; omega)).trans (HRC.out q hqn)
          have HQ := Lib.hid (show (q + 1) + k = n by omega)
          clear hgs hq
          gi_wp2
          rename_i hK
          have l2 : w.heap.size + 2 < wr.heap.size := by have := HGS.out.size; omega
          have l1 : w.heap.size + 1 < wr.heap.size := by omega
          obtain ⟨hcq, hfq⟩ := HN6.out q hqn
          obtain ⟨sq, hsq⟩ : ∃ sq, S q = sq := ⟨_, rfl⟩
          obtain ⟨tq, htq⟩ : ∃ tq, tt p q = tq := ⟨_, rfl⟩
          have hcq : wr.cell? ⟨w.heap.size + 1, q, none⟩ = some (.bool sq) := by rw [hcq]; simp [hsq]
          rw [htq]
          have hfin : ∀ V v, V = wr.drew.setCell ⟨w.heap.size + 1, q, none⟩ (.bool v) → v = (S q || tt p q) → ∃ q' k' : Nat, q' + k' = n ∧ Value.int IntKind.i64 ((q : Int) + 1) = .int .i64 (q' : Int) ∧ NeedC n (w.heap.size + 1) (fun j => S j || (decide (j < q') && tt p j)) V ∧ Gr (fun k => k = w.heap.size + 1 ∨ w.heap.size + 4 ≤ k) W V ∧ KeepsOthers W V ∧ Gr (fun k => k = w.heap.size + 1) W V := by
            intro V v hV hv
            subst hV
            have hnd7 : NeedC n (w.heap.size + 1) (fun j => S j || (decide (j < q) && tt p j)) wr.drew := fun j hj => ⟨(HN6.out j hj).1, (HN6.out j hj).2⟩
            have h7 := hnd7.set_ hqn v
            refine ⟨q + 1, k, HQ.out, congrArg _ (by omega), fun j hj => ?_, ?_, ?_, ?_⟩
            · obtain ⟨u1, u2⟩ := h7 j hj
              refine ⟨?_, u2⟩
              rw [u1]
              by_cases e : j = q
              · subst e; simp [hv]
              · have : decide (j < q + 1) = decide (j < q) := by
                  apply decide_eq_decide.2; omega
                simp [e, this]
            · exact HG6.out.drew.setCell (p := ⟨w.heap.size + 1, q, none⟩) (Or.inr (Or.inl rfl)) _
            · exact (HK6.out.trans (KeepsOthers.drew wr)).trans (KeepsOthers.setCell _ _ _)
            · exact HGS.out.drew.setCell (p := ⟨w.heap.size + 1, q, none⟩) (Or.inr rfl) _
          refine wpIn_region_plain (S := fun x => Gr (fun k => k = w.heap.size + 1) wr x) rfl (by kernel_rfl) ?_
          have hS0 : Gr (fun k => k = w.heap.size + 1) wr wr.drew := (Gr.refl wr).drew
          have hv1 : wr.drew.cell? ⟨w.heap.size + 1, q, none⟩ = some (.bool sq) := hcq
          have hv2 : wr.drew.frozen? ⟨w.heap.size + 1, q, none⟩ = false := hfq
          generalize wr.drew = W6 at hfin hS0 hv1 hv2 ⊢
          cases sq with
          | true =>
            refine wpAnyH_take (i := 0) (v := .slice (some ⟨w.heap.size + 1, 0, none⟩) n n) rfl (by kernel_rfl) (by kernel_rfl) (by kernel_rfl) (fun _ _ _ h => h) (Or.inl ⟨rfl, fun w' hS => by (have yu := (hS.cell (p := ⟨w.heap.size + 2, 0, none⟩) l2 (by simp)).trans c2'; unfold execOp; go_simp)⟩) hS0 ?_
            simp only [Act.put, List.getElem_toArray, List.getElem_cons_zero, List.getElem_cons_succ, List.setIfInBounds_toArray, List.set_cons_zero, List.set_cons_succ]
            refine wpAnyH_take (i := 1) (v := .int .i64 (q : Int)) rfl (by kernel_rfl) (by kernel_rfl) (by kernel_rfl) (fun _ _ _ h => h) (Or.inl ⟨rfl, fun w' hS => by (unfold execOp; go_simp)⟩) hS0 ?_
            simp only [Act.put, List.getElem_toArray, List.getElem_cons_zero, List.getElem_cons_succ, List.setIfInBounds_toArray, List.set_cons_zero, List.set_cons_succ]
            refine wpAnyH_take (i := 2) (v := .slice (some ⟨w.heap.size + 1, 0, none⟩) n n) rfl (by kernel_rfl) (by kernel_rfl) (by kernel_rfl) (fun _ _ _ h => h) (Or.inl ⟨rfl, fun w' hS => by (have yu := (hS.cell (p := ⟨w.heap.size + 2, 0, none⟩) l2 (by simp)).trans c2'; unfold execOp; go_simp)⟩) hS0 ?_
            simp only [Act.put, List.getElem_toArray, List.getElem_cons_zero, List.getElem_cons_succ, List.setIfInBounds_toArray, List.set_cons_zero, List.set_cons_succ]
            refine wpAnyH_take (i := 3) (v := .int .i64 (q : Int)) rfl (by kernel_rfl) (by kernel_rfl) (by kernel_rfl) (fun _ _ _ h => h) (Or.inl ⟨rfl, fun w' hS => by (unfold execOp; go_simp)⟩) hS0 ?_
            simp only [Act.put, List.getElem_toArray, List.getElem_cons_zero, List.getElem_cons_succ, List.setIfInBounds_toArray, List.set_cons_zero, List.set_cons_succ]
            refine wpAnyH_take (i := 4) (v := .pointer (some ⟨w.heap.size + 1, q, none⟩)) rfl (by kernel_rfl) (by kernel_rfl) (by kernel_rfl) (fun _ _ _ h => h) (Or.inl ⟨rfl, fun w' hS => by (unfold execOp; go_simp)⟩) hS0 ?_
            simp only [Act.put, List.getElem_toArray, List.getElem_cons_zero, List.getElem_cons_succ, List.setIfInBounds_toArray, List.set_cons_zero, List.set_cons_succ]
            refine wpAnyH_one (i := 5) (by kernel_rfl) rfl rfl (op_val (v := .bool true) (by unfold execOp; go_simp) (And.intro hS0 ?_))
            simp only [Act.put, List.getElem_toArray, List.getElem_cons_zero, List.getElem_cons_succ, List.setIfInBounds_toArray, List.set_cons_zero, List.set_cons_succ]
            refine wpAnyH_take (i := 6) (v := .bool true) rfl (by kernel_rfl) (by kernel_rfl) (by kernel_rfl) (fun _ _ _ h => h) (Or.inl ⟨rfl, fun w' hS => by (unfold execOp; go_simp)⟩) hS0 ?_
            simp only [Act.put, List.getElem_toArray, List.getElem_cons_zero, List.getElem_cons_succ, List.setIfInBounds_toArray, List.set_cons_zero, List.set_cons_succ]
            refine wpAnyH_take (i := 7) (v := undef) rfl (by kernel_rfl) (by kernel_rfl) (by kernel_rfl) (fun _ _ _ h => h) (Or.inr ⟨by kernel_rfl, rfl⟩) hS0 ?_
            simp only [Act.put, List.getElem_toArray, List.getElem_cons_zero, List.getElem_cons_succ, List.setIfInBounds_toArray, List.set_cons_zero, List.set_cons_succ]
            refine wpAnyH_take (i := 8) (v := .bool true) rfl (by kernel_rfl) (by kernel_rfl) (by kernel_rfl) (fun _ _ _ h => h) (Or.inl ⟨rfl, fun w' hS => by (unfold execOp; go_simp)⟩) hS0 ?_
            simp only [Act.put, List.getElem_toArray, List.getElem_cons_zero, List.getElem_cons_succ, List.setIfInBounds_toArray, List.set_cons_zero, List.set_cons_succ]
            refine wpAnyH_take (i := 9) (v := .pointer (some ⟨w.heap.size + 1, q, none⟩)) rfl (by kernel_rfl) (by kernel_rfl) (by kernel_rfl) (fun _ _ _ h => h) (Or.inl ⟨rfl, fun w' hS => by (unfold execOp; go_simp)⟩) hS0 ?_
            simp only [Act.put, List.getElem_toArray, List.getElem_cons_zero, List.getElem_cons_succ, List.setIfInBounds_toArray, List.set_cons_zero, List.set_cons_succ]
            obtain ⟨V, hV⟩ : ∃ V, W6.setCell ⟨w.heap.size + 1, q, none⟩ (.bool true) = V := ⟨_, rfl⟩
            refine wpAnyH_one (i := 10) (by kernel_rfl) rfl rfl (op_skip (w' := V) (by rw [← hV]; unfold execOp; go_simp) (And.intro (by rw [← hV]; exact hS0.setCell (p := ⟨w.heap.size + 1, q, none⟩) (Or.inr rfl) _) ?_))
            simp only [Act.put, List.getElem_toArray, List.getElem_cons_zero, List.getElem_cons_succ, List.setIfInBounds_toArray, List.set_cons_zero, List.set_cons_succ]
            refine wpAnyH_done (by kernel_rfl) ?_ _
            refine hK _ _ ?_
            gi_wp2
            go_roundw
            case rel => exact hfin V true hV.symm (by simp [hsq, htq])
            case measure => first | (simp [intOf]; done) | (simp [intOf]; omega)
          | false =>
            refine wpAnyH_take (i := 0) (v := .slice (some ⟨w.heap.size + 1, 0, none⟩) n n) rfl (by kernel_rfl) (by kernel_rfl) (by kernel_rfl) (fun _ _ _ h => h) (Or.inl ⟨rfl, fun w' hS => by (have yu := (hS.cell (p := ⟨w.heap.size + 2, 0, none⟩) l2 (by simp)).trans c2'; unfold execOp; go_simp)⟩) hS0 ?_
            simp only [Act.put, List.getElem_toArray, List.getElem_cons_zero, List.getElem_cons_succ, List.setIfInBounds_toArray, List.set_cons_zero, List.set_cons_succ]
            refine wpAnyH_take (i := 1) (v := .int .i64 (q : Int)) rfl (by kernel_rfl) (by kernel_rfl) (by kernel_rfl) (fun _ _ _ h => h) (Or.inl ⟨rfl, fun w' hS => by (unfold execOp; go_simp)⟩) hS0 ?_
            simp only [Act.put, List.getElem_toArray, List.getElem_cons_zero, List.getElem_cons_succ, List.setIfInBounds_toArray, List.set_cons_zero, List.set_cons_succ]
            refine wpAnyH_take (i := 2) (v := .slice (some ⟨w.heap.size + 1, 0, none⟩) n n) rfl (by kernel_rfl) (by kernel_rfl) (by kernel_rfl) (fun _ _ _ h => h) (Or.inl ⟨rfl, fun w' hS => by (have yu := (hS.cell (p := ⟨w.heap.size + 2, 0, none⟩) l2 (by simp)).trans c2'; unfold execOp; go_simp)⟩) hS0 ?_
            simp only [Act.put, List.getElem_toArray, List.getElem_cons_zero, List.getElem_cons_succ, List.setIfInBounds_toArray, List.set_cons_zero, List.set_cons_succ]
            refine wpAnyH_take (i := 3) (v := .int .i64 (q : Int)) rfl (by kernel_rfl) (by kernel_rfl) (by kernel_rfl) (fun _ _ _ h => h) (Or.inl ⟨rfl, fun w' hS => by (unfold execOp; go_simp)⟩) hS0 ?_
            simp only [Act.put, List.getElem_toArray, List.getElem_cons_zero, List.getElem_cons_succ, List.setIfInBounds_toArray, List.set_cons_zero, List.set_cons_succ]
            refine wpAnyH_take (i := 4) (v := .pointer (some ⟨w.heap.size + 1, q, none⟩)) rfl (by kernel_rfl) (by kernel_rfl) (by kernel_rfl) (fun _ _ _ h => h) (Or.inl ⟨rfl, fun w' hS => by (unfold execOp; go_simp)⟩) hS0 ?_
            simp only [Act.put, List.getElem_toArray, List.getElem_cons_zero, List.getElem_cons_succ, List.setIfInBounds_toArray, List.set_cons_zero, List.set_cons_succ]
            refine wpAnyH_one (i := 5) (by kernel_rfl) rfl rfl (op_val (v := .bool false) (by unfold execOp; go_simp) (And.intro hS0 ?_))
            simp only [Act.put, List.getElem_toArray, List.getElem_cons_zero, List.getElem_cons_succ, List.setIfInBounds_toArray, List.set_cons_zero, List.set_cons_succ]
            refine wpAnyH_take (i := 6) (v := .bool false) rfl (by kernel_rfl) (by kernel_rfl) (by kernel_rfl) (fun _ _ _ h => h) (Or.inl ⟨rfl, fun w' hS => by (unfold execOp; go_simp)⟩) hS0 ?_
            simp only [Act.put, List.getElem_toArray, List.getElem_cons_zero, List.getElem_cons_succ, List.setIfInBounds_toArray, List.set_cons_zero, List.set_cons_succ]
            refine wpAnyH_take (i := 7) (v := .bool tq) rfl (by kernel_rfl) (by kernel_rfl) (by kernel_rfl) (fun _ _ _ h => h) (Or.inl ⟨by kernel_rfl, fun w' hS => by (unfold execOp; go_simp)⟩) hS0 ?_
            simp only [Act.put, List.getElem_toArray, List.getElem_cons_zero, List.getElem_cons_succ, List.setIfInBounds_toArray, List.set_cons_zero, List.set_cons_succ]
            refine wpAnyH_take (i := 8) (v := .bool tq) rfl (by kernel_rfl) (by kernel_rfl) (by kernel_rfl) (fun _ _ _ h => h) (Or.inl ⟨rfl, fun w' hS => by (unfold execOp; go_simp)⟩) hS0 ?_
            simp only [Act.put, List.getElem_toArray, List.getElem_cons_zero, List.getElem_cons_succ, List.setIfInBounds_toArray, List.set_cons_zero, List.set_cons_succ]
            refine wpAnyH_take (i := 9) (v := .pointer (some ⟨w.heap.size + 1, q, none⟩)) rfl (by kernel_rfl) (by kernel_rfl) (by kernel_rfl) (fun _ _ _ h => h) (Or.inl ⟨rfl, fun w' hS => by (unfold execOp; go_simp)⟩) hS0 ?_
            simp only [Act.put, List.getElem_toArray, List.getElem_cons_zero, List.getElem_cons_succ, List.setIfInBounds_toArray, List.set_cons_zero, List.set_cons_succ]
            obtain ⟨V, hV⟩ : ∃ V, W6.setCell ⟨w.heap.size + 1, q, none⟩ (.bool tq) = V := ⟨_, rfl⟩
            refine wpAnyH_one (i := 10) (by kernel_rfl) rfl rfl (op_skip (w' := V) (by rw [← hV]; unfold execOp; go_simp) (And.intro (by rw [← hV]; exact hS0.setCell (p := ⟨w.heap.size + 1, q, none⟩) (Or.inr rfl) _) ?_))
            simp only [Act.put, List.getElem_toArray, List.getElem_cons_zero, List.getElem_cons_succ, List.setIfInBounds_toArray, List.set_cons_zero, List.set_cons_succ]
            refine wpAnyH_done (by kernel_rfl) ?_ _
            refine hK _ _ ?_
            gi_wp2
            go_roundw
            case rel => exact hfin V tq hV.symm (by simp [hsq, htq])
            case measure => first | (simp [intOf]; done) | (simp [intOf]; omega)
  case done =>
    rintro Dd ys W hD rfl ⟨⟨hnd, hc0, hc2⟩, hB2⟩ hK
    have HI := Lib.hid (foldS_back (tt := tt) (a := a) h0 HG.out L.length (Nat.le_refl _))
    obtain ⟨S, hS⟩ : ∃ S, foldS tt a (backN h0 L L.length) = S := ⟨_, rfl⟩
    rw [hS] at hnd HI
    have HR := Lib.hid (show IsR n tt a S from by have h := HI.out; rw [Nat.sub_self] at h; exact h.done ha HALL.out)
    have HND := Lib.hid hnd
    have HB2 := Lib.hid hB2
    have hz := hB2.size
    have hDz : Dd < W.heap.size := (Array.getElem?_eq_some_iff.1 hK).1
    have hz2 : w.heap.size + 2 < W.heap.size := World.block_lt_of_cell? W _ hc2
    have hD2 : w.heap.size ≤ Dd := by omega
    have HKD := Lib.hid hK
    have HC2 := Lib.hid hc2
    clear hS hnd hB2 hK
    gi_wp2
    rename_i hfin
    clear hc2 hc0
    gi_loopw [12, 53] (fun v12 v53 wr => ∃ q k : Nat, ∃ A6 c6, q + k = n ∧ v53 = .int .i64 (q : Int) ∧ v12 = .slice A6 (filtN q S).length c6 ∧ wr.ownsRow W.heap.size 3 1 v12 (filtN q S).length (ints (filtN q S)) ∧ Below W.heap.size W wr) (fun _ v53 _ => n - (intOf v53).toNat)
    case atStart => exact ⟨0, n, none, 0, by omega, rfl, rfl, World.ownsRow_nil _ _ _ _, Below.refl _ _⟩
    case round =>
      obtain ⟨q, k, A6, c6, hq, rfl, rfl, ho, hb⟩ := hrel
      have HO6 := Lib.hid ho
      have HB6 := Lib.hid hb
      have q0 : (0 : Int) ≤ (q : Int) := by omega
      cases k with
      | zero =>
        have hqn : q = n := by omega
        have eq : decide (q < n) = false := decide_eq_false (by omega)
        rw [hqn] at HO6 ⊢
        clear ho hb hq hqn eq
        have eq : decide (n < n) = false := decide_eq_false (by omega)
        gi_wp2
        have hKD : wr.heap[Dd]? = some (.deferred (some [])) := (HB6.out.block Dd hDz).trans HKD.out
        refine ⟨by simp, .inl ⟨_, _, rfl, run_takeDeferred hKD, ?_⟩⟩
        have hg := grownBy_putObj' wr Dd (.deferred none)
        refine ⟨_, results_tmp rfl _ _ _, ⟨S, A6, c6, HR.out, rfl, ?_⟩, ?_⟩
        · exact SlV.own (HO6.out.kept hg (.inr fun e => by have := (HO6.out.lt Dd e).1; omega))
        · refine (HB2.out.trans (HB6.out.mono hz)).trans ⟨hg.os, hg.tape, hg.output, hg.size, fun k hk => hg.block k (by have := HB6.out.size; omega) fun e => ?_⟩
          have : k = Dd := by injection e
          omega
      | succ k =>
        have hqn : q < n := by omega
        have q1 : (q : Int) < (n : Int) := by omega
        obtain ⟨u1, u2⟩ := HND.out q hqn
        have l1 : w.heap.size + 1 < W.heap.size := by omega
        have htc : wr.cell? ⟨w.heap.size + 1, q, none⟩ = some (.bool (S q)) := (hb.cell (p := ⟨w.heap.size + 1, q, none⟩) l1).trans u1
        have HF := Lib.hid (filtN_succ q S)
        have hfl : (filtN q S).length ≤ 1000 := by have := filtN_le q S; omega
        obtain ⟨l6, hl6⟩ : ∃ l, filtN q S = l := ⟨_, rfl⟩
        have HQ := Lib.hid (show (q + 1) + k = n by omega)
        have hzr := hb.size
        rw [hl6] at HF HO6 hfl ⊢
        clear ho hb hl6 hq u1 u2
        cases hsq : S q with
        | false =>
          rw [hsq] at htc HF
          have HFO := Lib.hid (show filtN (q + 1) S = l6 by rw [HF.out]; simp)
          clear hsq
          gi_wp2
          go_roundw
          case measure => first | (simp [intOf]; done) | (simp [intOf]; omega)
          case rel => exact ⟨q + 1, k, A6, c6, HQ.out, by go_num, by rw [HFO.out], by rw [HFO.out]; exact HO6.out, HB6.out⟩
        | true =>
          rw [hsq] at htc HF
          have HFO := Lib.hid (show filtN (q + 1) S = l6 ++ [q] by rw [HF.out]; simp)
          clear hsq
          gi_wp2_with (gi_at_builtin; refine appI_int rfl (.tmp 59) (.tmp 61) rfl W.heap.size (.slice A6 l6.length c6) l6 q wr.heap.size rfl (HO6.out.alloc _) rfl (Blk.new _ _ _) hfl (by simp; omega) ?_; intro A9 c9 w9 ho9 hg9; have HO9 := Lib.hid ho9; have HG9 := Lib.hid hg9; clear ho9 hg9)
          go_roundw
          case measure => first | (simp [intOf]; done) | (simp [intOf]; omega)
          case rel =>
            have hba : Below wr.heap.size wr (wr.alloc (.cells #[.int .i64 (q : Int)] 3)) := (Below.refl _ _).alloc (Nat.le_refl _) _
            refine ⟨q + 1, k, A9, c9, HQ.out, by go_num, by rw [HFO.out]; simp, by rw [HFO.out]; simpa using HO9.out, ?_⟩
            refine (HB6.out.trans (hba.mono HB6.out.size)).trans ⟨HG9.out.os, HG9.out.tape, HG9.out.output, HG9.out.size, fun k hk => HG9.out.block k (by have := HB6.out.size; simp; omega) fun e => ?_⟩
            have := (HO6.out.lt k e.symm).1
            omega
end Go.Proofs.Ytibfikadamfpdaa
