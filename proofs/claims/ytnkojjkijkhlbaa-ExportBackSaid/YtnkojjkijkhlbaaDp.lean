/-
  Whether something of a unit stands too deep: walks.
-/
import Derived.Test.YtnkojjkijkhlbaaQe
namespace Go.Proofs.Ytnkojjkijkhlbaa
open Go.RowKit
set_option linter.unusedVariables false
set_option linter.unusedSimpArgs false

def IdxP (w : World) (b : Bool) (e : Ending) (w' : World) : Prop := ∃ r : Int, e = .returned (.int .i64 r) ∧ decide (0 ≤ r) = b ∧ r ≤ 140737488355328 ∧ Below w.heap.size w w'
theorem any_drop {α : Type} (p : α → Bool) (l : List α) (j : Nat) (u : α) (h : l[j]? = some u) (hp : p u = true) : l.any p = true := List.any_eq_true.2 ⟨u, List.mem_of_getElem? h, hp⟩
theorem SlT.belF {w w' : World} {F : Nat → Prop} {A : Option Addr} {l : List Ty} (h : SlT w F A l) (hb : Below w.heap.size w w') : SlT w' F A l := h.bel hb
set_option maxRecDepth 100000 in
set_option maxHeartbeats 4000000 in
theorem idx_ty (p : Ty → Bool) (l : List Ty) (hl : l.length ≤ 140737488355328) (w : World) (F : Nat → Prop) (hF : ∀ k, F k → k < w.heap.size) (g1 g2 : Nat) (hp : ∀ u ∈ l, ∀ w1, Below w.heap.size w w1 → ∀ vs, RT w1 F u vs → Calls Try.prog 110 #[.agg vs.toArray, .pointer (some ⟨g1, 0, none⟩), .pointer (some ⟨g2, 0, none⟩)] w1 (TruthP w1 (p u))) (B : Option Addr) (d : Nat) (hr : SlT w F B l) :
    Calls Try.prog 114 #[.slice B l.length d, .func (Fn.func 110) #[] #[.pointer (some ⟨g1, 0, none⟩), .pointer (some ⟨g2, 0, none⟩)]] w (IdxP w (l.any p)) := by
  have HA := Lib.hid hr
  have HP := Lib.hid hp
  have n0 : (0 : Int) ≤ (l.length : Int) := by omega
  have n1 : (l.length : Int) ≤ 140737488355328 := by omega
  clear hr hp hF
  go_enter Try.func114, Try.ntmps114
  go_wp2
  go_loopg [8] l.length (fun gk v8 wr => ∃ j : Nat, j + gk = l.length ∧ v8 = .int .i64 j ∧ (l.take j).any p = false ∧ Below w.heap.size w wr)
  case atStart => exact ⟨0, by simp, rfl, by simp, Below.refl _ _⟩
  case round =>
    obtain ⟨j, hj, rfl, hx, hb⟩ := hrel
    have HX := Lib.hid hx
    have HB := Lib.hid hb
    cases gk with
    | zero =>
      obtain rfl : j = l.length := by omega
      clear hj hx hb
      go_wp2
      go_ret
      have h1 := HX.out
      rw [List.take_length] at h1
      exact ⟨_, rfl, by rw [h1]; decide, by omega, HB.out⟩
    | succ f =>
      have hjl : j < l.length := by omega
      obtain ⟨u, hu⟩ : ∃ u, l[j]? = some u := ⟨_, List.getElem?_eq_getElem hjl⟩
      have j1 : (j : Int) < (l.length : Int) := by omega
      have j0 : (0 : Int) ≤ (j : Int) := by omega
      obtain ⟨q, o, vs, rfl, hFq, hql, hrep, hat⟩ := (HA.out.bel HB.out).at_ hu
      have HI := Lib.hid (HP.out u (List.mem_of_getElem? hu) wr hb vs hrep)
      have HY := Lib.hid (any_take p l j u hu)
      have HZ := Lib.hid (any_drop p l j u hu)
      obtain ⟨bu, hbu⟩ : ∃ b, p u = b := ⟨_, rfl⟩
      rw [hbu] at HI HY HZ
      clear hbu
      obtain ⟨k1, p1, n1', A3, m3, c3, B3, l3, d3, rfl⟩ := hrep.shape
      simp only [tyC] at HI hat
      have q0 := hat 0 _ rfl
      have q1 := hat 1 _ rfl
      have q2 := hat 2 _ rfl
      have q3 := hat 3 _ rfl
      have q4 := hat 4 _ rfl
      rw [Nat.add_zero] at q0
      clear hat hu hx hb
      cases bu with
      | true =>
        go_wp2_with (go_at_call 110; ((with_reducible refine HI.out.mono ?_); rintro e w2 ⟨rfl, hb2⟩); have HB2 := Lib.hid hb2; clear hb2)
        go_ret
        exact ⟨_, rfl, by rw [HZ.out trivial]; exact decide_eq_true (by omega), by omega, HB.out.trans (HB2.out.mono HB.out.size)⟩
      | false =>
        go_wp2_with (go_at_call 110; ((with_reducible refine HI.out.mono ?_); rintro e w2 ⟨rfl, hb2⟩); have HB2 := Lib.hid hb2; clear hb2)
        go_roundg f
        case measure => omega
        case rel => exact ⟨j + 1, by omega, by go_num, by rw [HY.out, HX.out]; rfl, HB.out.trans (HB2.out.mono HB.out.size)⟩
set_option maxRecDepth 100000 in
set_option maxHeartbeats 4000000 in
theorem con_ty (p : Ty → Bool) (l : List Ty) (hl : l.length ≤ 140737488355328) (w : World) (F : Nat → Prop) (hF : ∀ k, F k → k < w.heap.size) (g1 g2 : Nat) (hp : ∀ u ∈ l, ∀ w1, Below w.heap.size w w1 → ∀ vs, RT w1 F u vs → Calls Try.prog 110 #[.agg vs.toArray, .pointer (some ⟨g1, 0, none⟩), .pointer (some ⟨g2, 0, none⟩)] w1 (TruthP w1 (p u))) (B : Option Addr) (d : Nat) (hr : SlT w F B l) :
    Calls Try.prog 109 #[.slice B l.length d, .func (Fn.func 110) #[] #[.pointer (some ⟨g1, 0, none⟩), .pointer (some ⟨g2, 0, none⟩)]] w (TruthP w (l.any p)) := by
  have HI := Lib.hid (idx_ty p l hl w F hF g1 g2 hp B d hr)
  clear hr hp hF
  go_enter Try.func109, Try.ntmps109
  go_wp2_with (go_at_call 114; ((with_reducible refine HI.out.mono ?_); rintro e w2 ⟨r, rfl, hr2, hr3, hb2⟩); have HR2 := Lib.hid hr2; have HB2 := Lib.hid hb2; clear hb2 hr2)
  go_ret
  exact ⟨by rw [← HR2.out]; rfl, HB2.out⟩
def DPty (N : Nat) : Prop := ∀ t : Ty, t.count ≤ N → t.mx ≤ 140737488355328 → ∀ (a : Nat), a ≤ 101 → ∀ (w : World) (F : Nat → Prop), (∀ k, F k → k < w.heap.size) → ∀ vs : List Value, RT w F t vs → Calls Try.prog 68 #[.agg vs.toArray, .int .i64 a] w (TruthP w (deepT t a))
set_option maxRecDepth 100000 in
set_option maxHeartbeats 4000000 in
theorem clo_ty (N : Nat) (ih : DPty N) (t : Ty) (hc : t.count ≤ N) (hm : t.mx ≤ 140737488355328) (a : Nat) (ha : a ≤ 101) (w : World) (F : Nat → Prop) (hF : ∀ k, F k → k < w.heap.size) (vs : List Value) (hr : RT w F t vs) (g1 g2 : Nat) (h1 : w.cell? ⟨g1, 0, none⟩ = some (.func (Fn.func 68) #[] #[])) (h2 : w.cell? ⟨g2, 0, none⟩ = some (.int .i64 a)) (l1 : g1 < w.heap.size) (l2 : g2 < w.heap.size) :
    Calls Try.prog 110 #[.agg vs.toArray, .pointer (some ⟨g1, 0, none⟩), .pointer (some ⟨g2, 0, none⟩)] w (TruthP w (deepT t a)) := by
  have HB0 := Lib.hid (fun cs : Array Value => (Below.refl _ w).alloc (Nat.le_refl _) (.cells cs 44))
  have HI := Lib.hid (ih t hc hm a ha (w.alloc (.cells vs.toArray 44)) F (fun k hk => by have := hF k hk; simp; omega) vs (hr.bel (HB0.out _)))
  obtain ⟨b, hb⟩ : ∃ b, deepT t a = b := ⟨_, rfl⟩
  rw [hb] at HI ⊢
  clear hb
  obtain ⟨k1, p1, n1', A3, m3, c3, B3, l3, d3, rfl⟩ := hr.shape
  simp only [tyC] at HI ⊢
  clear hr hF hc hm ih
  go_enter Try.func110, Try.ntmps110
  go_wp2_with (go_at_call 68; ((with_reducible refine HI.out.mono ?_); rintro e w2 ⟨rfl, hb2⟩); have HB2 := Lib.hid hb2; clear hb2)
  go_ret
  exact ⟨rfl, (HB0.out _).trans (HB2.out.mono (HB0.out _).size)⟩
set_option maxRecDepth 100000 in
set_option maxHeartbeats 4000000 in
theorem anyd_ty (N : Nat) (ih : DPty N) (l : List Ty) (hl : l.length ≤ 140737488355328) (hok : ∀ t ∈ l, t.count ≤ N ∧ t.mx ≤ 140737488355328) (a : Nat) (ha : a ≤ 101) (w : World) (F : Nat → Prop) (hF : ∀ k, F k → k < w.heap.size) (B : Option Addr) (d : Nat) (hr : SlT w F B l) :
    Calls Try.prog 94 #[.slice B l.length d, .int .i64 a, .func (Fn.func 68) #[] #[]] w (TruthP w (l.any (fun t => deepT t a))) := by
  have hb0 : Below w.heap.size w ((w.alloc (.cells #[.int .i64 a] 3)).alloc (.cells #[.func (Fn.func 68) #[] #[]] 113)) := ((Below.refl _ w).alloc (Nat.le_refl _) _).alloc (by simp) _
  have HB0 := Lib.hid hb0
  have hk1 := (Blk.new w 3 #[.int .i64 a]).alloc (.cells #[.func (Fn.func 68) #[] #[]] 113)
  have hk2 := Blk.new (w.alloc (.cells #[.int .i64 a] 3)) 113 #[.func (Fn.func 68) #[] #[]]
  rw [show (w.alloc (.cells #[.int .i64 a] 3)).heap.size = w.heap.size + 1 by simp] at hk2
  have HK1 := Lib.hid hk1
  have HK2 := Lib.hid hk2
  have HC := Lib.hid (con_ty (fun t => deepT t a) l hl _ F (fun k hk => by have := hF k hk; simp; omega) (w.heap.size + 1) w.heap.size (fun u hu w1 hb1 vs hv => clo_ty N ih u (hok u hu).1 (hok u hu).2 a ha w1 F (fun k hk => by have := hF k hk; have := hb1.size; simp at this; omega) vs hv (w.heap.size + 1) w.heap.size ((hk2.bel2 hb1).cell 0) ((hk1.bel2 hb1).cell 0) (hk2.bel2 hb1).lt (hk1.bel2 hb1).lt) B d (hr.bel hb0))
  clear hr hF hok hb0 hk1 hk2 ih
  go_enter Try.func94, Try.ntmps94
  go_wp2_with (go_at_call 109; ((with_reducible refine HC.out.mono ?_); rintro e w2 ⟨rfl, hb2⟩); have HB2 := Lib.hid hb2; clear hb2)
  go_ret
  exact ⟨rfl, HB0.out.trans (HB2.out.mono HB0.out.size)⟩
set_option maxRecDepth 100000 in
set_option maxHeartbeats 4000000 in
theorem dty_step (N : Nat) (hN : N ≤ 2000000) (ih : DPty N) : DPty (N + 1) := by
  rintro ⟨k, p, n, la, lr⟩ hct hmx a ha w F hF vs hr
  rw [count_mk] at hct
  rw [mx_mk] at hmx
  have hla : la.length ≤ 140737488355328 := by have := len_countL la; omega
  have hlr : lr.length ≤ 140737488355328 := by have := len_countL lr; omega
  have HAK := Lib.hid (fun t (ht : t ∈ la) => by
    obtain ⟨i, hi⟩ := List.getElem?_of_mem ht
    have h1 := count_kid la i t hi
    have h2 := mx_kid la i t hi
    exact (⟨by omega, by omega⟩ : t.count ≤ N ∧ t.mx ≤ 140737488355328))
  have HBK := Lib.hid (fun t (ht : t ∈ lr) => by
    obtain ⟨i, hi⟩ := List.getElem?_of_mem ht
    have h1 := count_kid lr i t hi
    have h2 := mx_kid lr i t hi
    exact (⟨by omega, by omega⟩ : t.count ≤ N ∧ t.mx ≤ 140737488355328))
  obtain ⟨A1, c1, A2, c2, rfl, hra, hrb⟩ := hr.openL
  simp only [tyC, deepT, deepTs_eq]
  have hb0 := (Below.refl _ w).alloc (Nat.le_refl _) (.cells #[.int .i64 k, .string p, .string n, .slice A1 la.length c1, .slice A2 lr.length c2] 44)
  have HB0 := Lib.hid hb0
  have HK0 := Lib.hid (Blk.new w 44 #[.int .i64 k, .string p, .string n, .slice A1 la.length c1, .slice A2 lr.length c2])
  have hF0 : ∀ z9, F z9 → z9 < (w.alloc (.cells #[.int .i64 k, .string p, .string n, .slice A1 la.length c1, .slice A2 lr.length c2] 44)).heap.size := fun z9 hk => by have := hF z9 hk; simp; omega
  have a0 : (0 : Int) ≤ (a : Int) := by omega
  have a1 : (a : Int) ≤ 101 := by omega
  by_cases hd : 100 < a
  · have HDD := Lib.hid (show (decide (100 < a) || la.any (fun t => deepT t (a + 1)) || lr.any (fun t => deepT t (a + 1))) = true by rw [decide_eq_true hd]; simp)
    have hd1 : decide (100 < a) = true := decide_eq_true hd
    clear hF hF0 hb0 hr hra hrb hct hmx
    go_enter Try.func68, Try.ntmps68
    go_wp2
    go_ret
    exact ⟨by first | (rw [HDD.out]; rfl) | (rw [HDD.out]; exact congrArg (fun x => Ending.returned (.bool x)) HZ.out) | (rw [HDD.out]; simp; done) | rfl, HB0.out⟩
  · have hd1 : decide (100 < a) = false := decide_eq_false hd
    have ea : ((a + 1 : Nat) : Int) = (a : Int) + 1 := by omega
    have HHF := Lib.hid hF0
    have HZ := Lib.hid (show decide ((100 : Int) < (a : Int)) = false from decide_eq_false (by omega))
    obtain ⟨v1, hv1⟩ : ∃ b, la.any (fun t => deepT t (a + 1)) = b := ⟨_, rfl⟩
    obtain ⟨v2, hv2⟩ : ∃ b, lr.any (fun t => deepT t (a + 1)) = b := ⟨_, rfl⟩
    have HDD := Lib.hid (show (decide (100 < a) || la.any (fun t => deepT t (a + 1)) || lr.any (fun t => deepT t (a + 1))) = (false || v1 || v2) by rw [hd1, hv1, hv2])
    have HC1 := Lib.hid (fun w1 (hb1 : Below (w.alloc (.cells #[.int .i64 k, .string p, .string n, .slice A1 la.length c1, .slice A2 lr.length c2] 44)).heap.size (w.alloc (.cells #[.int .i64 k, .string p, .string n, .slice A1 la.length c1, .slice A2 lr.length c2] 44)) w1) => anyd_ty N ih la hla HAK.out (a + 1) (by omega) w1 F (fun k hk => Nat.lt_of_lt_of_le (hF0 k hk) hb1.size) A1 c1 ((hra.bel hb0).bel hb1))
    rw [hv1, ea] at HC1
    have HC2 := Lib.hid (fun w1 (hb1 : Below (w.alloc (.cells #[.int .i64 k, .string p, .string n, .slice A1 la.length c1, .slice A2 lr.length c2] 44)).heap.size (w.alloc (.cells #[.int .i64 k, .string p, .string n, .slice A1 la.length c1, .slice A2 lr.length c2] 44)) w1) => anyd_ty N ih lr hlr HBK.out (a + 1) (by omega) w1 F (fun k hk => Nat.lt_of_lt_of_le (hF0 k hk) hb1.size) A2 c2 ((hrb.bel hb0).bel hb1))
    rw [hv2, ea] at HC2
    clear hF hF0 hb0 hr hra hrb hct hmx ea hv1 hv2
    go_enter Try.func68, Try.ntmps68
    cases v1 with
    | true =>
      go_wp2_with (first | (go_at_call 94; ((with_reducible refine (HC2.out _ HB1.out).mono ?_); rintro e w2 ⟨rfl, hb2⟩); have HB2 := Lib.hid (HB1.out.trans (hb2.mono HB1.out.size)); have hk2 := HK0.out.bel2 HB2.out; have y20 := hk2.cell 0; have y21 := hk2.cell 1; have y22 := hk2.cell 2; have y23 := hk2.cell 3; have y24 := hk2.cell 4; have yl2 := hk2.lt; clear hb2 hk2) | (go_at_call 94; ((with_reducible refine (HC1.out _ (Below.refl _ _)).mono ?_); rintro e w1 ⟨rfl, hb1⟩); have HB1 := Lib.hid hb1; have hk1 := HK0.out.bel2 HB1.out; have y10 := hk1.cell 0; have y11 := hk1.cell 1; have y12 := hk1.cell 2; have y13 := hk1.cell 3; have y14 := hk1.cell 4; have yl1 := hk1.lt; clear hb1 hk1))
      go_ret
      exact ⟨by first | (rw [HDD.out]; rfl) | (rw [HDD.out]; exact congrArg (fun x => Ending.returned (.bool x)) HZ.out) | (rw [HDD.out]; simp; done) | rfl, HB0.out.trans (HB1.out.mono HB0.out.size)⟩
    | false =>
      cases v2 with
      | true =>
        go_wp2_with (first | (go_at_call 94; ((with_reducible refine (HC2.out _ HB1.out).mono ?_); rintro e w2 ⟨rfl, hb2⟩); have HB2 := Lib.hid (HB1.out.trans (hb2.mono HB1.out.size)); have hk2 := HK0.out.bel2 HB2.out; have y20 := hk2.cell 0; have y21 := hk2.cell 1; have y22 := hk2.cell 2; have y23 := hk2.cell 3; have y24 := hk2.cell 4; have yl2 := hk2.lt; clear hb2 hk2) | (go_at_call 94; ((with_reducible refine (HC1.out _ (Below.refl _ _)).mono ?_); rintro e w1 ⟨rfl, hb1⟩); have HB1 := Lib.hid hb1; have hk1 := HK0.out.bel2 HB1.out; have y10 := hk1.cell 0; have y11 := hk1.cell 1; have y12 := hk1.cell 2; have y13 := hk1.cell 3; have y14 := hk1.cell 4; have yl1 := hk1.lt; clear hb1 hk1))
        go_ret
        exact ⟨by first | (rw [HDD.out]; rfl) | (rw [HDD.out]; exact congrArg (fun x => Ending.returned (.bool x)) HZ.out) | (rw [HDD.out]; simp; done) | rfl, HB0.out.trans (HB2.out.mono HB0.out.size)⟩
      | false =>
        go_wp2_with (first | (go_at_call 94; ((with_reducible refine (HC2.out _ HB1.out).mono ?_); rintro e w2 ⟨rfl, hb2⟩); have HB2 := Lib.hid (HB1.out.trans (hb2.mono HB1.out.size)); have hk2 := HK0.out.bel2 HB2.out; have y20 := hk2.cell 0; have y21 := hk2.cell 1; have y22 := hk2.cell 2; have y23 := hk2.cell 3; have y24 := hk2.cell 4; have yl2 := hk2.lt; clear hb2 hk2) | (go_at_call 94; ((with_reducible refine (HC1.out _ (Below.refl _ _)).mono ?_); rintro e w1 ⟨rfl, hb1⟩); have HB1 := Lib.hid hb1; have hk1 := HK0.out.bel2 HB1.out; have y10 := hk1.cell 0; have y11 := hk1.cell 1; have y12 := hk1.cell 2; have y13 := hk1.cell 3; have y14 := hk1.cell 4; have yl1 := hk1.lt; clear hb1 hk1))
        go_ret
        exact ⟨by first | (rw [HDD.out]; rfl) | (rw [HDD.out]; exact congrArg (fun x => Ending.returned (.bool x)) HZ.out) | (rw [HDD.out]; simp; done) | rfl, HB0.out.trans (HB2.out.mono HB0.out.size)⟩
theorem dty_all : ∀ N : Nat, N ≤ 2000000 → DPty N
  | 0, _ => fun t h => by have := count_pos t; omega
  | N + 1, h => dty_step N (by omega) (dty_all N (by omega))
set_option maxRecDepth 100000 in
set_option maxHeartbeats 4000000 in
theorem idx_ex (p : Ex → Bool) (l : List Ex) (hl : l.length ≤ 140737488355328) (w : World) (F : Nat → Prop) (hF : ∀ k, F k → k < w.heap.size) (g1 g2 : Nat) (hp : ∀ u ∈ l, ∀ w1, Below w.heap.size w w1 → ∀ vs, RE w1 F u vs → Calls Try.prog 113 #[.agg vs.toArray, .pointer (some ⟨g1, 0, none⟩), .pointer (some ⟨g2, 0, none⟩)] w1 (TruthP w1 (p u))) (B : Option Addr) (d : Nat) (hr : SlG 4 RE w F B l) :
    Calls Try.prog 115 #[.slice B l.length d, .func (Fn.func 113) #[] #[.pointer (some ⟨g1, 0, none⟩), .pointer (some ⟨g2, 0, none⟩)]] w (IdxP w (l.any p)) := by
  have HA := Lib.hid hr
  have HP := Lib.hid hp
  have n0 : (0 : Int) ≤ (l.length : Int) := by omega
  have n1 : (l.length : Int) ≤ 140737488355328 := by omega
  clear hr hp hF
  go_enter Try.func115, Try.ntmps115
  go_wp2
  go_loopg [8] l.length (fun gk v8 wr => ∃ j : Nat, j + gk = l.length ∧ v8 = .int .i64 j ∧ (l.take j).any p = false ∧ Below w.heap.size w wr)
  case atStart => exact ⟨0, by simp, rfl, by simp, Below.refl _ _⟩
  case round =>
    obtain ⟨j, hj, rfl, hx, hb⟩ := hrel
    have HX := Lib.hid hx
    have HB := Lib.hid hb
    cases gk with
    | zero =>
      obtain rfl : j = l.length := by omega
      clear hj hx hb
      go_wp2
      go_ret
      have h1 := HX.out
      rw [List.take_length] at h1
      exact ⟨_, rfl, by rw [h1]; decide, by omega, HB.out⟩
    | succ f =>
      have hjl : j < l.length := by omega
      obtain ⟨u, hu⟩ : ∃ u, l[j]? = some u := ⟨_, List.getElem?_eq_getElem hjl⟩
      have j1 : (j : Int) < (l.length : Int) := by omega
      have j0 : (0 : Int) ≤ (j : Int) := by omega
      obtain ⟨q, o, vs, rfl, hFq, hql, hrep, hat⟩ := (HA.out.bel RE_keeps HB.out).at_ RE_sized hu
      have HI := Lib.hid (HP.out u (List.mem_of_getElem? hu) wr hb vs hrep)
      have HY := Lib.hid (any_take p l j u hu)
      have HZ := Lib.hid (any_drop p l j u hu)
      obtain ⟨bu, hbu⟩ : ∃ b, p u = b := ⟨_, rfl⟩
      rw [hbu] at HI HY HZ
      clear hbu
      obtain ⟨op, nn, s, kids⟩ := u
      obtain ⟨A7, c7, rfl, _⟩ := hrep.openL
      have q0 := hat 0 _ rfl
      have q1 := hat 1 _ rfl
      have q2 := hat 2 _ rfl
      have q3 := hat 3 _ rfl
      rw [Nat.add_zero] at q0
      clear hat hu hx hb
      cases bu with
      | true =>
        go_wp2_with (go_at_call 113; ((with_reducible refine HI.out.mono ?_); rintro e w2 ⟨rfl, hb2⟩); have HB2 := Lib.hid hb2; clear hb2)
        go_ret
        exact ⟨_, rfl, by rw [HZ.out trivial]; exact decide_eq_true (by omega), by omega, HB.out.trans (HB2.out.mono HB.out.size)⟩
      | false =>
        go_wp2_with (go_at_call 113; ((with_reducible refine HI.out.mono ?_); rintro e w2 ⟨rfl, hb2⟩); have HB2 := Lib.hid hb2; clear hb2)
        go_roundg f
        case measure => omega
        case rel => exact ⟨j + 1, by omega, by go_num, by rw [HY.out, HX.out]; rfl, HB.out.trans (HB2.out.mono HB.out.size)⟩
set_option maxRecDepth 100000 in
set_option maxHeartbeats 4000000 in
theorem con_ex (p : Ex → Bool) (l : List Ex) (hl : l.length ≤ 140737488355328) (w : World) (F : Nat → Prop) (hF : ∀ k, F k → k < w.heap.size) (g1 g2 : Nat) (hp : ∀ u ∈ l, ∀ w1, Below w.heap.size w w1 → ∀ vs, RE w1 F u vs → Calls Try.prog 113 #[.agg vs.toArray, .pointer (some ⟨g1, 0, none⟩), .pointer (some ⟨g2, 0, none⟩)] w1 (TruthP w1 (p u))) (B : Option Addr) (d : Nat) (hr : SlG 4 RE w F B l) :
    Calls Try.prog 112 #[.slice B l.length d, .func (Fn.func 113) #[] #[.pointer (some ⟨g1, 0, none⟩), .pointer (some ⟨g2, 0, none⟩)]] w (TruthP w (l.any p)) := by
  have HI := Lib.hid (idx_ex p l hl w F hF g1 g2 hp B d hr)
  clear hr hp hF
  go_enter Try.func112, Try.ntmps112
  go_wp2_with (go_at_call 115; ((with_reducible refine HI.out.mono ?_); rintro e w2 ⟨r, rfl, hr2, hr3, hb2⟩); have HR2 := Lib.hid hr2; have HB2 := Lib.hid hb2; clear hb2 hr2)
  go_ret
  exact ⟨by rw [← HR2.out]; rfl, HB2.out⟩
def DPex (N : Nat) : Prop := ∀ t : Ex, t.cnt ≤ N → t.ok 140737488355328 → ∀ (a : Nat), a ≤ 101 → ∀ (w : World) (F : Nat → Prop), (∀ k, F k → k < w.heap.size) → ∀ vs : List Value, RE w F t vs → Calls Try.prog 99 #[.agg vs.toArray, .int .i64 a] w (TruthP w (deepE t a))
set_option maxRecDepth 100000 in
set_option maxHeartbeats 4000000 in
theorem clo_ex (N : Nat) (ih : DPex N) (t : Ex) (hc : t.cnt ≤ N) (hm : t.ok 140737488355328) (a : Nat) (ha : a ≤ 101) (w : World) (F : Nat → Prop) (hF : ∀ k, F k → k < w.heap.size) (vs : List Value) (hr : RE w F t vs) (g1 g2 : Nat) (h1 : w.cell? ⟨g1, 0, none⟩ = some (.func (Fn.func 99) #[] #[])) (h2 : w.cell? ⟨g2, 0, none⟩ = some (.int .i64 a)) (l1 : g1 < w.heap.size) (l2 : g2 < w.heap.size) :
    Calls Try.prog 113 #[.agg vs.toArray, .pointer (some ⟨g1, 0, none⟩), .pointer (some ⟨g2, 0, none⟩)] w (TruthP w (deepE t a)) := by
  have HB0 := Lib.hid (fun cs : Array Value => (Below.refl _ w).alloc (Nat.le_refl _) (.cells cs 140))
  have HI := Lib.hid (ih t hc hm a ha (w.alloc (.cells vs.toArray 140)) F (fun k hk => by have := hF k hk; simp; omega) vs (RE_keeps.bel hr (HB0.out _)))
  obtain ⟨b, hb⟩ : ∃ b, deepE t a = b := ⟨_, rfl⟩
  rw [hb] at HI ⊢
  clear hb
  obtain ⟨op, nn, s, kids⟩ := t
  obtain ⟨A7, c7, rfl, _⟩ := hr.openL
  clear hr hF hc hm ih
  go_enter Try.func113, Try.ntmps113
  go_wp2_with (go_at_call 99; ((with_reducible refine HI.out.mono ?_); rintro e w2 ⟨rfl, hb2⟩); have HB2 := Lib.hid hb2; clear hb2)
  go_ret
  exact ⟨rfl, (HB0.out _).trans (HB2.out.mono (HB0.out _).size)⟩
set_option maxRecDepth 100000 in
set_option maxHeartbeats 4000000 in
theorem anyd_ex (N : Nat) (ih : DPex N) (l : List Ex) (hl : l.length ≤ 140737488355328) (hok : ∀ t ∈ l, t.cnt ≤ N ∧ t.ok 140737488355328) (a : Nat) (ha : a ≤ 101) (w : World) (F : Nat → Prop) (hF : ∀ k, F k → k < w.heap.size) (B : Option Addr) (d : Nat) (hr : SlG 4 RE w F B l) :
    Calls Try.prog 98 #[.slice B l.length d, .int .i64 a, .func (Fn.func 99) #[] #[]] w (TruthP w (l.any (fun t => deepE t a))) := by
  have hb0 : Below w.heap.size w ((w.alloc (.cells #[.int .i64 a] 3)).alloc (.cells #[.func (Fn.func 99) #[] #[]] 146)) := ((Below.refl _ w).alloc (Nat.le_refl _) _).alloc (by simp) _
  have HB0 := Lib.hid hb0
  have hk1 := (Blk.new w 3 #[.int .i64 a]).alloc (.cells #[.func (Fn.func 99) #[] #[]] 146)
  have hk2 := Blk.new (w.alloc (.cells #[.int .i64 a] 3)) 146 #[.func (Fn.func 99) #[] #[]]
  rw [show (w.alloc (.cells #[.int .i64 a] 3)).heap.size = w.heap.size + 1 by simp] at hk2
  have HK1 := Lib.hid hk1
  have HK2 := Lib.hid hk2
  have HC := Lib.hid (con_ex (fun t => deepE t a) l hl _ F (fun k hk => by have := hF k hk; simp; omega) (w.heap.size + 1) w.heap.size (fun u hu w1 hb1 vs hv => clo_ex N ih u (hok u hu).1 (hok u hu).2 a ha w1 F (fun k hk => by have := hF k hk; have := hb1.size; simp at this; omega) vs hv (w.heap.size + 1) w.heap.size ((hk2.bel2 hb1).cell 0) ((hk1.bel2 hb1).cell 0) (hk2.bel2 hb1).lt (hk1.bel2 hb1).lt) B d (hr.bel RE_keeps hb0))
  clear hr hF hok hb0 hk1 hk2 ih
  go_enter Try.func98, Try.ntmps98
  go_wp2_with (go_at_call 112; ((with_reducible refine HC.out.mono ?_); rintro e w2 ⟨rfl, hb2⟩); have HB2 := Lib.hid hb2; clear hb2)
  go_ret
  exact ⟨rfl, HB0.out.trans (HB2.out.mono HB0.out.size)⟩
set_option maxRecDepth 100000 in
set_option maxHeartbeats 4000000 in
theorem dex_step (N : Nat) (ih : DPex N) : DPex (N + 1) := by
  rintro ⟨op, n, s, kids⟩ hct hok a ha w F hF vs hr
  rw [cnt_ex, cntEs_sum] at hct
  obtain ⟨hs1, hs2, ho⟩ := (by simpa only [Ex.ok] using hok : s.size ≤ 140737488355328 ∧ kids.length ≤ 140737488355328 ∧ okEs 140737488355328 kids)
  rw [okEs_iff] at ho
  have HEK := Lib.hid (fun t (ht : t ∈ kids) => (⟨by have := sumL_mem8 Ex.cnt kids t ht; omega, ho t ht⟩ : t.cnt ≤ N ∧ t.ok 140737488355328))
  obtain ⟨A7, c7, rfl, hk⟩ := hr.openL
  simp only [deepE, deepEs_eq]
  have hb0 := (Below.refl _ w).alloc (Nat.le_refl _) (.cells #[.int .i64 op, .int .i64 n, .string s, .slice A7 kids.length c7] 140)
  have HB0 := Lib.hid hb0
  have HK0 := Lib.hid (Blk.new w 140 #[.int .i64 op, .int .i64 n, .string s, .slice A7 kids.length c7])
  have hF0 : ∀ z9, F z9 → z9 < (w.alloc (.cells #[.int .i64 op, .int .i64 n, .string s, .slice A7 kids.length c7] 140)).heap.size := fun z9 hk => by have := hF z9 hk; simp; omega
  have a0 : (0 : Int) ≤ (a : Int) := by omega
  have a1 : (a : Int) ≤ 101 := by omega
  by_cases hd : 100 < a
  · have HDD := Lib.hid (show (decide (100 < a) || kids.any (fun t => deepE t (a + 1))) = true by rw [decide_eq_true hd]; simp)
    have hd1 : decide (100 < a) = true := decide_eq_true hd
    clear hF hF0 hb0 hr hk hct hok ho
    go_enter Try.func99, Try.ntmps99
    go_wp2
    go_ret
    exact ⟨by first | (rw [HDD.out]; rfl) | (rw [HDD.out]; exact congrArg (fun x => Ending.returned (.bool x)) HZ.out) | (rw [HDD.out]; simp; done) | rfl, HB0.out⟩
  · have hd1 : decide (100 < a) = false := decide_eq_false hd
    have ea : ((a + 1 : Nat) : Int) = (a : Int) + 1 := by omega
    have HHF := Lib.hid hF0
    have HZ := Lib.hid (show decide ((100 : Int) < (a : Int)) = false from decide_eq_false (by omega))
    obtain ⟨v1, hv1⟩ : ∃ b, kids.any (fun t => deepE t (a + 1)) = b := ⟨_, rfl⟩
    have HDD := Lib.hid (show (decide (100 < a) || kids.any (fun t => deepE t (a + 1))) = (false || v1) by rw [hd1, hv1])
    have HC1 := Lib.hid (fun w1 (hb1 : Below (w.alloc (.cells #[.int .i64 op, .int .i64 n, .string s, .slice A7 kids.length c7] 140)).heap.size (w.alloc (.cells #[.int .i64 op, .int .i64 n, .string s, .slice A7 kids.length c7] 140)) w1) => anyd_ex N ih kids hs2 HEK.out (a + 1) (by omega) w1 F (fun k hk => Nat.lt_of_lt_of_le (hF0 k hk) hb1.size) A7 c7 ((hk.bel RE_keeps hb0).bel RE_keeps hb1))
    rw [hv1, ea] at HC1
    clear hF hF0 hb0 hr hk hct hok ho ea hv1
    go_enter Try.func99, Try.ntmps99
    cases v1 with
    | true =>
      go_wp2_with (first | (go_at_call 98; ((with_reducible refine (HC1.out _ (Below.refl _ _)).mono ?_); rintro e w1 ⟨rfl, hb1⟩); have HB1 := Lib.hid hb1; have hk1 := HK0.out.bel2 HB1.out; have y10 := hk1.cell 0; have y11 := hk1.cell 1; have y12 := hk1.cell 2; have y13 := hk1.cell 3; have yl1 := hk1.lt; clear hb1 hk1))
      go_ret
      exact ⟨by first | (rw [HDD.out]; rfl) | (rw [HDD.out]; exact congrArg (fun x => Ending.returned (.bool x)) HZ.out) | (rw [HDD.out]; simp; done) | rfl, HB0.out.trans (HB1.out.mono HB0.out.size)⟩
    | false =>
      go_wp2_with (first | (go_at_call 98; ((with_reducible refine (HC1.out _ (Below.refl _ _)).mono ?_); rintro e w1 ⟨rfl, hb1⟩); have HB1 := Lib.hid hb1; have hk1 := HK0.out.bel2 HB1.out; have y10 := hk1.cell 0; have y11 := hk1.cell 1; have y12 := hk1.cell 2; have y13 := hk1.cell 3; have yl1 := hk1.lt; clear hb1 hk1))
      go_ret
      exact ⟨by first | (rw [HDD.out]; rfl) | (rw [HDD.out]; exact congrArg (fun x => Ending.returned (.bool x)) HZ.out) | (rw [HDD.out]; simp; done) | rfl, HB0.out.trans (HB1.out.mono HB0.out.size)⟩
theorem dex_all : ∀ N : Nat, DPex N
  | 0 => fun t h => by have := t.cnt_pos; omega
  | N + 1 => dex_step N (dex_all N)
set_option maxRecDepth 100000 in
set_option maxHeartbeats 4000000 in
theorem idx_st (p : St → Bool) (l : List St) (hl : l.length ≤ 140737488355328) (w : World) (F : Nat → Prop) (hF : ∀ k, F k → k < w.heap.size) (g1 g2 : Nat) (hp : ∀ u ∈ l, ∀ w1, Below w.heap.size w w1 → ∀ vs, RS w1 F u vs → Calls Try.prog 97 #[.agg vs.toArray, .pointer (some ⟨g1, 0, none⟩), .pointer (some ⟨g2, 0, none⟩)] w1 (TruthP w1 (p u))) (B : Option Addr) (d : Nat) (hr : SlG 5 RS w F B l) :
    Calls Try.prog 111 #[.slice B l.length d, .func (Fn.func 97) #[] #[.pointer (some ⟨g1, 0, none⟩), .pointer (some ⟨g2, 0, none⟩)]] w (IdxP w (l.any p)) := by
  have HA := Lib.hid hr
  have HP := Lib.hid hp
  have n0 : (0 : Int) ≤ (l.length : Int) := by omega
  have n1 : (l.length : Int) ≤ 140737488355328 := by omega
  clear hr hp hF
  go_enter Try.func111, Try.ntmps111
  go_wp2
  go_loopg [8] l.length (fun gk v8 wr => ∃ j : Nat, j + gk = l.length ∧ v8 = .int .i64 j ∧ (l.take j).any p = false ∧ Below w.heap.size w wr)
  case atStart => exact ⟨0, by simp, rfl, by simp, Below.refl _ _⟩
  case round =>
    obtain ⟨j, hj, rfl, hx, hb⟩ := hrel
    have HX := Lib.hid hx
    have HB := Lib.hid hb
    cases gk with
    | zero =>
      obtain rfl : j = l.length := by omega
      clear hj hx hb
      go_wp2
      go_ret
      have h1 := HX.out
      rw [List.take_length] at h1
      exact ⟨_, rfl, by rw [h1]; decide, by omega, HB.out⟩
    | succ f =>
      have hjl : j < l.length := by omega
      obtain ⟨u, hu⟩ : ∃ u, l[j]? = some u := ⟨_, List.getElem?_eq_getElem hjl⟩
      have j1 : (j : Int) < (l.length : Int) := by omega
      have j0 : (0 : Int) ≤ (j : Int) := by omega
      obtain ⟨q, o, vs, rfl, hFq, hql, hrep, hat⟩ := (HA.out.bel RS_keeps HB.out).at_ RS_sized hu
      have HI := Lib.hid (HP.out u (List.mem_of_getElem? hu) wr hb vs hrep)
      have HY := Lib.hid (any_take p l j u hu)
      have HZ := Lib.hid (any_drop p l j u hu)
      obtain ⟨bu, hbu⟩ : ∃ b, p u = b := ⟨_, rfl⟩
      rw [hbu] at HI HY HZ
      clear hbu
      obtain ⟨op, nn, es, bo, el⟩ := u
      obtain ⟨A7, c7, A8, c8, A9, c9, rfl, _⟩ := hrep.openL
      have q0 := hat 0 _ rfl
      have q1 := hat 1 _ rfl
      have q2 := hat 2 _ rfl
      have q3 := hat 3 _ rfl
      have q4 := hat 4 _ rfl
      rw [Nat.add_zero] at q0
      clear hat hu hx hb
      cases bu with
      | true =>
        go_wp2_with (go_at_call 97; ((with_reducible refine HI.out.mono ?_); rintro e w2 ⟨rfl, hb2⟩); have HB2 := Lib.hid hb2; clear hb2)
        go_ret
        exact ⟨_, rfl, by rw [HZ.out trivial]; exact decide_eq_true (by omega), by omega, HB.out.trans (HB2.out.mono HB.out.size)⟩
      | false =>
        go_wp2_with (go_at_call 97; ((with_reducible refine HI.out.mono ?_); rintro e w2 ⟨rfl, hb2⟩); have HB2 := Lib.hid hb2; clear hb2)
        go_roundg f
        case measure => omega
        case rel => exact ⟨j + 1, by omega, by go_num, by rw [HY.out, HX.out]; rfl, HB.out.trans (HB2.out.mono HB.out.size)⟩
set_option maxRecDepth 100000 in
set_option maxHeartbeats 4000000 in
theorem con_st (p : St → Bool) (l : List St) (hl : l.length ≤ 140737488355328) (w : World) (F : Nat → Prop) (hF : ∀ k, F k → k < w.heap.size) (g1 g2 : Nat) (hp : ∀ u ∈ l, ∀ w1, Below w.heap.size w w1 → ∀ vs, RS w1 F u vs → Calls Try.prog 97 #[.agg vs.toArray, .pointer (some ⟨g1, 0, none⟩), .pointer (some ⟨g2, 0, none⟩)] w1 (TruthP w1 (p u))) (B : Option Addr) (d : Nat) (hr : SlG 5 RS w F B l) :
    Calls Try.prog 96 #[.slice B l.length d, .func (Fn.func 97) #[] #[.pointer (some ⟨g1, 0, none⟩), .pointer (some ⟨g2, 0, none⟩)]] w (TruthP w (l.any p)) := by
  have HI := Lib.hid (idx_st p l hl w F hF g1 g2 hp B d hr)
  clear hr hp hF
  go_enter Try.func96, Try.ntmps96
  go_wp2_with (go_at_call 111; ((with_reducible refine HI.out.mono ?_); rintro e w2 ⟨r, rfl, hr2, hr3, hb2⟩); have HR2 := Lib.hid hr2; have HB2 := Lib.hid hb2; clear hb2 hr2)
  go_ret
  exact ⟨by rw [← HR2.out]; rfl, HB2.out⟩
def DPst (N : Nat) : Prop := ∀ t : St, t.cnt ≤ N → t.ok 140737488355328 → ∀ (a : Nat), a ≤ 101 → ∀ (w : World) (F : Nat → Prop), (∀ k, F k → k < w.heap.size) → ∀ vs : List Value, RS w F t vs → Calls Try.prog 73 #[.agg vs.toArray, .int .i64 a] w (TruthP w (deepS t a))
set_option maxRecDepth 100000 in
set_option maxHeartbeats 4000000 in
theorem clo_st (N : Nat) (ih : DPst N) (t : St) (hc : t.cnt ≤ N) (hm : t.ok 140737488355328) (a : Nat) (ha : a ≤ 101) (w : World) (F : Nat → Prop) (hF : ∀ k, F k → k < w.heap.size) (vs : List Value) (hr : RS w F t vs) (g1 g2 : Nat) (h1 : w.cell? ⟨g1, 0, none⟩ = some (.func (Fn.func 73) #[] #[])) (h2 : w.cell? ⟨g2, 0, none⟩ = some (.int .i64 a)) (l1 : g1 < w.heap.size) (l2 : g2 < w.heap.size) :
    Calls Try.prog 97 #[.agg vs.toArray, .pointer (some ⟨g1, 0, none⟩), .pointer (some ⟨g2, 0, none⟩)] w (TruthP w (deepS t a)) := by
  have HB0 := Lib.hid (fun cs : Array Value => (Below.refl _ w).alloc (Nat.le_refl _) (.cells cs 111))
  have HI := Lib.hid (ih t hc hm a ha (w.alloc (.cells vs.toArray 111)) F (fun k hk => by have := hF k hk; simp; omega) vs (RS_keeps.bel hr (HB0.out _)))
  obtain ⟨b, hb⟩ : ∃ b, deepS t a = b := ⟨_, rfl⟩
  rw [hb] at HI ⊢
  clear hb
  obtain ⟨op, nn, es, bo, el⟩ := t
  obtain ⟨A7, c7, A8, c8, A9, c9, rfl, _⟩ := hr.openL
  clear hr hF hc hm ih
  go_enter Try.func97, Try.ntmps97
  go_wp2_with (go_at_call 73; ((with_reducible refine HI.out.mono ?_); rintro e w2 ⟨rfl, hb2⟩); have HB2 := Lib.hid hb2; clear hb2)
  go_ret
  exact ⟨rfl, (HB0.out _).trans (HB2.out.mono (HB0.out _).size)⟩
set_option maxRecDepth 100000 in
set_option maxHeartbeats 4000000 in
theorem anyd_st (N : Nat) (ih : DPst N) (l : List St) (hl : l.length ≤ 140737488355328) (hok : ∀ t ∈ l, t.cnt ≤ N ∧ t.ok 140737488355328) (a : Nat) (ha : a ≤ 101) (w : World) (F : Nat → Prop) (hF : ∀ k, F k → k < w.heap.size) (B : Option Addr) (d : Nat) (hr : SlG 5 RS w F B l) :
    Calls Try.prog 72 #[.slice B l.length d, .int .i64 a, .func (Fn.func 73) #[] #[]] w (TruthP w (l.any (fun t => deepS t a))) := by
  have hb0 : Below w.heap.size w ((w.alloc (.cells #[.int .i64 a] 3)).alloc (.cells #[.func (Fn.func 73) #[] #[]] 118)) := ((Below.refl _ w).alloc (Nat.le_refl _) _).alloc (by simp) _
  have HB0 := Lib.hid hb0
  have hk1 := (Blk.new w 3 #[.int .i64 a]).alloc (.cells #[.func (Fn.func 73) #[] #[]] 118)
  have hk2 := Blk.new (w.alloc (.cells #[.int .i64 a] 3)) 118 #[.func (Fn.func 73) #[] #[]]
  rw [show (w.alloc (.cells #[.int .i64 a] 3)).heap.size = w.heap.size + 1 by simp] at hk2
  have HK1 := Lib.hid hk1
  have HK2 := Lib.hid hk2
  have HC := Lib.hid (con_st (fun t => deepS t a) l hl _ F (fun k hk => by have := hF k hk; simp; omega) (w.heap.size + 1) w.heap.size (fun u hu w1 hb1 vs hv => clo_st N ih u (hok u hu).1 (hok u hu).2 a ha w1 F (fun k hk => by have := hF k hk; have := hb1.size; simp at this; omega) vs hv (w.heap.size + 1) w.heap.size ((hk2.bel2 hb1).cell 0) ((hk1.bel2 hb1).cell 0) (hk2.bel2 hb1).lt (hk1.bel2 hb1).lt) B d (hr.bel RS_keeps hb0))
  clear hr hF hok hb0 hk1 hk2 ih
  go_enter Try.func72, Try.ntmps72
  go_wp2_with (go_at_call 96; ((with_reducible refine HC.out.mono ?_); rintro e w2 ⟨rfl, hb2⟩); have HB2 := Lib.hid hb2; clear hb2)
  go_ret
  exact ⟨rfl, HB0.out.trans (HB2.out.mono HB0.out.size)⟩
set_option maxRecDepth 100000 in
set_option maxHeartbeats 4000000 in
theorem dst_step (N : Nat) (ih : DPst N) : DPst (N + 1) := by
  rintro ⟨op, n, es, bo, el⟩ hct hok a ha w F hF vs hr
  rw [cnt_st, cntEs_sum, cntSs_sum, cntSs_sum] at hct
  obtain ⟨⟨hs1, ho1⟩, ⟨hs2, ho2⟩, hs3, ho3⟩ := (by simpa only [St.ok] using hok : (es.length ≤ 140737488355328 ∧ okEs 140737488355328 es) ∧ (bo.length ≤ 140737488355328 ∧ okSs 140737488355328 bo) ∧ (el.length ≤ 140737488355328 ∧ okSs 140737488355328 el))
  rw [okEs_iff] at ho1
  rw [okSs_iff] at ho2 ho3
  have HEK := Lib.hid (fun t (ht : t ∈ es) => (⟨by have := sumL_mem8 Ex.cnt es t ht; omega, ho1 t ht⟩ : t.cnt ≤ N ∧ t.ok 140737488355328))
  have HBK := Lib.hid (fun t (ht : t ∈ bo) => (⟨by have := sumL_mem8 St.cnt bo t ht; omega, ho2 t ht⟩ : t.cnt ≤ N ∧ t.ok 140737488355328))
  have HLK := Lib.hid (fun t (ht : t ∈ el) => (⟨by have := sumL_mem8 St.cnt el t ht; omega, ho3 t ht⟩ : t.cnt ≤ N ∧ t.ok 140737488355328))
  obtain ⟨A7, c7, A8, c8, A9, c9, rfl, k1, k2, k3⟩ := hr.openL
  simp only [deepS, deepSs_eq]
  have hb0 := (Below.refl _ w).alloc (Nat.le_refl _) (.cells #[.int .i64 op, .int .i64 n, .slice A7 es.length c7, .slice A8 bo.length c8, .slice A9 el.length c9] 111)
  have HB0 := Lib.hid hb0
  have HK0 := Lib.hid (Blk.new w 111 #[.int .i64 op, .int .i64 n, .slice A7 es.length c7, .slice A8 bo.length c8, .slice A9 el.length c9])
  have hF0 : ∀ z9, F z9 → z9 < (w.alloc (.cells #[.int .i64 op, .int .i64 n, .slice A7 es.length c7, .slice A8 bo.length c8, .slice A9 el.length c9] 111)).heap.size := fun z9 hk => by have := hF z9 hk; simp; omega
  have a0 : (0 : Int) ≤ (a : Int) := by omega
  have a1 : (a : Int) ≤ 101 := by omega
  by_cases hd : 100 < a
  · have HDD := Lib.hid (show (decide (100 < a) || es.any (fun t => deepE t (a + 1)) || bo.any (fun t => deepS t (a + 1)) || el.any (fun t => deepS t (a + 1))) = true by rw [decide_eq_true hd]; simp)
    have hd1 : decide (100 < a) = true := decide_eq_true hd
    clear hF hF0 hb0 hr k1 k2 k3 ho1 ho2 ho3 hct hok
    go_enter Try.func73, Try.ntmps73
    go_wp2
    go_ret
    exact ⟨by first | (rw [HDD.out]; rfl) | (rw [HDD.out]; exact congrArg (fun x => Ending.returned (.bool x)) HZ.out) | (rw [HDD.out]; simp; done) | rfl, HB0.out⟩
  · have hd1 : decide (100 < a) = false := decide_eq_false hd
    have ea : ((a + 1 : Nat) : Int) = (a : Int) + 1 := by omega
    have HHF := Lib.hid hF0
    have HZ := Lib.hid (show decide ((100 : Int) < (a : Int)) = false from decide_eq_false (by omega))
    obtain ⟨v1, hv1⟩ : ∃ b, es.any (fun t => deepE t (a + 1)) = b := ⟨_, rfl⟩
    obtain ⟨v2, hv2⟩ : ∃ b, bo.any (fun t => deepS t (a + 1)) = b := ⟨_, rfl⟩
    obtain ⟨v3, hv3⟩ : ∃ b, el.any (fun t => deepS t (a + 1)) = b := ⟨_, rfl⟩
    have HDD := Lib.hid (show (decide (100 < a) || es.any (fun t => deepE t (a + 1)) || bo.any (fun t => deepS t (a + 1)) || el.any (fun t => deepS t (a + 1))) = (false || v1 || v2 || v3) by rw [hd1, hv1, hv2, hv3])
    have HC1 := Lib.hid (fun w1 (hb1 : Below (w.alloc (.cells #[.int .i64 op, .int .i64 n, .slice A7 es.length c7, .slice A8 bo.length c8, .slice A9 el.length c9] 111)).heap.size (w.alloc (.cells #[.int .i64 op, .int .i64 n, .slice A7 es.length c7, .slice A8 bo.length c8, .slice A9 el.length c9] 111)) w1) => anyd_ex N (dex_all N) es hs1 HEK.out (a + 1) (by omega) w1 F (fun k hk => Nat.lt_of_lt_of_le (hF0 k hk) hb1.size) A7 c7 ((k1.bel RE_keeps hb0).bel RE_keeps hb1))
    rw [hv1, ea] at HC1
    have HC2 := Lib.hid (fun w1 (hb1 : Below (w.alloc (.cells #[.int .i64 op, .int .i64 n, .slice A7 es.length c7, .slice A8 bo.length c8, .slice A9 el.length c9] 111)).heap.size (w.alloc (.cells #[.int .i64 op, .int .i64 n, .slice A7 es.length c7, .slice A8 bo.length c8, .slice A9 el.length c9] 111)) w1) => anyd_st N ih bo hs2 HBK.out (a + 1) (by omega) w1 F (fun k hk => Nat.lt_of_lt_of_le (hF0 k hk) hb1.size) A8 c8 ((k2.bel RS_keeps hb0).bel RS_keeps hb1))
    rw [hv2, ea] at HC2
    have HC3 := Lib.hid (fun w1 (hb1 : Below (w.alloc (.cells #[.int .i64 op, .int .i64 n, .slice A7 es.length c7, .slice A8 bo.length c8, .slice A9 el.length c9] 111)).heap.size (w.alloc (.cells #[.int .i64 op, .int .i64 n, .slice A7 es.length c7, .slice A8 bo.length c8, .slice A9 el.length c9] 111)) w1) => anyd_st N ih el hs3 HLK.out (a + 1) (by omega) w1 F (fun k hk => Nat.lt_of_lt_of_le (hF0 k hk) hb1.size) A9 c9 ((k3.bel RS_keeps hb0).bel RS_keeps hb1))
    rw [hv3, ea] at HC3
    clear hF hF0 hb0 hr k1 k2 k3 ho1 ho2 ho3 hct hok ea hv1 hv2 hv3
    go_enter Try.func73, Try.ntmps73
    cases v1 with
    | true =>
      go_wp2_with (first | (go_at_call 72; ((with_reducible refine (HC3.out _ HB2.out).mono ?_); rintro e w3 ⟨rfl, hb3⟩); have HB3 := Lib.hid (HB2.out.trans (hb3.mono HB2.out.size)); have hk3 := HK0.out.bel2 HB3.out; have y30 := hk3.cell 0; have y31 := hk3.cell 1; have y32 := hk3.cell 2; have y33 := hk3.cell 3; have y34 := hk3.cell 4; have yl3 := hk3.lt; clear hb3 hk3) | (go_at_call 72; ((with_reducible refine (HC2.out _ HB1.out).mono ?_); rintro e w2 ⟨rfl, hb2⟩); have HB2 := Lib.hid (HB1.out.trans (hb2.mono HB1.out.size)); have hk2 := HK0.out.bel2 HB2.out; have y20 := hk2.cell 0; have y21 := hk2.cell 1; have y22 := hk2.cell 2; have y23 := hk2.cell 3; have y24 := hk2.cell 4; have yl2 := hk2.lt; clear hb2 hk2) | (go_at_call 98; ((with_reducible refine (HC1.out _ (Below.refl _ _)).mono ?_); rintro e w1 ⟨rfl, hb1⟩); have HB1 := Lib.hid hb1; have hk1 := HK0.out.bel2 HB1.out; have y10 := hk1.cell 0; have y11 := hk1.cell 1; have y12 := hk1.cell 2; have y13 := hk1.cell 3; have y14 := hk1.cell 4; have yl1 := hk1.lt; clear hb1 hk1))
      go_ret
      exact ⟨by first | (rw [HDD.out]; rfl) | (rw [HDD.out]; exact congrArg (fun x => Ending.returned (.bool x)) HZ.out) | (rw [HDD.out]; simp; done) | rfl, HB0.out.trans (HB1.out.mono HB0.out.size)⟩
    | false =>
      cases v2 with
      | true =>
        go_wp2_with (first | (go_at_call 72; ((with_reducible refine (HC3.out _ HB2.out).mono ?_); rintro e w3 ⟨rfl, hb3⟩); have HB3 := Lib.hid (HB2.out.trans (hb3.mono HB2.out.size)); have hk3 := HK0.out.bel2 HB3.out; have y30 := hk3.cell 0; have y31 := hk3.cell 1; have y32 := hk3.cell 2; have y33 := hk3.cell 3; have y34 := hk3.cell 4; have yl3 := hk3.lt; clear hb3 hk3) | (go_at_call 72; ((with_reducible refine (HC2.out _ HB1.out).mono ?_); rintro e w2 ⟨rfl, hb2⟩); have HB2 := Lib.hid (HB1.out.trans (hb2.mono HB1.out.size)); have hk2 := HK0.out.bel2 HB2.out; have y20 := hk2.cell 0; have y21 := hk2.cell 1; have y22 := hk2.cell 2; have y23 := hk2.cell 3; have y24 := hk2.cell 4; have yl2 := hk2.lt; clear hb2 hk2) | (go_at_call 98; ((with_reducible refine (HC1.out _ (Below.refl _ _)).mono ?_); rintro e w1 ⟨rfl, hb1⟩); have HB1 := Lib.hid hb1; have hk1 := HK0.out.bel2 HB1.out; have y10 := hk1.cell 0; have y11 := hk1.cell 1; have y12 := hk1.cell 2; have y13 := hk1.cell 3; have y14 := hk1.cell 4; have yl1 := hk1.lt; clear hb1 hk1))
        go_ret
        exact ⟨by first | (rw [HDD.out]; rfl) | (rw [HDD.out]; exact congrArg (fun x => Ending.returned (.bool x)) HZ.out) | (rw [HDD.out]; simp; done) | rfl, HB0.out.trans (HB2.out.mono HB0.out.size)⟩
      | false =>
        cases v3 with
        | true =>
          go_wp2_with (first | (go_at_call 72; ((with_reducible refine (HC3.out _ HB2.out).mono ?_); rintro e w3 ⟨rfl, hb3⟩); have HB3 := Lib.hid (HB2.out.trans (hb3.mono HB2.out.size)); have hk3 := HK0.out.bel2 HB3.out; have y30 := hk3.cell 0; have y31 := hk3.cell 1; have y32 := hk3.cell 2; have y33 := hk3.cell 3; have y34 := hk3.cell 4; have yl3 := hk3.lt; clear hb3 hk3) | (go_at_call 72; ((with_reducible refine (HC2.out _ HB1.out).mono ?_); rintro e w2 ⟨rfl, hb2⟩); have HB2 := Lib.hid (HB1.out.trans (hb2.mono HB1.out.size)); have hk2 := HK0.out.bel2 HB2.out; have y20 := hk2.cell 0; have y21 := hk2.cell 1; have y22 := hk2.cell 2; have y23 := hk2.cell 3; have y24 := hk2.cell 4; have yl2 := hk2.lt; clear hb2 hk2) | (go_at_call 98; ((with_reducible refine (HC1.out _ (Below.refl _ _)).mono ?_); rintro e w1 ⟨rfl, hb1⟩); have HB1 := Lib.hid hb1; have hk1 := HK0.out.bel2 HB1.out; have y10 := hk1.cell 0; have y11 := hk1.cell 1; have y12 := hk1.cell 2; have y13 := hk1.cell 3; have y14 := hk1.cell 4; have yl1 := hk1.lt; clear hb1 hk1))
          go_ret
          exact ⟨by first | (rw [HDD.out]; rfl) | (rw [HDD.out]; exact congrArg (fun x => Ending.returned (.bool x)) HZ.out) | (rw [HDD.out]; simp; done) | rfl, HB0.out.trans (HB3.out.mono HB0.out.size)⟩
        | false =>
          go_wp2_with (first | (go_at_call 72; ((with_reducible refine (HC3.out _ HB2.out).mono ?_); rintro e w3 ⟨rfl, hb3⟩); have HB3 := Lib.hid (HB2.out.trans (hb3.mono HB2.out.size)); have hk3 := HK0.out.bel2 HB3.out; have y30 := hk3.cell 0; have y31 := hk3.cell 1; have y32 := hk3.cell 2; have y33 := hk3.cell 3; have y34 := hk3.cell 4; have yl3 := hk3.lt; clear hb3 hk3) | (go_at_call 72; ((with_reducible refine (HC2.out _ HB1.out).mono ?_); rintro e w2 ⟨rfl, hb2⟩); have HB2 := Lib.hid (HB1.out.trans (hb2.mono HB1.out.size)); have hk2 := HK0.out.bel2 HB2.out; have y20 := hk2.cell 0; have y21 := hk2.cell 1; have y22 := hk2.cell 2; have y23 := hk2.cell 3; have y24 := hk2.cell 4; have yl2 := hk2.lt; clear hb2 hk2) | (go_at_call 98; ((with_reducible refine (HC1.out _ (Below.refl _ _)).mono ?_); rintro e w1 ⟨rfl, hb1⟩); have HB1 := Lib.hid hb1; have hk1 := HK0.out.bel2 HB1.out; have y10 := hk1.cell 0; have y11 := hk1.cell 1; have y12 := hk1.cell 2; have y13 := hk1.cell 3; have y14 := hk1.cell 4; have yl1 := hk1.lt; clear hb1 hk1))
          go_ret
          exact ⟨by first | (rw [HDD.out]; rfl) | (rw [HDD.out]; exact congrArg (fun x => Ending.returned (.bool x)) HZ.out) | (rw [HDD.out]; simp; done) | rfl, HB0.out.trans (HB3.out.mono HB0.out.size)⟩
theorem dst_all : ∀ N : Nat, DPst N
  | 0 => fun t h => by have := t.cnt_pos; omega
  | N + 1 => dst_step N (dst_all N)
set_option maxRecDepth 100000 in
set_option maxHeartbeats 4000000 in
theorem idx_fi (p : Fi → Bool) (l : List Fi) (hl : l.length ≤ 140737488355328) (w : World) (F : Nat → Prop) (hF : ∀ k, F k → k < w.heap.size)  (hp : ∀ u ∈ l, ∀ w1, Below w.heap.size w w1 → ∀ vs, RFi w1 F u vs → Calls Try.prog 70 #[.agg vs.toArray] w1 (TruthP w1 (p u))) (B : Option Addr) (d : Nat) (hr : SlG 6 RFi w F B l) :
    Calls Try.prog 95 #[.slice B l.length d, .func (Fn.func 70) #[] #[]] w (IdxP w (l.any p)) := by
  have HA := Lib.hid hr
  have HP := Lib.hid hp
  have n0 : (0 : Int) ≤ (l.length : Int) := by omega
  have n1 : (l.length : Int) ≤ 140737488355328 := by omega
  clear hr hp hF
  go_enter Try.func95, Try.ntmps95
  go_wp2
  go_loopg [8] l.length (fun gk v8 wr => ∃ j : Nat, j + gk = l.length ∧ v8 = .int .i64 j ∧ (l.take j).any p = false ∧ Below w.heap.size w wr)
  case atStart => exact ⟨0, by simp, rfl, by simp, Below.refl _ _⟩
  case round =>
    obtain ⟨j, hj, rfl, hx, hb⟩ := hrel
    have HX := Lib.hid hx
    have HB := Lib.hid hb
    cases gk with
    | zero =>
      obtain rfl : j = l.length := by omega
      clear hj hx hb
      go_wp2
      go_ret
      have h1 := HX.out
      rw [List.take_length] at h1
      exact ⟨_, rfl, by rw [h1]; decide, by omega, HB.out⟩
    | succ f =>
      have hjl : j < l.length := by omega
      obtain ⟨u, hu⟩ : ∃ u, l[j]? = some u := ⟨_, List.getElem?_eq_getElem hjl⟩
      have j1 : (j : Int) < (l.length : Int) := by omega
      have j0 : (0 : Int) ≤ (j : Int) := by omega
      obtain ⟨q, o, vs, rfl, hFq, hql, hrep, hat⟩ := (HA.out.bel RFi_keeps HB.out).at_ RFi_sized hu
      have HI := Lib.hid (HP.out u (List.mem_of_getElem? hu) wr hb vs hrep)
      have HY := Lib.hid (any_take p l j u hu)
      have HZ := Lib.hid (any_drop p l j u hu)
      obtain ⟨bu, hbu⟩ : ∃ b, p u = b := ⟨_, rfl⟩
      rw [hbu] at HI HY HZ
      clear hbu
      obtain ⟨tv, rfl, hrt⟩ := hrep
      obtain ⟨k1, p1, n1', A3, m3, c3, B3, l3, d3, rfl⟩ := hrt.shape
      obtain ⟨nm, hnm⟩ : ∃ nm, u.name = nm := ⟨_, rfl⟩
      simp only [tyC, hnm] at HI hat
      have q0 := hat 0 _ rfl
      have q1 := hat 1 _ rfl
      have q2 := hat 2 _ rfl
      have q3 := hat 3 _ rfl
      have q4 := hat 4 _ rfl
      have q5 := hat 5 _ rfl
      rw [Nat.add_zero] at q0
      clear hat hu hx hb
      cases bu with
      | true =>
        go_wp2_with (go_at_call 70; ((with_reducible refine HI.out.mono ?_); rintro e w2 ⟨rfl, hb2⟩); have HB2 := Lib.hid hb2; clear hb2)
        go_ret
        exact ⟨_, rfl, by rw [HZ.out trivial]; exact decide_eq_true (by omega), by omega, HB.out.trans (HB2.out.mono HB.out.size)⟩
      | false =>
        go_wp2_with (go_at_call 70; ((with_reducible refine HI.out.mono ?_); rintro e w2 ⟨rfl, hb2⟩); have HB2 := Lib.hid hb2; clear hb2)
        go_roundg f
        case measure => omega
        case rel => exact ⟨j + 1, by omega, by go_num, by rw [HY.out, HX.out]; rfl, HB.out.trans (HB2.out.mono HB.out.size)⟩
set_option maxRecDepth 100000 in
set_option maxHeartbeats 4000000 in
theorem con_fi (p : Fi → Bool) (l : List Fi) (hl : l.length ≤ 140737488355328) (w : World) (F : Nat → Prop) (hF : ∀ k, F k → k < w.heap.size)  (hp : ∀ u ∈ l, ∀ w1, Below w.heap.size w w1 → ∀ vs, RFi w1 F u vs → Calls Try.prog 70 #[.agg vs.toArray] w1 (TruthP w1 (p u))) (B : Option Addr) (d : Nat) (hr : SlG 6 RFi w F B l) :
    Calls Try.prog 69 #[.slice B l.length d, .func (Fn.func 70) #[] #[]] w (TruthP w (l.any p)) := by
  have HI := Lib.hid (idx_fi p l hl w F hF hp B d hr)
  clear hr hp hF
  go_enter Try.func69, Try.ntmps69
  go_wp2_with (go_at_call 95; ((with_reducible refine HI.out.mono ?_); rintro e w2 ⟨r, rfl, hr2, hr3, hb2⟩); have HR2 := Lib.hid hr2; have HB2 := Lib.hid hb2; clear hb2 hr2)
  go_ret
  exact ⟨by rw [← HR2.out]; rfl, HB2.out⟩
set_option maxRecDepth 100000 in
set_option maxHeartbeats 4000000 in
theorem idx_dl (p : Dl → Bool) (l : List Dl) (hl : l.length ≤ 140737488355328) (w : World) (F : Nat → Prop) (hF : ∀ k, F k → k < w.heap.size)  (hp : ∀ u ∈ l, ∀ w1, Below w.heap.size w w1 → ∀ vs, RDl w1 F u vs → Calls Try.prog 41 #[.agg vs.toArray] w1 (TruthP w1 (p u))) (B : Option Addr) (d : Nat) (hr : SlG 10 RDl w F B l) :
    Calls Try.prog 67 #[.slice B l.length d, .func (Fn.func 41) #[] #[]] w (IdxP w (l.any p)) := by
  have HA := Lib.hid hr
  have HP := Lib.hid hp
  have n0 : (0 : Int) ≤ (l.length : Int) := by omega
  have n1 : (l.length : Int) ≤ 140737488355328 := by omega
  clear hr hp hF
  go_enter Try.func67, Try.ntmps67
  go_wp2
  go_loopg [8] l.length (fun gk v8 wr => ∃ j : Nat, j + gk = l.length ∧ v8 = .int .i64 j ∧ (l.take j).any p = false ∧ Below w.heap.size w wr)
  case atStart => exact ⟨0, by simp, rfl, by simp, Below.refl _ _⟩
  case round =>
    obtain ⟨j, hj, rfl, hx, hb⟩ := hrel
    have HX := Lib.hid hx
    have HB := Lib.hid hb
    cases gk with
    | zero =>
      obtain rfl : j = l.length := by omega
      clear hj hx hb
      go_wp2
      go_ret
      have h1 := HX.out
      rw [List.take_length] at h1
      exact ⟨_, rfl, by rw [h1]; decide, by omega, HB.out⟩
    | succ f =>
      have hjl : j < l.length := by omega
      obtain ⟨u, hu⟩ : ∃ u, l[j]? = some u := ⟨_, List.getElem?_eq_getElem hjl⟩
      have j1 : (j : Int) < (l.length : Int) := by omega
      have j0 : (0 : Int) ≤ (j : Int) := by omega
      obtain ⟨q, o, vs, rfl, hFq, hql, hrep, hat⟩ := (HA.out.bel RDl_keeps HB.out).at_ RDl_sized hu
      have HI := Lib.hid (HP.out u (List.mem_of_getElem? hu) wr hb vs hrep)
      have HY := Lib.hid (any_take p l j u hu)
      have HZ := Lib.hid (any_drop p l j u hu)
      obtain ⟨bu, hbu⟩ : ∃ b, p u = b := ⟨_, rfl⟩
      rw [hbu] at HI HY HZ
      clear hbu
      obtain ⟨dk, dn, dof, dv, tt, fs⟩ := u
      obtain ⟨tv, Af, cf, rfl, hrt, hfs⟩ := hrep
      dsimp only at hrt
      obtain ⟨k1, p1, n1', A3, m3, c3, B3, l3, d3, rfl⟩ := hrt.shape
      simp only [tyC, List.cons_append, List.nil_append] at HI hat
      have q0 := hat 0 _ rfl
      have q1 := hat 1 _ rfl
      have q2 := hat 2 _ rfl
      have q3 := hat 3 _ rfl
      have q4 := hat 4 _ rfl
      have q5 := hat 5 _ rfl
      have q6 := hat 6 _ rfl
      have q7 := hat 7 _ rfl
      have q8 := hat 8 _ rfl
      have q9 := hat 9 _ rfl
      rw [Nat.add_zero] at q0
      clear hat hu hx hb
      cases bu with
      | true =>
        go_wp2_with (go_at_call 41; ((with_reducible refine HI.out.mono ?_); rintro e w2 ⟨rfl, hb2⟩); have HB2 := Lib.hid hb2; clear hb2)
        go_ret
        exact ⟨_, rfl, by rw [HZ.out trivial]; exact decide_eq_true (by omega), by omega, HB.out.trans (HB2.out.mono HB.out.size)⟩
      | false =>
        go_wp2_with (go_at_call 41; ((with_reducible refine HI.out.mono ?_); rintro e w2 ⟨rfl, hb2⟩); have HB2 := Lib.hid hb2; clear hb2)
        go_roundg f
        case measure => omega
        case rel => exact ⟨j + 1, by omega, by go_num, by rw [HY.out, HX.out]; rfl, HB.out.trans (HB2.out.mono HB.out.size)⟩
set_option maxRecDepth 100000 in
set_option maxHeartbeats 4000000 in
theorem con_dl (p : Dl → Bool) (l : List Dl) (hl : l.length ≤ 140737488355328) (w : World) (F : Nat → Prop) (hF : ∀ k, F k → k < w.heap.size)  (hp : ∀ u ∈ l, ∀ w1, Below w.heap.size w w1 → ∀ vs, RDl w1 F u vs → Calls Try.prog 41 #[.agg vs.toArray] w1 (TruthP w1 (p u))) (B : Option Addr) (d : Nat) (hr : SlG 10 RDl w F B l) :
    Calls Try.prog 40 #[.slice B l.length d, .func (Fn.func 41) #[] #[]] w (TruthP w (l.any p)) := by
  have HI := Lib.hid (idx_dl p l hl w F hF hp B d hr)
  clear hr hp hF
  go_enter Try.func40, Try.ntmps40
  go_wp2_with (go_at_call 67; ((with_reducible refine HI.out.mono ?_); rintro e w2 ⟨r, rfl, hr2, hr3, hb2⟩); have HR2 := Lib.hid hr2; have HB2 := Lib.hid hb2; clear hb2 hr2)
  go_ret
  exact ⟨by rw [← HR2.out]; rfl, HB2.out⟩
set_option maxRecDepth 100000 in
set_option maxHeartbeats 4000000 in
theorem idx_fn (p : Fn8 → Bool) (l : List Fn8) (hl : l.length ≤ 140737488355328) (w : World) (F : Nat → Prop) (hF : ∀ k, F k → k < w.heap.size)  (hp : ∀ u ∈ l, ∀ w1, Below w.heap.size w w1 → ∀ vs, RFn w1 F u vs → Calls Try.prog 43 #[.agg vs.toArray] w1 (TruthP w1 (p u))) (B : Option Addr) (d : Nat) (hr : SlG 5 RFn w F B l) :
    Calls Try.prog 71 #[.slice B l.length d, .func (Fn.func 43) #[] #[]] w (IdxP w (l.any p)) := by
  have HA := Lib.hid hr
  have HP := Lib.hid hp
  have n0 : (0 : Int) ≤ (l.length : Int) := by omega
  have n1 : (l.length : Int) ≤ 140737488355328 := by omega
  clear hr hp hF
  go_enter Try.func71, Try.ntmps71
  go_wp2
  go_loopg [8] l.length (fun gk v8 wr => ∃ j : Nat, j + gk = l.length ∧ v8 = .int .i64 j ∧ (l.take j).any p = false ∧ Below w.heap.size w wr)
  case atStart => exact ⟨0, by simp, rfl, by simp, Below.refl _ _⟩
  case round =>
    obtain ⟨j, hj, rfl, hx, hb⟩ := hrel
    have HX := Lib.hid hx
    have HB := Lib.hid hb
    cases gk with
    | zero =>
      obtain rfl : j = l.length := by omega
      clear hj hx hb
      go_wp2
      go_ret
      have h1 := HX.out
      rw [List.take_length] at h1
      exact ⟨_, rfl, by rw [h1]; decide, by omega, HB.out⟩
    | succ f =>
      have hjl : j < l.length := by omega
      obtain ⟨u, hu⟩ : ∃ u, l[j]? = some u := ⟨_, List.getElem?_eq_getElem hjl⟩
      have j1 : (j : Int) < (l.length : Int) := by omega
      have j0 : (0 : Int) ≤ (j : Int) := by omega
      obtain ⟨q, o, vs, rfl, hFq, hql, hrep, hat⟩ := (HA.out.bel RFn_keeps HB.out).at_ RFn_sized hu
      have HI := Lib.hid (HP.out u (List.mem_of_getElem? hu) wr hb vs hrep)
      have HY := Lib.hid (any_take p l j u hu)
      have HZ := Lib.hid (any_drop p l j u hu)
      obtain ⟨bu, hbu⟩ : ∃ b, p u = b := ⟨_, rfl⟩
      rw [hbu] at HI HY HZ
      clear hbu
      obtain ⟨s, wk, ps, ls, bo⟩ := u
      obtain ⟨A7, c7, rfl, _⟩ := hrep
      have q0 := hat 0 _ rfl
      have q1 := hat 1 _ rfl
      have q2 := hat 2 _ rfl
      have q3 := hat 3 _ rfl
      have q4 := hat 4 _ rfl
      rw [Nat.add_zero] at q0
      clear hat hu hx hb
      cases bu with
      | true =>
        go_wp2_with (go_at_call 43; ((with_reducible refine HI.out.mono ?_); rintro e w2 ⟨rfl, hb2⟩); have HB2 := Lib.hid hb2; clear hb2)
        go_ret
        exact ⟨_, rfl, by rw [HZ.out trivial]; exact decide_eq_true (by omega), by omega, HB.out.trans (HB2.out.mono HB.out.size)⟩
      | false =>
        go_wp2_with (go_at_call 43; ((with_reducible refine HI.out.mono ?_); rintro e w2 ⟨rfl, hb2⟩); have HB2 := Lib.hid hb2; clear hb2)
        go_roundg f
        case measure => omega
        case rel => exact ⟨j + 1, by omega, by go_num, by rw [HY.out, HX.out]; rfl, HB.out.trans (HB2.out.mono HB.out.size)⟩
set_option maxRecDepth 100000 in
set_option maxHeartbeats 4000000 in
theorem con_fn (p : Fn8 → Bool) (l : List Fn8) (hl : l.length ≤ 140737488355328) (w : World) (F : Nat → Prop) (hF : ∀ k, F k → k < w.heap.size)  (hp : ∀ u ∈ l, ∀ w1, Below w.heap.size w w1 → ∀ vs, RFn w1 F u vs → Calls Try.prog 43 #[.agg vs.toArray] w1 (TruthP w1 (p u))) (B : Option Addr) (d : Nat) (hr : SlG 5 RFn w F B l) :
    Calls Try.prog 42 #[.slice B l.length d, .func (Fn.func 43) #[] #[]] w (TruthP w (l.any p)) := by
  have HI := Lib.hid (idx_fn p l hl w F hF hp B d hr)
  clear hr hp hF
  go_enter Try.func42, Try.ntmps42
  go_wp2_with (go_at_call 71; ((with_reducible refine HI.out.mono ?_); rintro e w2 ⟨r, rfl, hr2, hr3, hb2⟩); have HR2 := Lib.hid hr2; have HB2 := Lib.hid hb2; clear hb2 hr2)
  go_ret
  exact ⟨by rw [← HR2.out]; rfl, HB2.out⟩
set_option maxRecDepth 100000 in
set_option maxHeartbeats 4000000 in
theorem dfi_any (f : Fi) (hc : f.ty.count ≤ 2000000) (hok : f.ok 140737488355328) (w : World) (F : Nat → Prop) (hF : ∀ k, F k → k < w.heap.size) (vs : List Value) (hr : RFi w F f vs) :
    Calls Try.prog 70 #[.agg vs.toArray] w (TruthP w (deepF 0 f)) := by
  obtain ⟨s, t⟩ := f
  obtain ⟨hs1, hs2⟩ := hok
  obtain ⟨tv, rfl, hrt⟩ := hr
  dsimp only at hrt hs1 hs2 hc
  unfold deepF
  dsimp only
  have HRT := Lib.hid (fun w' (hb : Below w.heap.size w w') (hF' : ∀ k, F k → k < w'.heap.size) => dty_all 2000000 (Nat.le_refl _) t hc hs2 0 (by omega) w' F hF' _ (hrt.bel hb))
  obtain ⟨k1, p1, n1', A3, m3, c3, B3, l3, d3, rfl⟩ := hrt.shape
  simp only [tyC] at HRT ⊢
  have hb0 := (Below.refl _ w).alloc (Nat.le_refl _) (.cells #[.string s, .int .i64 k1, .string p1, .string n1', .slice A3 m3 c3, .slice B3 l3 d3] 74)
  have HB0 := Lib.hid hb0
  have HK0 := Lib.hid (Blk.new w 74 #[.string s, .int .i64 k1, .string p1, .string n1', .slice A3 m3 c3, .slice B3 l3 d3])
  have hF0 : ∀ z9, F z9 → z9 < (w.alloc (.cells #[.string s, .int .i64 k1, .string p1, .string n1', .slice A3 m3 c3, .slice B3 l3 d3] 74)).heap.size := fun z9 hk => by have := hF z9 hk; simp; omega
  obtain ⟨v1, hv1⟩ : ∃ b, deepT t 0 = b := ⟨_, rfl⟩
  have HDD := Lib.hid (show deepT t 0 = (v1) by rw [hv1])
  have HC1 := Lib.hid (fun w1 (hb1 : Below (w.alloc (.cells #[.string s, .int .i64 k1, .string p1, .string n1', .slice A3 m3 c3, .slice B3 l3 d3] 74)).heap.size (w.alloc (.cells #[.string s, .int .i64 k1, .string p1, .string n1', .slice A3 m3 c3, .slice B3 l3 d3] 74)) w1) => HRT.out w1 (hb0.trans (hb1.mono hb0.size)) (fun k hk => Nat.lt_of_lt_of_le (hF0 k hk) hb1.size))
  rw [hv1] at HC1
  try rw [show ((0 : Nat) : Int) = 0 from rfl] at HC1
  clear hF hF0 hb0 hrt hv1
  go_enter Try.func70, Try.ntmps70
  go_wp2_with (first | (go_at_call 68; ((with_reducible refine (HC1.out _ (Below.refl _ _)).mono ?_); rintro e w1 ⟨rfl, hb1⟩); have HB1 := Lib.hid hb1; have hk1 := HK0.out.bel2 HB1.out; have y10 := hk1.cell 0; have y11 := hk1.cell 1; have y12 := hk1.cell 2; have y13 := hk1.cell 3; have y14 := hk1.cell 4; have y15 := hk1.cell 5; have yl1 := hk1.lt; clear hb1 hk1))
  go_ret
  exact ⟨by first | (rw [HDD.out]; rfl) | (rw [HDD.out]; exact congrArg (fun x => Ending.returned (.bool x)) HZ.out) | (rw [HDD.out]; simp; done) | rfl, HB0.out.trans (HB1.out.mono HB0.out.size)⟩
set_option maxRecDepth 100000 in
set_option maxHeartbeats 4000000 in
theorem ddl_any (d : Dl) (hc : d.ty.count ≤ 2000000) (hcf : ∀ f ∈ d.fields, f.ty.count ≤ 2000000) (hok : d.ok 140737488355328) (w : World) (F : Nat → Prop) (hF : ∀ k, F k → k < w.heap.size) (vs : List Value) (hr : RDl w F d vs) :
    Calls Try.prog 41 #[.agg vs.toArray] w (TruthP w (deepD 0 d)) := by
  obtain ⟨dk, dn, dof, dv, t, fs⟩ := d
  obtain ⟨hs1, hs2, hs3, hs4, hs5⟩ := hok
  obtain ⟨tv, Af, cf, rfl, hrt, hfs⟩ := hr
  dsimp only at hrt hfs hs1 hs2 hs3 hs4 hs5 hc hcf
  unfold deepD
  dsimp only
  have HRT := Lib.hid (fun w' (hb : Below w.heap.size w w') (hF' : ∀ k, F k → k < w'.heap.size) => dty_all 2000000 (Nat.le_refl _) t hc hs3 0 (by omega) w' F hF' _ (hrt.bel hb))
  have HFS := Lib.hid (fun w' (hb : Below w.heap.size w w') (hF' : ∀ k, F k → k < w'.heap.size) => con_fi (deepF 0) fs hs4 w' F hF' (fun u hu w1 hb1 vs hv => dfi_any u (hcf u hu) (hs5 u hu) w1 F (fun k hk => Nat.lt_of_lt_of_le (hF' k hk) hb1.size) vs hv) Af cf (hfs.bel RFi_keeps hb))
  obtain ⟨k1, p1, n1', A3, m3, c3, B3, l3, d3, rfl⟩ := hrt.shape
  simp only [tyC] at HRT
  simp only [tyC, List.cons_append, List.nil_append]
  have hb0 := (Below.refl _ w).alloc (Nat.le_refl _) (.cells #[.int .i64 dk, .string dn, .string dof, .int .i64 dv, .int .i64 k1, .string p1, .string n1', .slice A3 m3 c3, .slice B3 l3 d3, .slice Af fs.length cf] 47)
  have HB0 := Lib.hid hb0
  have HK0 := Lib.hid (Blk.new w 47 #[.int .i64 dk, .string dn, .string dof, .int .i64 dv, .int .i64 k1, .string p1, .string n1', .slice A3 m3 c3, .slice B3 l3 d3, .slice Af fs.length cf])
  have hF0 : ∀ z9, F z9 → z9 < (w.alloc (.cells #[.int .i64 dk, .string dn, .string dof, .int .i64 dv, .int .i64 k1, .string p1, .string n1', .slice A3 m3 c3, .slice B3 l3 d3, .slice Af fs.length cf] 47)).heap.size := fun z9 hk => by have := hF z9 hk; simp; omega
  obtain ⟨v1, hv1⟩ : ∃ b, deepT t 0 = b := ⟨_, rfl⟩
  obtain ⟨v2, hv2⟩ : ∃ b, fs.any (deepF 0) = b := ⟨_, rfl⟩
  have HDD := Lib.hid (show (deepT t 0 || fs.any (deepF 0)) = (v1 || v2) by rw [hv1, hv2])
  have HC1 := Lib.hid (fun w1 (hb1 : Below (w.alloc (.cells #[.int .i64 dk, .string dn, .string dof, .int .i64 dv, .int .i64 k1, .string p1, .string n1', .slice A3 m3 c3, .slice B3 l3 d3, .slice Af fs.length cf] 47)).heap.size (w.alloc (.cells #[.int .i64 dk, .string dn, .string dof, .int .i64 dv, .int .i64 k1, .string p1, .string n1', .slice A3 m3 c3, .slice B3 l3 d3, .slice Af fs.length cf] 47)) w1) => HRT.out w1 (hb0.trans (hb1.mono hb0.size)) (fun k hk => Nat.lt_of_lt_of_le (hF0 k hk) hb1.size))
  rw [hv1] at HC1
  try rw [show ((0 : Nat) : Int) = 0 from rfl] at HC1
  have HC2 := Lib.hid (fun w1 (hb1 : Below (w.alloc (.cells #[.int .i64 dk, .string dn, .string dof, .int .i64 dv, .int .i64 k1, .string p1, .string n1', .slice A3 m3 c3, .slice B3 l3 d3, .slice Af fs.length cf] 47)).heap.size (w.alloc (.cells #[.int .i64 dk, .string dn, .string dof, .int .i64 dv, .int .i64 k1, .string p1, .string n1', .slice A3 m3 c3, .slice B3 l3 d3, .slice Af fs.length cf] 47)) w1) => HFS.out w1 (hb0.trans (hb1.mono hb0.size)) (fun k hk => Nat.lt_of_lt_of_le (hF0 k hk) hb1.size))
  rw [hv2] at HC2
  try rw [show ((0 : Nat) : Int) = 0 from rfl] at HC2
  clear hF hF0 hb0 hrt hfs hs5 hcf hv1 hv2
  go_enter Try.func41, Try.ntmps41
  cases v1 with
  | true =>
    go_wp2_with (first | (go_at_call 69; ((with_reducible refine (HC2.out _ HB1.out).mono ?_); rintro e w2 ⟨rfl, hb2⟩); have HB2 := Lib.hid (HB1.out.trans (hb2.mono HB1.out.size)); have hk2 := HK0.out.bel2 HB2.out; have y20 := hk2.cell 0; have y21 := hk2.cell 1; have y22 := hk2.cell 2; have y23 := hk2.cell 3; have y24 := hk2.cell 4; have y25 := hk2.cell 5; have y26 := hk2.cell 6; have y27 := hk2.cell 7; have y28 := hk2.cell 8; have y29 := hk2.cell 9; have yl2 := hk2.lt; clear hb2 hk2) | (go_at_call 68; ((with_reducible refine (HC1.out _ (Below.refl _ _)).mono ?_); rintro e w1 ⟨rfl, hb1⟩); have HB1 := Lib.hid hb1; have hk1 := HK0.out.bel2 HB1.out; have y10 := hk1.cell 0; have y11 := hk1.cell 1; have y12 := hk1.cell 2; have y13 := hk1.cell 3; have y14 := hk1.cell 4; have y15 := hk1.cell 5; have y16 := hk1.cell 6; have y17 := hk1.cell 7; have y18 := hk1.cell 8; have y19 := hk1.cell 9; have yl1 := hk1.lt; clear hb1 hk1))
    go_ret
    exact ⟨by first | (rw [HDD.out]; rfl) | (rw [HDD.out]; exact congrArg (fun x => Ending.returned (.bool x)) HZ.out) | (rw [HDD.out]; simp; done) | rfl, HB0.out.trans (HB1.out.mono HB0.out.size)⟩
  | false =>
    go_wp2_with (first | (go_at_call 69; ((with_reducible refine (HC2.out _ HB1.out).mono ?_); rintro e w2 ⟨rfl, hb2⟩); have HB2 := Lib.hid (HB1.out.trans (hb2.mono HB1.out.size)); have hk2 := HK0.out.bel2 HB2.out; have y20 := hk2.cell 0; have y21 := hk2.cell 1; have y22 := hk2.cell 2; have y23 := hk2.cell 3; have y24 := hk2.cell 4; have y25 := hk2.cell 5; have y26 := hk2.cell 6; have y27 := hk2.cell 7; have y28 := hk2.cell 8; have y29 := hk2.cell 9; have yl2 := hk2.lt; clear hb2 hk2) | (go_at_call 68; ((with_reducible refine (HC1.out _ (Below.refl _ _)).mono ?_); rintro e w1 ⟨rfl, hb1⟩); have HB1 := Lib.hid hb1; have hk1 := HK0.out.bel2 HB1.out; have y10 := hk1.cell 0; have y11 := hk1.cell 1; have y12 := hk1.cell 2; have y13 := hk1.cell 3; have y14 := hk1.cell 4; have y15 := hk1.cell 5; have y16 := hk1.cell 6; have y17 := hk1.cell 7; have y18 := hk1.cell 8; have y19 := hk1.cell 9; have yl1 := hk1.lt; clear hb1 hk1))
    go_ret
    exact ⟨by first | (rw [HDD.out]; rfl) | (rw [HDD.out]; exact congrArg (fun x => Ending.returned (.bool x)) HZ.out) | (rw [HDD.out]; simp; done) | rfl, HB0.out.trans (HB2.out.mono HB0.out.size)⟩
set_option maxRecDepth 100000 in
set_option maxHeartbeats 4000000 in
theorem dfn_any (f : Fn8) (hok : f.ok 140737488355328) (w : World) (F : Nat → Prop) (hF : ∀ k, F k → k < w.heap.size) (vs : List Value) (hr : RFn w F f vs) :
    Calls Try.prog 43 #[.agg vs.toArray] w (TruthP w (deepN 0 f)) := by
  obtain ⟨s, wk, ps, ls, bo⟩ := f
  obtain ⟨hs1, hs2, hs3⟩ := hok
  obtain ⟨A7, c7, rfl, hk⟩ := hr
  dsimp only at hs1 hs2 hs3 hk
  unfold deepN
  dsimp only
  have HFS := Lib.hid (fun w' (hb : Below w.heap.size w w') (hF' : ∀ k, F k → k < w'.heap.size) => anyd_st (cntSs bo) (dst_all _) bo hs2 (fun t ht => ⟨by rw [cntSs_sum]; exact sumL_mem8 St.cnt bo t ht, hs3 t ht⟩) 0 (by omega) w' F hF' A7 c7 (hk.bel RS_keeps hb))
  have hb0 := (Below.refl _ w).alloc (Nat.le_refl _) (.cells #[.string s, .bool wk, .int .i64 ps, .int .i64 ls, .slice A7 bo.length c7] 64)
  have HB0 := Lib.hid hb0
  have HK0 := Lib.hid (Blk.new w 64 #[.string s, .bool wk, .int .i64 ps, .int .i64 ls, .slice A7 bo.length c7])
  have hF0 : ∀ z9, F z9 → z9 < (w.alloc (.cells #[.string s, .bool wk, .int .i64 ps, .int .i64 ls, .slice A7 bo.length c7] 64)).heap.size := fun z9 hk => by have := hF z9 hk; simp; omega
  obtain ⟨v1, hv1⟩ : ∃ b, bo.any (fun t => deepS t 0) = b := ⟨_, rfl⟩
  have HDD := Lib.hid (show bo.any (fun t => deepS t 0) = (v1) by rw [hv1])
  have HC1 := Lib.hid (fun w1 (hb1 : Below (w.alloc (.cells #[.string s, .bool wk, .int .i64 ps, .int .i64 ls, .slice A7 bo.length c7] 64)).heap.size (w.alloc (.cells #[.string s, .bool wk, .int .i64 ps, .int .i64 ls, .slice A7 bo.length c7] 64)) w1) => HFS.out w1 (hb0.trans (hb1.mono hb0.size)) (fun k hk => Nat.lt_of_lt_of_le (hF0 k hk) hb1.size))
  rw [hv1] at HC1
  try rw [show ((0 : Nat) : Int) = 0 from rfl] at HC1
  clear hF hF0 hb0 hk hs3 hv1
  go_enter Try.func43, Try.ntmps43
  go_wp2_with (first | (go_at_call 72; ((with_reducible refine (HC1.out _ (Below.refl _ _)).mono ?_); rintro e w1 ⟨rfl, hb1⟩); have HB1 := Lib.hid hb1; have hk1 := HK0.out.bel2 HB1.out; have y10 := hk1.cell 0; have y11 := hk1.cell 1; have y12 := hk1.cell 2; have y13 := hk1.cell 3; have y14 := hk1.cell 4; have yl1 := hk1.lt; clear hb1 hk1))
  go_ret
  exact ⟨by first | (rw [HDD.out]; rfl) | (rw [HDD.out]; exact congrArg (fun x => Ending.returned (.bool x)) HZ.out) | (rw [HDD.out]; simp; done) | rfl, HB0.out.trans (HB1.out.mono HB0.out.size)⟩
def deepU (u : Un) : Bool := u.decls.any (deepD 0) || u.funs.any (deepN 0)
theorem unOk {s : ByteArray} {im : List Im} {dc : List Dl} {fn : List Fn8} (hc : (Un.mk s im dc fn).cnt ≤ 2000000) : (∀ d ∈ dc, d.ty.count ≤ 2000000 ∧ ∀ f ∈ d.fields, f.ty.count ≤ 2000000) := by
  intro d hd
  unfold Un.cnt at hc
  dsimp only at hc
  have h1 := sumL_mem8 Dl.cnt dc d hd
  have h2 : d.cnt = d.ty.count + d.fields.length + sumL (fun f => f.ty.count) d.fields := rfl
  exact ⟨by omega, fun f hf => by have := sumL_mem8 (fun f : Fi => f.ty.count) d.fields f hf; omega⟩
set_option maxRecDepth 100000 in
set_option maxHeartbeats 4000000 in
theorem tooDeep_any (u : Un) (hc : u.cnt ≤ 2000000) (hok : u.ok 140737488355328) (w : World) (F : Nat → Prop) (hF : ∀ k, F k → k < w.heap.size) (vs : List Value) (hr : RUn w F u vs) :
    Calls Try.prog 21 #[.agg vs.toArray] w (TruthP w (deepU u)) := by
  obtain ⟨s, im, dc, fn⟩ := u
  have hdk := unOk hc
  obtain ⟨hs1, ⟨hi1, hi2⟩, ⟨hd1, hd2⟩, hf1, hf2⟩ := hok
  obtain ⟨A7, c7, A8, c8, A9, c9, rfl, k1, k2, k3⟩ := hr
  dsimp only at hs1 hi1 hi2 hd1 hd2 hf1 hf2 k1 k2 k3
  unfold deepU
  dsimp only
  have HDS := Lib.hid (fun w' (hb : Below w.heap.size w w') (hF' : ∀ k, F k → k < w'.heap.size) => con_dl (deepD 0) dc hd1 w' F hF' (fun u hu w1 hb1 vs hv => ddl_any u (hdk u hu).1 (hdk u hu).2 (hd2 u hu) w1 F (fun k hk => Nat.lt_of_lt_of_le (hF' k hk) hb1.size) vs hv) A8 c8 (k2.bel RDl_keeps hb))
  have HFS := Lib.hid (fun w' (hb : Below w.heap.size w w') (hF' : ∀ k, F k → k < w'.heap.size) => con_fn (deepN 0) fn hf1 w' F hF' (fun u hu w1 hb1 vs hv => dfn_any u (hf2 u hu) w1 F (fun k hk => Nat.lt_of_lt_of_le (hF' k hk) hb1.size) vs hv) A9 c9 (k3.bel RFn_keeps hb))
  have hb0 := (Below.refl _ w).alloc (Nat.le_refl _) (.cells #[.string s, .slice A7 im.length c7, .slice A8 dc.length c8, .slice A9 fn.length c9] 26)
  have HB0 := Lib.hid hb0
  have HK0 := Lib.hid (Blk.new w 26 #[.string s, .slice A7 im.length c7, .slice A8 dc.length c8, .slice A9 fn.length c9])
  have hF0 : ∀ z9, F z9 → z9 < (w.alloc (.cells #[.string s, .slice A7 im.length c7, .slice A8 dc.length c8, .slice A9 fn.length c9] 26)).heap.size := fun z9 hk => by have := hF z9 hk; simp; omega
  obtain ⟨v1, hv1⟩ : ∃ b, dc.any (deepD 0) = b := ⟨_, rfl⟩
  obtain ⟨v2, hv2⟩ : ∃ b, fn.any (deepN 0) = b := ⟨_, rfl⟩
  have HDD := Lib.hid (show (dc.any (deepD 0) || fn.any (deepN 0)) = (v1 || v2) by rw [hv1, hv2])
  have HC1 := Lib.hid (fun w1 (hb1 : Below (w.alloc (.cells #[.string s, .slice A7 im.length c7, .slice A8 dc.length c8, .slice A9 fn.length c9] 26)).heap.size (w.alloc (.cells #[.string s, .slice A7 im.length c7, .slice A8 dc.length c8, .slice A9 fn.length c9] 26)) w1) => HDS.out w1 (hb0.trans (hb1.mono hb0.size)) (fun k hk => Nat.lt_of_lt_of_le (hF0 k hk) hb1.size))
  rw [hv1] at HC1
  try rw [show ((0 : Nat) : Int) = 0 from rfl] at HC1
  have HC2 := Lib.hid (fun w1 (hb1 : Below (w.alloc (.cells #[.string s, .slice A7 im.length c7, .slice A8 dc.length c8, .slice A9 fn.length c9] 26)).heap.size (w.alloc (.cells #[.string s, .slice A7 im.length c7, .slice A8 dc.length c8, .slice A9 fn.length c9] 26)) w1) => HFS.out w1 (hb0.trans (hb1.mono hb0.size)) (fun k hk => Nat.lt_of_lt_of_le (hF0 k hk) hb1.size))
  rw [hv2] at HC2
  try rw [show ((0 : Nat) : Int) = 0 from rfl] at HC2
  clear hF hF0 hb0 k1 k2 k3 hd2 hf2 hi2 hdk hc hv1 hv2
  go_enter Try.func21, Try.ntmps21
  cases v1 with
  | true =>
    go_wp2_with (first | (go_at_call 42; ((with_reducible refine (HC2.out _ HB1.out).mono ?_); rintro e w2 ⟨rfl, hb2⟩); have HB2 := Lib.hid (HB1.out.trans (hb2.mono HB1.out.size)); have hk2 := HK0.out.bel2 HB2.out; have y20 := hk2.cell 0; have y21 := hk2.cell 1; have y22 := hk2.cell 2; have y23 := hk2.cell 3; have yl2 := hk2.lt; clear hb2 hk2) | (go_at_call 40; ((with_reducible refine (HC1.out _ (Below.refl _ _)).mono ?_); rintro e w1 ⟨rfl, hb1⟩); have HB1 := Lib.hid hb1; have hk1 := HK0.out.bel2 HB1.out; have y10 := hk1.cell 0; have y11 := hk1.cell 1; have y12 := hk1.cell 2; have y13 := hk1.cell 3; have yl1 := hk1.lt; clear hb1 hk1))
    go_ret
    exact ⟨by first | (rw [HDD.out]; rfl) | (rw [HDD.out]; exact congrArg (fun x => Ending.returned (.bool x)) HZ.out) | (rw [HDD.out]; simp; done) | rfl, HB0.out.trans (HB1.out.mono HB0.out.size)⟩
  | false =>
    go_wp2_with (first | (go_at_call 42; ((with_reducible refine (HC2.out _ HB1.out).mono ?_); rintro e w2 ⟨rfl, hb2⟩); have HB2 := Lib.hid (HB1.out.trans (hb2.mono HB1.out.size)); have hk2 := HK0.out.bel2 HB2.out; have y20 := hk2.cell 0; have y21 := hk2.cell 1; have y22 := hk2.cell 2; have y23 := hk2.cell 3; have yl2 := hk2.lt; clear hb2 hk2) | (go_at_call 40; ((with_reducible refine (HC1.out _ (Below.refl _ _)).mono ?_); rintro e w1 ⟨rfl, hb1⟩); have HB1 := Lib.hid hb1; have hk1 := HK0.out.bel2 HB1.out; have y10 := hk1.cell 0; have y11 := hk1.cell 1; have y12 := hk1.cell 2; have y13 := hk1.cell 3; have yl1 := hk1.lt; clear hb1 hk1))
    go_ret
    exact ⟨by first | (rw [HDD.out]; rfl) | (rw [HDD.out]; exact congrArg (fun x => Ending.returned (.bool x)) HZ.out) | (rw [HDD.out]; simp; done) | rfl, HB0.out.trans (HB2.out.mono HB0.out.size)⟩
end Go.Proofs.Ytnkojjkijkhlbaa
