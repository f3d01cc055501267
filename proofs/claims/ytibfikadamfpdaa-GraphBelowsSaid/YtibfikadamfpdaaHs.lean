/-
  A number put into the heap, and the least one taken.
-/
import Derived.Test.YtibfikadamfpdaaHq
namespace Go.Proofs.Ytibfikadamfpdaa
open Go.RowKit
set_option linter.unusedVariables false
set_option linter.unusedSimpArgs false

theorem fl_push {l : List Nat} {x : Nat} {lt : Nat → Nat → Bool} (h : HeapF lt l.length (fl l)) : UpI lt (l ++ [x]).length (fl (l ++ [x])) l.length := by
  have h2 : HeapF lt l.length (fl (l ++ [x])) := h.congr fun k hk => fl_append hk
  have := UpI.push h2
  simpa using this
set_option maxRecDepth 100000 in
set_option maxHeartbeats 2000000 in
theorem hpush_any (w : World) (base qb : Nat) (A : Option Addr) (c : Nat) (v : Value) (N : List ByteArray) (l : List Nat) (x : Nat) (hq : QR w base qb A N.length c v l) (hN : QN base A N w) (hl : ∀ y ∈ l, y < N.length) (hx : x < N.length) (hll : l.length < 8) (hbase : base ≤ w.heap.size) (hqb : base ≤ qb) (hh : HeapF (nlt N) l.length (fl l)) :
    Calls Try.prog 30 #[qi qb, .iface 3 (.int .i64 x)] w fun e w' => e = .returned (.tuple #[]) ∧ (∃ v' l', QR w' base qb A N.length c v' l' ∧ l'.length = l.length + 1 ∧ HeapF (nlt N) (l.length + 1) (fl l') ∧ SameF (l.length + 1) (fl (l ++ [x])) (fl l') ∧ (v'.ownBlock = v.ownBlock ∨ ∀ k, v'.ownBlock = some k → w.heap.size ≤ k)) ∧ Gr (fun k => k = qb ∨ v.ownBlock = some k) w w' := by
  have mP := meth_push
  have mL := meth_len
  have HQ := Lib.hid hq
  have HN := Lib.hid hN
  have HL := Lib.hid hl
  have HH := Lib.hid hh
  have hP := push_any w base qb A N.length c v l x hq (by omega) hbase
  have hLe := fun w1 v' (h : QR w1 base qb A N.length c v' (l ++ [x])) => len_any w1 base qb A N.length c v' (l ++ [x]) h
  have el : (l ++ [x]).length = l.length + 1 := by simp
  have hmem : ∀ y ∈ l ++ [x], y < N.length := fun y hy => by
    rcases List.mem_append.1 hy with h | h
    · exact hl y h
    · rw [List.mem_singleton.1 h]; exact hx
  have hU := fun w1 v' (h : QR w1 base qb A N.length c v' (l ++ [x])) (hg : Gr (fun k => k = qb ∨ v.ownBlock = some k) w w1) => up_any w1 base qb A c v' N (l ++ [x]) l.length h (hN.gr hg hbase (fun k hk e => by
    rcases e with e | e
    · omega
    · have := (hq.own.lt k e).1; omega)) hmem (by omega) (by omega) (Nat.le_trans hbase hg.size) (fl_push hh)
  have HE := Lib.hid el
  have e1 : (((l ++ [x]).length : Nat) : Int) = (l.length : Int) + 1 := by omega
  have l8 : (l.length : Int) < 8 := by omega
  simp only [e1] at hLe
  clear hq hN hl hh hmem el e1
  go_enter Try.func30, Try.ntmps30
  go_wp2_with (first
    | (go_at_call 35; (with_reducible refine (hU _ v1 hq1 hg1).mono ?_); rintro e w2 ⟨rfl, hr2, hg2⟩)
    | (go_at_call 31; (with_reducible refine (hLe _ _ hq1).mono ?_); rintro e w2 ⟨rfl, rfl⟩)
    | (go_at_call 56; (with_reducible refine hP.mono ?_); rintro e w1 ⟨rfl, hr1, hg1⟩; obtain ⟨v1, hq1, ho1⟩ := hr1))
  go_end0
  obtain ⟨l', h1, h2, h3, h4⟩ := hr2
  rw [HE.out] at h2 h3 h4
  refine ⟨rfl, ⟨v1, l', h1, h2, h3, h4, ho1⟩, hg1.wide hg2 fun n hn hs => ?_⟩
  rcases ho1 with h | h
  · exact .inr (h ▸ hs)
  · have := h n hs; omega
set_option maxRecDepth 100000 in
set_option maxHeartbeats 2000000 in
theorem hpop_any (w : World) (base qb : Nat) (A : Option Addr) (c : Nat) (v : Value) (N : List ByteArray) (l : List Nat) (hq : QR w base qb A N.length c v l) (hN : QN base A N w) (hl : ∀ y ∈ l, y < N.length) (hl0 : 0 < l.length) (hll : l.length ≤ 8) (hbase : base ≤ w.heap.size) (hqb : base ≤ qb) (hh : HeapF (nlt N) l.length (fl l)) :
    Calls Try.prog 32 #[qi qb] w fun e w' => e = .returned (.iface 3 (.int .i64 (fl l 0 : Int))) ∧ (∃ v' l', QR w' base qb A N.length c v' l' ∧ l'.length + 1 = l.length ∧ HeapF (nlt N) l'.length (fl l') ∧ SameF l'.length (sw (fl l) 0 l'.length) (fl l') ∧ v'.ownBlock = v.ownBlock) ∧ Gr (fun k => k = qb ∨ v.ownBlock = some k) w w' := by
  obtain ⟨m, hm⟩ : ∃ m, l.length = m + 1 := ⟨l.length - 1, by omega⟩
  have mP := meth_pop
  have mL := meth_len
  have mS := meth_swap
  have HQ := Lib.hid hq
  have HN := Lib.hid hN
  have hLe := len_any w base qb A N.length c v l hq
  have hS := swap_any w base qb A N.length c v l hq hll 0 m (by omega) (by omega)
  have hD := fun w1 (h : QR w1 base qb A N.length c v (swL l 0 m)) (hg : Gr (QF v) w w1) => down_any w1 base qb A c v N (swL l 0 m) m h (hN.gr hg hbase hq.old) (by
    intro y hy
    obtain ⟨k, hk, e⟩ := mem_fl.1 hy
    rw [swL_length] at hk
    rw [fl_swL (by omega) (by omega)] at e
    obtain ⟨j, hj, e2⟩ := ((SameF.sw_ (fl l) (m := m + 1) (i := 0) (j := m) (by omega) (by omega)).mem y).1 ⟨k, by omega, e⟩
    exact hl y (mem_fl.2 ⟨j, by omega, e2⟩)) (by rw [swL_length]; omega) (by rw [swL_length]; omega) (Nat.le_trans hbase hg.size) (by
    rw [fl_swL_fun (by omega) (by omega)]
    rw [hm] at hh
    exact DnI.start hh)
  have hP := fun w1 (l1 : List Nat) (h : QR w1 base qb A N.length c v (l1 ++ [fl l 0])) (h8 : l1.length ≤ 8) => pop_any w1 base qb A N.length c v l1 (fl l 0) h h8
  have e1 : ((l.length : Nat) : Int) = (m : Int) + 1 := by omega
  have m8 : (m : Int) ≤ 8 := by omega
  have m0 : m ≤ 8 := by omega
  have HM := Lib.hid hm
  rw [e1] at hLe
  rw [show ((0 : Nat) : Int) = 0 from rfl] at hS
  clear hq hN hl hh e1 hm hl0 hll
  go_enter Try.func32, Try.ntmps32
  go_wp2_with (first
    | (go_at_call 55; (with_reducible refine (hP _ _ hq3 h83).mono ?_); rintro e w4 ⟨rfl, hr4, hg4⟩)
    | (go_at_call 36; (with_reducible refine (hD _ hq2 hg2).mono ?_); rintro e w3 ⟨⟨b3, rfl⟩, hr3, hg3⟩; obtain ⟨l3, hq3a, hl3, hh3, hs3, hrest⟩ := hr3; obtain ⟨l1, hl1, hl1m⟩ : ∃ l1, l3 = l1 ++ [fl l 0] ∧ l1.length = m := (by
        have hlen : l3.length = m + 1 := by rw [hl3, swL_length]; exact HM.out
        refine ⟨l3.take m, ?_, by simp; omega⟩
        have hlast : l3[m]? = some (fl l 0) := by
          rw [fl_get (by omega), hrest m (Nat.le_refl _), fl_swL (by rw [HM.out]; omega) (by rw [HM.out]; omega)]
          unfold sw
          by_cases h0 : m = 0
          · rw [if_pos h0, h0]
          · rw [if_neg h0, if_pos rfl]
        have hd : l3.drop m = [fl l 0] := by
          rw [List.drop_eq_getElem_cons (by omega), List.drop_of_length_le (by omega)]
          rw [List.getElem?_eq_getElem (by omega)] at hlast
          rw [Option.some.inj hlast]
        rw [← hd, List.take_append_drop]); have hq3 := hq3a; rw [hl1] at hq3; have h83 : l1.length ≤ 8 := (by omega); have HL1 := Lib.hid hl1; have HL2 := Lib.hid hl1m; have HR := Lib.hid hrest; have HS3 := Lib.hid hs3; have HH3 := Lib.hid hh3; clear hl1 hl1m hrest hs3 hh3 hl3)
    | (go_at_call 57; (with_reducible refine hS.mono ?_); rintro e w2 ⟨rfl, hq2, hg2⟩)
    | (go_at_call 31; (with_reducible refine hLe.mono ?_); rintro e w2 ⟨rfl, rfl⟩))
  go_ret
  obtain ⟨v4, hq4, hv4⟩ := hr4
  have hL := HL2.out
  have hcong : ∀ k, k < m → fl l3 k = fl l1 k := fun k hk => by rw [HL1.out]; exact fl_append (by omega)
  refine ⟨rfl, ⟨v4, l1, hq4, by rw [hL, HM.out], ?_, ?_, hv4⟩, ?_⟩
  · rw [hL]
    exact HH3.out.congr fun k hk => (hcong k hk).symm
  · rw [hL]
    have h := HS3.out
    rw [fl_swL_fun (by rw [HM.out]; omega) (by rw [HM.out]; omega)] at h
    constructor
    · intro x
      refine Iff.trans ?_ (h.mem x)
      constructor
      · rintro ⟨k, hk, e⟩; exact ⟨k, hk, by rw [hcong k hk]; exact e⟩
      · rintro ⟨k, hk, e⟩; exact ⟨k, hk, by rw [← hcong k hk]; exact e⟩
    · intro hi a b ha hb e
      exact h.inj hi a b ha hb (by rw [hcong a ha, hcong b hb]; exact e)
  · have g1 : Gr (fun k => k = qb ∨ v.ownBlock = some k) w w2 := hg2.mono fun k _ h => .inr h
    have g2 : Gr (fun k => k = qb ∨ v.ownBlock = some k) w2 w3 := hg3.mono fun k _ h => .inr h
    have g3 : Gr (fun k => k = qb ∨ v.ownBlock = some k) w3 w4 := hg4.mono fun k _ h => .inl h
    exact (g1.trans g2).trans g3
end Go.Proofs.Ytibfikadamfpdaa
