/-
  slices.Backward: a walk.
-/
import Derived.RangeFuncNested
import Derived.RangeFuncBound
import Derived.RangeFuncCalls
import Derived.RangeFuncLeaves
import Derived.Shelf.Abstract
import Derived.Shelf.RegionOpen
import Derived.WalkKit
import Derived.OwnWalkIn
import Derived.TacticsInMore
import Derived.LoopNIn
import Derived.LoopIn
import Derived.Test.YtibfikadamfpdaaRe
namespace Go.Proofs.Ytibfikadamfpdaa
open Go.RowKit Go.Shelf
set_option linter.unusedVariables false
set_option linter.unusedSimpArgs false

attribute [local go_sem] Oper.semAt_some

/-- A place and a number below n. -/
abbrev It (n : Nat) := { x : Nat × Nat // x.2 < n }
def encI {n : Nat} (x : It n) : Array Value := #[.int .i64 (x.1.1 : Int), .int .i64 (x.1.2 : Int)]
def itemN {n : Nat} (h0 : 0 < n) (L : List Nat) (k : Nat) : It n := ⟨(k, if fl L k < n then fl L k else 0), by
  show (if fl L k < n then fl L k else 0) < n
  split <;> omega⟩
theorem item_2 {n : Nat} (h0 : 0 < n) {L : List Nat} {k : Nat} (h : fl L k < n) : (itemN h0 L k).1.2 = fl L k := if_pos h
/-- What has come when k rounds are over. -/
def backN {n : Nat} (h0 : 0 < n) (L : List Nat) (k : Nat) : List (It n) := (List.range k).map fun q => itemN h0 L (L.length - 1 - q)
theorem backN_succ {n : Nat} (h0 : 0 < n) (L : List Nat) (k : Nat) : backN h0 L (k + 1) = backN h0 L k ++ [itemN h0 L (L.length - 1 - k)] := by simp [backN, List.range_succ]
theorem backN_length {n : Nat} (h0 : 0 < n) (L : List Nat) (k : Nat) : (backN h0 L k).length = k := by simp [backN]
set_option maxRecDepth 100000 in
set_option maxHeartbeats 2000000 in
theorem back1_in (F : Fence) (n : Nat) (h7 : F.fn 34) (hro : F.round = none) (hn : 1 ≤ n) (l Bs b off cap : Nat) (S : Nat → Prop) (hSb : ¬ S b) (hSB : ¬ S Bs) {N : Nat} (h0 : 0 < N) (L : List Nat) (hL : ∀ x ∈ L, x < N) (hlen : L.length ≤ 1000) (J Jx : List (It N) → World → Prop)
    (hY : ∀ pre x W, J pre W → pre.length < L.length → YieldAt F (n - 1) Try.prog l (encI x) W fun e W' =>
      (e = .returned (.bool true) ∧ J (pre ++ [x]) W' ∧ Gr S W W') ∨ (e = .returned (.bool false) ∧ Jx (pre ++ [x]) W'))
    (W : World) (hBs : W.cell? ⟨Bs, 0, none⟩ = some (.slice (some ⟨b, off, none⟩) L.length cap)) (hc : ∀ j, j < L.length → W.cell? ⟨b, off + j, none⟩ = some (.int .i64 (fl L j : Int))) (hst : J [] W) :
    CallsIn F n Try.prog 34 #[.func (.yield l) #[] #[], .pointer (some ⟨Bs, 0, none⟩)] W fun e W' => (∃ v, e = .returned v) ∧
      ((∃ ys, ys = backN h0 L L.length ∧ J ys W') ∨ (∃ pre, True ∧ Jx pre W')) := by
  have l1 : (L.length : Int) ≤ 1000 := by omega
  have HC := Lib.hid hc
  have HB := Lib.hid hBs
  have HL := Lib.hid hL
  clear hc hL
  refine callsIn_of_wp Try.func34 rfl h7 ?_ hro
  simp only [Try.ntmps34, List.size_toArray, List.length_cons, List.length_nil, Nat.reduceAdd, Nat.reduceSub, Array.replicate_succ, Array.replicate_zero, List.push_toArray, List.append_toArray, List.nil_append, List.cons_append]
  gi_wp2
  clear hBs
  gi_loopw [3] (fun v3 wr => ∃ m k : Nat, k + m = L.length ∧ v3 = .int .i64 ((m : Int) - 1) ∧ J (backN h0 L k) wr ∧ Gr S W wr) (fun v3 _ => (intOf v3 + 1).toNat)
  case atStart => exact ⟨L.length, 0, by omega, rfl, hst, Gr.refl _⟩
  case round =>
    obtain ⟨m, k, hkm, rfl, hJs, hnx⟩ := hrel
    cases m with
    | zero =>
      have hk : k = L.length := by omega
      rw [hk] at hJs
      have e1 : (((0 : Nat) : Int) - 1) = -1 := by omega
      rw [e1]
      clear hk hkm e1
      gi_wp2
      go_end0
      exact ⟨⟨_, rfl⟩, .inl ⟨_, rfl, hJs⟩⟩
    | succ p =>
      have hpl : p < L.length := by omega
      have e1 : (((p + 1 : Nat) : Int) - 1) = (p : Int) := by omega
      rw [e1]
      have hpk : L.length - 1 - k = p := by omega
      obtain ⟨fn, tmps, assign, body, hy, hR⟩ := hY _ (itemN h0 L p) wr hJs (by rw [backN_length]; omega)
      have hxN : fl L p < N := HL.out _ (List.mem_of_getElem? (fl_get hpl))
      have hz1 := World.block_lt_of_cell? W _ HB.out
      have hz2 := World.block_lt_of_cell? W _ (HC.out p hpl)
      have hb1 := (hnx.cell (p := ⟨Bs, 0, none⟩) hz1 hSB).trans HB.out
      have hb2 := (hnx.cell (p := ⟨b, off + p, none⟩) hz2 hSb).trans (HC.out p hpl)
      have hen : encI (itemN h0 L p) = #[.int .i64 (p : Int), .int .i64 (fl L p : Int)] := by
        unfold encI
        rw [item_2 h0 hxN]
        rfl
      rw [hen] at hy
      have p0 : (0 : Int) ≤ (p : Int) := by omega
      have p1 : (p : Int) < (L.length : Int) := by omega
      have HX := Lib.hid hpk
      have HKM := Lib.hid hkm
      have HNX := Lib.hid hnx
      clear hen e1 hpk hkm hxN hJs hnx hz1 hz2
      gi_wp2
      refine hR.mono ?_
      rintro e W3 (⟨rfl, hJ3, hk3⟩ | ⟨rfl, hJx3⟩)
      · gi_wp2
        go_roundw
        case rel => exact ⟨p, k + 1, by have := HKM.out; omega, rfl, by rw [backN_succ, HX.out]; exact hJ3, HNX.out.trans hk3⟩
        case measure => first | (simp [intOf]; done) | (simp [intOf]; omega)
      · gi_wp2
        refine bodyPost_ret (results_none rfl _ _ _) rfl ?_
        exact ⟨⟨_, rfl⟩, .inr ⟨_, trivial, hJx3⟩⟩
set_option maxRecDepth 100000 in
set_option maxHeartbeats 1000000 in
theorem back1_nil_in (F : Fence) (n : Nat) (h7 : F.fn 34) (hro : F.round = none) (l Bs cap : Nat) (A : Option Addr) {α : Type} (J : List α → World → Prop) (W : World) (hBs : W.cell? ⟨Bs, 0, none⟩ = some (.slice A 0 cap)) (hst : J [] W) :
    CallsIn F n Try.prog 34 #[.func (.yield l) #[] #[], .pointer (some ⟨Bs, 0, none⟩)] W fun e W' => (∃ v, e = .returned v) ∧ J [] W' := by
  refine callsIn_of_wp Try.func34 rfl h7 ?_ hro
  simp only [Try.ntmps34, List.size_toArray, List.length_cons, List.length_nil, Nat.reduceAdd, Nat.reduceSub, Array.replicate_succ, Array.replicate_zero, List.push_toArray, List.append_toArray, List.nil_append, List.cons_append]
  gi_wp2
  gi_loopw [3] (fun i wr => i = .int .i64 (-1) ∧ J [] wr) (fun _ _ => 0)
  case atStart => exact ⟨rfl, hst⟩
  case round =>
    obtain ⟨rfl, hJs⟩ := hrel
    gi_wp2
    go_end0
    exact ⟨⟨_, rfl⟩, hJs⟩
set_option maxHeartbeats 1000000 in
theorem backward_in (F : Fence) (n : Nat) (h5 : F.fn 26) (hro : F.round = none) (a : Option Addr) (len cap : Nat) (w : World) :
    CallsIn F n Try.prog 26 #[.slice a len cap] w fun e w' => e = .returned (.func (.func 34) #[] #[.pointer (some ⟨w.heap.size, 0, none⟩)]) ∧ w' = w.alloc (.cells #[.slice a len cap] 26) := by
  refine callsIn_of_wp Try.func26 rfl h5 ?_ hro
  simp only [Try.ntmps26, List.size_toArray, List.length_cons, List.length_nil, Nat.reduceAdd, Nat.reduceSub, Array.replicate_succ, Array.replicate_zero, List.push_toArray, List.append_toArray, List.nil_append, List.cons_append]
  gi_wp2
  go_ret
  exact ⟨rfl, rfl⟩
/-- What Backward hands back goes through a slice from its end. -/
theorem back_stops (F : Fence) (n : Nat) (h7 : F.fn 34) (hro : F.round = none) (hn : 1 ≤ n) (Bs cap : Nat) (S : Nat → Prop) {N : Nat} (h0 : 0 < N) (L : List Nat) (hL : ∀ x ∈ L, x < N) (hlen : L.length ≤ 1000) (w : World) (A : Option Addr)
    (hBs : w.cell? ⟨Bs, 0, none⟩ = some (.slice A L.length cap)) (hSB : ¬ S Bs) (hl : SlV w w.heap.size A (ints L)) (hSb : ∀ g o, A = some ⟨g, o, none⟩ → ¬ S g) :
    SeqStopsK F n Try.prog 34 #[.pointer (some ⟨Bs, 0, none⟩)] (encI (n := N)) (Gr S) (fun ys => ys = backN h0 L L.length) (fun _ => True) L.length w := fun l J Jx W hW _ _ hY hst => by
  have hc' := (hW.cell (p := ⟨Bs, 0, none⟩) (World.block_lt_of_cell? w _ hBs)).trans hBs
  by_cases hz : L.length = 0
  · have hz2 := List.eq_nil_of_length_eq_zero hz
    rw [hz] at hc'
    refine (back1_nil_in F n h7 hro l Bs cap A J W hc' hst).mono fun e W' ⟨he, hj⟩ => ⟨he, .inl ⟨_, ?_, hj⟩⟩
    rw [hz2]; rfl
  · have hl2 := hl.below hW
    obtain ⟨b, off, rfl, hb, hcs⟩ := hl2 (by rw [ints_length]; omega)
    exact back1_in F n h7 hro hn l Bs b off cap S (hSb _ _ rfl) hSB h0 L hL hlen J Jx hY W hc' (fun j hj => hcs j _ (ints_get hj)) hst
end Go.Proofs.Ytibfikadamfpdaa
