/-
  What a machine tells: a walk.
-/
import Derived.Test.YtikgghioneiegaaMachC
import Derived.Deep.RegionHeld3
import Derived.Deep.RegionLaw
import Derived.WalkSpells
import Derived.Laws.Pointers
import Derived.KernelRfl
namespace Go.Proofs.Ytikgghioneiegaa
open Go.RowKit
set_option linter.unusedVariables false

theorem own_shape {w : World} {base n size : Nat} {e : TypeId} {v : Value} {xs : List Value} (h : w.ownsRow base e size v n xs) : ∃ A c, v = .slice A n c := by
  rcases h.2 with ⟨rfl, rfl⟩ | ⟨g, cap, cur, rfl, _⟩
  · exact ⟨_, _, rfl⟩
  · exact ⟨_, _, rfl⟩
/-- An append as one step of a region that draws: the new slice spelled out. -/
theorem step_append_as {P : Program} (w : World) {ops : Array Oper} {o : Oper} {a : Act} {K : Act → World → Prop} {Q : Exit → Act → World → Prop} {E : Prop} (hgd : o.guard = none) (s x : Operand) (t : TypeId)
    (ho : o.op = .call { callee := .builtin .append, args := #[s, x], argTypes := #[t, t] })
    (base : Nat) (e : TypeId) (i : TypeInfo) (z : Value) (size bytes : Nat) (ht : P.underlying t = some (.slice e)) (hi : P.info? e = some i) (hz : i.zero = some z)
    (hsize : i.size = size) (hby : i.bytes = bytes) (hzs : z.cells.size = size) (hsz : 0 < size)
    (v : Value) (n : Nat) (xs : List Value) (hs : a.eval s = v) (hown : w.ownsRow base e size v n xs)
    (B : Nat) (A : Option Addr) (m c : Nat) (news : List Value) (hx : a.eval x = .slice A m c) (hr : Reads w B size A m news) (h1 : ∀ u ∈ news, u.oneCell' = true)
    (h63 : n + m ≤ maxLen) (hbytes : (n + m) * bytes ≤ 140737488355328) (hbase : base ≤ w.heap.size) (N : Nat) (hN : n + m = N)
    (h : ∀ A' c' w', w'.ownsRow base e size (.slice A' N c') N (xs ++ news) → w.grownBy w' v.ownBlock → ((Value.slice A' N c').ownBlock = v.ownBlock ∨ (Value.slice A' N c').ownBlock = some w.heap.size) → K (a.put o.dst (.slice A' N c')) w') :
    if Region.wanted o (yielded ops a.tmps) = true then Oper.wp P o a w K Q else E := by
  subst hN
  refine step_append_any w hgd s x t ho base e i z size bytes ht hi hz hsize hby hzs hsz v n xs hs hown B A m c news hx hr h1 h63 hbytes hbase ?_
  intro v' w' h2 h3 h4
  obtain ⟨A', c', rfl⟩ := own_shape h2
  exact h A' c' w' h2 h3 h4

theorem own_mono {w : World} {base base' n size : Nat} {e : TypeId} {v : Value} {xs : List Value} (h : w.ownsRow base e size v n xs) (hb : base' ≤ base) : w.ownsRow base' e size v n xs := by
  refine ⟨h.1, ?_⟩
  rcases h.2 with h2 | ⟨g, cap, cur, hv, hg, r⟩
  · exact .inl h2
  · exact .inr ⟨g, cap, cur, hv, Nat.le_trans hb hg, r⟩
theorem outcome_end {w W w1 : World} {v : Value} {n : Nat} {xs : List Value} (kB : Below w.heap.size w W) (kS : w.heap.size + 1 ≤ W.heap.size) (hg : W.drew.grownBy w1 (Value.slice none 0 0).ownBlock) (ho : w1.ownsRow (w.heap.size + 1) 5 1 v n ([] ++ xs)) (a b c d : Value) :
    ((((w1.setCell ⟨w.heap.size, 0, none⟩ a).setCell ⟨w.heap.size, 1, none⟩ b).setCell ⟨w.heap.size, 2, none⟩ c).setCell ⟨w.heap.size, 3, none⟩ d).ownsRow w.heap.size 5 1 v n xs ∧
    Below w.heap.size w ((((w1.setCell ⟨w.heap.size, 0, none⟩ a).setCell ⟨w.heap.size, 1, none⟩ b).setCell ⟨w.heap.size, 2, none⟩ c).setCell ⟨w.heap.size, 3, none⟩ d) := by
  constructor
  · refine own_mono (base := w.heap.size + 1) ?_ (by omega)
    rw [List.nil_append] at ho
    exact ownsRow_setCell_below (ownsRow_setCell_below (ownsRow_setCell_below (ownsRow_setCell_below ho (by simp) _) (by simp) _) (by simp) _) (by simp) _
  · have h1 : Below w.heap.size w w1 := (Below.drew kB).grown hg kB.size (by simp [Value.ownBlock])
    exact (((h1.setCell (p := ⟨w.heap.size, 0, none⟩) (Nat.le_refl _) _).setCell (p := ⟨w.heap.size, 1, none⟩) (Nat.le_refl _) _).setCell (p := ⟨w.heap.size, 2, none⟩) (Nat.le_refl _) _).setCell (p := ⟨w.heap.size, 3, none⟩) (Nat.le_refl _) _

theorem byte_info : (Try.prog.info? 5).map (fun i => (i.zero, i.size, i.bytes)) = some (some (.int .u8 0), 1, 1) := by kernel_rfl

set_option maxRecDepth 100000 in
set_option maxHeartbeats 3200000 in
theorem outcome_any (w : World) (g : Nat) (cs : Array Value) (hb : Blk w g 62 cs) (k c st : Int) (A : Option Addr) (B n cp : Nat) (xs : List Value)
    (hk : cs[22]? = some (.int .i64 k)) (hc : cs[23]? = some (.int .i64 c)) (hs : cs[24]? = some (.int .i64 st)) (ho : cs[21]? = some (.slice A n cp)) (hr : Reads w B 1 A n xs) (hB : B ≤ w.heap.size) (h1 : ∀ u ∈ xs, u.oneCell' = true) (hn : n ≤ 4096) :
    Calls Try.prog 22 #[.pointer (some ⟨g, 0, none⟩)] w fun e w' => ∃ v', e = .returned (.agg #[.int .i64 k, .int .i64 c, v', .int .i64 st]) ∧
      w'.ownsRow w.heap.size 5 1 v' n xs ∧ Below w.heap.size w w' := by
  obtain ⟨i0, hi0, hz0, hz1, hz2⟩ := info_parts byte_info
  have lg := hb.lt
  go_enter Try.func22, Try.ntmps22
  go_wp2
  generalize hW : World.alloc _ _ = W
  have kb : Blk W g 62 cs := by rw [← hW]; exact hb.alloc _
  have kr : Blk W w.heap.size 29 #[.int .i64 0, .int .i64 0, .slice none 0 0, .int .i64 0] := by rw [← hW]; exact Blk.new w _ _
  have kB : Below w.heap.size w W := by rw [← hW]; exact (Below.refl _ w).alloc (Nat.le_refl _) _
  have kR : Reads W B 1 A n xs := by rw [← hW]; exact hr.alloc hB _
  have kS : w.heap.size + 1 ≤ W.heap.size := by rw [← hW]; simp
  have q1 : W.cell? ⟨g, 22, none⟩ = some (.int .i64 k) := kb.get hk
  have q2 : W.cell? ⟨g, 23, none⟩ = some (.int .i64 c) := kb.get hc
  have q3 : W.cell? ⟨g, 21, none⟩ = some (.slice A n cp) := kb.get ho
  have q4 : W.cell? ⟨g, 24, none⟩ = some (.int .i64 st) := kb.get hs
  clear hW hb hr
  go_region_law ((refine step_append_as W.drew (by rfl) _ _ _ (by rfl) (w.heap.size + 1) 5 i0 _ 1 1 Try.underlying25 hi0 hz0 hz1 hz2 rfl (by omega) (.slice none 0 0) 0 [] (by rfl) ⟨by simp, .inl ⟨rfl, rfl⟩⟩ B A n cp xs (by rfl) kR.drew h1 (by simp only [maxLen]; omega) (by omega) kS n (by omega) ?_; intro A1 c1 w1 hown1 hgrow hat; have j1 : w1.cell? ⟨g, 22, none⟩ = some (.int .i64 k) := (kb.drew.grown hgrow (by simp [Value.ownBlock])).get hk; have j2 : w1.cell? ⟨g, 23, none⟩ = some (.int .i64 c) := (kb.drew.grown hgrow (by simp [Value.ownBlock])).get hc; have j3 : w1.cell? ⟨g, 24, none⟩ = some (.int .i64 st) := (kb.drew.grown hgrow (by simp [Value.ownBlock])).get hs; have jr : Blk w1 w.heap.size 29 _ := kr.drew.grown hgrow (by simp [Value.ownBlock]); have r0 := jr.get (i := 0) rfl; have r1 := jr.get (i := 1) rfl; have r2 := jr.get (i := 2) rfl; have r3 := jr.get (i := 3) rfl; have f0 := jr.frozen 0; have f1 := jr.frozen 1; have f2 := jr.frozen 2; have f3 := jr.frozen 3))
  all_goals
    clear q1 q2 q3 q4 j1 j2 j3 hk hc hs ho kb kr kR h1
    go_wp2
    exact bodyPost_ret (v := .agg #[.int .i64 k, .int .i64 c, .slice A1 n c1, .int .i64 st]) (by simp [results, Try.results22, go_sem, r0, r1, r2, r3]) rfl ⟨_, rfl, outcome_end kB kS hgrow hown1 _ _ _ _⟩
end Go.Proofs.Ytikgghioneiegaa
