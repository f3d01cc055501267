/-
  The document's machine: a byte written; what is no plain instruction.
-/
import Derived.Test.YtikgghioneiegaaRefB
import Derived.Test.YtikgghioneiegaaMachI
namespace Go.Proofs.Ytikgghioneiegaa
open Go.RowKit
set_option linter.unusedVariables false

set_option maxRecDepth 100000 in
set_option maxHeartbeats 3200000 in
theorem rc_write (w : World) (g : Nat) (cs : Array Value) (hb : Blk w g 38 cs) (n : Int) (a b c : Nat) (ha : a < 16) (x : Int) (hca : cs[2 + a]? = some (.int .i64 x))
    (base : Nat) (A : Option Addr) (l c2 : Nat) (xs : List Value) (hco : cs[23]? = some (.slice A l c2)) (hown : w.ownsRow base 5 1 (.slice A l c2) l xs) (hl : l < 4096) (hbase : base ≤ w.heap.size) :
    Calls Try.prog 62 #[.pointer (some ⟨g, 0, none⟩), .agg #[.int .i64 14, .int .i64 a, .int .i64 b, .int .i64 c, .int .i64 n]] w fun e w' => e = .returned (.tuple #[]) ∧ ∃ A' c',
      Blk w' g 38 (cs.setIfInBounds 23 (.slice A' (l + 1) c')) ∧ w'.ownsRow base 5 1 (.slice A' (l + 1) c') (l + 1) (xs ++ [.int .u8 (x % 256)]) ∧ Fr g g (Value.slice A l c2).ownBlock w w' ∧
      ((Value.slice A' (l + 1) c').ownBlock = (Value.slice A l c2).ownBlock ∨ ∀ k, (Value.slice A' (l + 1) c').ownBlock = some k → w.heap.size ≤ k) := by
  obtain ⟨i0, hi0, hz0, hz1, hz2⟩ := info_parts byte_info
  have hlt := hb.lt
  have hl1 : (l : Int) < 4096 := by omega
  have z1 : w.cell? ⟨g, 23, none⟩ = some (.slice A l c2) := hb.get hco
  go_enter Try.func62, Try.ntmps62
  go_wp2
  clear z1
  generalize hW : World.alloc _ _ = W
  have kb : Blk W g 38 cs := by rw [← hW]; exact hb.alloc _
  have kc : Blk W w.heap.size 52 (instC 14 a b c n) := by rw [← hW]; exact Blk.new w _ _
  have kF : Fr g g (Value.slice A l c2).ownBlock w W := by rw [← hW]; exact (Fr.refl _ _ _ w).alloc _
  have ko : W.ownsRow base 5 1 (.slice A l c2) l xs := by rw [← hW]; exact hown.alloc _
  have kS : w.heap.size + 1 = W.heap.size := by rw [← hW]; simp
  have kg : (Value.slice A l c2).ownBlock ≠ some g := own_blk_ne ko kb (by decide)
  have q1 : W.cell? ⟨g, 23, none⟩ = some (.slice A l c2) := kb.get hco
  have q2 : W.cell? ⟨g, 2 + a, none⟩ = some (.int .i64 x) := kb.get hca
  have q3 : W.cell? ⟨w.heap.size, 1, none⟩ = some (.int .i64 a) := kc.get (i := 1) rfl
  have lg : g < W.heap.size := kb.lt
  have lx : w.heap.size < W.heap.size := kc.lt
  have a1 : (a : Int) < 16 := by omega
  clear hW hb hown kc
  go_region_law ((refine step_append_as (W.drew.alloc (.cells #[.int .u8 (x % 256)] 5)) (by rfl) _ _ _ (by rfl) base 5 i0 _ 1 1 Try.underlying25 hi0 hz0 hz1 hz2 rfl (by omega) (.slice A l c2) l xs (by rfl) (ko.drew.alloc _) (W.heap.size + 1) (some ⟨W.heap.size, 0, none⟩) 1 1 [.int .u8 (x % 256)] (by rfl) ⟨rfl, fun _ => ⟨_, rfl, by simp, World.news_of_block (cs := #[.int .u8 (x % 256)]) (t := 5) (fr := (0, 0)) (heap_alloc_new W.drew _)⟩⟩ (by simp [Value.oneCell']) (by simp only [maxLen]; omega) (by omega) (by simp; omega) (l + 1) (by omega) ?_; intro A1 c1 w1 hown1 hgrow hat; have jb : Blk w1 g 38 cs := (kb.drew.alloc _).grown hgrow (Ne.symm kg); have j1 := jb.get hco; have jf := jb.frozen 23))
  all_goals
    go_end0
    refine ⟨rfl, A1, c1, jb.set_ 23 _, own_set (p := ⟨g, 23, none⟩) hown1 (own_blk_ne hown1 jb (by decide)) _, ((kF.drew.alloc _).grown hgrow).set_ (.inl rfl) _, ?_⟩
    rcases hat with h | h
    · exact .inl h
    · refine .inr fun k hk => ?_
      rw [h] at hk
      simp at hk
      omega

set_option maxRecDepth 100000 in
set_option maxHeartbeats 1600000 in
theorem rc_write_full (w : World) (g : Nat) (cs : Array Value) (hb : Blk w g 38 cs) (n : Int) (a b c : Nat) (A : Option Addr) (l c2 : Nat) (hco : cs[23]? = some (.slice A l c2)) (hl : 4096 ≤ l) :
    Calls Try.prog 62 #[.pointer (some ⟨g, 0, none⟩), .agg #[.int .i64 14, .int .i64 a, .int .i64 b, .int .i64 c, .int .i64 n]] w fun e w' => e = .returned (.tuple #[]) ∧ Below w.heap.size w w' := by
  have hlt := hb.lt
  have d1 : decide ((l : Int) < 4096) = false := by simp; omega
  have z1 : w.cell? ⟨g, 23, none⟩ = some (.slice A l c2) := hb.get hco
  go_enter Try.func62, Try.ntmps62
  go_wp2
  go_end0
  exact ⟨rfl, (Below.refl _ w).alloc (Nat.le_refl _) _⟩
set_option maxRecDepth 100000 in
set_option maxHeartbeats 1600000 in
/-- What is no plain instruction goes on. -/
theorem rp_on (w : World) (g : Nat) (i : Nat) (h10 : 10 ≤ i) (h15 : i ≤ 15) (n : Int) (a b c : Nat) (Q : Ending → World → Prop)
    (hC : Calls Try.prog 62 #[.pointer (some ⟨g, 0, none⟩), .agg #[.int .i64 (i : Int), .int .i64 a, .int .i64 b, .int .i64 c, .int .i64 n]] (w.alloc (.cells #[.int .i64 (i : Int), .int .i64 a, .int .i64 b, .int .i64 c, .int .i64 n] 52)) fun e w' => e = .returned (.tuple #[]) ∧ Q (.returned (.tuple #[])) w') :
    Calls Try.prog 38 #[.pointer (some ⟨g, 0, none⟩), .agg #[.int .i64 (i : Int), .int .i64 a, .int .i64 b, .int .i64 c, .int .i64 n]] w Q := by
  have HC := Lib.hid hC
  have e0 : ((i : Int) == 0) = false := by simp; omega
  have e1 : ((i : Int) == 1) = false := by simp; omega
  have e2 : ((i : Int) == 2) = false := by simp; omega
  have e3 : ((i : Int) == 3) = false := by simp; omega
  have e4 : ((i : Int) == 4) = false := by simp; omega
  have e5 : ((i : Int) == 5) = false := by simp; omega
  have e6 : ((i : Int) == 6) = false := by simp; omega
  have e7 : ((i : Int) == 7) = false := by simp; omega
  have e8 : ((i : Int) == 8) = false := by simp; omega
  have e9 : ((i : Int) == 9) = false := by simp; omega
  clear hC
  go_enter Try.func38, Try.ntmps38
  go_wp2_with fail
  refine (HC.out).mono ?_
  rintro e w1 ⟨rfl, hq⟩
  have HQ := Lib.hid hq
  clear hq
  go_wp2
  first | go_end0 | refine bodyPost_ret (results_none rfl _ _ _) rfl ?_
  exact HQ.out
end Go.Proofs.Ytikgghioneiegaa
