/-
  The document's machine: each plain instruction on its state.
-/
import Derived.Test.YtikgghioneiegaaRefE
namespace Go.Proofs.Ytikgghioneiegaa
open Go.RowKit
set_option linter.unusedVariables false

set_option maxRecDepth 100000 in
set_option maxHeartbeats 1600000 in
theorem rp_trap (w : World) (g : Nat) (n : Int) (a b c : Nat) (Q : World → Prop)
    (hC : Calls Try.prog 60 #[.pointer (some ⟨g, 0, none⟩), .int .i64 n] (w.alloc (.cells #[.int .i64 1, .int .i64 a, .int .i64 b, .int .i64 c, .int .i64 n] 52)) fun e w' => e = .returned (.tuple #[]) ∧ Q w') :
    Calls Try.prog 38 #[.pointer (some ⟨g, 0, none⟩), .agg #[.int .i64 1, .int .i64 a, .int .i64 b, .int .i64 c, .int .i64 n]] w fun e w' => e = .returned (.tuple #[]) ∧ Q w' := by
  have HC := Lib.hid hC
  clear hC
  go_enter Try.func38, Try.ntmps38
  go_wp2_with fail
  refine (HC.out).mono ?_
  rintro e w1 ⟨rfl, hq⟩
  have HQ := Lib.hid hq
  clear hq
  go_wp2
  first | go_end0 | refine bodyPost_ret (results_none rfl _ _ _) rfl ?_
  exact ⟨rfl, HQ.out⟩
section
variable {w w' : World} {B : Nat} {L : RLay} {cd bs : List Int} {s : St} {j : Nat} {iv ov : Value}
theorem RepR.alloc (h : RepR w B L cd bs s j iv ov) (o : Obj) : RepR (w.alloc o) B L cd bs s j iv ov :=
  h.next ((Fr.refl L.g L.mb none w).alloc o) (h.mach.alloc o) (h.mem.alloc o) rfl rfl h.innj h.jle h.k0
theorem PostR.new {s' : St} {w1 : World} (h : PostR B L cd bs iv ov w1 s' w') (f : Below w.heap.size w w1) (ho : ∀ k, ov.ownBlock = some k → k < w.heap.size) : PostR B L cd bs iv ov w s' w' := by
  obtain ⟨j', ov', h1, h2, h3⟩ := h
  refine ⟨j', ov', h1, ((Fr.one (g := L.g) (mb := L.mb) f).widen).trans h2, ?_⟩
  rcases h3 with h3 | h3
  · exact .inl h3
  · exact .inr fun k hk => Nat.le_trans f.size (h3 k hk)
theorem RepR.ob (h : RepR w B L cd bs s j iv ov) : ∀ k, ov.ownBlock = some k → k < w.heap.size := fun k hk => (h.out.lt k hk).2
theorem ro_1 (h : RepR w B L cd bs s j iv ov) (hc0 : s.code = 0) (a b c : Nat) (n : Int) : Calls Try.prog 38 #[.pointer (some ⟨L.g, 0, none⟩), .agg #[.int .i64 1, .int .i64 a, .int .i64 b, .int .i64 c, .int .i64 n]] w fun e w' => e = .returned (.tuple #[]) ∧ PostR B L cd bs iv ov w (resOf s (act s 1 a b c n)) w' := by
  have ha : resOf s (act s 1 a b c n) = { s with kind := (trapOf n).1, code := (trapOf n).2 } := rfl
  rw [ha]
  refine rp_trap w L.g n a b c _ ?_
  have h1 := h.alloc (.cells #[.int .i64 1, .int .i64 a, .int .i64 b, .int .i64 c, .int .i64 n] 52)
  have hb : Below w.heap.size w (w.alloc (.cells #[.int .i64 1, .int .i64 a, .int .i64 b, .int .i64 c, .int .i64 n] 52)) := (Below.refl _ w).alloc (Nat.le_refl _) _
  unfold trapOf
  by_cases c1 : 1 ≤ n ∧ n ≤ 999
  · rw [if_pos c1]
    refine (rtrap_code _ L.g _ h1.mach n c1.1 c1.2 _ _ rfl rfl).mono fun e w' ⟨he, hm, f⟩ => ⟨he, ?_⟩
    exact (h1.own_ (s' := { s with kind := 2, code := n }) f hm rfl rfl rfl (fun h => by cases h)).new hb h.ob
  · rw [if_neg c1]
    by_cases c2 : n = 1000
    · rw [if_pos c2]
      refine (rtrap_mem _ L.g _ h1.mach n c2 _ _ rfl rfl).mono fun e w' ⟨he, hm, f⟩ => ⟨he, ?_⟩
      rw [rcells_kind _ _ _ _ _ _ hc0, rcells_kind _ _ _ _ _ _ rfl] at hm
      exact (h1.own_ (s' := { s with kind := 3, code := 0 }) f hm rfl rfl rfl (fun h => by cases h)).new hb h.ob
    · rw [if_neg c2]
      by_cases c3 : n = 1001
      · rw [if_pos c3]
        refine (rtrap_stack _ L.g _ h1.mach n c3 _ _ rfl rfl).mono fun e w' ⟨he, hm, f⟩ => ⟨he, ?_⟩
        rw [rcells_kind _ _ _ _ _ _ hc0, rcells_kind _ _ _ _ _ _ rfl] at hm
        exact (h1.own_ (s' := { s with kind := 4, code := 0 }) f hm rfl rfl rfl (fun h => by cases h)).new hb h.ob
      · rw [if_neg c3]
        by_cases c4 : n < 1
        · refine (rtrap_low _ L.g _ h1.mach n c4 _ _ rfl rfl).mono fun e w' ⟨he, hm, f⟩ => ⟨he, ?_⟩
          rw [rcells_kind _ _ _ _ _ _ hc0] at hm
          exact (h1.own_ (s' := { s with kind := 5, code := 0 }) f hm rfl rfl rfl (fun h => by cases h)).new hb h.ob
        · refine (rtrap_high _ L.g _ h1.mach n (by omega) (by simpa using c2) (by simpa using c3) _ _ rfl rfl).mono fun e w' ⟨he, hm, f⟩ => ⟨he, ?_⟩
          rw [rcells_kind _ _ _ _ _ _ hc0] at hm
          exact (h1.own_ (s' := { s with kind := 5, code := 0 }) f hm rfl rfl rfl (fun h => by cases h)).new hb h.ob
/-- Any plain instruction. -/
theorem plain_any (h : RepR w B L cd bs s j iv ov) (hc0 : s.code = 0) (hk0 : s.kind = 0) (o : Int) (h0 : 0 ≤ o) (h15 : o ≤ 15) (a b c : Nat) (n : Int) (ha : a < 16) (hb : b < 16) :
    Calls Try.prog 38 #[.pointer (some ⟨L.g, 0, none⟩), .agg #[.int .i64 o, .int .i64 a, .int .i64 b, .int .i64 c, .int .i64 n]] w fun e w' => e = .returned (.tuple #[]) ∧ PostR B L cd bs iv ov w (resOf s (act s o a b c n)) w' := by
  have hB : ∀ o : Int, Below w.heap.size w (w.alloc (.cells #[.int .i64 o, .int .i64 a, .int .i64 b, .int .i64 c, .int .i64 n] 52)) := fun o => (Below.refl _ w).alloc (Nat.le_refl _) _
  have hs : o = 0 ∨ o = 1 ∨ o = 2 ∨ o = 3 ∨ o = 4 ∨ o = 5 ∨ o = 6 ∨ o = 7 ∨ o = 8 ∨ o = 9 ∨ o = 10 ∨ o = 11 ∨ o = 12 ∨ o = 13 ∨ o = 14 ∨ o = 15 := by omega
  rcases hs with rfl | rfl | rfl | rfl | rfl | rfl | rfl | rfl | rfl | rfl | rfl | rfl | rfl | rfl | rfl | rfl
  · exact ro_0 h hc0 hk0 a b c n ha hb
  · exact ro_1 h hc0 a b c n
  · exact ro_2 h hc0 hk0 a b c n ha hb
  · exact ro_3 h hc0 hk0 a b c n ha hb
  · exact ro_4 h hc0 hk0 a b c n ha hb
  · exact ro_5 h hc0 hk0 a b c n ha hb
  · exact ro_6 h hc0 hk0 a b c n ha hb
  · exact ro_7 h hc0 hk0 a b c n ha hb
  · exact ro_8 h hc0 hk0 a b c n ha hb
  · exact ro_9 h hc0 hk0 a b c n ha hb
  · refine rp_on w L.g 10 (by omega) (by omega) n a b c _ ((ro_10 (h.alloc _) hc0 hk0 a b c n ha hb).mono fun e w' ⟨he, hp⟩ => ⟨he, ?_⟩)
    exact ⟨rfl, hp.new (hB 10) h.ob⟩
  · refine rp_on w L.g 11 (by omega) (by omega) n a b c _ ((ro_11 (h.alloc _) hc0 hk0 a b c n ha hb).mono fun e w' ⟨he, hp⟩ => ⟨he, ?_⟩)
    exact ⟨rfl, hp.new (hB 11) h.ob⟩
  · refine rp_on w L.g 12 (by omega) (by omega) n a b c _ ((ro_12 (h.alloc _) hc0 hk0 a b c n ha hb).mono fun e w' ⟨he, hp⟩ => ⟨he, ?_⟩)
    exact ⟨rfl, hp.new (hB 12) h.ob⟩
  · refine rp_on w L.g 13 (by omega) (by omega) n a b c _ ((ro_13 (h.alloc _) hc0 hk0 a b c n ha hb).mono fun e w' ⟨he, hp⟩ => ⟨he, ?_⟩)
    exact ⟨rfl, hp.new (hB 13) h.ob⟩
  · refine rp_on w L.g 14 (by omega) (by omega) n a b c _ ((ro_14 (h.alloc _) hc0 hk0 a b c n ha hb).mono fun e w' ⟨he, hp⟩ => ⟨he, ?_⟩)
    exact ⟨rfl, hp.new (hB 14) h.ob⟩
  · refine rp_on w L.g 15 (by omega) (by omega) n a b c _ ((ro_15 (h.alloc _) hc0 hk0 a b c n ha hb).mono fun e w' ⟨he, hp⟩ => ⟨he, ?_⟩)
    exact ⟨rfl, hp.new (hB 15) h.ob⟩
end
end Go.Proofs.Ytikgghioneiegaa
