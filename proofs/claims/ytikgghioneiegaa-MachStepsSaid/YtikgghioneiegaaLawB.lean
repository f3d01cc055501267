/-
  Outcomes compared; what is too much to be played; the document's example.
-/
import Derived.Test.YtikgghioneiegaaLawA
import Derived.Laws.BytesArg
namespace Go.Proofs.Ytikgghioneiegaa
open Go.RowKit
set_option linter.unusedVariables false

theorem conv_own {w : World} {base n c : Nat} {A : Option Addr} {xs : List Int} (h : w.ownsRow base 5 1 (.slice A n c) n (xs.map (Value.int .u8))) :
    (convert 25 9 (.slice A n c)).run Try.prog w = .ok (.string (strOfNums xs)) w := by
  have hl : xs.length = n := by have := h.1; simpa using this
  rcases h.2 with ⟨e1, e2⟩ | ⟨g, cap, cur, e1, hb, hg, hn, hm, hs, ht⟩
  · injection e1 with e3 e4 e5
    subst e3
    have : xs = [] := List.eq_nil_of_length_eq_zero (by omega)
    subst this
    exact run_convert_bytes_nil w 25 5 Try.underlying25 Try.underlying5 n c 9 Try.underlying9
  · injection e1 with e3 e4 e5
    subst e3
    refine run_convert_bytes_arg w 25 5 Try.underlying25 Try.underlying5 g 0 n c xs hl (fun i hi => ?_) 9 Try.underlying9
    have hx : i < xs.length := by omega
    have q := h.cells (g := g) rfl i (.int .u8 (xs.getD i 0)) (by simp [hx])
    rw [show (⟨g, 0, none⟩ : Addr).add i = ⟨g, 0 + i, none⟩ from Addr.add_lit g 0 i] at q
    exact q
def ocV (o : Oc) (A : Option Addr) (c : Nat) : Value := .agg #[.int .i64 o.kind, .int .i64 o.code, .slice A o.out.length c, .int .i64 o.steps]
theorem alike_yes (w : World) (b1 b2 : Nat) (k c s1 s2 : Int) (n : Nat) (xs : List Int) (A1 A2 : Option Addr) (c1 c2 : Nat) (h1 : w.ownsRow b1 5 1 (.slice A1 n c1) n (xs.map (Value.int .u8))) (h2 : w.ownsRow b2 5 1 (.slice A2 n c2) n (xs.map (Value.int .u8))) :
    Calls Try.prog 30 #[.agg #[.int .i64 k, .int .i64 c, .slice A1 n c1, .int .i64 s1], .agg #[.int .i64 k, .int .i64 c, .slice A2 n c2, .int .i64 s2]] w fun e w' => e = .returned (.bool true) ∧ Below w.heap.size w w' := by
  have r1 := conv_own ((h1.alloc (.cells #[.int .i64 k, .int .i64 c, .slice A1 n c1, .int .i64 s1] 29)).alloc (.cells #[.int .i64 k, .int .i64 c, .slice A2 n c2, .int .i64 s2] 29))
  have r2 := conv_own ((h2.alloc (.cells #[.int .i64 k, .int .i64 c, .slice A1 n c1, .int .i64 s1] 29)).alloc (.cells #[.int .i64 k, .int .i64 c, .slice A2 n c2, .int .i64 s2] 29))
  clear h1 h2
  go_enter Try.func30, Try.ntmps30
  go_wp2
  go_ret
  exact ⟨rfl, ((Below.refl _ w).alloc (Nat.le_refl _) _).alloc (by simp) _⟩
theorem same_yes (w : World) (b1 b2 : Nat) (o : Oc) (A1 A2 : Option Addr) (c1 c2 : Nat) (h1 : w.ownsRow b1 5 1 (.slice A1 o.out.length c1) o.out.length (o.out.map (Value.int .u8))) (h2 : w.ownsRow b2 5 1 (.slice A2 o.out.length c2) o.out.length (o.out.map (Value.int .u8))) :
    Calls Try.prog 15 #[.agg #[.int .i64 o.kind, .int .i64 o.code, .slice A1 o.out.length c1, .int .i64 o.steps], .agg #[.int .i64 o.kind, .int .i64 o.code, .slice A2 o.out.length c2, .int .i64 o.steps]] w fun e w' => e = .returned (.bool true) ∧ Below w.heap.size w w' := by
  have H1 := Lib.hid h1
  have H2 := Lib.hid h2
  clear h1 h2
  obtain ⟨k, c, xs, s⟩ := o
  go_enter Try.func15, Try.ntmps15
  go_wp2_with fail
  refine (alike_yes _ b1 b2 k c s s xs.length xs A1 A2 c1 c2 ((H1.out.alloc _).alloc _) ((H2.out.alloc _).alloc _)).mono ?_
  rintro e w1 ⟨rfl, hb⟩
  have hB := below_next' (((Below.refl _ w).alloc (Nat.le_refl _) _).alloc (by simp) _) hb
  go_wp2
  go_ret
  exact ⟨rfl, hB⟩
theorem num_any (x : Int) (w : World) : Calls Try.prog 19 #[.int .i64 x] w fun e w' => e = .returned (.int .i64 x) ∧ w = w' := by
  go_enter Try.func19, Try.ntmps19
  go_wp2
  go_ret
  exact ⟨rfl, rfl⟩
/-- What is too much to be played. -/
def hvy (N M I : Nat) (q fuel : Int) : Bool := decide (2000 < N ∨ 2000 < M ∨ 5000 < q ∨ 100 < I ∨ 3000 < fuel)
theorem heavy_any (w : World) (CA DA IA : Option Addr) (N M I c0 c1 c2 : Nat) (E q fuel : Int) :
    Calls Try.prog 12 #[.agg #[.slice CA N c0, .slice DA M c1, .int .i64 E], .int .i64 q, .slice IA I c2, .int .i64 fuel] w fun e w' => e = .returned (.bool (hvy N M I q fuel)) ∧ Below w.heap.size w w' := by
  have key : ∀ b : Bool, hvy N M I q fuel = b → Calls Try.prog 12 #[.agg #[.slice CA N c0, .slice DA M c1, .int .i64 E], .int .i64 q, .slice IA I c2, .int .i64 fuel] w fun e w' => e = .returned (.bool b) ∧ Below w.heap.size w w' := by
    intro b hb
    unfold hvy at hb
    by_cases h0 : 2000 < N
    · obtain rfl : b = true := by rw [← hb]; simp [h0]
      have d0 : decide ((2000 : Int) < (N : Int)) = true := by simp; omega
      clear hb
      go_enter Try.func12, Try.ntmps12
      go_wp2
      go_ret
      exact ⟨rfl, (Below.refl _ w).alloc (Nat.le_refl _) _⟩
    have d0 : decide ((2000 : Int) < (N : Int)) = false := by simp; omega
    by_cases h1 : 2000 < M
    · obtain rfl : b = true := by rw [← hb]; simp [h1]
      have d1 : decide ((2000 : Int) < (M : Int)) = true := by simp; omega
      clear hb
      go_enter Try.func12, Try.ntmps12
      go_wp2
      go_ret
      exact ⟨rfl, (Below.refl _ w).alloc (Nat.le_refl _) _⟩
    have d1 : decide ((2000 : Int) < (M : Int)) = false := by simp; omega
    by_cases h2 : 5000 < q
    · obtain rfl : b = true := by rw [← hb]; simp [h2]
      have d2 : decide ((5000 : Int) < q) = true := by simpa using h2
      clear hb
      go_enter Try.func12, Try.ntmps12
      go_wp2
      go_ret
      exact ⟨rfl, (Below.refl _ w).alloc (Nat.le_refl _) _⟩
    have d2 : decide ((5000 : Int) < q) = false := by simpa using h2
    by_cases h3 : 100 < I
    · obtain rfl : b = true := by rw [← hb]; simp [h3]
      have d3 : decide ((100 : Int) < (I : Int)) = true := by simp; omega
      clear hb
      go_enter Try.func12, Try.ntmps12
      go_wp2
      go_ret
      exact ⟨rfl, (Below.refl _ w).alloc (Nat.le_refl _) _⟩
    have d3 : decide ((100 : Int) < (I : Int)) = false := by simp; omega
    by_cases h4 : 3000 < fuel
    · obtain rfl : b = true := by rw [← hb]; simp [h4]
      have d4 : decide ((3000 : Int) < fuel) = true := by simpa using h4
      clear hb
      go_enter Try.func12, Try.ntmps12
      go_wp2
      go_ret
      exact ⟨rfl, (Below.refl _ w).alloc (Nat.le_refl _) _⟩
    have d4 : decide ((3000 : Int) < fuel) = false := by simpa using h4
    obtain rfl : b = false := by rw [← hb]; simp [h0, h1, h2, h3, h4]
    clear hb
    go_enter Try.func12, Try.ntmps12
    go_wp2
    go_ret
    exact ⟨rfl, (Below.refl _ w).alloc (Nat.le_refl _) _⟩
  exact key _ rfl
end Go.Proofs.Ytikgghioneiegaa
