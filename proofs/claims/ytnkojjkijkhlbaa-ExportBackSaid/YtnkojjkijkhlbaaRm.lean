/-
  ExportReads: any bytes are those of the unit that they are read as, or are refused: walks.
-/
import Derived.Test.YtnkojjkijkhlbaaRl
import Derived.Test.YtnkojjkijkhlbaaRow8
namespace Go.Proofs.Ytnkojjkijkhlbaa
open Go.ChangeShapes Go.WideShapes Go.ChangeAt Go.RowKit
set_option linter.unusedVariables false
set_option linter.unusedSimpArgs false

section
variable {H : Type} {enc : TypeId × Value → H} {w : World} {held : Bool}
set_option maxRecDepth 100000 in
theorem open_bytesc {r : Reach} {b0 : Nat} {v : Value} {d : DataW H} {p : List MemPlace} (hv : Value.okWide Try.prog w r b0 29 v) (h : DataW.Trod enc Try.prog w 0 (fun _ => true) held 29 v d p) :
    ∃ (A : Option Addr) (l : List Int) (c : Nat), v = .slice A l.length c ∧ SlB w w.heap.size A l ∧ l.length ≤ c ∧ (A = none → c = 0) := by
  obtain ⟨A, l, c, e, hs⟩ := open_bytesv hv h
  obtain ⟨fuel, hf⟩ := h
  refine ⟨A, l, c, e, hs, ?_⟩
  rcases open_ints Try.underlying29 Try.underlying5 (by kernel_rfl) hf with ⟨e1, _⟩ | ⟨a, len, cap, zs, e1, _, hl, _⟩
  · subst e
    have e1 := (List.cons.inj (show [Value.slice A l.length c] = _ from e1)).1
    injection e1 with h1 h2 h3
    exact ⟨by omega, fun _ => h3⟩
  · subst e
    have e1 := (List.cons.inj (show [Value.slice A l.length c] = _ from e1)).1
    injection e1 with h1 h2 h3
    exact ⟨by omega, fun h => by rw [h] at h1; cases h1⟩
end
def Un0 : Un := ⟨⟨#[]⟩, [], [], []⟩
theorem RUn0 (w : World) : RUn w (fun _ => False) Un0 [.string ⟨#[]⟩, .slice none 0 0, .slice none 0 0, .slice none 0 0] :=
  ⟨none, 0, none, 0, none, 0, rfl, SlG.none_ _ _, SlG.none_ _ _, SlG.none_ _ _⟩
theorem same0 (w : World) : Calls Try.prog 19 #[.agg #[.string ⟨#[]⟩, .slice none 0 0, .slice none 0 0, .slice none 0 0], .agg #[.string ⟨#[]⟩, .slice none 0 0, .slice none 0 0, .slice none 0 0]] w (TruthP w true) :=
  sam8_any Un0 Un0 (by decide) (by refine ⟨by decide, ⟨by decide, ?_⟩, ⟨by decide, ?_⟩, ⟨by decide, ?_⟩⟩ <;> (intro a ha; cases ha)) (by refine ⟨by decide, ⟨by decide, ?_⟩, ⟨by decide, ?_⟩, ⟨by decide, ?_⟩⟩ <;> (intro a ha; cases ha)) w _ _ _ _ (RUn0 w) (RUn0 w) true (by simp)
set_option maxRecDepth 100000 in
set_option maxHeartbeats 4000000 in
theorem ereads_any (w : World) (A : Option Addr) (c : Nat) (l : List Int) (hs : SlB w w.heap.size A l) (hc : l.length ≤ c) (hA : A = none → c = 0) :
    Calls Try.prog 5 #[.slice A l.length c] w (TruthP w true) := by
  have n0 : (0 : Int) ≤ (l.length : Int) := by omega
  by_cases h : 300000 < l.length
  · have h1 : (300000 : Int) < (l.length : Int) := by omega
    have h2 : decide (300000 < l.length) = true := decide_eq_true h
    clear h hs hc hA
    go_enter Try.func5, Try.ntmps5
    go_wp2_with (go_at_call 10; ((with_reducible refine (awake_any _).mono ?_); rintro e w2 ⟨rfl, hb2⟩))
    go_ret
    exact ⟨rfl, hb2⟩
  · have h1 : ¬ (300000 : Int) < (l.length : Int) := by omega
    have h2 : decide (300000 < l.length) = false := decide_eq_false h
    have hd := dec_any w w.heap.size A c l hs (Nat.le_refl _) hc hA (by omega)
    have HSL := Lib.hid hs
    cases ho : decP l with
    | none =>
      rw [ho] at hd
      have HD := Lib.hid (show Calls Try.prog 18 #[.slice A l.length c] w (fun e w' => Below w.heap.size w w' ∧ e = .returned (.tuple #[.agg #[.string ⟨#[]⟩, .slice none 0 0, .slice none 0 0, .slice none 0 0], .int .i64 4])) from hd)
      clear h hs hc hA hd ho
      go_enter Try.func5, Try.ntmps5
      go_wp2_with (first
        | (go_at_call 18; ((with_reducible refine HD.out.mono ?_); rintro e w1 ⟨hb1, rfl⟩); have HB1 := Lib.hid hb1; clear hb1)
        | (go_at_call 13; ((with_reducible refine (num_any _ _).mono ?_); rintro e w2 ⟨rfl, rfl⟩))
        | (go_at_call 19; ((with_reducible refine (same0 _).mono ?_); rintro e w3 ⟨rfl, hb3⟩); have HB3 := Lib.hid hb3; clear hb3)
        | (go_at_call 10; ((with_reducible refine (awake_any _).mono ?_); rintro e w4 ⟨rfl, hb4⟩); have HB4 := Lib.hid hb4; clear hb4))
      go_ret
      have hb3 := (HB1.out.alloc HB1.out.size _).trans (HB3.out.mono (by have := HB1.out.size; simp; omega))
      exact ⟨rfl, hb3.trans (HB4.out.mono hb3.size)⟩
    | some u =>
      obtain ⟨he, hr, hcn, hok⟩ := dec_back hs.1 ho
      rw [ho] at hd
      have HD := Lib.hid hd
      have HE := Lib.hid (fun w1 vs (h : RUn w1 (fun k => w.heap.size ≤ k) u vs) W (hW : Below w1.heap.size w1 W) => (show Calls Try.prog 12 #[.agg vs.toArray] W (EncP (l, 0) W) from he ▸ rencode_any u (by omega) hok W (fun k => w.heap.size ≤ k ∧ k < w1.heap.size) (fun k hk => Nat.lt_of_lt_of_le hk.2 hW.size) vs (RUn_keeps.bel h.slim hW)))
      clear h hs hc hA hd ho he hr hcn hok
      go_enter Try.func5, Try.ntmps5
      go_wp2_with (first
        | (go_at_call 18; ((with_reducible refine HD.out.mono ?_); rintro e w1 ⟨hb1, vs, rfl, hr1⟩); obtain ⟨A5, c5, A6, c6, A7, c7, rfl, hq1⟩ := id hr1; clear hq1; have HB1 := Lib.hid hb1; have HR1 := Lib.hid hr1; clear hb1 hr1)
        | (go_at_call 12; ((with_reducible refine (HE.out w1 _ HR1.out _ ((Below.refl _ w1).alloc (Nat.le_refl _) _)).mono ?_); rintro e w3 ⟨⟨Q, qc, rfl, ho3, hy3⟩, hb3⟩); have HB3 := Lib.hid ((HB1.out.alloc HB1.out.size _).trans (hb3.mono (by have := HB1.out.size; simp; omega))); have e8 := conv_any (SlB.bel HSL.out HB3.out) c; have e9 := conv_any (EncP.slB (r := (l, 0)) ho3 hy3) qc; dsimp only at e9; clear hb3 ho3 hy3)
        | (go_at_call 13; ((with_reducible refine (num_any _ _).mono ?_); rintro e w2 ⟨rfl, rfl⟩))
        | (go_at_call 10; ((with_reducible refine (awake_any _).mono ?_); rintro e w4 ⟨rfl, hb4⟩); have HB4 := Lib.hid hb4; clear hb4))
      go_ret
      exact ⟨rfl, HB3.out.trans (HB4.out.mono HB3.out.size)⟩
end Go.Proofs.Ytnkojjkijkhlbaa
