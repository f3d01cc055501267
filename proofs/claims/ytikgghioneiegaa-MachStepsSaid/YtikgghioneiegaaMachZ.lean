/-
  A machine made, and a whole run.
-/
import Derived.Test.YtikgghioneiegaaMachY
import Derived.Test.YtikgghioneiegaaMachN
namespace Go.Proofs.Ytikgghioneiegaa
open Go.RowKit
set_option linter.unusedVariables false

/-- How far a run is, as plain data. -/
structure Oc where
  kind : Int
  code : Int
  out : List Int
  steps : Int
  deriving DecidableEq
def ocOf (s : St) : Oc := ⟨s.kind, s.code, s.out, s.steps⟩
/-- An outcome in memory. -/
def Told' (w : World) (base : Nat) (o : Oc) (v : Value) : Prop := ∃ A c, v = .agg #[.int .i64 o.kind, .int .i64 o.code, .slice A o.out.length c, .int .i64 o.steps] ∧ w.ownsRow base 5 1 (.slice A o.out.length c) o.out.length (o.out.map (Value.int .u8))
/-- The machine that is new. -/
def st0 (dd bs : List Int) (E : Int) (m : Nat) : St :=
  { pc := E, r := fun k => if k = 15 then (m : Int) else 0, mem := dd ++ List.replicate (m - dd.length) 0, inn := bs, out := [], kind := 0, code := 0, steps := 0 }
/-- An image, and an input, in memory. -/
structure In3 (w : World) (B : Nat) (CA DA IA : Option Addr) (cd dd bs : List Int) : Prop where
  code : Reads w B 1 CA cd.length (cd.map (Value.int .i64))
  data : Reads w B 1 DA dd.length (dd.map (Value.int .i64))
  inn : Reads w B 1 IA bs.length (bs.map (Value.int .u8))
  size : B ≤ w.heap.size
  words : ∀ v ∈ cd, -9223372036854775808 ≤ v ∧ v ≤ 9223372036854775807
  bytes : ∀ v ∈ bs, 0 ≤ v ∧ v ≤ 255
theorem In3.below {w w' : World} {B : Nat} {CA DA IA : Option Addr} {cd dd bs : List Int} (h : In3 w B CA DA IA cd dd bs) (hb : Below B w w') : In3 w' B CA DA IA cd dd bs :=
  ⟨h.code.below hb, h.data.below hb, h.inn.below hb, Nat.le_trans h.size hb.size, h.words, h.bytes⟩
def okF (cd dd : List Int) (E : Int) : Prop := 0 < cd.length ∧ cd.length ≤ 65536 ∧ dd.length ≤ 16384 ∧ 0 ≤ E ∧ E < (cd.length : Int)
def okA (dd bs : List Int) (q : Int) : Prop := (dd.length : Int) ≤ q ∧ q ≤ 262144 ∧ bs.length ≤ 4096
instance (cd dd : List Int) (E : Int) : Decidable (okF cd dd E) := by unfold okF; exact inferInstance
instance (dd bs : List Int) (q : Int) : Decidable (okA dd bs q) := by unfold okA; exact inferInstance
def runP (cd dd bs : List Int) (E q fuel : Int) : Oc :=
  if okF cd dd E ∧ okA dd bs q then ocOf (iter cd (min fuel 4194304).toNat (st0 dd bs E q.toNat)) else ⟨5, 0, [], 0⟩
section
variable {w : World} {B : Nat} {CA DA IA : Option Addr} {cd dd bs : List Int}
theorem new_no_form (h : In3 w B CA DA IA cd dd bs) (c0 c1 c2 : Nat) (E q : Int) (hn : ¬ okF cd dd E) :
    Calls Try.prog 17 #[.agg #[.slice CA cd.length c0, .slice DA dd.length c1, .int .i64 E], .int .i64 q, .slice IA bs.length c2] w fun e w' => e = .returned (.tuple #[.pointer none, .int .i64 4]) ∧ Below w.heap.size w w' :=
  new_form w CA DA IA cd.length dd.length bs.length c0 c1 c2 E q hn
theorem new_no_arg (h : In3 w B CA DA IA cd dd bs) (c0 c1 c2 : Nat) (E q : Int) (hf : okF cd dd E) (hn : ¬ okA dd bs q) :
    Calls Try.prog 17 #[.agg #[.slice CA cd.length c0, .slice DA dd.length c1, .int .i64 E], .int .i64 q, .slice IA bs.length c2] w fun e w' => e = .returned (.tuple #[.pointer none, .int .i64 1]) ∧ Below w.heap.size w w' :=
  new_arg w CA DA IA cd.length dd.length bs.length c0 c1 c2 E q hf.1 hf.2.1 hf.2.2.1 hf.2.2.2.1 hf.2.2.2.2 hn
theorem new_rep2 (h : In3 w B CA DA IA cd dd bs) (c0 c1 c2 : Nat) (E : Int) (m : Nat) (hf : okF cd dd E) (ha : okA dd bs (m : Int)) :
    Calls Try.prog 17 #[.agg #[.slice CA cd.length c0, .slice DA dd.length c1, .int .i64 E], .int .i64 (m : Int), .slice IA bs.length c2] w fun e w' => ∃ L iv, e = .returned (.tuple #[.pointer (some ⟨L.g, 0, none⟩), .int .i64 0]) ∧
      Rep w' w.heap.size L cd (st0 dd bs E m) iv (.slice none 0 0) ∧ Below w.heap.size w w' ∧ (∀ k, iv.ownBlock = some k → w.heap.size ≤ k ∧ k < w'.heap.size) := by
  obtain ⟨f1, f2, f3, f4, f5⟩ := hf
  obtain ⟨a1, a2, a3⟩ := ha
  refine (new_ok w CA DA IA B cd.length dd.length bs.length m c0 c1 c2 E cd dd _ h.code h.data h.inn h.size (u8_one _) h.words f1 f2 f3 f4 f5 (by omega) (by omega) a3).mono ?_
  rintro e w' ⟨g, D, db, mbk, iA, ic, rfl, hg, hD, hT, ⟨ms, hm, hms⟩, hown, hB, hg2, hm2⟩
  have hml : (st0 dd bs E m).mem.length = m := by simp [st0]; omega
  refine ⟨⟨g, D, db, mbk⟩, .slice iA bs.length ic, rfl, ⟨?_, hD, hT, ?_, ?_, World.ownsRow_nil _ _ _ _, by simp [st0], by rw [hml]; omega, f2, hg2, hm2⟩, hB, fun k hk => hown.lt k hk⟩
  · have e1 : mcells ⟨g, D, db, mbk⟩ cd.length (st0 dd bs E m) (.slice iA bs.length ic) (.slice none 0 0) = newC D mbk cd.length m E (.slice iA bs.length ic) (.slice (some ⟨db, 0, none⟩) 44 44) m := by
      unfold mcells
      rw [hml]
      rfl
    rw [e1]
    exact hg
  · have e2 : ((st0 dd bs E m).mem.map (Value.int .i64)).toArray = ms := by
      rw [← Array.toList_inj]
      rw [hms]
      simp [st0]
    rw [e2]
    exact hm
  · rcases hown.2 with ⟨e1, e2⟩ | ⟨b, cap, cur, e1, hb1, hb2, hb3, hb4, hb5, hb6⟩
    · injection e1 with e3 e4 e5
      refine ⟨iA, ic, rfl, ?_, ?_, h.bytes, fun hl => ?_⟩
      · show bs.length ≤ ic; omega
      · subst e5; simp [maxLen]
      · exact absurd hl (by show ¬ 0 < bs.length; omega)
    · injection e1 with e3 e4 e5
      subst e5
      refine ⟨iA, ic, rfl, hb3, hb4, h.bytes, fun hl => ⟨b, 0, cur, e3, hb2, by simp [Value.ownBlock], fun j x hj => ?_⟩⟩
      have hj' : (bs.map (Value.int .u8))[j]? = some (.int .u8 x) := by
        have : bs[j]? = some x := hj
        simp [this]
      rw [← hb6, List.getElem?_take] at hj'
      rw [Nat.zero_add]
      split at hj'
      · simpa using hj'
      · cases hj'
theorem new_rep (h : In3 w B CA DA IA cd dd bs) (c0 c1 c2 : Nat) (E : Int) (m : Nat) (hf : okF cd dd E) (ha : okA dd bs (m : Int)) :
    Calls Try.prog 17 #[.agg #[.slice CA cd.length c0, .slice DA dd.length c1, .int .i64 E], .int .i64 (m : Int), .slice IA bs.length c2] w fun e w' => ∃ L iv, e = .returned (.tuple #[.pointer (some ⟨L.g, 0, none⟩), .int .i64 0]) ∧
      Rep w' w.heap.size L cd (st0 dd bs E m) iv (.slice none 0 0) ∧ Below w.heap.size w w' := by
  refine (new_rep2 h c0 c1 c2 E m hf ha).mono ?_
  rintro e w' ⟨L, iv, rfl, hR, hB, _⟩
  exact ⟨L, iv, rfl, hR, hB⟩
end
end Go.Proofs.Ytikgghioneiegaa
