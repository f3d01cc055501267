/-
  Names and their places: walks.
-/
import Derived.Test.YtcfgjfahjaimiaaTyI
namespace Go.Proofs.Ytcfgjfahjaimiaa
open Go.RowKit
set_option linter.unusedVariables false
set_option linter.unusedSimpArgs false

theorem i64_wf (n : Nat) (h : n ≤ 9000000000000000000) : (Lit.int .i64 (n : Int)).wf = true := by
  have e1 : IntKind.i64.min = -9223372036854775808 := rfl
  have e2 : IntKind.i64.max = 9223372036854775807 := rfl
  simp [Lit.wf, e1, e2]
  omega
theorem toL_inj {a b : ByteArray} (h : a.data.toList = b.data.toList) : a = b := ByteArray.ext (Array.toList_inj.1 h)
theorem PlMap.add {w : World} {b : Nat} {l : List ByteArray} (h : PlMap w b l) (s : ByteArray) (hs : s.size ≤ maxLen) (hn : place l s = none) (hl : l.length ≤ 1000000000) :
    ∃ w', (Instr.mapUpdate 69 (.map (some b)) (.string s) (.int .i64 l.length)).run Try.prog w = .ok () w' ∧ PlMap w' b (l ++ [s]) ∧ w.grownBy w' (some b) := by
  obtain ⟨n, D, h1, h2, h3⟩ := h
  obtain ⟨w', hr, h4, h5⟩ := h2.update str_keyed Try.underlying69 (by unfold maxLen; omega) (key := .string s) (kl := .string s.data.toList) (val := .int .i64 l.length) (d := .lit (.int .i64 l.length)) (ps := []) (Go.WideMaps.keyOf_string_mk Try.underlying9 hs) (plainElem_int Try.underlying3 (i64_wf _ (by omega)))
  refine ⟨w', hr, ⟨n + 1, _, by simp; omega, h4, fun s' hs' => ?_⟩, h5⟩
  have hm := h2.isMap
  rw [place_snoc]
  obtain ⟨h6, h7⟩ := h3 s' hs'
  by_cases e : s = s'
  · subst e
    rw [hn]
    simp only [if_true]
    refine ⟨(fun h => by cases h), fun i hi => ?_⟩
    injection hi with hi
    subst hi
    exact ⟨Maps.has_put_same hm (by trivial) _, fun z => Maps.atKey_put_same hm (by trivial) _ z⟩
  · have hne : (Lit.string s'.data.toList) ≠ Lit.string s.data.toList := fun h => by injection h with h; exact e (toL_inj h.symm)
    rw [Maps.has_put_other hne]
    cases hp : place l s' with
    | none =>
      simp only [e, if_false]
      exact ⟨fun _ => h6 hp, fun i hi => by cases hi⟩
    | some i =>
      refine ⟨(fun h => by cases h), fun j hj => ?_⟩
      injection hj with hj
      subst hj
      obtain ⟨h8, h9⟩ := h7 i hp
      exact ⟨h8, fun z => by rw [Maps.atKey_put_other hne]; exact h9 z⟩
theorem PlMap.more {w : World} {b : Nat} {l : List ByteArray} (h : PlMap w b l) (s : ByteArray) {i : Nat} (hn : place l s = some i) : PlMap w b (l ++ [s]) := by
  obtain ⟨n, D, h1, h2, h3⟩ := h
  refine ⟨n, D, by simp; omega, h2, fun s' hs' => ?_⟩
  rw [place_snoc]
  obtain ⟨h6, h7⟩ := h3 s' hs'
  cases hp : place l s' with
  | none =>
    have e : ¬ s = s' := by rintro rfl; rw [hn] at hp; cases hp
    simp only [e, if_false]
    exact ⟨fun _ => h6 hp, fun i hi => by cases hi⟩
  | some j => exact ⟨(fun h => by cases h), fun j' hj => by injection hj with hj; subst hj; exact h7 j hp⟩
theorem PlMap.made (w : World) : PlMap (w.alloc (.map #[] 0)) w.heap.size [] :=
  ⟨0, .map [], Nat.le_refl _, World.ownsMap_made w _ _ _, fun s hs => ⟨fun _ => rfl, fun i h => by cases h⟩⟩
theorem wpList_put {ops : Array Oper} {rest : List Oper} {o : Oper} {a : Act} {Q : Exit → Act → World → Prop} {w : World} (hg : o.guard = none) (m x v : Operand) (t : TypeId) (hop : o.op = Op.mapUpdate t m x v) (mv kv vv : Value) (hm : a.eval m = mv) (hx : a.eval x = kv) (hv : a.eval v = vv) (R : World → Prop)
    (hrun : ∃ w', (Instr.mapUpdate t mv kv vv).run Try.prog w = .ok () w' ∧ R w') (hK : ∀ w', R w' → wpList Try.prog ops Q rest (a.put o.dst undef) w') : wpList Try.prog ops Q (o :: rest) a w := by
  refine wpList_plain hg fun K' hK' => ?_
  obtain ⟨w', hr, r1⟩ := hrun
  unfold Oper.wp
  simp [execOp, hop, hm, hx, hv, hr, Result.andThen]
  exact hK' _ _ (hK w' r1)
theorem run_made (t : TypeId) (hu : ∃ k e, Try.prog.underlying t = some (.map k e)) (k : IntKind) (i : Int) (w : World) : (Instr.makeMap t (some (.int k i))).run Try.prog w = .ok (.map (some w.heap.size)) (w.alloc (.map #[] 0)) := by
  obtain ⟨k', e', hu⟩ := hu
  simp [Instr.makeMap, run_underlying hu, asInt, asIntOf, Result.andThen]
set_option maxRecDepth 100000 in
set_option maxHeartbeats 2000000 in
theorem places_any (w : World) (F : Nat → Prop) (A : Option Addr) (c : Nat) (l : List ByteArray) (hs : SlS w F A l) (hl : l.length ≤ 100000) :
    Calls Try.prog 40 #[.slice A l.length c] w fun e w' => e = .returned (.map (some w.heap.size)) ∧ PlMap w' w.heap.size l ∧ Below w.heap.size w w' := by
  have HS := Lib.hid hs
  have n0 : (0 : Int) ≤ (l.length : Int) := by omega
  have n1 : (l.length : Int) ≤ 100000 := by omega
  have hm := fun w => run_made 69 ⟨_, _, Try.underlying69⟩ .i64 l.length w
  clear hs
  go_enter Try.func40, Try.ntmps40
  go_wp2
  go_loopg [13] l.length (fun gk v13 wr => ∃ j : Nat, j + gk = l.length ∧ v13 = .int .i64 j ∧ Below w.heap.size w wr ∧ PlMap wr w.heap.size (l.take j))
  case atStart => exact ⟨0, by simp, rfl, (Below.refl _ w).alloc (Nat.le_refl _) _, by simp; exact PlMap.made w⟩
  case round =>
    obtain ⟨j, hj, rfl, hb, hpl⟩ := hrel
    cases gk with
    | zero =>
      obtain rfl : j = l.length := by omega
      clear hj hm
      have HP := Lib.hid hpl
      clear hpl
      go_wp2
      go_ret
      refine ⟨rfl, ?_, hb⟩
      have := HP.out
      rw [List.take_length] at this
      exact this
    | succ f =>
      have hjl : j < l.length := by omega
      obtain ⟨s, hs⟩ : ∃ s, l[j]? = some s := ⟨_, List.getElem?_eq_getElem hjl⟩
      have hss := HS.out.1 s (List.mem_of_getElem? hs)
      obtain ⟨g, o, rfl, hF, hgl, hat⟩ := HS.out.2 (by omega)
      have q0 := (hb.cell (p := ⟨g, o + j, none⟩) hgl).trans (hat j s hs)
      have hlen : (l.take j).length = j := by simp; omega
      have hlk := hpl.look s hss (by omega)
      have htk : l.take (j + 1) = l.take j ++ [s] := by rw [List.take_add_one, hs]; rfl
      have jlt : (j : Int) < (l.length : Int) := by omega
      cases hn : place (l.take j) s with
      | none =>
        rw [hn] at hlk
        have hadd := hpl.add s hss hn (by omega)
        rw [hlen, ← htk] at hadd
        have HADD := Lib.hid hadd
        clear hadd hn hpl htk hlen hs hss hat
        go_wp2_with (at_mapUpdate; refine wpList_put rfl _ _ _ _ rfl _ _ _ rfl rfl rfl (fun w' => PlMap w' w.heap.size (l.take (j + 1)) ∧ wr.grownBy w' (some w.heap.size)) HADD.out ?_; rintro w1 ⟨hp1, hg1⟩)
        go_roundg f
        case measure => exact Nat.lt_succ_self _
        case rel =>
          exact ⟨j + 1, by omega, by simp, hb.grown hg1 hb.size (by intro k hk; injection hk with hk; omega), hp1⟩
      | some i =>
        rw [hn] at hlk
        have hmore := hpl.more s hn
        rw [← htk] at hmore
        have HM := Lib.hid hmore
        clear hmore hn hpl htk hlen hs hss hat
        go_wp2
        go_roundg f
        case measure => exact Nat.lt_succ_self _
        case rel =>
          exact ⟨j + 1, by omega, by simp, hb, HM.out⟩
end Go.Proofs.Ytcfgjfahjaimiaa
