/-
  Bytes of a constant text, appended to: laws.
-/
import Derived.Test.YtihnnbeepfgphaaGreatDoorLexH
import Derived.Lib.AppendStr
import Derived.Deep.AppendSrc
import Derived.Lib.SlBytesConst
namespace Go.Proofs.YtihnnbeepfgphaaGreatDoor
open Go.RowKit
set_option linter.unusedVariables false
set_option linter.unusedSimpArgs false

/-- A slice without room, of which the cells are known. -/
def FullR (w : World) (base : Nat) (v : Value) (n : Nat) (xs : List Value) : Prop :=
  ∃ g, v = .slice (some ⟨g, 0, none⟩) n n ∧ base ≤ g ∧ g < w.heap.size ∧ xs.length = n ∧ ∀ j u, xs[j]? = some u → w.cell? ((⟨g, 0, none⟩ : Addr).add j) = some u
theorem run_full {P : Program} (w : World) (base : Nat) (t tx ty e : TypeId) (i : TypeInfo) (ht : P.underlying t = some (.slice e)) (hi : P.info? e = some i) (hz : i.zero = some (.int .u8 0)) (hsize : i.size = 1) (hby : i.bytes = 1)
    (v : Value) (n : Nat) (xs : List Value) (h : FullR w base v n xs) (x : Value) (m : Nat) (news : List Value) (hs : Src P i.size tx x m news w) (hm : 0 < m) (h63 : n + m ≤ maxLen) (hbytes : n + m ≤ 140737488355328) (hbase : base ≤ w.heap.size) :
    ∃ v' w', (Builtin.append_ #[t, tx] ty #[v, x]).run P w = .ok v' w' ∧ w'.ownsRow base e 1 v' (n + m) (xs ++ news) ∧ Below w.heap.size w w' := by
  obtain ⟨g, rfl, hb, hlt, hl, hc⟩ := h
  have hold : (Builtin.firstCells i.size n (.slice (some ⟨g, 0, none⟩) n n)).run P w.drew = .ok xs.toArray w.drew := run_firstCells_some w.drew i.size n ⟨g, 0, none⟩ n n xs (by rw [hsize]; simpa using hl) (by simpa using hc)
  have hr := run_append_grow_src (P := P) w t tx ty e i _ ht hi hz (some ⟨g, 0, none⟩) n n xs hold x m news hs (by omega) (by simp only [maxLen] at h63; omega) (growslice_fits (by omega) (by rw [hby]; omega))
  have hnl : news.length = m := by have := hs.newsLen; rw [hsize] at this; simpa using this
  have hlen : (xs ++ news).length = (n + m) * 1 := by rw [List.length_append, hl, hnl, Nat.mul_one]
  refine ⟨_, _, hr, ⟨hlen, .inr ⟨w.heap.size, _, _, rfl, hbase, heap_alloc_new w.drew _, grownCap_ge w _ _ e, grownCap_le_maxLen w _ _ e h63, ?_, ?_⟩⟩, (Below.refl _ w).drew.alloc (Nat.le_refl _) _⟩
  · have hz1 : (Value.int IntKind.u8 0).cells.size = 1 := rfl
    have hge := grownCap_ge w (n + m) n e
    simp only [Array.size_append, List.size_toArray, size_zeroCells, hz1, List.length_append, hl, hnl]
    omega
  · simp only [Array.toList_append]
    rw [← hlen]
    exact List.take_left
/-- Bytes that can be appended to: the call's own, or a constant text's. -/
def Bys (w : World) (base : Nat) (v : Value) (n : Nat) (xs : List Value) : Prop := (∃ A c, v = .slice A n c) ∧ (w.ownsRow base 5 1 v n xs ∨ FullR w base v n xs)
theorem Bys.own_lt {w : World} {base n : Nat} {v : Value} {xs : List Value} (h : Bys w base v n xs) : ∀ q, v.ownBlock = some q → base ≤ q := by
  intro q hq
  rcases h.2 with h | ⟨g, rfl, hb, _⟩
  · exact (h.lt q hq).1
  · simp [Value.ownBlock] at hq
    omega
theorem Bys.string {w : World} {base n : Nat} {v : Value} {xs : List Value} (h : Bys w base v n xs) (ty : TypeId) (s : ByteArray) (hs : 0 < s.size) (h63 : n + s.size ≤ 100000) (hbase : base ≤ w.heap.size) :
    ∃ v' w', (Builtin.append_ #[41, 9] ty #[v, .string s]).run Tryz.prog w = .ok v' w' ∧ w'.ownsRow base 5 1 v' (n + s.size) (xs ++ s.data.toList.map byteV) ∧ w.grownBy w' v.ownBlock := by
  obtain ⟨i0, hi0, hz0, hz1, hz2⟩ := info_parts byte_info
  rcases h.2 with h | h
  · obtain ⟨v', w', h1, h2, h3, _⟩ := Lib.run_append_own_string (P := Tryz.prog) w base 41 9 ty 5 i0 Tryz.underlying41 Tryz.underlying9 hi0 hz0 hz1 hz2 v n xs h s (by simp only [maxLen]; omega) (by omega) hbase
    exact ⟨v', w', h1, h2, h3⟩
  · obtain ⟨v', w', h1, h2, h3⟩ := run_full (P := Tryz.prog) w base 41 9 ty 5 i0 Tryz.underlying41 hi0 hz0 hz1 hz2 v n xs h (.string s) s.size (byteCells s) (by rw [hz1]; exact Src.ofString w Tryz.underlying9 s) hs (by simp only [maxLen]; omega) (by omega) hbase
    exact ⟨v', w', h1, h2, ⟨h3.os, h3.tape, h3.output, h3.size, fun k hk _ => h3.block k hk⟩⟩
theorem Bys.bytes {w : World} {base n : Nat} {v : Value} {xs : List Value} (h : Bys w base v n xs) (ty : TypeId) (g m c : Nat) (news : List Value) (hm : 0 < m) (hl : news.length = m) (hc : ∀ j u, news[j]? = some u → w.cell? ⟨g, j, none⟩ = some u) (hg : g < w.heap.size) (h1 : ∀ u ∈ news, u.oneCell' = true) (h63 : n + m ≤ 100000) (hbase : base ≤ w.heap.size) :
    ∃ v' w', (Builtin.append_ #[41, 41] ty #[v, .slice (some ⟨g, 0, none⟩) m c]).run Tryz.prog w = .ok v' w' ∧ w'.ownsRow base 5 1 v' (n + m) (xs ++ news) ∧ w.grownBy w' v.ownBlock := by
  obtain ⟨i0, hi0, hz0, hz1, hz2⟩ := info_parts byte_info
  have hadd : ∀ j u, news[j]? = some u → w.cell? ((⟨g, 0, none⟩ : Addr).add j) = some u := fun j u hu => by
    have := hc j u hu
    have e : (⟨g, 0, none⟩ : Addr).add j = ⟨g, j, none⟩ := by unfold Addr.add; by_cases hj : j = 0 <;> simp [hj]
    rw [e]; exact this
  rcases h.2 with h | h
  · obtain ⟨v', w', h2, h3, h4, _⟩ := run_append_any (P := Tryz.prog) w base 41 ty 5 i0 _ 1 1 Tryz.underlying41 hi0 hz0 hz1 hz2 rfl (by omega) v n xs h w.heap.size (some ⟨g, 0, none⟩) m c news ⟨by rw [hl, Nat.mul_one], fun _ => ⟨_, rfl, hg, hadd⟩⟩ h1 (by simp only [maxLen]; omega) (by omega) hbase
    exact ⟨v', w', h2, h3, h4⟩
  · obtain ⟨v', w', h2, h3, h4⟩ := run_full (P := Tryz.prog) w base 41 41 ty 5 i0 Tryz.underlying41 hi0 hz0 hz1 hz2 v n xs h (.slice (some ⟨g, 0, none⟩) m c) m news (Src.ofSlice w Tryz.underlying41 ⟨g, 0, none⟩ m c news (by rw [hl, hz1, Nat.mul_one]) hadd h1) hm (by simp only [maxLen]; omega) (by omega) hbase
    exact ⟨v', w', h2, h3, ⟨h4.os, h4.tape, h4.output, h4.size, fun k hk _ => h4.block k hk⟩⟩
theorem wpList_bys {ops : Array Oper} {rest : List Oper} {o : Oper} {a : Act} {Q : Exit → Act → World → Prop} {w : World} (hgd : o.guard = none) (sl x : Operand) (t u : TypeId)
    (ho : o.op = .call { callee := .builtin .append, args := #[sl, x], argTypes := #[t, u] }) (v xv : Value) (hs : a.eval sl = v) (hx : a.eval x = xv) (R : Value → World → Prop)
    (hrun : ∃ v' w', (Builtin.append_ #[t, u] o.type #[v, xv]).run Tryz.prog w = .ok v' w' ∧ R v' w')
    (h : ∀ v' w', R v' w' → wpList Tryz.prog ops Q rest (a.put o.dst v') w') : wpList Tryz.prog ops Q (o :: rest) a w := by
  refine wpList_plain hgd fun K hK => ?_
  obtain ⟨v', w', hr, h2⟩ := hrun
  unfold Oper.wp execOp
  simp only [ho, resolve, invoke, builtin, Sem.run_bind, Sem.run_pure, Result.andThen_ok, List.map_toArray, List.map_cons, List.map_nil, hs, hx, hr]
  exact hK _ _ (h v' w' h2)
end Go.Proofs.YtihnnbeepfgphaaGreatDoor
