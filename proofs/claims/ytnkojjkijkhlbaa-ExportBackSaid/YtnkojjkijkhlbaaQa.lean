/-
  The document's writer: its memory, room, words, texts: walks.
-/
import Derived.Test.YtnkojjkijkhlbaaWrJ
import Derived.Lib.AppendZerosOnto
import Derived.Lib.AppendZeros
namespace Go.Proofs.Ytnkojjkijkhlbaa
open Go.RowKit
set_option linter.unusedVariables false
set_option linter.unusedSimpArgs false

theorem zeroCells_u8 (k : Nat) : (Builtin.zeroCells (Value.int .u8 0).cells k).toList = List.replicate k (Value.int .u8 0) := by
  have hc : (Value.int IntKind.u8 0).cells = #[.int .u8 0] := rfl
  rw [List.eq_replicate_iff]
  refine ⟨by rw [Array.length_toList, size_zeroCells, hc]; simp, fun b hb => ?_⟩
  unfold Builtin.zeroCells at hb
  rw [hc] at hb
  simp only [Array.toList_map, List.mem_map] at hb
  obtain ⟨i, _, rfl⟩ := hb
  simp [Nat.mod_one]
theorem run_append_room_zeros {P : Program} (w : World) (t tn ty e : TypeId) (i : TypeInfo) (kn : IntKind) (ht : P.underlying t = some (.slice e)) (htn : P.underlying tn = some (.int kn)) (hi : P.info? e = some i) (hz : i.zero = some (.int .u8 0)) (hs1 : i.size = 1) (hby : i.bytes = 1)
    (g sLen sCap : Nat) (cur : Array Value) (hg : w.heap[g]? = some (.cells cur e (0, 0))) (k : Nat) (h0 : 0 < k) (hk : k ≤ 140737488355328) (hroom : sLen + k ≤ sCap) (hfit : sLen + k ≤ cur.size) :
    (Builtin.append_ #[t, tn] ty #[.slice (some ⟨g, 0, none⟩) sLen sCap, .int .i64 k]).run P w =
      .ok (.slice (some ⟨g, 0, none⟩) (sLen + k) sCap) (w.setRow g (cur.toList.take sLen ++ List.replicate k (Value.int .u8 0) ++ cur.toList.drop (sLen + k)).toArray) := by
  have hk0 : k ≠ 0 := by omega
  have hw : IntKind.i64.wrap (k : Int) = k := by rw [IntKind.wrap_i64]; omega
  have h48i : ¬ (281474976710656 < (k : Int)) := by omega
  have hneg : ¬ ((k : Int) < 0) := by omega
  have hzc := zeroCells_u8 k
  have hst := run_storeCells_at P g sLen e (List.replicate k (Value.int .u8 0)) 0 cur w hg (by simpa using hfit) (fun u hu => by rw [List.eq_of_mem_replicate hu]; rfl)
  simp only [Nat.add_zero, List.length_replicate] at hst
  simp [Builtin.append_, run_underlying ht, run_underlying htn, sizeOf, typeInfo, zeroValue, hi, hz, hs1, hby, asInt, asIntOf, hw, hneg, h48i, hk0, hroom, hzc, Addr.add_lit, hst]
set_option maxRecDepth 100000 in
theorem app_zeros {w : World} {lo : Nat} {v : Value} {bs : List Int} (hown : w.ownsRow lo 5 1 v bs.length (bs.map (Value.int .u8))) (ty : TypeId) (k : Nat) (h0 : 0 < k) (hn : bs.length + k ≤ 100000000000000) (hbase : lo ≤ w.heap.size) :
    ∃ v' w', (Builtin.append_ #[29, 3] ty #[v, .int .i64 k]).run Try.prog w = .ok v' w' ∧ w'.ownsRow lo 5 1 v' (bs.length + k) ((bs ++ List.replicate k 0).map (Value.int .u8)) ∧ w.grownBy w' v.ownBlock ∧ ∀ q, v'.ownBlock = some q → v.ownBlock = some q ∨ w.heap.size ≤ q := by
  obtain ⟨i0, hi0, hz0, hz1, hz2⟩ := info_parts info_u8
  have hlen : ((bs ++ List.replicate k (0 : Int)).map (Value.int .u8)).length = (bs.length + k) * 1 := by simp
  have e0 : (bs ++ List.replicate k (0 : Int)).map (Value.int .u8) = bs.map (Value.int .u8) ++ List.replicate k (Value.int .u8 0) := by simp
  have hz9 : (Value.int IntKind.u8 0).cells.size = 1 := rfl
  rcases hown.2 with ⟨rfl, hl⟩ | ⟨g, cap, cur, rfl, hbg, hg, hnc, hcm, hcs, htake⟩
  · have hb0 : bs = [] := List.eq_nil_of_length_eq_zero hl
    subst hb0
    have hr := Lib.run_append_nil_zeros (P := Try.prog) w 29 3 ty 5 i0 (.int .u8 0) .i64 .i64 Try.underlying29 Try.underlying3 hi0 hz0 k h0 (by omega) (by omega) (by rw [hz2]; omega)
    have hge := grownCap_ge w k 0 5
    refine ⟨_, _, hr, ⟨hlen, .inr ⟨w.heap.size, _, _, by rw [List.length_nil, Nat.zero_add], hbase, heap_alloc_new w.drew _, by simpa using hge, grownCap_le_maxLen w k 0 5 (by unfold maxLen; omega), ?_, ?_⟩⟩, ⟨rfl, rfl, rfl, by simp, fun b hb _ => Below.heap_alloc w.drew _ b hb⟩, fun q hq => by
      simp [Value.ownBlock] at hq; omega⟩
    · simp only [Array.size_append, size_zeroCells, hz9]; omega
    · rw [e0]
      simp only [Array.toList_append, zeroCells_u8]
      simp
  · by_cases hroom : bs.length + k ≤ cap
    · have hcs' : cur.size = cap := by simpa using hcs
      have hr := run_append_room_zeros (P := Try.prog) w 29 3 ty 5 i0 .i64 Try.underlying29 Try.underlying3 hi0 hz0 hz1 hz2 g bs.length cap cur hg k h0 (by omega) hroom (by omega)
      refine ⟨_, _, hr, ⟨hlen, .inr ⟨g, cap, _, rfl, hbg, setRow_heap w g cur _ 5 _ hg, hroom, hcm, ?_, ?_⟩⟩, ⟨rfl, rfl, rfl, by simp, fun b _ hk => setRow_other w g b _ (fun e => hk (by simp [Value.ownBlock, e]))⟩, fun q hq => .inl hq⟩
      · simp only [List.size_toArray, List.length_append, List.length_take, List.length_drop, Array.length_toList, List.length_replicate]
        omega
      · have ht' : cur.toList.take bs.length = bs.map (Value.int .u8) := by simpa using htake
        rw [ht', e0, ← e0, ← hlen, e0]
        exact List.take_left
    · have holds : ∀ j u, (bs.map (Value.int .u8))[j]? = some u → w.cell? ((⟨g, 0, none⟩ : Addr).add j) = some u := hown.cells (g := g) rfl
      have hold : (Builtin.firstCells i0.size bs.length (.slice (some ⟨g, 0, none⟩) bs.length cap)).run Try.prog w.drew = .ok (bs.map (Value.int .u8)).toArray w.drew := run_firstCells_some w.drew i0.size bs.length ⟨g, 0, none⟩ bs.length cap _ (by rw [hz1]; simp) (by simpa using holds)
      have hr := Lib.run_append_grow_zeros (P := Try.prog) w 29 3 ty 5 i0 (.int .u8 0) .i64 .i64 Try.underlying29 Try.underlying3 hi0 hz0 (some ⟨g, 0, none⟩) bs.length cap _ hold k h0 (by omega) (by omega) (by omega) (by rw [hz2]; omega) (by rw [hz2]; exact growslice_fits (by omega) (by omega))
      have hge := grownCap_ge w (bs.length + k) cap 5
      refine ⟨_, _, hr, ⟨hlen, .inr ⟨w.heap.size, _, _, rfl, hbase, heap_alloc_new w.drew _, hge, grownCap_le_maxLen w _ _ 5 (by unfold maxLen; omega), ?_, ?_⟩⟩, ⟨rfl, rfl, rfl, by simp, fun b hb _ => Below.heap_alloc w.drew _ b hb⟩, fun q hq => by
        simp [Value.ownBlock] at hq; omega⟩
      · simp only [Array.size_append, List.size_toArray, size_zeroCells, hz9, List.length_map]; omega
      · rw [← hlen, e0]
        simp only [Array.toList_append, zeroCells_u8, List.length_append, List.length_map, List.length_replicate]
        rw [show bs.length + k = ((bs.map (Value.int .u8)) ++ List.replicate k (Value.int .u8 0)).length by simp]
        exact List.take_left
set_option maxRecDepth 100000 in
theorem app_text {w : World} {lo : Nat} {v : Value} {bs : List Int} (hown : w.ownsRow lo 5 1 v bs.length (bs.map (Value.int .u8))) (ty : TypeId) (s : ByteArray) (hn : bs.length + s.size ≤ 100000000000000) (hbase : lo ≤ w.heap.size) :
    ∃ v' w', (Builtin.append_ #[29, 9] ty #[v, .string s]).run Try.prog w = .ok v' w' ∧ w'.ownsRow lo 5 1 v' (bs.length + (sB s).length) ((bs ++ sB s).map (Value.int .u8)) ∧ w.grownBy w' v.ownBlock ∧ ∀ q, v'.ownBlock = some q → v.ownBlock = some q ∨ w.heap.size ≤ q := by
  obtain ⟨i0, hi0, hz0, hz1, hz2⟩ := info_parts info_u8
  obtain ⟨v', w', h1, h2, h3, h4⟩ := Lib.run_append_own_string (P := Try.prog) w lo 29 9 ty 5 i0 Try.underlying29 Try.underlying9 hi0 hz0 hz1 hz2 v bs.length _ hown s (by simp only [maxLen]; omega) (by omega) hbase
  refine ⟨v', w', h1, ?_, h3, ?_⟩
  · rw [sB_len, List.map_append]
    have e : (sB s).map (Value.int .u8) = s.data.toList.map (fun c => Value.int .u8 c.toNat) := by simp [sB]
    rw [e]
    exact h2
  · intro q hq
    rcases hown.2 with ⟨rfl, hl⟩ | ⟨g, cap, cur, rfl, hbg, hg, hnc, hcm, hcs, htake⟩
    · right
      rcases Nat.lt_or_ge q w.heap.size with hlt | hge
      · exfalso
        by_cases hm : s.size = 0
        · have h5 := h4.2 ⟨rfl, hm⟩
          subst h5
          simp [Value.ownBlock] at hq
        · have hr := run_append_nil_string (P := Try.prog) w 29 9 ty 5 i0 (.int .u8 0) Try.underlying29 Try.underlying9 hi0 hz0 s (by omega) (by omega) (by rw [hz2]; omega)
          have he := hr.symm.trans h1
          injection he with e1 e2
          subst e1
          simp [Value.ownBlock] at hq
          omega
      · exact hge
    · by_cases hroom : bs.length + s.size ≤ cap
      · left
        have hr := Lib.run_append_room_string (P := Try.prog) w 29 9 ty 5 i0 Try.underlying29 Try.underlying9 hi0 hz1 g bs.length cap cur hg s hroom (by simp at hcs; omega)
        have he := hr.symm.trans h1
        injection he with e1 e2
        subst e1
        exact hq
      · right
        have hr := Lib.run_append_grow_string (P := Try.prog) w 29 9 ty 5 i0 (.int .u8 0) Try.underlying29 Try.underlying9 hi0 hz0 ⟨g, 0, none⟩ bs.length cap _ (by rw [hz1]; simp) (hown.cells (g := g) rfl) s (by omega) (by omega) (by rw [hz2]; exact growslice_fits (by omega) (by omega))
        have he := hr.symm.trans h1
        injection he with e1 e2
        subst e1
        simp [Value.ownBlock] at hq
        omega
/-- The document's writer, its bytes in a row of its own. -/
structure Wq (w : World) (lo wb : Nat) (A : Option Addr) (c : Nat) (bs : List Int) (dl : Bool) (at_ : Nat) : Prop where
  blk : Blk w wb 57 #[.slice A bs.length c, .bool dl, .int .i64 at_]
  own : w.ownsRow lo 5 1 (.slice A bs.length c) bs.length (bs.map (Value.int .u8))
  lob : lo ≤ w.heap.size
  by_ : ∀ x ∈ bs, 0 ≤ x ∧ x ≤ 255
theorem wqt_ne : (5 : TypeId) ≠ 57 := by decide
section
variable {w w' : World} {lo wb : Nat} {A : Option Addr} {c : Nat} {bs : List Int} {dl : Bool} {at_ : Nat}
theorem Wq.ne (h : Wq w lo wb A c bs dl at_) : (Value.slice A bs.length c).ownBlock ≠ some wb := own_blk_ne h.own h.blk wqt_ne
theorem Wq.old (h : Wq w lo wb A c bs dl at_) {q : Nat} (hq : (Value.slice A bs.length c).ownBlock = some q) : q < w.heap.size := (h.own.lt q hq).2
theorem Wq.olo (h : Wq w lo wb A c bs dl at_) : ∀ q, (Value.slice A bs.length c).ownBlock = some q → lo ≤ q := fun q hq => (h.own.lt q hq).1
theorem Wq.bel (h : Wq w lo wb A c bs dl at_) (hb : Below w.heap.size w w') : Wq w' lo wb A c bs dl at_ :=
  ⟨h.blk.bel2 hb, h.own.kept (row := none) ⟨hb.os, hb.tape, hb.output, hb.size, fun k hk _ => hb.block k hk⟩ (by cases hv : (Value.slice A bs.length c).ownBlock <;> simp), Nat.le_trans h.lob hb.size, h.by_⟩
theorem Wq.flag (h : Wq w lo wb A c bs dl at_) (b : Bool) : Wq (w.setCell ⟨wb, 1, none⟩ (.bool b)) lo wb A c bs b at_ := by
  refine ⟨h.blk.set_ 1 (.bool b), ?_, by simpa using h.lob, h.by_⟩
  have hg : w.grownBy (w.setCell ⟨wb, 1, none⟩ (.bool b)) (some wb) := ⟨rfl, rfl, rfl, by simp, fun k hk hn => Below.heap_setCell w ⟨wb, 1, none⟩ _ k (fun e => hn (by rw [e]))⟩
  exact h.own.kept hg (Or.inr h.ne)
theorem Wq.goto (h : Wq w lo wb A c bs dl at_) (n : Nat) : Wq (w.setCell ⟨wb, 2, none⟩ (.int .i64 n)) lo wb A c bs dl n := by
  refine ⟨h.blk.set_ 2 (.int .i64 n), ?_, by simpa using h.lob, h.by_⟩
  have hg : w.grownBy (w.setCell ⟨wb, 2, none⟩ (.int .i64 n)) (some wb) := ⟨rfl, rfl, rfl, by simp, fun k hk hn => Below.heap_setCell w ⟨wb, 2, none⟩ _ k (fun e => hn (by rw [e]))⟩
  exact h.own.kept hg (Or.inr h.ne)
theorem WrN.set_ (w : World) (wb i : Nat) (v : Value) (o : Option Nat) : WrN w (w.setCell ⟨wb, i, none⟩ v) wb o o := ⟨(Gr.refl w).setCell (p := ⟨wb, i, none⟩) (Or.inr (Or.inl rfl)) _, fun _ h => .inl h⟩
theorem Wq.grow {V : World} {A' : Option Addr} {c' : Nat} {news : List Int} (h : Wq V lo wb A c bs dl at_) (hg : V.grownBy w' (Value.slice A bs.length c).ownBlock)
    (ho : w'.ownsRow lo 5 1 (.slice A' (bs.length + news.length) c') (bs.length + news.length) ((bs ++ news).map (Value.int .u8)))
    (hb : ∀ x ∈ news, 0 ≤ x ∧ x ≤ 255) : Wq (w'.setCell ⟨wb, 0, none⟩ (.slice A' (bs.length + news.length) c')) lo wb A' c' (bs ++ news) dl at_ := by
  have hl : (bs ++ news).length = bs.length + news.length := by simp
  have hb1 : Blk w' wb 57 #[.slice A bs.length c, .bool dl, .int .i64 at_] := h.blk.grown hg (fun e => h.ne e.symm)
  refine ⟨?_, ?_, ?_, fun x hx => ?_⟩
  · have := hb1.set_ 0 (.slice A' (bs.length + news.length) c')
    rw [hl]
    exact this
  · rw [hl]
    have hne : (Value.slice A' (bs.length + news.length) c').ownBlock ≠ some wb := own_blk_ne ho hb1 wqt_ne
    exact ho.kept (row := some wb) ⟨rfl, rfl, rfl, by simp, fun k hk hn => Below.heap_setCell w' ⟨wb, 0, none⟩ _ k (fun e => hn (by rw [e]))⟩ (Or.inr hne)
  · simpa using Nat.le_trans h.lob hg.size
  · rcases List.mem_append.1 hx with hx | hx
    · exact h.by_ x hx
    · exact hb x hx
end
/-- What is put, how many steps at most, and whether something was too deep. -/
def QP (bs bs' out : List Int) (k : Nat) (d : Bool) : Prop :=
  bs.length ≤ bs'.length ∧ bs'.length ≤ bs.length + 300000 * k ∧ (d = false → (bs.length + out.length ≤ 262144 → bs' = bs ++ out) ∧ (¬ bs.length + out.length ≤ 262144 → 262144 < bs'.length))
theorem QP.rule {bs bs1 bs2 o1 o2 : List Int} {k1 k2 : Nat} {d1 d2 : Bool} (h1 : QP bs bs1 o1 k1 d1) (h2 : QP bs1 bs2 o2 k2 d2) : QP bs bs2 (o1 ++ o2) (k1 + k2) (d1 || d2) := by
  obtain ⟨a0, a1, a2⟩ := h1
  obtain ⟨b0, b1, b2⟩ := h2
  refine ⟨by omega, by omega, fun hd => ?_⟩
  have hd1 : d1 = false := by cases d1 <;> simp_all
  have hd2 : d2 = false := by cases d2 <;> simp_all
  obtain ⟨c1, c2⟩ := a2 hd1
  obtain ⟨e1, e2⟩ := b2 hd2
  rw [List.length_append]
  by_cases hf : bs.length + o1.length ≤ 262144
  · have f1 := c1 hf
    subst f1
    rw [List.length_append] at e1 e2
    refine ⟨fun h => ?_, fun h => e2 (by omega)⟩
    rw [e1 (by omega), List.append_assoc]
  · have f2 := c2 hf
    exact ⟨fun h => by omega, fun h => e2 (by omega)⟩
theorem QP.nil (bs : List Int) : QP bs bs [] 0 false := ⟨Nat.le_refl _, by omega, fun _ => ⟨fun _ => by simp, fun h => by simp at h; omega⟩⟩
theorem QP.more {bs bs' out : List Int} {k k' : Nat} {d : Bool} (h : QP bs bs' out k d) (hk : k ≤ k') : QP bs bs' out k' d := ⟨h.1, by have := h.2.1; omega, h.2.2⟩
/-- So much was put into the document's writer. -/
def PutQ (lo wb : Nat) (o : Option Nat) (bs : List Int) (dl : Bool) (at_ : Nat) (out : List Int) (k : Nat) (d : Bool) (w : World) (e : Ending) (w' : World) : Prop :=
  (∃ x, e = .returned x) ∧ ∃ A c bs' dl', Wq w' lo wb A c bs' dl' at_ ∧ dl' = (dl || d) ∧ WrN w w' wb o (Value.slice A bs'.length c).ownBlock ∧ QP bs bs' out k d
set_option maxRecDepth 100000 in
set_option maxHeartbeats 2000000 in
theorem full_any (w : World) (lo wb : Nat) (A : Option Addr) (c : Nat) (bs : List Int) (dl : Bool) (at_ : Nat) (h : Wq w lo wb A c bs dl at_) (b : Bool) (hb : decide (262144 < bs.length) = b) :
    Calls Try.prog 29 #[.pointer (some ⟨wb, 0, none⟩)] w fun e w' => e = .returned (.bool b) ∧ w = w' := by
  have b0 := h.blk.cell 0
  have bl := h.blk.lt
  have HB2 := Lib.hid (show decide ((262144 : Int) < (bs.length : Int)) = b by rw [← hb]; exact decide_eq_decide.2 (by omega))
  clear h hb
  go_enter Try.func29, Try.ntmps29
  go_wp2
  go_ret
  exact ⟨congrArg (fun x => Ending.returned (.bool x)) HB2.out, rfl⟩
theorem app_one {w : World} {lo : Nat} {A : Option Addr} {c : Nat} {bs : List Int} (hown : w.ownsRow lo 5 1 (.slice A bs.length c) bs.length (bs.map (Value.int .u8))) (ty : TypeId) (hn : bs.length + 1 ≤ 100000000000000) (hbase : lo ≤ w.heap.size) (g d : Nat) (x : Int) (hc : w.cell? ⟨g, 0, none⟩ = some (.int .u8 x)) :
    ∃ v' w', (Builtin.append_ #[29, 29] ty #[.slice A bs.length c, .slice (some ⟨g, 0, none⟩) 1 d]).run Try.prog w = .ok v' w' ∧ w'.ownsRow lo 5 1 v' (bs.length + 1) ((bs ++ [x]).map (Value.int .u8)) ∧ w.grownBy w' (Value.slice A bs.length c).ownBlock ∧ ∀ q, v'.ownBlock = some q → (Value.slice A bs.length c).ownBlock = some q ∨ w.heap.size ≤ q := by
  obtain ⟨i0, hi0, hz0, hz1, hz2⟩ := info_parts info_u8
  have hrd : Reads w (g + 1) 1 (some ⟨g, 0, none⟩) 1 [Value.int .u8 x] := ⟨rfl, fun _ => ⟨_, rfl, by show g < g + 1; omega, fun i u hu => by
    rw [add0]
    cases i with
    | zero =>
      have e : Value.int .u8 x = u := by simpa using hu
      rw [hc, e]
    | succ i => simp at hu⟩⟩
  obtain ⟨v', w', h1, h2, h3, h4⟩ := run_append_any (P := Try.prog) w lo 29 ty 5 i0 (.int .u8 0) 1 1 Try.underlying29 hi0 hz0 hz1 hz2 rfl (by omega) _ _ _ hown (g + 1) (some ⟨g, 0, none⟩) 1 d [Value.int .u8 x] hrd (fun u hu => by rw [List.mem_singleton.1 hu]; rfl) (by unfold maxLen; omega) (by omega) hbase
  refine ⟨v', w', h1, by rw [List.map_append]; exact h2, h3, fun q hq => ?_⟩
  rcases h4 with h4 | h4
  · exact .inl (h4.symm.trans hq)
  · rw [h4] at hq
    injection hq with hq
    exact .inr (by omega)
theorem byte_u64 (v u : Int) (hu : IntKind.u64.wrap v = u) (j : Nat) (hj : j < 8) : IntKind.u8.wrap (u / 2 ^ (8 * (j : Int)).toNat) = byteAt v j := by
  rw [u8_wrap]
  unfold byteAt
  rw [← hu, IntKind.wrap_u64]
  have : j = 0 ∨ j = 1 ∨ j = 2 ∨ j = 3 ∨ j = 4 ∨ j = 5 ∨ j = 6 ∨ j = 7 := by omega
  rcases this with rfl | rfl | rfl | rfl | rfl | rfl | rfl | rfl <;> (simp only [show ∀ n : Nat, (8 * (n : Int)).toNat = 8 * n from fun n => by omega]; omega)
theorem div_bd (u : Int) (h0 : 0 ≤ u) (h1 : u < 18446744073709551616) (j : Nat) : 0 ≤ u / 2 ^ (8 * (j : Int)).toNat ∧ u / 2 ^ (8 * (j : Int)).toNat < 18446744073709551616 := by
  have hp : (0 : Int) < 2 ^ (8 * (j : Int)).toNat := Int.pow_pos (by omega)
  refine ⟨Int.ediv_nonneg h0 (by omega), ?_⟩
  have := Int.ediv_le_self (b := 2 ^ (8 * (j : Int)).toNat) (a := u) h0
  omega
theorem div_pow (x : Int) (j : Nat) (hj : j < 8) : x / 2 ^ (8 * (j : Int)).toNat / 256 = x / 2 ^ (8 * ((j + 1 : Nat) : Int)).toNat := by
  have : j = 0 ∨ j = 1 ∨ j = 2 ∨ j = 3 ∨ j = 4 ∨ j = 5 ∨ j = 6 ∨ j = 7 := by omega
  rcases this with rfl | rfl | rfl | rfl | rfl | rfl | rfl | rfl <;> (simp only [show ∀ n : Nat, (8 * (n : Int)).toNat = 8 * n from fun n => by omega]; omega)
set_option maxRecDepth 100000 in
set_option maxHeartbeats 2000000 in
theorem num_full (v : Int) (w : World) (lo wb : Nat) (A : Option Addr) (c : Nat) (bs : List Int) (dl : Bool) (at_ : Nat) (h : Wq w lo wb A c bs dl at_) (hf : 262144 < bs.length) :
    Calls Try.prog 26 #[.pointer (some ⟨wb, 0, none⟩), .int .i64 v] w fun e w' => (∃ x, e = .returned x) ∧ w = w' := by
  have HF := Lib.hid (full_any w lo wb A c bs dl at_ h true (decide_eq_true hf))
  clear h hf
  go_enter Try.func26, Try.ntmps26
  go_wp2_with (go_at_call 29; ((with_reducible refine HF.out.mono ?_); rintro e w1 ⟨rfl, rfl⟩))
  refine bodyPost_ret (results_none rfl _ _ _) rfl ?_
  exact ⟨⟨_, rfl⟩, rfl⟩
set_option maxRecDepth 100000 in
set_option maxHeartbeats 4000000 in
theorem num_go (v : Int) (w : World) (lo wb : Nat) (A : Option Addr) (c : Nat) (bs : List Int) (dl : Bool) (at_ : Nat) (h : Wq w lo wb A c bs dl at_) (hf : bs.length ≤ 262144) :
    Calls Try.prog 26 #[.pointer (some ⟨wb, 0, none⟩), .int .i64 v] w fun e w' => (∃ x, e = .returned x) ∧ ∃ A' c', Wq w' lo wb A' c' (bs ++ le8 v) dl at_ ∧ WrN w w' wb (Value.slice A bs.length c).ownBlock (Value.slice A' (bs ++ le8 v).length c').ownBlock := by
  have HF := Lib.hid (full_any w lo wb A c bs dl at_ h false (decide_eq_false (by omega)))
  have HW1 := Lib.hid h
  obtain ⟨u, hu⟩ : ∃ u, IntKind.u64.wrap v = u := ⟨_, rfl⟩
  have hu0 : 0 ≤ u ∧ u < 18446744073709551616 := by rw [← hu, IntKind.wrap_u64]; omega
  have HBY := Lib.hid (fun (j : Nat) (hj : j < 8) => (show IntKind.u8.wrap (u / 2 ^ (8 * (j : Int)).toNat) = byteAt v j from byte_u64 v u hu j hj))
  obtain ⟨u0, u1⟩ := hu0
  have HU := Lib.hid hu
  clear h hu
  go_enter Try.func26, Try.ntmps26
  go_wp2_with (go_at_call 29; ((with_reducible refine HF.out.mono ?_); rintro e w1 ⟨rfl, rfl⟩))
  go_loopg [4, 5] 8 (fun gk v4 v5 wr => ∃ (j : Nat) (A' : Option Addr) (c' : Nat), j + gk = 8 ∧ v5 = .int .i64 j ∧ v4 = .int .u64 (u / 2 ^ (8 * (j : Int)).toNat) ∧ Wq wr lo wb A' c' (bs ++ bytesTo v j) dl at_ ∧ WrN w wr wb (Value.slice A bs.length c).ownBlock (Value.slice A' (bs ++ bytesTo v j).length c').ownBlock)
  case atStart => exact ⟨0, A, c, by simp, rfl, by simp [← HU.out], by simpa [bytesTo] using HW1.out, by simpa [bytesTo] using WrN.refl _ _ _⟩
  case round =>
    obtain ⟨j, A', c', hj, rfl, rfl, hw, hn⟩ := hrel
    have HW := Lib.hid hw
    have HN := Lib.hid hn
    cases gk with
    | zero =>
      obtain rfl : j = 8 := by omega
      clear hj hw hn
      go_wp2
      refine bodyPost_end (results_none rfl _ _ _) rfl ?_
      exact ⟨⟨_, rfl⟩, A', c', HW.out, HN.out⟩
    | succ gg =>
      have hj8 : (j : Int) < 8 := by omega
      have hj0 : (0 : Int) ≤ (j : Int) := by omega
      have hlj : (bs ++ bytesTo v j).length ≤ 262152 := by rw [List.length_append, bytesTo_len]; omega
      obtain ⟨bj, hbj⟩ : ∃ l, bs ++ bytesTo v j = l := ⟨_, rfl⟩
      have hbj1 : bs ++ bytesTo v (j + 1) = bj ++ [byteAt v j] := by rw [bytesTo_succ, ← List.append_assoc, hbj]
      rw [hbj] at hw hn hlj HW HN
      have HBJ := Lib.hid hbj1
      have b0 := hw.blk.cell 0
      have bl := hw.blk.lt
      have hne := hw.ne
      have HOLD := Lib.hid (fun q (hq : (Value.slice A' bj.length c').ownBlock = some q) => hw.old hq)
      have HOB := Lib.hid hw.lob
      obtain ⟨d0, d1⟩ := div_bd u u0 u1 j
      have hxb : u / 2 ^ (8 * (j : Int)).toNat % 256 = byteAt v j := by rw [← u8_wrap]; exact HBY.out j (by omega)
      have hdv := div_pow u j (by omega)
      obtain ⟨x, hx⟩ : ∃ x, u / 2 ^ (8 * (j : Int)).toNat = x := ⟨_, rfl⟩
      rw [hx] at d0 d1 hxb hdv ⊢
      have HXB := Lib.hid hxb
      have HDV := Lib.hid hdv
      have HLJ := Lib.hid hlj
      clear hbj hbj1 hw hn hxb hdv hx hlj
      go_wp2_with (at_builtin; refine wpList_app rfl _ _ _ _ rfl _ _ rfl rfl _ (app_one (HW.out.bel ((Below.refl _ wr).alloc (Nat.le_refl _) _)).own 29 (by have := HLJ.out; omega) (HW.out.bel ((Below.refl _ wr).alloc (Nat.le_refl _) _)).lob wr.heap.size 1 (x % 256) (by simp)) ?_; rintro v3 w3 ⟨ho3, hg3, hn3⟩; obtain ⟨A3, c3, rfl⟩ := own_shape ho3; have hb3 : Blk w3 wb 57 #[.slice A' bj.length c', .bool dl, .int .i64 at_] := (HW.out.bel ((Below.refl _ wr).alloc (Nat.le_refl _) _)).blk.grown hg3 (fun e => HW.out.ne e.symm); have v0 := hb3.cell 0; have vl := hb3.lt; have vf := hb3.frozen 0; have HO3 := Lib.hid ho3; have HG3 := Lib.hid hg3; have HN3 := Lib.hid hn3; clear ho3 hg3 hn3 hb3)
      have HV := Lib.hid ((HW.out.bel ((Below.refl _ wr).alloc (Nat.le_refl _) (.cells #[.int .u8 (x % 256)] 5))).grow (news := [x % 256]) HG3.out HO3.out (fun y hy => by (rw [List.mem_singleton.1 hy]; omega)))
      have HX := Lib.hid (show WrN wr (w3.setCell ⟨wb, 0, none⟩ (.slice A3 (bj.length + 1) c3)) wb (Value.slice A' bj.length c').ownBlock (Value.slice A3 (bj.length + 1) c3).ownBlock from (WrN.of_below wb _ ((Below.refl _ wr).alloc (Nat.le_refl _) (.cells #[.int .u8 (x % 256)] 5))).trans ⟨(Gr.of_grown (S := fun x => x = wb ∨ (Value.slice A' bj.length c').ownBlock = some x) HG3.out (fun k e _ => Or.inr e)).setCell (p := ⟨wb, 0, none⟩) (Or.inr (Or.inl (show wb = wb from rfl))) _, HN3.out⟩)
      go_roundg gg
      case measure => omega
      case rel => exact ⟨j + 1, A3, c3, by omega, by go_num, by rw [← HDV.out], by rw [HBJ.out, ← HXB.out]; exact HV.out, HN.out.trans (by rw [HBJ.out, ← HXB.out, List.length_append]; exact HX.out)⟩
theorem num_anyQ (v : Int) (w : World) (lo wb : Nat) (A : Option Addr) (c : Nat) (bs : List Int) (dl : Bool) (at_ : Nat) (h : Wq w lo wb A c bs dl at_) :
    Calls Try.prog 26 #[.pointer (some ⟨wb, 0, none⟩), .int .i64 v] w (PutQ lo wb (Value.slice A bs.length c).ownBlock bs dl at_ (le8 v) 1 false w) := by
  by_cases hf : bs.length ≤ 262144
  · refine (num_go v w lo wb A c bs dl at_ h hf).mono ?_
    rintro e w' ⟨he, A', c', h1, h2⟩
    refine ⟨he, A', c', _, dl, h1, by simp, h2, by rw [List.length_append, le8_len]; omega, by rw [List.length_append, le8_len]; omega, fun _ => ⟨fun _ => rfl, fun hk => ?_⟩⟩
    rw [le8_len] at hk
    rw [List.length_append, le8_len]; omega
  · refine (num_full v w lo wb A c bs dl at_ h (by omega)).mono ?_
    rintro e w' ⟨he, rfl⟩
    exact ⟨he, A, c, bs, dl, h, by simp, WrN.refl _ _ _, Nat.le_refl _, by omega, fun _ => ⟨fun hk => by omega, fun _ => by omega⟩⟩
end Go.Proofs.Ytnkojjkijkhlbaa

namespace Go.Proofs.Ytnkojjkijkhlbaa
open Go.RowKit
set_option linter.unusedVariables false
set_option linter.unusedSimpArgs false

set_option maxRecDepth 100000 in
theorem app_big {w : World} {lo : Nat} {v : Value} {bs : List Int} (hown : w.ownsRow lo 5 1 v bs.length (bs.map (Value.int .u8))) (ty : TypeId) (hn : bs.length ≤ 90000000000000) (hbase : lo ≤ w.heap.size) :
    ∃ v' w', (Builtin.append_ #[29, 3] ty #[v, .int .i64 262145]).run Try.prog w = .ok v' w' ∧ ∃ news : List Int, news.length = 262145 ∧ (∀ x ∈ news, 0 ≤ x ∧ x ≤ 255) ∧ w'.ownsRow lo 5 1 v' (bs.length + news.length) ((bs ++ news).map (Value.int .u8)) ∧ w.grownBy w' v.ownBlock ∧ ∀ q, v'.ownBlock = some q → v.ownBlock = some q ∨ w.heap.size ≤ q := by
  obtain ⟨k, hk⟩ : ∃ k : Nat, k = 262145 := ⟨_, rfl⟩
  obtain ⟨v', w', h1, h2, h3, h4⟩ := app_zeros hown ty k (by omega) (by omega) hbase
  have e : (k : Int) = 262145 := by omega
  rw [e] at h1
  exact ⟨v', w', h1, List.replicate k 0, by rw [List.length_replicate]; exact hk, fun x hx => by rw [List.eq_of_mem_replicate hx]; omega, by rw [List.length_replicate]; exact h2, h3, h4⟩
theorem Wq.cap {w : World} {lo wb : Nat} {A : Option Addr} {c : Nat} {bs : List Int} {dl : Bool} {at_ : Nat} (h : Wq w lo wb A c bs dl at_) : bs.length ≤ c := Bys.cap (.inl h.own)
set_option maxRecDepth 100000 in
set_option maxHeartbeats 4000000 in
theorem text_huge (s : ByteArray) (h0 : 262144 < s.size) (hs : s.size ≤ 140737488355328) (w : World) (lo wb : Nat) (A : Option Addr) (c : Nat) (bs : List Int) (dl : Bool) (at_ : Nat) (h : Wq w lo wb A c bs dl at_) (hf : bs.length ≤ 80000000000000) :
    Calls Try.prog 24 #[.pointer (some ⟨wb, 0, none⟩), .string s] w (PutQ lo wb (Value.slice A bs.length c).ownBlock bs dl at_ (le8 s.size ++ sB s) 2 false w) := by
  have HM := Lib.hid (num_anyQ s.size w lo wb A c bs dl at_ h)
  have s0 : (262144 : Int) < (s.size : Int) := by omega
  have s1 : (s.size : Int) ≤ 140737488355328 := by omega
  have HF := Lib.hid hf
  have HS0 := Lib.hid h0
  clear h hf h0
  go_enter Try.func24, Try.ntmps24
  go_wp2_with (first
    | (at_builtin; refine wpList_app rfl _ _ _ _ rfl _ _ rfl rfl _ (app_big HW1.out.own 29 (by have := HF.out; have := HQ1.out.2.1; omega) HW1.out.lob) ?_; rintro v3 w3 ⟨nw, hnw1, hnw2, ho3, hg3, hn3⟩; obtain ⟨A3, c3, rfl⟩ := own_shape ho3; have hb3 : Blk w3 wb 57 #[.slice A1 b1.length c1, .bool dl1, .int .i64 at_] := HW1.out.blk.grown hg3 (fun e => HW1.out.ne e.symm); have v0 := hb3.cell 0; have vl := hb3.lt; have vf := hb3.frozen 0; have HNW1 := Lib.hid hnw1; have HNW2 := Lib.hid hnw2; have HO3 := Lib.hid ho3; have HG3 := Lib.hid hg3; have HN3 := Lib.hid hn3; clear hnw1 hnw2 ho3 hg3 hn3 hb3)
    | (go_at_call 26; ((with_reducible refine HM.out.mono ?_); rintro e w1 ⟨⟨x, rfl⟩, A1, c1, b1, dl1, hw1, hd1, hn1, hq1⟩); have HW1 := Lib.hid hw1; have HN1 := Lib.hid hn1; have HQ1 := Lib.hid hq1; have HD1 := Lib.hid hd1; have y0 := hw1.blk.cell 0; have yf := hw1.blk.frozen 0; have yl := hw1.blk.lt; clear hw1 hn1 hq1 hd1))
  refine bodyPost_ret (results_none rfl _ _ _) rfl ?_
  have hq := HQ1.out
  have hl := HNW1.out
  have e8 := HS0.out
  refine ⟨⟨_, rfl⟩, A3, c3, b1 ++ nw, dl1, HW1.out.grow HG3.out HO3.out HNW2.out, HD1.out, by rw [List.length_append]; exact HN1.out.trans ⟨(Gr.of_grown (S := fun x => x = wb ∨ (Value.slice A1 b1.length c1).ownBlock = some x) HG3.out (fun k e _ => Or.inr e)).setCell (p := ⟨wb, 0, none⟩) (Or.inr (Or.inl (show wb = wb from rfl))) _, HN3.out⟩, ?_, ?_, fun _ => ⟨fun hk => ?_, fun _ => ?_⟩⟩
  · rw [List.length_append]; have := hq.1; omega
  · rw [List.length_append]; have := hq.2.1; omega
  · rw [List.length_append, sB_len] at hk; omega
  · rw [List.length_append]; omega
set_option maxRecDepth 100000 in
set_option maxHeartbeats 4000000 in
theorem text_room (s : ByteArray) (h0 : s.size ≤ 262144) (w : World) (lo wb : Nat) (A : Option Addr) (c : Nat) (bs : List Int) (dl : Bool) (at_ : Nat) (h : Wq w lo wb A c bs dl at_) (hf : bs.length + 8 ≤ 262144) :
    Calls Try.prog 24 #[.pointer (some ⟨wb, 0, none⟩), .string s] w (PutQ lo wb (Value.slice A bs.length c).ownBlock bs dl at_ (le8 s.size ++ sB s) 2 false w) := by
  have HM := Lib.hid (num_go s.size w lo wb A c bs dl at_ h (by omega))
  have s0 : (s.size : Int) ≤ 262144 := by omega
  have hl8 : (bs ++ le8 (s.size : Int)).length = bs.length + 8 := by rw [List.length_append, le8_len]
  obtain ⟨b1, hb1⟩ : ∃ b, bs ++ le8 (s.size : Int) = b := ⟨_, rfl⟩
  rw [hb1] at HM hl8
  obtain ⟨dl1, hdl1⟩ : ∃ b, dl = b := ⟨_, rfl⟩
  rw [hdl1] at HM
  have HFU := Lib.hid (fun w' A' c' (h' : Wq w' lo wb A' c' b1 dl1 at_) => full_any w' lo wb A' c' b1 dl1 at_ h' false (decide_eq_false (by omega)))
  have HB1 := Lib.hid hb1
  have HL8 := Lib.hid hl8
  have HS0 := Lib.hid h0
  have HF := Lib.hid hf
  have HDL := Lib.hid hdl1
  clear h hf h0 hb1 hl8 hdl1
  go_enter Try.func24, Try.ntmps24
  go_wp2_with (first
    | (at_builtin; refine wpList_app rfl _ _ _ _ rfl _ _ rfl rfl _ (app_text HW1.out.own 29 s (by have := HL8.out; have := HS0.out; have := HF.out; omega) HW1.out.lob) ?_; rintro v3 w3 ⟨ho3, hg3, hn3⟩; obtain ⟨A3, c3, rfl⟩ := own_shape ho3; have hb3 : Blk w3 wb 57 #[.slice A1 b1.length c1, .bool dl1, .int .i64 at_] := HW1.out.blk.grown hg3 (fun e => HW1.out.ne e.symm); have v0 := hb3.cell 0; have vl := hb3.lt; have vf := hb3.frozen 0; have HO3 := Lib.hid ho3; have HG3 := Lib.hid hg3; have HN3 := Lib.hid hn3; clear ho3 hg3 hn3 hb3)
    | (go_at_call 26; ((with_reducible refine HM.out.mono ?_); rintro e w1 ⟨⟨x, rfl⟩, A1, c1, hw1, hn1⟩); have HW1 := Lib.hid hw1; have HN1 := Lib.hid hn1; have y0 := hw1.blk.cell 0; have yf := hw1.blk.frozen 0; have yl := hw1.blk.lt; clear hw1 hn1)
    | (go_at_call 29; ((with_reducible refine (HFU.out _ _ _ HW1.out).mono ?_); rintro e w2 ⟨rfl, rfl⟩)))
  refine bodyPost_end (results_none rfl _ _ _) rfl ?_
  have hb := HB1.out
  have hl := HL8.out
  have hsz := HS0.out
  have hf := HF.out
  have e1 : b1 ++ sB s = bs ++ (le8 (s.size : Int) ++ sB s) := by rw [← hb, List.append_assoc]
  refine ⟨⟨_, rfl⟩, A3, c3, b1 ++ sB s, dl1, HW1.out.grow HG3.out HO3.out (sB_ok s), by rw [HDL.out]; simp, by rw [List.length_append]; exact HN1.out.trans ⟨(Gr.of_grown (S := fun x => x = wb ∨ (Value.slice A1 b1.length c1).ownBlock = some x) HG3.out (fun k e _ => Or.inr e)).setCell (p := ⟨wb, 0, none⟩) (Or.inr (Or.inl (show wb = wb from rfl))) _, HN3.out⟩, ?_, ?_, fun _ => ⟨fun hk => e1, fun hk => ?_⟩⟩
  · rw [List.length_append]; omega
  · rw [List.length_append, sB_len]; omega
  · rw [e1, List.length_append]; omega
set_option maxRecDepth 100000 in
set_option maxHeartbeats 4000000 in
theorem text_stop (s : ByteArray) (h0 : s.size ≤ 262144) (w : World) (lo wb : Nat) (A : Option Addr) (c : Nat) (bs : List Int) (dl : Bool) (at_ : Nat) (h : Wq w lo wb A c bs dl at_) (h1 : bs.length ≤ 262144) (hf : 262144 < bs.length + 8) :
    Calls Try.prog 24 #[.pointer (some ⟨wb, 0, none⟩), .string s] w (PutQ lo wb (Value.slice A bs.length c).ownBlock bs dl at_ (le8 s.size ++ sB s) 2 false w) := by
  have HM := Lib.hid (num_go s.size w lo wb A c bs dl at_ h h1)
  have hl8 : (bs ++ le8 (s.size : Int)).length = bs.length + 8 := by rw [List.length_append, le8_len]
  obtain ⟨b1, hb1⟩ : ∃ b, bs ++ le8 (s.size : Int) = b := ⟨_, rfl⟩
  rw [hb1] at HM hl8
  have HFU := Lib.hid (fun w' A' c' (h' : Wq w' lo wb A' c' b1 dl at_) => full_any w' lo wb A' c' b1 dl at_ h' true (decide_eq_true (by omega)))
  have s0 : (s.size : Int) ≤ 262144 := by omega
  have HL8 := Lib.hid hl8
  have HF := Lib.hid hf
  have HH1 := Lib.hid h1
  clear h hf h0 hb1 hl8 h1
  go_enter Try.func24, Try.ntmps24
  go_wp2_with (first
    | (go_at_call 26; ((with_reducible refine HM.out.mono ?_); rintro e w1 ⟨⟨x, rfl⟩, A1, c1, hw1, hn1⟩); have HW1 := Lib.hid hw1; have HN1 := Lib.hid hn1; clear hw1 hn1)
    | (go_at_call 29; ((with_reducible refine (HFU.out _ _ _ HW1.out).mono ?_); rintro e w2 ⟨rfl, rfl⟩)))
  refine bodyPost_end (results_none rfl _ _ _) rfl ?_
  have hl := HL8.out
  have hf := HF.out
  refine ⟨⟨_, rfl⟩, A1, c1, b1, dl, HW1.out, by simp, HN1.out, by omega, by omega, fun _ => ⟨fun hk => ?_, fun hk => by omega⟩⟩
  rw [List.length_append, le8_len] at hk
  omega
set_option maxRecDepth 100000 in
set_option maxHeartbeats 4000000 in
theorem text_full (s : ByteArray) (h0 : s.size ≤ 262144) (w : World) (lo wb : Nat) (A : Option Addr) (c : Nat) (bs : List Int) (dl : Bool) (at_ : Nat) (h : Wq w lo wb A c bs dl at_) (hf : 262144 < bs.length) :
    Calls Try.prog 24 #[.pointer (some ⟨wb, 0, none⟩), .string s] w (PutQ lo wb (Value.slice A bs.length c).ownBlock bs dl at_ (le8 s.size ++ sB s) 2 false w) := by
  have HM := Lib.hid (num_full s.size w lo wb A c bs dl at_ h hf)
  have hl8 : bs.length = bs.length := rfl
  have HW1 := Lib.hid h
  obtain ⟨b1, hb1⟩ : ∃ b, b = bs := ⟨_, rfl⟩
  rw [← hb1] at hl8
  have HFU := Lib.hid (fun w' A' c' (h' : Wq w' lo wb A' c' bs dl at_) => full_any w' lo wb A' c' bs dl at_ h' true (decide_eq_true (by omega)))
  have s0 : (s.size : Int) ≤ 262144 := by omega
  have HL8 := Lib.hid hl8
  have HF := Lib.hid hf
  have HH1 := Lib.hid hb1
  clear h hf h0 hb1 hl8 
  go_enter Try.func24, Try.ntmps24
  go_wp2_with (first
    | (go_at_call 26; ((with_reducible refine HM.out.mono ?_); rintro e w1 ⟨⟨x, rfl⟩, rfl⟩))
    | (go_at_call 29; ((with_reducible refine (HFU.out _ _ _ HW1.out).mono ?_); rintro e w2 ⟨rfl, rfl⟩)))
  refine bodyPost_end (results_none rfl _ _ _) rfl ?_
  have hf := HF.out
  exact ⟨⟨_, rfl⟩, A, c, bs, dl, HW1.out, by simp, WrN.refl _ _ _, by omega, by omega, fun _ => ⟨fun hk => by omega, fun hk => hf⟩⟩
theorem text_anyQ (s : ByteArray) (hs : s.size ≤ 140737488355328) (w : World) (lo wb : Nat) (A : Option Addr) (c : Nat) (bs : List Int) (dl : Bool) (at_ : Nat) (h : Wq w lo wb A c bs dl at_) (hf : bs.length ≤ 80000000000000) :
    Calls Try.prog 24 #[.pointer (some ⟨wb, 0, none⟩), .string s] w (PutQ lo wb (Value.slice A bs.length c).ownBlock bs dl at_ (le8 s.size ++ sB s) 2 false w) := by
  by_cases h0 : 262144 < s.size
  · exact text_huge s h0 hs w lo wb A c bs dl at_ h hf
  · by_cases h1 : bs.length ≤ 262144
    · by_cases h2 : bs.length + 8 ≤ 262144
      · exact text_room s (by omega) w lo wb A c bs dl at_ h h2
      · exact text_stop s (by omega) w lo wb A c bs dl at_ h h1 (by omega)
    · exact text_full s (by omega) w lo wb A c bs dl at_ h (by omega)
set_option maxRecDepth 100000 in
set_option maxHeartbeats 4000000 in
theorem bool_trueQ (w : World) (lo wb : Nat) (A : Option Addr) (c : Nat) (bs : List Int) (dl : Bool) (at_ : Nat) (h : Wq w lo wb A c bs dl at_) :
    Calls Try.prog 53 #[.pointer (some ⟨wb, 0, none⟩), .bool true] w (PutQ lo wb (Value.slice A bs.length c).ownBlock bs dl at_ (le8 1) 1 false w) := by
  have HM := Lib.hid (num_anyQ 1 w lo wb A c bs dl at_ h)
  clear h
  go_enter Try.func53, Try.ntmps53
  go_wp2_with (go_at_call 26; ((with_reducible refine HM.out.mono ?_); rintro e w1 ⟨⟨x, rfl⟩, hw1⟩); have HW1 := Lib.hid hw1; clear hw1)
  refine bodyPost_end (results_none rfl _ _ _) rfl ?_
  exact ⟨⟨_, rfl⟩, HW1.out⟩
set_option maxRecDepth 100000 in
set_option maxHeartbeats 4000000 in
theorem bool_falseQ (w : World) (lo wb : Nat) (A : Option Addr) (c : Nat) (bs : List Int) (dl : Bool) (at_ : Nat) (h : Wq w lo wb A c bs dl at_) :
    Calls Try.prog 53 #[.pointer (some ⟨wb, 0, none⟩), .bool false] w (PutQ lo wb (Value.slice A bs.length c).ownBlock bs dl at_ (le8 0) 1 false w) := by
  have HM := Lib.hid (num_anyQ 0 w lo wb A c bs dl at_ h)
  clear h
  go_enter Try.func53, Try.ntmps53
  go_wp2_with (go_at_call 26; ((with_reducible refine HM.out.mono ?_); rintro e w1 ⟨⟨x, rfl⟩, hw1⟩); have HW1 := Lib.hid hw1; clear hw1)
  refine bodyPost_end (results_none rfl _ _ _) rfl ?_
  exact ⟨⟨_, rfl⟩, HW1.out⟩
theorem bool_anyQ (b : Bool) (w : World) (lo wb : Nat) (A : Option Addr) (c : Nat) (bs : List Int) (dl : Bool) (at_ : Nat) (h : Wq w lo wb A c bs dl at_) :
    Calls Try.prog 53 #[.pointer (some ⟨wb, 0, none⟩), .bool b] w (PutQ lo wb (Value.slice A bs.length c).ownBlock bs dl at_ (le8 (flagN b)) 1 false w) := by
  cases b with
  | true => exact bool_trueQ w lo wb A c bs dl at_ h
  | false => exact bool_falseQ w lo wb A c bs dl at_ h
set_option maxRecDepth 100000 in
set_option maxHeartbeats 4000000 in
theorem in_ok (w : World) (lo wb : Nat) (A : Option Addr) (c : Nat) (bs : List Int) (dl : Bool) (at_ : Nat) (h : Wq w lo wb A c bs dl at_) (ha : at_ ≤ 100) :
    Calls Try.prog 81 #[.pointer (some ⟨wb, 0, none⟩)] w fun e w' => e = .returned (.bool true) ∧ Wq w' lo wb A c bs dl (at_ + 1) ∧ WrN w w' wb (Value.slice A bs.length c).ownBlock (Value.slice A bs.length c).ownBlock := by
  have b2 := h.blk.cell 2
  have b1' := h.blk.cell 1
  have bl := h.blk.lt
  have bf := h.blk.frozen 2
  have a0 : (0 : Int) ≤ (at_ : Int) := by omega
  have a1 : (at_ : Int) ≤ 100 := by omega
  have HH := Lib.hid h
  clear h ha
  go_enter Try.func81, Try.ntmps81
  go_wp2
  go_ret
  exact ⟨rfl, by simpa using HH.out.goto (at_ + 1), WrN.set_ _ _ _ _ _⟩
set_option maxRecDepth 100000 in
set_option maxHeartbeats 4000000 in
theorem in_deep (w : World) (lo wb : Nat) (A : Option Addr) (c : Nat) (bs : List Int) (dl : Bool) (at_ : Nat) (h : Wq w lo wb A c bs dl at_) (ha : at_ = 101) :
    Calls Try.prog 81 #[.pointer (some ⟨wb, 0, none⟩)] w fun e w' => e = .returned (.bool false) ∧ Wq w' lo wb A c bs true (at_ + 1) ∧ WrN w w' wb (Value.slice A bs.length c).ownBlock (Value.slice A bs.length c).ownBlock := by
  subst ha
  have b2 := h.blk.cell 2
  have b1' := h.blk.cell 1
  have bl := h.blk.lt
  have bf := h.blk.frozen 2
  have bf1 := h.blk.frozen 1
  have HH := Lib.hid h
  clear h
  go_enter Try.func81, Try.ntmps81
  go_wp2
  go_ret
  exact ⟨rfl, by simpa using (HH.out.goto 102).flag true, (WrN.set_ _ _ _ _ _).trans (WrN.set_ _ _ _ _ _)⟩
end Go.Proofs.Ytnkojjkijkhlbaa

namespace Go.Proofs.Ytnkojjkijkhlbaa
open Go.RowKit
set_option linter.unusedVariables false
set_option linter.unusedSimpArgs false

theorem any_take {α : Type} (p : α → Bool) (l : List α) (j : Nat) (u : α) (h : l[j]? = some u) : (l.take (j + 1)).any p = ((l.take j).any p || p u) := by
  rw [List.take_add_one, h, Option.toList_some, List.any_append]; simp
theorem WrN.cell {w w' : World} {wb : Nat} {o o' : Option Nat} (h : WrN w w' wb o o') {p : Addr} (hp : p.block < w.heap.size) (h1 : p.block ≠ wb) (h2 : o ≠ some p.block) : w'.cell? p = w.cell? p :=
  World.cell?_of_block (h.fresh hp h1 h2)
mutual
/-- A type that stands in so many others, or one within it, stands in too many. -/
def deepT : Ty → Nat → Bool
  | .mk _ _ _ la lr, a => decide (100 < a) || deepTs la (a + 1) || deepTs lr (a + 1)
def deepTs : List Ty → Nat → Bool
  | [], _ => false
  | t :: r, a => deepT t a || deepTs r a
end
theorem deepTs_eq (a : Nat) : ∀ l : List Ty, deepTs l a = l.any (fun t => deepT t a)
  | [] => by simp only [deepTs, List.any_nil]
  | t :: r => by simp only [deepTs, List.any_cons, deepTs_eq a r]
def kT (t : Ty) : Nat := 7 * t.count
theorem kT_sum : ∀ l : List Ty, sumL kT l = 7 * countL l
  | [] => by simp [sumL, countL_nil]
  | t :: r => by simp only [sumL, countL_cons, kT_sum r, kT]; omega
theorem kT_mk (k : Int) (p n : ByteArray) (la lr : List Ty) : kT (.mk k p n la lr) = 7 + sumL kT la + sumL kT lr := by rw [kT_sum, kT_sum, kT, count_mk]; omega
mutual
def deepE : Ex → Nat → Bool
  | .mk _ _ _ kids, a => decide (100 < a) || deepEs kids (a + 1)
def deepEs : List Ex → Nat → Bool
  | [], _ => false
  | t :: r, a => deepE t a || deepEs r a
end
theorem deepEs_eq (a : Nat) : ∀ l : List Ex, deepEs l a = l.any (fun t => deepE t a)
  | [] => by simp only [deepEs, List.any_nil]
  | t :: r => by simp only [deepEs, List.any_cons, deepEs_eq a r]
def kE (t : Ex) : Nat := 5 * t.cnt
theorem kE_sum : ∀ l : List Ex, sumL kE l = 5 * cntEs l
  | [] => by simp [sumL, cntEs]
  | t :: r => by simp only [sumL, cntEs, kE_sum r, kE]; omega
theorem kE_mk (op n : Int) (s : ByteArray) (kids : List Ex) : kE (.mk op n s kids) = 5 + sumL kE kids := by rw [kE_sum, kE, cnt_ex]; omega
def TypQ (N : Nat) : Prop := ∀ t : Ty, t.count ≤ N → t.mx ≤ 140737488355328 → ∀ (w : World) (lo wb : Nat) (A : Option Addr) (c : Nat) (bs : List Int) (dl : Bool) (at_ : Nat), Wq w lo wb A c bs dl at_ → at_ ≤ 101 → bs.length + 300000 * kT t ≤ 50000000000000 → lo ≤ wb → ∀ (F : Nat → Prop), (∀ k, F k → k < lo) → ∀ vs : List Value, RT w F t vs →
    Calls Try.prog 52 #[.pointer (some ⟨wb, 0, none⟩), .agg vs.toArray] w (PutQ lo wb (Value.slice A bs.length c).ownBlock bs dl at_ (encT t) (kT t) (deepT t at_) w)
set_option maxRecDepth 100000 in
set_option maxHeartbeats 4000000 in
theorem typesQ (N : Nat) (ih : TypQ N) (l : List Ty) (hl : l.length ≤ 140737488355328) (hok : ∀ t ∈ l, t.count ≤ N ∧ t.mx ≤ 140737488355328) (w : World) (lo wb : Nat) (A : Option Addr) (c : Nat) (bs : List Int) (dl : Bool) (at_ : Nat) (h : Wq w lo wb A c bs dl at_) (ha : at_ ≤ 101) (hf : bs.length + 300000 * (1 + sumL kT l) ≤ 50000000000000) (hwb : lo ≤ wb) (F : Nat → Prop) (hF : ∀ k, F k → k < lo) (B : Option Addr) (d : Nat) (hr : SlT w F B l) :
    Calls Try.prog 82 #[.pointer (some ⟨wb, 0, none⟩), .slice B l.length d] w (PutQ lo wb (Value.slice A bs.length c).ownBlock bs dl at_ (le8 l.length ++ encL encT l) (1 + sumL kT l) (l.any (fun t => deepT t at_)) w) := by
  have HR := Lib.hid (num_anyQ l.length w lo wb A c bs dl at_ h)
  have HA := Lib.hid hr
  have HO := Lib.hid h.olo
  have HOK := Lib.hid hok
  have HF := Lib.hid hF
  have HFU := Lib.hid hf
  have HAT := Lib.hid ha
  have n0 : (0 : Int) ≤ (l.length : Int) := by omega
  have n1 : (l.length : Int) ≤ 140737488355328 := by omega
  clear h hr hF hok hf ha
  go_enter Try.func82, Try.ntmps82
  go_wp2_with (go_at_call 26; ((with_reducible refine HR.out.mono ?_); rintro e w1 ⟨⟨x, rfl⟩, A1, c1, b1, dl1, hw1, hd1, hn1, hq1⟩); have HW1 := Lib.hid hw1; have HN1 := Lib.hid hn1; have HQ1 := Lib.hid hq1; have HD1 := Lib.hid hd1; clear hw1 hn1 hq1 hd1)
  go_loopg [4] l.length (fun gk v4 wr => ∃ (j : Nat) (A' : Option Addr) (c' : Nat) (b' : List Int) (dl' : Bool), j + gk = l.length ∧ v4 = .int .i64 j ∧ Wq wr lo wb A' c' b' dl' at_ ∧ dl' = (dl || (l.take j).any (fun t => deepT t at_)) ∧ WrN w wr wb (Value.slice A bs.length c).ownBlock (Value.slice A' b'.length c').ownBlock ∧ QP bs b' (le8 l.length ++ encL encT (l.take j)) (1 + sumL kT (l.take j)) ((l.take j).any (fun t => deepT t at_)))
  case atStart => exact ⟨0, A1, c1, b1, dl1, by simp, rfl, HW1.out, by simpa using HD1.out, HN1.out, by simpa [encL, sumL] using HQ1.out⟩
  case round =>
    obtain ⟨j, A', c', b', dl', hj, rfl, hw, hd, hn, hq⟩ := hrel
    have HW := Lib.hid hw
    have HN := Lib.hid hn
    have HQ := Lib.hid hq
    have HDD := Lib.hid hd
    cases gk with
    | zero =>
      obtain rfl : j = l.length := by omega
      clear hj hw hn hq hd
      go_wp2
      refine bodyPost_end (results_none rfl _ _ _) rfl ?_
      have h1 := HQ.out
      have h2 := HDD.out
      rw [List.take_length] at h1 h2
      exact ⟨⟨_, rfl⟩, A', c', b', dl', HW.out, h2, HN.out, h1⟩
    | succ f =>
      have hjl : j < l.length := by omega
      obtain ⟨u, hu⟩ : ∃ u, l[j]? = some u := ⟨_, List.getElem?_eq_getElem hjl⟩
      have hm := HOK.out u (List.mem_of_getElem? hu)
      have j1 : (j : Int) < (l.length : Int) := by omega
      have j0 : (0 : Int) ≤ (j : Int) := by omega
      have hks := sumL_take kT l j u hu
      have hkd := sumL_kid kT l j u hu
      have hfu : b'.length + 300000 * kT u ≤ 50000000000000 := by
        have h1 := HFU.out
        have h2 := hq.2.1
        omega
      obtain ⟨q, o, vs, rfl, hFq, hql, hrep, hat⟩ := (HA.out.wr hn HF.out hwb HO.out).at_ hu
      have HI := Lib.hid (ih u hm.1 hm.2 wr lo wb A' c' b' dl' at_ hw HAT.out hfu hwb F HF.out)
      have HE := Lib.hid (encL_take encT l j u hu)
      have HY := Lib.hid (any_take (fun t => deepT t at_) l j u hu)
      have HKS := Lib.hid hks
      have HI := Lib.hid (HI.out vs hrep)
      obtain ⟨k1, p1, n1', A3, m3, c3, B3, l3, d3, rfl⟩ := hrep.shape
      simp only [tyC] at HI hat
      have q0 := hat 0 _ rfl
      have q1 := hat 1 _ rfl
      have q2 := hat 2 _ rfl
      have q3 := hat 3 _ rfl
      have q4 := hat 4 _ rfl
      rw [Nat.add_zero] at q0
      clear hat hu hw hn hq hd hm hks hkd hfu
      go_wp2_with (go_at_call 52; ((with_reducible refine HI.out.mono ?_); rintro e w2 ⟨⟨x, rfl⟩, A2, c2, b2, dl2, hw2, hd2, hn2, hq2⟩); have HW2 := Lib.hid hw2; have HN2 := Lib.hid (HN.out.trans hn2); have HQ2 := Lib.hid hq2; have HD2 := Lib.hid hd2; clear hw2 hn2 hq2 hd2)
      go_roundg f
      case measure => omega
      case rel =>
        refine ⟨j + 1, A2, c2, b2, dl2, by omega, by go_num, HW2.out, by rw [HY.out, HD2.out, HDD.out, Bool.or_assoc], HN2.out, ?_⟩
        rw [HE.out, HY.out, HKS.out, ← List.append_assoc, ← Nat.add_assoc]
        exact QP.rule HQ.out HQ2.out
set_option maxRecDepth 100000 in
set_option maxHeartbeats 4000000 in
theorem typ_stepQ (N : Nat) (hN : N ≤ 2000000) (ih : TypQ N) : TypQ (N + 1) := by
  rintro ⟨k, p, n, la, lr⟩ hct hmx w lo wb A c bs dl at_ h ha hf hwb F hF vs hr
  rw [count_mk] at hct
  rw [mx_mk] at hmx
  rw [kT_mk] at hf
  have hps : p.size ≤ 140737488355328 := by omega
  have hns : n.size ≤ 140737488355328 := by omega
  have hla : la.length ≤ 140737488355328 := by have := len_countL la; omega
  have hlr : lr.length ≤ 140737488355328 := by have := len_countL lr; omega
  have HAK := Lib.hid (fun t (ht : t ∈ la) => by
    obtain ⟨i, hi⟩ := List.getElem?_of_mem ht
    have h1 := count_kid la i t hi
    have h2 := mx_kid la i t hi
    exact (⟨by omega, by omega⟩ : t.count ≤ N ∧ t.mx ≤ 140737488355328))
  have HBK := Lib.hid (fun t (ht : t ∈ lr) => by
    obtain ⟨i, hi⟩ := List.getElem?_of_mem ht
    have h1 := count_kid lr i t hi
    have h2 := mx_kid lr i t hi
    exact (⟨by omega, by omega⟩ : t.count ≤ N ∧ t.mx ≤ 140737488355328))
  obtain ⟨A1, c1, A2, c2, rfl, hra, hrb⟩ := hr.openL
  simp only [tyC, encT, encTs_eq, deepT, deepTs_eq]
  have hb0 := (Below.refl _ w).alloc (Nat.le_refl _) (.cells #[.int .i64 k, .string p, .string n, .slice A1 la.length c1, .slice A2 lr.length c2] 44)
  have HB0 := Lib.hid hb0
  have HK0 := Lib.hid (Blk.new w 44 #[.int .i64 k, .string p, .string n, .slice A1 la.length c1, .slice A2 lr.length c2])
  have HO := Lib.hid h.olo
  have HOL := Lib.hid (fun q (hq : (Value.slice A bs.length c).ownBlock = some q) => h.old hq)
  have HWB := Lib.hid h.blk.lt
  have HF := Lib.hid hF
  have HA := Lib.hid (hra.bel hb0)
  have HB := Lib.hid (hrb.bel hb0)
  have HH0 := Lib.hid (h.bel hb0)
  have a0 : (0 : Int) ≤ (at_ : Int) := by omega
  rcases Nat.lt_or_ge 100 at_ with hd | hd
  · have ha1 : at_ = 101 := by omega
    have HIN := Lib.hid (in_deep _ lo wb A c bs dl at_ HH0.out ha1)
    have HDP := Lib.hid (show (decide (100 < at_) || la.any (fun t => deepT t (at_ + 1)) || lr.any (fun t => deepT t (at_ + 1))) = true by rw [decide_eq_true hd]; simp)
    clear h hb0 hF hf hr hra hrb hct hmx
    subst ha1
    go_enter Try.func52, Try.ntmps52
    go_wp2_with (go_at_call 81; ((with_reducible refine HIN.out.mono ?_); rintro e w9 ⟨rfl, hw9, hn9⟩); have z0 := hw9.blk.cell 2; have zf := hw9.blk.frozen 2; have zl := hw9.blk.lt; have HW9 := Lib.hid hw9; have HN9 := Lib.hid hn9; clear hw9 hn9)
    refine bodyPost_end (results_none rfl _ _ _) rfl ?_
    rw [HDP.out]
    exact ⟨⟨_, rfl⟩, A, c, bs, true, by simpa using HW9.out.goto 101, by simp, (WrN.of_below wb _ HB0.out).trans (HN9.out.trans (WrN.set_ _ _ _ _ _)), Nat.le_refl _, by omega, fun h => by cases h⟩
  · have HIN := Lib.hid (in_ok _ lo wb A c bs dl at_ HH0.out hd)
    have HDP := Lib.hid (show (decide (100 < at_) || la.any (fun t => deepT t (at_ + 1)) || lr.any (fun t => deepT t (at_ + 1))) = (false || la.any (fun t => deepT t (at_ + 1)) || lr.any (fun t => deepT t (at_ + 1))) by rw [decide_eq_false (by omega)])
    have ha1 : at_ + 1 ≤ 101 := by omega
    have HA1 := Lib.hid ha1
    have HFU := Lib.hid hf
    clear h hb0 hF hf hr hra hrb hct hmx ha1
    go_enter Try.func52, Try.ntmps52
    go_wp2_with (first | (go_at_call 82; ((with_reducible refine HM5.out.mono ?_); rintro e w5 ⟨⟨x5, rfl⟩, G5, g5, b5, dl5, hw5, hd5, hn5, hq5⟩); have HN5 := Lib.hid (HN4.out.trans hn5); have HW5 := Lib.hid hw5; have HQ5 := Lib.hid hq5; have HD5 := Lib.hid hd5; have hk5 : Blk w5 w.heap.size 44 #[.int .i64 k, .string p, .string n, .slice A1 la.length c1, .slice A2 lr.length c2] := (HN5.out.fresh HK0.out.lt (fun e => by have := HWB.out; omega) (fun e => by have := HOL.out _ e; omega)).trans HK0.out; have y50 := hk5.cell 0; have y51 := hk5.cell 1; have y52 := hk5.cell 2; have y53 := hk5.cell 3; have y54 := hk5.cell 4; have yl5 := hk5.lt; have z0 := hw5.blk.cell 2; have zf := hw5.blk.frozen 2; have zl := hw5.blk.lt; clear hw5 hn5 hq5 hd5 hk5) | (go_at_call 82; ((with_reducible refine HM4.out.mono ?_); rintro e w4 ⟨⟨x4, rfl⟩, G4, g4, b4, dl4, hw4, hd4, hn4, hq4⟩); have HN4 := Lib.hid (HN3.out.trans hn4); have HW4 := Lib.hid hw4; have HQ4 := Lib.hid hq4; have HD4 := Lib.hid hd4; have hk4 : Blk w4 w.heap.size 44 #[.int .i64 k, .string p, .string n, .slice A1 la.length c1, .slice A2 lr.length c2] := (HN4.out.fresh HK0.out.lt (fun e => by have := HWB.out; omega) (fun e => by have := HOL.out _ e; omega)).trans HK0.out; have y40 := hk4.cell 0; have y41 := hk4.cell 1; have y42 := hk4.cell 2; have y43 := hk4.cell 3; have y44 := hk4.cell 4; have yl4 := hk4.lt; have HM5 := Lib.hid (typesQ N ih lr hlr HBK.out w4 lo wb G4 g4 b4 dl4 (at_ + 1) hw4 HA1.out (by have := HFU.out; have := HQ1.out.2.1; have := HQ2.out.2.1; have := HQ3.out.2.1; have := hq4.2.1; omega) hwb F HF.out A2 c2 (HB.out.wr HN4.out HF.out hwb HO.out)); clear hw4 hn4 hq4 hd4 hk4) | (go_at_call 24; ((with_reducible refine HM3.out.mono ?_); rintro e w3 ⟨⟨x3, rfl⟩, G3, g3, b3, dl3, hw3, hd3, hn3, hq3⟩); have HN3 := Lib.hid (HN2.out.trans hn3); have HW3 := Lib.hid hw3; have HQ3 := Lib.hid hq3; have HD3 := Lib.hid hd3; have hk3 : Blk w3 w.heap.size 44 #[.int .i64 k, .string p, .string n, .slice A1 la.length c1, .slice A2 lr.length c2] := (HN3.out.fresh HK0.out.lt (fun e => by have := HWB.out; omega) (fun e => by have := HOL.out _ e; omega)).trans HK0.out; have y30 := hk3.cell 0; have y31 := hk3.cell 1; have y32 := hk3.cell 2; have y33 := hk3.cell 3; have y34 := hk3.cell 4; have yl3 := hk3.lt; have HM4 := Lib.hid (typesQ N ih la hla HAK.out w3 lo wb G3 g3 b3 dl3 (at_ + 1) hw3 HA1.out (by have := HFU.out; have := HQ1.out.2.1; have := HQ2.out.2.1; have := hq3.2.1; omega) hwb F HF.out A1 c1 (HA.out.wr HN3.out HF.out hwb HO.out)); clear hw3 hn3 hq3 hd3 hk3) | (go_at_call 24; ((with_reducible refine HM2.out.mono ?_); rintro e w2 ⟨⟨x2, rfl⟩, G2, g2, b2, dl2, hw2, hd2, hn2, hq2⟩); have HN2 := Lib.hid (HN1.out.trans hn2); have HW2 := Lib.hid hw2; have HQ2 := Lib.hid hq2; have HD2 := Lib.hid hd2; have hk2 : Blk w2 w.heap.size 44 #[.int .i64 k, .string p, .string n, .slice A1 la.length c1, .slice A2 lr.length c2] := (HN2.out.fresh HK0.out.lt (fun e => by have := HWB.out; omega) (fun e => by have := HOL.out _ e; omega)).trans HK0.out; have y20 := hk2.cell 0; have y21 := hk2.cell 1; have y22 := hk2.cell 2; have y23 := hk2.cell 3; have y24 := hk2.cell 4; have yl2 := hk2.lt; have HM3 := Lib.hid (text_anyQ n hns w2 lo wb G2 g2 b2 dl2 (at_ + 1) hw2 (by have := HFU.out; have := HQ1.out.2.1; have := hq2.2.1; omega)); clear hw2 hn2 hq2 hd2 hk2) | (go_at_call 26; ((with_reducible refine HM1.out.mono ?_); rintro e w1 ⟨⟨x1, rfl⟩, G1, g1, b1, dl1, hw1, hd1, hn1, hq1⟩); have HN1 := Lib.hid (HN0.out.trans hn1); have HW1 := Lib.hid hw1; have HQ1 := Lib.hid hq1; have HD1 := Lib.hid hd1; have hk1 : Blk w1 w.heap.size 44 #[.int .i64 k, .string p, .string n, .slice A1 la.length c1, .slice A2 lr.length c2] := (HN1.out.fresh HK0.out.lt (fun e => by have := HWB.out; omega) (fun e => by have := HOL.out _ e; omega)).trans HK0.out; have y10 := hk1.cell 0; have y11 := hk1.cell 1; have y12 := hk1.cell 2; have y13 := hk1.cell 3; have y14 := hk1.cell 4; have yl1 := hk1.lt; have HM2 := Lib.hid (text_anyQ p hps w1 lo wb G1 g1 b1 dl1 (at_ + 1) hw1 (by have := HFU.out;  have := hq1.2.1; omega)); clear hw1 hn1 hq1 hd1 hk1) | (go_at_call 81; ((with_reducible refine HIN.out.mono ?_); rintro e w0 ⟨rfl, hw0, hn0⟩); have HN0 := Lib.hid hn0; have hk0 : Blk w0 w.heap.size 44 #[.int .i64 k, .string p, .string n, .slice A1 la.length c1, .slice A2 lr.length c2] := (HN0.out.fresh HK0.out.lt (fun e => by have := HWB.out; omega) (fun e => by have := HOL.out _ e; omega)).trans HK0.out; have y00 := hk0.cell 0; have y01 := hk0.cell 1; have y02 := hk0.cell 2; have y03 := hk0.cell 3; have y04 := hk0.cell 4; have yl0 := hk0.lt; have HM1 := Lib.hid (num_anyQ k w0 lo wb A c bs dl (at_ + 1) hw0); clear hw0 hn0 hk0))
    refine bodyPost_end (results_none rfl _ _ _) rfl ?_
    have r1 := HQ1.out
    have r2 := QP.rule r1 HQ2.out
    have r3 := QP.rule r2 HQ3.out
    have r4 := QP.rule r3 HQ4.out
    have r5 := QP.rule r4 HQ5.out
    refine ⟨⟨_, rfl⟩, G5, g5, b5, dl5, by simpa using HW5.out.goto at_, ?_, (WrN.of_below wb _ HB0.out).trans (HN5.out.trans (WrN.set_ _ _ _ _ _)), ?_⟩
    · rw [HDP.out, HD5.out, HD4.out, HD3.out, HD2.out, HD1.out]; simp [Bool.or_assoc]
    · have e1 : kT (.mk k p n la lr) = 1 + 2 + 2 + (1 + sumL kT la) + (1 + sumL kT lr) := by rw [kT_mk]; omega
      rw [e1, HDP.out]
      simpa [Bool.or_assoc] using r5
theorem typ_allQ : ∀ N : Nat, N ≤ 2000000 → TypQ N
  | 0, _ => fun t h => by have := count_pos t; omega
  | N + 1, h => typ_stepQ N (by omega) (typ_allQ N (by omega))
end Go.Proofs.Ytnkojjkijkhlbaa
