/-
  The document's writer: its memory, room, words, texts: walks.
-/
import Derived.Test.YtcjnpaihbebboaaWrJ
import Derived.Lib.AppendZerosOnto
import Derived.Lib.AppendZeros
namespace Go.Proofs.Ytcjnpaihbebboaa
open Go.RowKit
set_option linter.unusedVariables false
set_option linter.unusedSimpArgs false

theorem zeroCells_u8 (k : Nat) : (Builtin.zeroCells (Value.int .u8 0).cells k).toList = List.replicate k (Value.int .u8 0) := by
  have hc : (Value.int IntKind.u8 0).cells = #[.int .u8 0] := rfl
  rw [List.eq_replicate_iff]
  refine ⟨by rw [Array.length_toList, size_zeroCells, hc]; simp, fun b hb => ?_⟩
  unfold Builtin.zeroCells at hb
  rw [hc] at hb
  simp only [Array.toList_map, List.mem_map] at hb
  obtain ⟨i, _, rfl⟩ := hb
  simp [Nat.mod_one]
theorem run_append_room_zeros {P : Program} (w : World) (t tn ty e : TypeId) (i : TypeInfo) (kn : IntKind) (ht : P.underlying t = some (.slice e)) (htn : P.underlying tn = some (.int kn)) (hi : P.info? e = some i) (hz : i.zero = some (.int .u8 0)) (hs1 : i.size = 1) (hby : i.bytes = 1)
    (g sLen sCap : Nat) (cur : Array Value) (hg : w.heap[g]? = some (.cells cur e (0, 0))) (k : Nat) (h0 : 0 < k) (hk : k ≤ 140737488355328) (hroom : sLen + k ≤ sCap) (hfit : sLen + k ≤ cur.size) :
    (Builtin.append_ #[t, tn] ty #[.slice (some ⟨g, 0, none⟩) sLen sCap, .int .i64 k]).run P w =
      .ok (.slice (some ⟨g, 0, none⟩) (sLen + k) sCap) (w.setRow g (cur.toList.take sLen ++ List.replicate k (Value.int .u8 0) ++ cur.toList.drop (sLen + k)).toArray) := by
  have hk0 : k ≠ 0 := by omega
  have hw : IntKind.i64.wrap (k : Int) = k := by rw [IntKind.wrap_i64]; omega
  have h48i : ¬ (281474976710656 < (k : Int)) := by omega
  have hneg : ¬ ((k : Int) < 0) := by omega
  have hzc := zeroCells_u8 k
  have hst := run_storeCells_at P g sLen e (List.replicate k (Value.int .u8 0)) 0 cur w hg (by simpa using hfit) (fun u hu => by rw [List.eq_of_mem_replicate hu]; rfl)
  simp only [Nat.add_zero, List.length_replicate] at hst
  simp [Builtin.append_, run_underlying ht, run_underlying htn, sizeOf, typeInfo, zeroValue, hi, hz, hs1, hby, asInt, asIntOf, hw, hneg, h48i, hk0, hroom, hzc, Addr.add_lit, hst]
set_option maxRecDepth 100000 in
theorem app_zeros {w : World} {lo : Nat} {v : Value} {bs : List Int} (hown : w.ownsRow lo 5 1 v bs.length (bs.map (Value.int .u8))) (ty : TypeId) (k : Nat) (h0 : 0 < k) (hn : bs.length + k ≤ 100000000000000) (hbase : lo ≤ w.heap.size) :
    ∃ v' w', (Builtin.append_ #[29, 3] ty #[v, .int .i64 k]).run Try.prog w = .ok v' w' ∧ w'.ownsRow lo 5 1 v' (bs.length + k) ((bs ++ List.replicate k 0).map (Value.int .u8)) ∧ w.grownBy w' v.ownBlock ∧ ∀ q, v'.ownBlock = some q → v.ownBlock = some q ∨ w.heap.size ≤ q := by
  obtain ⟨i0, hi0, hz0, hz1, hz2⟩ := info_parts info_u8
  have hlen : ((bs ++ List.replicate k (0 : Int)).map (Value.int .u8)).length = (bs.length + k) * 1 := by simp
  have e0 : (bs ++ List.replicate k (0 : Int)).map (Value.int .u8) = bs.map (Value.int .u8) ++ List.replicate k (Value.int .u8 0) := by simp
  have hz9 : (Value.int IntKind.u8 0).cells.size = 1 := rfl
  rcases hown.2 with ⟨rfl, hl⟩ | ⟨g, cap, cur, rfl, hbg, hg, hnc, hcm, hcs, htake⟩
  · have hb0 : bs = [] := List.eq_nil_of_length_eq_zero hl
    subst hb0
    have hr := Lib.run_append_nil_zeros (P := Try.prog) w 29 3 ty 5 i0 (.int .u8 0) .i64 .i64 Try.underlying29 Try.underlying3 hi0 hz0 k h0 (by omega) (by omega) (by rw [hz2]; omega)
    have hge := grownCap_ge w k 0 5
    refine ⟨_, _, hr, ⟨hlen, .inr ⟨w.heap.size, _, _, by rw [List.length_nil, Nat.zero_add], hbase, heap_alloc_new w.drew _, by simpa using hge, grownCap_le_maxLen w k 0 5 (by unfold maxLen; omega), ?_, ?_⟩⟩, ⟨rfl, rfl, rfl, by simp, fun b hb _ => Below.heap_alloc w.drew _ b hb⟩, fun q hq => by
      simp [Value.ownBlock] at hq; omega⟩
    · simp only [Array.size_append, size_zeroCells, hz9]; omega
    · rw [e0]
      simp only [Array.toList_append, zeroCells_u8]
      simp
  · by_cases hroom : bs.length + k ≤ cap
    · have hcs' : cur.size = cap := by simpa using hcs
      have hr := run_append_room_zeros (P := Try.prog) w 29 3 ty 5 i0 .i64 Try.underlying29 Try.underlying3 hi0 hz0 hz1 hz2 g bs.length cap cur hg k h0 (by omega) hroom (by omega)
      refine ⟨_, _, hr, ⟨hlen, .inr ⟨g, cap, _, rfl, hbg, setRow_heap w g cur _ 5 _ hg, hroom, hcm, ?_, ?_⟩⟩, ⟨rfl, rfl, rfl, by simp, fun b _ hk => setRow_other w g b _ (fun e => hk (by simp [Value.ownBlock, e]))⟩, fun q hq => .inl hq⟩
      · simp only [List.size_toArray, List.length_append, List.length_take, List.length_drop, Array.length_toList, List.length_replicate]
        omega
      · have ht' : cur.toList.take bs.length = bs.map (Value.int .u8) := by simpa using htake
        rw [ht', e0, ← e0, ← hlen, e0]
        exact List.take_left
    · have holds : ∀ j u, (bs.map (Value.int .u8))[j]? = some u → w.cell? ((⟨g, 0, none⟩ : Addr).add j) = some u := hown.cells (g := g) rfl
      have hold : (Builtin.firstCells i0.size bs.length (.slice (some ⟨g, 0, none⟩) bs.length cap)).run Try.prog w.drew = .ok (bs.map (Value.int .u8)).toArray w.drew := run_firstCells_some w.drew i0.size bs.length ⟨g, 0, none⟩ bs.length cap _ (by rw [hz1]; simp) (by simpa using holds)
      have hr := Lib.run_append_grow_zeros (P := Try.prog) w 29 3 ty 5 i0 (.int .u8 0) .i64 .i64 Try.underlying29 Try.underlying3 hi0 hz0 (some ⟨g, 0, none⟩) bs.length cap _ hold k h0 (by omega) (by omega) (by omega) (by rw [hz2]; omega) (by rw [hz2]; exact growslice_fits (by omega) (by omega))
      have hge := grownCap_ge w (bs.length + k) cap 5
      refine ⟨_, _, hr, ⟨hlen, .inr ⟨w.heap.size, _, _, rfl, hbase, heap_alloc_new w.drew _, hge, grownCap_le_maxLen w _ _ 5 (by unfold maxLen; omega), ?_, ?_⟩⟩, ⟨rfl, rfl, rfl, by simp, fun b hb _ => Below.heap_alloc w.drew _ b hb⟩, fun q hq => by
        simp [Value.ownBlock] at hq; omega⟩
      · simp only [Array.size_append, List.size_toArray, size_zeroCells, hz9, List.length_map]; omega
      · rw [← hlen, e0]
        simp only [Array.toList_append, zeroCells_u8, List.length_append, List.length_map, List.length_replicate]
        rw [show bs.length + k = ((bs.map (Value.int .u8)) ++ List.replicate k (Value.int .u8 0)).length by simp]
        exact List.take_left
set_option maxRecDepth 100000 in
theorem app_text {w : World} {lo : Nat} {v : Value} {bs : List Int} (hown : w.ownsRow lo 5 1 v bs.length (bs.map (Value.int .u8))) (ty : TypeId) (s : ByteArray) (hn : bs.length + s.size ≤ 100000000000000) (hbase : lo ≤ w.heap.size) :
    ∃ v' w', (Builtin.append_ #[29, 9] ty #[v, .string s]).run Try.prog w = .ok v' w' ∧ w'.ownsRow lo 5 1 v' (bs.length + (sB s).length) ((bs ++ sB s).map (Value.int .u8)) ∧ w.grownBy w' v.ownBlock ∧ ∀ q, v'.ownBlock = some q → v.ownBlock = some q ∨ w.heap.size ≤ q := by
  obtain ⟨i0, hi0, hz0, hz1, hz2⟩ := info_parts info_u8
  obtain ⟨v', w', h1, h2, h3, h4⟩ := Lib.run_append_own_string (P := Try.prog) w lo 29 9 ty 5 i0 Try.underlying29 Try.underlying9 hi0 hz0 hz1 hz2 v bs.length _ hown s (by simp only [maxLen]; omega) (by omega) hbase
  refine ⟨v', w', h1, ?_, h3, ?_⟩
  · rw [sB_len, List.map_append]
    have e : (sB s).map (Value.int .u8) = s.data.toList.map (fun c => Value.int .u8 c.toNat) := by simp [sB]
    rw [e]
    exact h2
  · intro q hq
    rcases hown.2 with ⟨rfl, hl⟩ | ⟨g, cap, cur, rfl, hbg, hg, hnc, hcm, hcs, htake⟩
    · right
      rcases Nat.lt_or_ge q w.heap.size with hlt | hge
      · exfalso
        by_cases hm : s.size = 0
        · have h5 := h4.2 ⟨rfl, hm⟩
          subst h5
          simp [Value.ownBlock] at hq
        · have hr := run_append_nil_string (P := Try.prog) w 29 9 ty 5 i0 (.int .u8 0) Try.underlying29 Try.underlying9 hi0 hz0 s (by omega) (by omega) (by rw [hz2]; omega)
          have he := hr.symm.trans h1
          injection he with e1 e2
          subst e1
          simp [Value.ownBlock] at hq
          omega
      · exact hge
    · by_cases hroom : bs.length + s.size ≤ cap
      · left
        have hr := Lib.run_append_room_string (P := Try.prog) w 29 9 ty 5 i0 Try.underlying29 Try.underlying9 hi0 hz1 g bs.length cap cur hg s hroom (by simp at hcs; omega)
        have he := hr.symm.trans h1
        injection he with e1 e2
        subst e1
        exact hq
      · right
        have hr := Lib.run_append_grow_string (P := Try.prog) w 29 9 ty 5 i0 (.int .u8 0) Try.underlying29 Try.underlying9 hi0 hz0 ⟨g, 0, none⟩ bs.length cap _ (by rw [hz1]; simp) (hown.cells (g := g) rfl) s (by omega) (by omega) (by rw [hz2]; exact growslice_fits (by omega) (by omega))
        have he := hr.symm.trans h1
        injection he with e1 e2
        subst e1
        simp [Value.ownBlock] at hq
        omega
/-- The document's writer, its bytes in a row of its own. -/
structure Wq (w : World) (lo wb : Nat) (A : Option Addr) (c : Nat) (bs : List Int) (dl : Bool) (at_ : Nat) : Prop where
  blk : Blk w wb 57 #[.slice A bs.length c, .bool dl, .int .i64 at_]
  own : w.ownsRow lo 5 1 (.slice A bs.length c) bs.length (bs.map (Value.int .u8))
  lob : lo ≤ w.heap.size
  by_ : ∀ x ∈ bs, 0 ≤ x ∧ x ≤ 255
theorem wqt_ne : (5 : TypeId) ≠ 57 := by decide
section
variable {w w' : World} {lo wb : Nat} {A : Option Addr} {c : Nat} {bs : List Int} {dl : Bool} {at_ : Nat}
theorem Wq.ne (h : Wq w lo wb A c bs dl at_) : (Value.slice A bs.length c).ownBlock ≠ some wb := own_blk_ne h.own h.blk wqt_ne
theorem Wq.old (h : Wq w lo wb A c bs dl at_) {q : Nat} (hq : (Value.slice A bs.length c).ownBlock = some q) : q < w.heap.size := (h.own.lt q hq).2
theorem Wq.olo (h : Wq w lo wb A c bs dl at_) : ∀ q, (Value.slice A bs.length c).ownBlock = some q → lo ≤ q := fun q hq => (h.own.lt q hq).1
theorem Wq.bel (h : Wq w lo wb A c bs dl at_) (hb : Below w.heap.size w w') : Wq w' lo wb A c bs dl at_ :=
  ⟨h.blk.bel2 hb, h.own.kept (row := none) ⟨hb.os, hb.tape, hb.output, hb.size, fun k hk _ => hb.block k hk⟩ (by cases hv : (Value.slice A bs.length c).ownBlock <;> simp), Nat.le_trans h.lob hb.size, h.by_⟩
theorem Wq.flag (h : Wq w lo wb A c bs dl at_) (b : Bool) : Wq (w.setCell ⟨wb, 1, none⟩ (.bool b)) lo wb A c bs b at_ := by
  refine ⟨h.blk.set_ 1 (.bool b), ?_, by simpa using h.lob, h.by_⟩
  have hg : w.grownBy (w.setCell ⟨wb, 1, none⟩ (.bool b)) (some wb) := ⟨rfl, rfl, rfl, by simp, fun k hk hn => Below.heap_setCell w ⟨wb, 1, none⟩ _ k (fun e => hn (by rw [e]))⟩
  exact h.own.kept hg (Or.inr h.ne)
theorem Wq.goto (h : Wq w lo wb A c bs dl at_) (n : Nat) : Wq (w.setCell ⟨wb, 2, none⟩ (.int .i64 n)) lo wb A c bs dl n := by
  refine ⟨h.blk.set_ 2 (.int .i64 n), ?_, by simpa using h.lob, h.by_⟩
  have hg : w.grownBy (w.setCell ⟨wb, 2, none⟩ (.int .i64 n)) (some wb) := ⟨rfl, rfl, rfl, by simp, fun k hk hn => Below.heap_setCell w ⟨wb, 2, none⟩ _ k (fun e => hn (by rw [e]))⟩
  exact h.own.kept hg (Or.inr h.ne)
theorem WrN.set_ (w : World) (wb i : Nat) (v : Value) (o : Option Nat) : WrN w (w.setCell ⟨wb, i, none⟩ v) wb o o := ⟨(Gr.refl w).setCell (p := ⟨wb, i, none⟩) (Or.inr (Or.inl rfl)) _, fun _ h => .inl h⟩
theorem Wq.grow {V : World} {A' : Option Addr} {c' : Nat} {news : List Int} (h : Wq V lo wb A c bs dl at_) (hg : V.grownBy w' (Value.slice A bs.length c).ownBlock)
    (ho : w'.ownsRow lo 5 1 (.slice A' (bs.length + news.length) c') (bs.length + news.length) ((bs ++ news).map (Value.int .u8)))
    (hb : ∀ x ∈ news, 0 ≤ x ∧ x ≤ 255) : Wq (w'.setCell ⟨wb, 0, none⟩ (.slice A' (bs.length + news.length) c')) lo wb A' c' (bs ++ news) dl at_ := by
  have hl : (bs ++ news).length = bs.length + news.length := by simp
  have hb1 : Blk w' wb 57 #[.slice A bs.length c, .bool dl, .int .i64 at_] := h.blk.grown hg (fun e => h.ne e.symm)
  refine ⟨?_, ?_, ?_, fun x hx => ?_⟩
  · have := hb1.set_ 0 (.slice A' (bs.length + news.length) c')
    rw [hl]
    exact this
  · rw [hl]
    have hne : (Value.slice A' (bs.length + news.length) c').ownBlock ≠ some wb := own_blk_ne ho hb1 wqt_ne
    exact ho.kept (row := some wb) ⟨rfl, rfl, rfl, by simp, fun k hk hn => Below.heap_setCell w' ⟨wb, 0, none⟩ _ k (fun e => hn (by rw [e]))⟩ (Or.inr hne)
  · simpa using Nat.le_trans h.lob hg.size
  · rcases List.mem_append.1 hx with hx | hx
    · exact h.by_ x hx
    · exact hb x hx
end
/-- What is put, how many steps at most, and whether something was too deep. -/
def QP (bs bs' out : List Int) (k : Nat) (d : Bool) : Prop :=
  bs.length ≤ bs'.length ∧ bs'.length ≤ bs.length + 300000 * k ∧ (d = false → (bs.length + out.length ≤ 262144 → bs' = bs ++ out) ∧ (¬ bs.length + out.length ≤ 262144 → 262144 < bs'.length))
theorem QP.rule {bs bs1 bs2 o1 o2 : List Int} {k1 k2 : Nat} {d1 d2 : Bool} (h1 : QP bs bs1 o1 k1 d1) (h2 : QP bs1 bs2 o2 k2 d2) : QP bs bs2 (o1 ++ o2) (k1 + k2) (d1 || d2) := by
  obtain ⟨a0, a1, a2⟩ := h1
  obtain ⟨b0, b1, b2⟩ := h2
  refine ⟨by omega, by omega, fun hd => ?_⟩
  have hd1 : d1 = false := by cases d1 <;> simp_all
  have hd2 : d2 = false := by cases d2 <;> simp_all
  obtain ⟨c1, c2⟩ := a2 hd1
  obtain ⟨e1, e2⟩ := b2 hd2
  rw [List.length_append]
  by_cases hf : bs.length + o1.length ≤ 262144
  · have f1 := c1 hf
    subst f1
    rw [List.length_append] at e1 e2
    refine ⟨fun h => ?_, fun h => e2 (by omega)⟩
    rw [e1 (by omega), List.append_assoc]
  · have f2 := c2 hf
    exact ⟨fun h => by omega, fun h => e2 (by omega)⟩
theorem QP.nil (bs : List Int) : QP bs bs [] 0 false := ⟨Nat.le_refl _, by omega, fun _ => ⟨fun _ => by simp, fun h => by simp at h; omega⟩⟩
theorem QP.more {bs bs' out : List Int} {k k' : Nat} {d : Bool} (h : QP bs bs' out k d) (hk : k ≤ k') : QP bs bs' out k' d := ⟨h.1, by have := h.2.1; omega, h.2.2⟩
/-- So much was put into the document's writer. -/
def PutQ (lo wb : Nat) (o : Option Nat) (bs : List Int) (dl : Bool) (at_ : Nat) (out : List Int) (k : Nat) (d : Bool) (w : World) (e : Ending) (w' : World) : Prop :=
  (∃ x, e = .returned x) ∧ ∃ A c bs' dl', Wq w' lo wb A c bs' dl' at_ ∧ dl' = (dl || d) ∧ WrN w w' wb o (Value.slice A bs'.length c).ownBlock ∧ QP bs bs' out k d
set_option maxRecDepth 100000 in
set_option maxHeartbeats 2000000 in
theorem full_any (w : World) (lo wb : Nat) (A : Option Addr) (c : Nat) (bs : List Int) (dl : Bool) (at_ : Nat) (h : Wq w lo wb A c bs dl at_) (b : Bool) (hb : decide (262144 < bs.length) = b) :
    Calls Try.prog 29 #[.pointer (some ⟨wb, 0, none⟩)] w fun e w' => e = .returned (.bool b) ∧ w = w' := by
  have b0 := h.blk.cell 0
  have bl := h.blk.lt
  have HB2 := Lib.hid (show decide ((262144 : Int) < (bs.length : Int)) = b by rw [← hb]; exact decide_eq_decide.2 (by omega))
  clear h hb
  go_enter Try.func29, Try.ntmps29
  go_wp2
  go_ret
  exact ⟨congrArg (fun x => Ending.returned (.bool x)) HB2.out, rfl⟩
theorem app_one {w : World} {lo : Nat} {A : Option Addr} {c : Nat} {bs : List Int} (hown : w.ownsRow lo 5 1 (.slice A bs.length c) bs.length (bs.map (Value.int .u8))) (ty : TypeId) (hn : bs.length + 1 ≤ 100000000000000) (hbase : lo ≤ w.heap.size) (g d : Nat) (x : Int) (hc : w.cell? ⟨g, 0, none⟩ = some (.int .u8 x)) :
    ∃ v' w', (Builtin.append_ #[29, 29] ty #[.slice A bs.length c, .slice (some ⟨g, 0, none⟩) 1 d]).run Try.prog w = .ok v' w' ∧ w'.ownsRow lo 5 1 v' (bs.length + 1) ((bs ++ [x]).map (Value.int .u8)) ∧ w.grownBy w' (Value.slice A bs.length c).ownBlock ∧ ∀ q, v'.ownBlock = some q → (Value.slice A bs.length c).ownBlock = some q ∨ w.heap.size ≤ q := by
  obtain ⟨i0, hi0, hz0, hz1, hz2⟩ := info_parts info_u8
  have hrd : Reads w (g + 1) 1 (some ⟨g, 0, none⟩) 1 [Value.int .u8 x] := ⟨rfl, fun _ => ⟨_, rfl, by show g < g + 1; omega, fun i u hu => by
    rw [add0]
    cases i with
    | zero =>
      have e : Value.int .u8 x = u := by simpa using hu
      rw [hc, e]
    | succ i => simp at hu⟩⟩
  obtain ⟨v', w', h1, h2, h3, h4⟩ := run_append_any (P := Try.prog) w lo 29 ty 5 i0 (.int .u8 0) 1 1 Try.underlying29 hi0 hz0 hz1 hz2 rfl (by omega) _ _ _ hown (g + 1) (some ⟨g, 0, none⟩) 1 d [Value.int .u8 x] hrd (fun u hu => by rw [List.mem_singleton.1 hu]; rfl) (by unfold maxLen; omega) (by omega) hbase
  refine ⟨v', w', h1, by rw [List.map_append]; exact h2, h3, fun q hq => ?_⟩
  rcases h4 with h4 | h4
  · exact .inl (h4.symm.trans hq)
  · rw [h4] at hq
    injection hq with hq
    exact .inr (by omega)
theorem byte_u64 (v u : Int) (hu : IntKind.u64.wrap v = u) (j : Nat) (hj : j < 8) : IntKind.u8.wrap (u / 2 ^ (8 * (j : Int)).toNat) = byteAt v j := by
  rw [u8_wrap]
  unfold byteAt
  rw [← hu, IntKind.wrap_u64]
  have : j = 0 ∨ j = 1 ∨ j = 2 ∨ j = 3 ∨ j = 4 ∨ j = 5 ∨ j = 6 ∨ j = 7 := by omega
  rcases this with rfl | rfl | rfl | rfl | rfl | rfl | rfl | rfl <;> (simp only [show ∀ n : Nat, (8 * (n : Int)).toNat = 8 * n from fun n => by omega]; omega)
theorem div_bd (u : Int) (h0 : 0 ≤ u) (h1 : u < 18446744073709551616) (j : Nat) : 0 ≤ u / 2 ^ (8 * (j : Int)).toNat ∧ u / 2 ^ (8 * (j : Int)).toNat < 18446744073709551616 := by
  have hp : (0 : Int) < 2 ^ (8 * (j : Int)).toNat := Int.pow_pos (by omega)
  refine ⟨Int.ediv_nonneg h0 (by omega), ?_⟩
  have := Int.ediv_le_self (b := 2 ^ (8 * (j : Int)).toNat) (a := u) h0
  omega
theorem div_pow (x : Int) (j : Nat) (hj : j < 8) : x / 2 ^ (8 * (j : Int)).toNat / 256 = x / 2 ^ (8 * ((j + 1 : Nat) : Int)).toNat := by
  have : j = 0 ∨ j = 1 ∨ j = 2 ∨ j = 3 ∨ j = 4 ∨ j = 5 ∨ j = 6 ∨ j = 7 := by omega
  rcases this with rfl | rfl | rfl | rfl | rfl | rfl | rfl | rfl <;> (simp only [show ∀ n : Nat, (8 * (n : Int)).toNat = 8 * n from fun n => by omega]; omega)
set_option maxRecDepth 100000 in
set_option maxHeartbeats 2000000 in
theorem num_full (v : Int) (w : World) (lo wb : Nat) (A : Option Addr) (c : Nat) (bs : List Int) (dl : Bool) (at_ : Nat) (h : Wq w lo wb A c bs dl at_) (hf : 262144 < bs.length) :
    Calls Try.prog 26 #[.pointer (some ⟨wb, 0, none⟩), .int .i64 v] w fun e w' => (∃ x, e = .returned x) ∧ w = w' := by
  have HF := Lib.hid (full_any w lo wb A c bs dl at_ h true (decide_eq_true hf))
  clear h hf
  go_enter Try.func26, Try.ntmps26
  go_wp2_with (go_at_call 29; ((with_reducible refine HF.out.mono ?_); rintro e w1 ⟨rfl, rfl⟩))
  refine bodyPost_ret (results_none rfl _ _ _) rfl ?_
  exact ⟨⟨_, rfl⟩, rfl⟩
set_option maxRecDepth 100000 in
set_option maxHeartbeats 4000000 in
theorem num_go (v : Int) (w : World) (lo wb : Nat) (A : Option Addr) (c : Nat) (bs : List Int) (dl : Bool) (at_ : Nat) (h : Wq w lo wb A c bs dl at_) (hf : bs.length ≤ 262144) :
    Calls Try.prog 26 #[.pointer (some ⟨wb, 0, none⟩), .int .i64 v] w fun e w' => (∃ x, e = .returned x) ∧ ∃ A' c', Wq w' lo wb A' c' (bs ++ le8 v) dl at_ ∧ WrN w w' wb (Value.slice A bs.length c).ownBlock (Value.slice A' (bs ++ le8 v).length c').ownBlock := by
  have HF := Lib.hid (full_any w lo wb A c bs dl at_ h false (decide_eq_false (by omega)))
  have HW1 := Lib.hid h
  obtain ⟨u, hu⟩ : ∃ u, IntKind.u64.wrap v = u := ⟨_, rfl⟩
  have hu0 : 0 ≤ u ∧ u < 18446744073709551616 := by rw [← hu, IntKind.wrap_u64]; omega
  have HBY := Lib.hid (fun (j : Nat) (hj : j < 8) => (show IntKind.u8.wrap (u / 2 ^ (8 * (j : Int)).toNat) = byteAt v j from byte_u64 v u hu j hj))
  obtain ⟨u0, u1⟩ := hu0
  have HU := Lib.hid hu
  clear h hu
  go_enter Try.func26, Try.ntmps26
  go_wp2_with (go_at_call 29; ((with_reducible refine HF.out.mono ?_); rintro e w1 ⟨rfl, rfl⟩))
  go_loopg [4, 5] 8 (fun gk v4 v5 wr => ∃ (j : Nat) (A' : Option Addr) (c' : Nat), j + gk = 8 ∧ v5 = .int .i64 j ∧ v4 = .int .u64 (u / 2 ^ (8 * (j : Int)).toNat) ∧ Wq wr lo wb A' c' (bs ++ bytesTo v j) dl at_ ∧ WrN w wr wb (Value.slice A bs.length c).ownBlock (Value.slice A' (bs ++ bytesTo v j).length c').ownBlock)
  case atStart => exact ⟨0, A, c, by simp, rfl, by simp [← HU.out], by simpa [bytesTo] using HW1.out, by simpa [bytesTo] using WrN.refl _ _ _⟩
  case round =>
    obtain ⟨j, A', c', hj, rfl, rfl, hw, hn⟩ := hrel
    have HW := Lib.hid hw
    have HN := Lib.hid hn
    cases gk with
    | zero =>
      obtain rfl : j = 8 := by omega
      clear hj hw hn
      go_wp2
      refine bodyPost_end (results_none rfl _ _ _) rfl ?_
      exact ⟨⟨_, rfl⟩, A', c', HW.out, HN.out⟩
    | succ gg =>
      have hj8 : (j : Int) < 8 := by omega
      have hj0 : (0 : Int) ≤ (j : Int) := by omega
      have hlj : (bs ++ bytesTo v j).length ≤ 262152 := by rw [List.length_append, bytesTo_len]; omega
      obtain ⟨bj, hbj⟩ : ∃ l, bs ++ bytesTo v j = l := ⟨_, rfl⟩
      have hbj1 : bs ++ bytesTo v (j + 1) = bj ++ [byteAt v j] := by rw [bytesTo_succ, ← List.append_assoc, hbj]
      rw [hbj] at hw hn hlj HW HN
      have HBJ := Lib.hid hbj1
      have b0 := hw.blk.cell 0
      have bl := hw.blk.lt
      have hne := hw.ne
      have HOLD := Lib.hid (fun q (hq : (Value.slice A' bj.length c').ownBlock = some q) => hw.old hq)
      have HOB := Lib.hid hw.lob
      obtain ⟨d0, d1⟩ := div_bd u u0 u1 j
      have hxb : u / 2 ^ (8 * (j : Int)).toNat % 256 = byteAt v j := by rw [← u8_wrap]; exact HBY.out j (by omega)
      have hdv := div_pow u j (by omega)
      obtain ⟨x, hx⟩ : ∃ x, u / 2 ^ (8 * (j : Int)).toNat = x := ⟨_, rfl⟩
      rw [hx] at d0 d1 hxb hdv ⊢
      have HXB := Lib.hid hxb
      have HDV := Lib.hid hdv
      have HLJ := Lib.hid hlj
      clear hbj hbj1 hw hn hxb hdv hx hlj
      go_wp2_with (at_builtin; refine wpList_app rfl _ _ _ _ rfl _ _ rfl rfl _ (app_one (HW.out.bel ((Below.refl _ wr).alloc (Nat.le_refl _) _)).own 29 (by have := HLJ.out; omega) (HW.out.bel ((Below.refl _ wr).alloc (Nat.le_refl _) _)).lob wr.heap.size 1 (x % 256) (by simp)) ?_; rintro v3 w3 ⟨ho3, hg3, hn3⟩; obtain ⟨A3, c3, rfl⟩ := own_shape ho3; have hb3 : Blk w3 wb 57 #[.slice A' bj.length c', .bool dl, .int .i64 at_] := (HW.out.bel ((Below.refl _ wr).alloc (Nat.le_refl _) _)).blk.grown hg3 (fun e => HW.out.ne e.symm); have v0 := hb3.cell 0; have vl := hb3.lt; have vf := hb3.frozen 0; have HO3 := Lib.hid ho3; have HG3 := Lib.hid hg3; have HN3 := Lib.hid hn3; clear ho3 hg3 hn3 hb3)
      have HV := Lib.hid ((HW.out.bel ((Below.refl _ wr).alloc (Nat.le_refl _) (.cells #[.int .u8 (x % 256)] 5))).grow (news := [x % 256]) HG3.out HO3.out (fun y hy => by (rw [List.mem_singleton.1 hy]; omega)))
      have HX := Lib.hid (show WrN wr (w3.setCell ⟨wb, 0, none⟩ (.slice A3 (bj.length + 1) c3)) wb (Value.slice A' bj.length c').ownBlock (Value.slice A3 (bj.length + 1) c3).ownBlock from (WrN.of_below wb _ ((Below.refl _ wr).alloc (Nat.le_refl _) (.cells #[.int .u8 (x % 256)] 5))).trans ⟨(Gr.of_grown (S := fun x => x = wb ∨ (Value.slice A' bj.length c').ownBlock = some x) HG3.out (fun k e _ => Or.inr e)).setCell (p := ⟨wb, 0, none⟩) (Or.inr (Or.inl (show wb = wb from rfl))) _, HN3.out⟩)
      go_roundg gg
      case measure => omega
      case rel => exact ⟨j + 1, A3, c3, by omega, by go_num, by rw [← HDV.out], by rw [HBJ.out, ← HXB.out]; exact HV.out, HN.out.trans (by rw [HBJ.out, ← HXB.out, List.length_append]; exact HX.out)⟩
theorem num_anyQ (v : Int) (w : World) (lo wb : Nat) (A : Option Addr) (c : Nat) (bs : List Int) (dl : Bool) (at_ : Nat) (h : Wq w lo wb A c bs dl at_) :
    Calls Try.prog 26 #[.pointer (some ⟨wb, 0, none⟩), .int .i64 v] w (PutQ lo wb (Value.slice A bs.length c).ownBlock bs dl at_ (le8 v) 1 false w) := by
  by_cases hf : bs.length ≤ 262144
  · refine (num_go v w lo wb A c bs dl at_ h hf).mono ?_
    rintro e w' ⟨he, A', c', h1, h2⟩
    refine ⟨he, A', c', _, dl, h1, by simp, h2, by rw [List.length_append, le8_len]; omega, by rw [List.length_append, le8_len]; omega, fun _ => ⟨fun _ => rfl, fun hk => ?_⟩⟩
    rw [le8_len] at hk
    rw [List.length_append, le8_len]; omega
  · refine (num_full v w lo wb A c bs dl at_ h (by omega)).mono ?_
    rintro e w' ⟨he, rfl⟩
    exact ⟨he, A, c, bs, dl, h, by simp, WrN.refl _ _ _, Nat.le_refl _, by omega, fun _ => ⟨fun hk => by omega, fun _ => by omega⟩⟩
end Go.Proofs.Ytcjnpaihbebboaa
