/-
  A writer: its memory, room and words: walks.
-/
import Derived.Test.YtnkojjkijkhlbaaSum
import Derived.Lib.AppendStr
import Derived.Laws.BytesArg
import Derived.Laws.IdiomStrings
import Derived.Deep.AppendSrc
import Derived.Lib.SlBytesConst
namespace Go.Proofs.Ytnkojjkijkhlbaa
open Go.RowKit
set_option linter.unusedVariables false
set_option linter.unusedSimpArgs false

/-- A slice without room, of which the cells are known. -/
def FullR (w : World) (base : Nat) (v : Value) (n : Nat) (xs : List Value) : Prop :=
  ∃ g cs fr, v = .slice (some ⟨g, 0, none⟩) n n ∧ base ≤ g ∧ w.heap[g]? = some (.cells cs 5 fr) ∧ cs.toList = xs ∧ xs.length = n ∧ n ≤ 4
theorem run_full {P : Program} (w : World) (base : Nat) (t tx ty e : TypeId) (i : TypeInfo) (ht : P.underlying t = some (.slice e)) (hi : P.info? e = some i) (hz : i.zero = some (.int .u8 0)) (hsize : i.size = 1) (hby : i.bytes = 1)
    (v : Value) (n : Nat) (xs : List Value) (h : FullR w base v n xs) (x : Value) (m : Nat) (news : List Value) (hs : Src P i.size tx x m news w) (hm : 0 < m) (h63 : n + m ≤ maxLen) (hbytes : n + m ≤ 140737488355328) :
    ∃ v' w', (Builtin.append_ #[t, tx] ty #[v, x]).run P w = .ok v' w' ∧ w'.ownsRow w.heap.size e 1 v' (n + m) (xs ++ news) ∧ Below w.heap.size w w' := by
  obtain ⟨g, cs, fr, rfl, hb, hh, hl1, hl, _⟩ := h
  have hc : ∀ (j : Nat) (u : Value), xs[j]? = some u → w.cell? ((⟨g, 0, none⟩ : Addr).add j) = some u := fun j u hu => by
    rw [add0]
    exact (cell_of_row w g j cs 5 fr hh).trans (by rw [← Array.getElem?_toList, hl1]; exact hu)
  have hold : (Builtin.firstCells i.size n (.slice (some ⟨g, 0, none⟩) n n)).run P w.drew = .ok xs.toArray w.drew := run_firstCells_some w.drew i.size n ⟨g, 0, none⟩ n n xs (by rw [hsize]; simpa using hl) (by simpa using hc)
  have hr := run_append_grow_src (P := P) w t tx ty e i _ ht hi hz (some ⟨g, 0, none⟩) n n xs hold x m news hs (by omega) (by simp only [maxLen] at h63; omega) (growslice_fits (by omega) (by rw [hby]; omega))
  have hnl : news.length = m := by have := hs.newsLen; rw [hsize] at this; simpa using this
  have hlen : (xs ++ news).length = (n + m) * 1 := by rw [List.length_append, hl, hnl, Nat.mul_one]
  refine ⟨_, _, hr, ⟨hlen, .inr ⟨w.heap.size, _, _, rfl, Nat.le_refl _, heap_alloc_new w.drew _, grownCap_ge w _ _ e, grownCap_le_maxLen w _ _ e h63, ?_, ?_⟩⟩, (Below.refl _ w).drew.alloc (Nat.le_refl _) _⟩
  · have hz1 : (Value.int IntKind.u8 0).cells.size = 1 := rfl
    have hge := grownCap_ge w (n + m) n e
    simp only [Array.size_append, List.size_toArray, size_zeroCells, hz1, List.length_append, hl, hnl]
    omega
  · simp only [Array.toList_append]
    rw [← hlen]
    exact List.take_left
/-- Bytes that can be appended to: the call's own, or a constant text's. -/
def Bys (w : World) (base : Nat) (v : Value) (n : Nat) (xs : List Value) : Prop := w.ownsRow base 5 1 v n xs ∨ FullR w base v n xs
theorem Bys.blk {w : World} {base n g : Nat} {v : Value} {xs : List Value} (h : Bys w base v n xs) (hg : v.ownBlock = some g) : ∃ cs fr, w.heap[g]? = some (.cells cs 5 fr) ∧ base ≤ g := by
  rcases h with h | ⟨g', cs, fr, rfl, hb, hh, _⟩
  · rcases h.2 with ⟨rfl, _⟩ | ⟨g', cap, cur, rfl, hb, hh, _⟩
    · simp [Value.ownBlock] at hg
    · simp only [Value.ownBlock, Option.some.injEq] at hg
      subst hg
      exact ⟨_, _, hh, hb⟩
  · simp only [Value.ownBlock, Option.some.injEq] at hg
    subst hg
    exact ⟨_, _, hh, hb⟩
theorem Bys.kept {w w' : World} {base n : Nat} {v : Value} {xs : List Value} {row : Option Nat} (h : Bys w base v n xs) (hg : w.grownBy w' row) (hr : v.ownBlock = none ∨ v.ownBlock ≠ row) : Bys w' base v n xs := by
  rcases h with h | ⟨g, cs, fr, rfl, hb, hh, r⟩
  · exact .inl (h.kept hg hr)
  · have hlt : g < w.heap.size := by
      rcases Nat.lt_or_ge g w.heap.size with h1 | h1
      · exact h1
      · rw [Array.getElem?_eq_none h1] at hh; cases hh
    refine .inr ⟨g, cs, fr, rfl, hb, (hg.block g hlt (fun e => ?_)).trans hh, r⟩
    rcases hr with hr | hr
    · simp [Value.ownBlock] at hr
    · exact hr e
theorem Bys.below {w w' : World} {base n : Nat} {v : Value} {xs : List Value} (h : Bys w base v n xs) (hb : Below w.heap.size w w') : Bys w' base v n xs :=
  h.kept (row := none) ⟨hb.os, hb.tape, hb.output, hb.size, fun k hk _ => hb.block k hk⟩ (by cases hv : v.ownBlock <;> simp)
/-- A writer, its bytes in a row of its own. -/
structure Wr (w : World) (lo wb : Nat) (A : Option Addr) (c : Nat) (bs : List Int) (lg : Bool) : Prop where
  blk : Blk w wb 52 #[.slice A bs.length c, .bool lg]
  own : Bys w lo (.slice A bs.length c) bs.length (bs.map (Value.int .u8))
  lob : lo ≤ w.heap.size
  by_ : ∀ x ∈ bs, 0 ≤ x ∧ x ≤ 255
  few : bs.length ≤ 262144
theorem wrt_ne : (5 : TypeId) ≠ 52 := by decide
theorem Wr.ne {w : World} {lo wb : Nat} {A : Option Addr} {c : Nat} {bs : List Int} {lg : Bool} (h : Wr w lo wb A c bs lg) : (Value.slice A bs.length c).ownBlock ≠ some wb := fun e => by
  obtain ⟨cs, fr, hh, _⟩ := h.own.blk e
  have h2 := h.blk
  unfold Blk at h2
  rw [h2] at hh
  injection hh with hh
  injection hh with _ ht
  exact wrt_ne ht.symm
theorem Wr.old {w : World} {lo wb : Nat} {A : Option Addr} {c : Nat} {bs : List Int} {lg : Bool} (h : Wr w lo wb A c bs lg) {q : Nat} (hq : (Value.slice A bs.length c).ownBlock = some q) : q < w.heap.size := by
  obtain ⟨cs, fr, hh, _⟩ := h.own.blk hq
  rcases Nat.lt_or_ge q w.heap.size with h1 | h1
  · exact h1
  · rw [Array.getElem?_eq_none h1] at hh; cases hh
/-- How a world is turned by a writer: its block, its row. -/
structure WrN (w w' : World) (wb : Nat) (o o' : Option Nat) : Prop where
  gr : Gr (fun x => x = wb ∨ o = some x) w w'
  nx : ∀ q, o' = some q → o = some q ∨ w.heap.size ≤ q
theorem WrN.refl (w : World) (wb : Nat) (o : Option Nat) : WrN w w wb o o := ⟨Gr.refl _, fun _ h => .inl h⟩
theorem WrN.trans {w w1 w2 : World} {wb : Nat} {o o1 o2 : Option Nat} (h : WrN w w1 wb o o1) (k : WrN w1 w2 wb o1 o2) : WrN w w2 wb o o2 := by
  refine ⟨h.gr.wide k.gr (fun n hn e => ?_), ?_⟩
  · rcases e with e | e
    · exact Or.inl e
    · rcases h.nx n e with h1 | h1
      · exact Or.inr h1
      · omega
  · intro q hq
    rcases k.nx q hq with k1 | k1
    · exact h.nx q k1
    · exact .inr (Nat.le_trans h.gr.size k1)
theorem Wr.bel {w w' : World} {lo wb : Nat} {A : Option Addr} {c : Nat} {bs : List Int} {lg : Bool} (h : Wr w lo wb A c bs lg) (hb : Below w.heap.size w w') : Wr w' lo wb A c bs lg :=
  ⟨h.blk.bel2 hb, h.own.below hb, Nat.le_trans h.lob hb.size, h.by_, h.few⟩
theorem WrN.of_below {w w' : World} (wb : Nat) (o : Option Nat) (hb : Below w.heap.size w w') : WrN w w' wb o o := ⟨Gr.of_below hb, fun _ h => .inl h⟩
theorem Wr.flag {w : World} {lo wb : Nat} {A : Option Addr} {c : Nat} {bs : List Int} {lg : Bool} (h : Wr w lo wb A c bs lg) (b : Bool) : Wr (w.setCell ⟨wb, 1, none⟩ (.bool b)) lo wb A c bs b := by
  refine ⟨h.blk.set_ 1 (.bool b), ?_, by simpa using h.lob, h.by_, h.few⟩
  have hg : w.grownBy (w.setCell ⟨wb, 1, none⟩ (.bool b)) (some wb) := ⟨rfl, rfl, rfl, by simp, fun k hk hn => Below.heap_setCell w ⟨wb, 1, none⟩ _ k (fun e => hn (by rw [e]))⟩
  exact h.own.kept hg (Or.inr h.ne)
def roomP (n : Int) (bs : List Int) (lg : Bool) : Bool := decide (262144 - (bs.length : Int) < n) || lg
set_option maxRecDepth 100000 in
set_option maxHeartbeats 2000000 in
theorem room_any (n : Int) (w : World) (lo wb : Nat) (A : Option Addr) (c : Nat) (bs : List Int) (lg : Bool) (h : Wr w lo wb A c bs lg) :
    Calls Try.prog 51 #[.pointer (some ⟨wb, 0, none⟩), .int .i64 n] w fun e w' => e = .returned (.bool (!(roomP n bs lg))) ∧ Wr w' lo wb A c bs (roomP n bs lg) ∧ WrN w w' wb (Value.slice A bs.length c).ownBlock (Value.slice A bs.length c).ownBlock := by
  have b0 := h.blk.cell 0
  have b1 := h.blk.cell 1
  have bl := h.blk.lt
  have f1 := h.blk.frozen 1
  have n0 : (0 : Int) ≤ (bs.length : Int) := by omega
  have n1 : (bs.length : Int) ≤ 262144 := by have := h.few; omega
  have HH := Lib.hid h
  clear h
  by_cases hr : 262144 - (bs.length : Int) < n
  · have e : roomP n bs lg = true := by simp [roomP, hr]
    rw [e]
    have hr2 : decide (262144 - (bs.length : Int) < n) = true := decide_eq_true hr
    clear e
    go_enter Try.func51, Try.ntmps51
    go_wp2
    go_ret
    exact ⟨rfl, HH.out.flag true, ⟨(Gr.refl w).setCell (p := ⟨wb, 1, none⟩) (Or.inr (Or.inl rfl)) _, fun _ h => .inl h⟩⟩
  · have e : roomP n bs lg = lg := by simp [roomP, hr]
    rw [e]
    have hr2 : decide (262144 - (bs.length : Int) < n) = false := decide_eq_false hr
    clear e
    go_enter Try.func51, Try.ntmps51
    go_wp2
    go_ret
    exact ⟨rfl, HH.out, WrN.refl _ _ _⟩
/-- A number's bytes, the lowest first. -/
def byteAt (v : Int) (j : Nat) : Int := (v / 2 ^ (8 * (j : Int)).toNat) % 256
def bytesTo (v : Int) (j : Nat) : List Int := (List.range j).map (byteAt v)
def le8 (v : Int) : List Int := bytesTo v 8
theorem bytesTo_succ (v : Int) (j : Nat) : bytesTo v (j + 1) = bytesTo v j ++ [byteAt v j] := by simp [bytesTo, List.range_succ]
theorem bytesTo_len (v : Int) (j : Nat) : (bytesTo v j).length = j := by simp [bytesTo]
theorem byteAt_ok (v : Int) (j : Nat) : 0 ≤ byteAt v j ∧ byteAt v j ≤ 255 := by unfold byteAt; omega
theorem u8_wrap (x : Int) : IntKind.u8.wrap x = x % 256 := by
  have e : IntKind.u8.wrap x = x % 256 := by simp [IntKind.wrap, IntKind.bits, IntKind.signed]
  exact e
theorem info_u8 : (Try.prog.info? 5).map (fun i => (i.zero, i.size, i.bytes)) = some (some (.int .u8 0), 1, 1) := by kernel_rfl
/-- Bytes appended. -/
theorem op_append1 {o : Oper} {a : Act} {w : World} {K : Act → World → Prop} {Q : Exit → Act → World → Prop} (s x : Operand) (ho : o.op = .call { callee := .builtin .append, args := #[s, x], argTypes := #[29, 29] }) (hty : o.type = 29)
    (lo : Nat) (A : Option Addr) (c : Nat) (bs : List Int) (hs : a.eval s = .slice A bs.length c) (hown : Bys w lo (.slice A bs.length c) bs.length (bs.map (Value.int .u8))) (hlo : lo ≤ w.heap.size) (hlen : bs.length ≤ 262144)
    (g m d : Nat) (news : List Int) (hx : a.eval x = .slice (some ⟨g, 0, none⟩) m d) (hr : Reads w (g + 1) 1 (some ⟨g, 0, none⟩) m (news.map (Value.int .u8))) (hm : m ≤ 262144) (hm0 : 0 < m)
    (h : ∀ A' c' w', w'.ownsRow lo 5 1 (.slice A' (bs.length + m) c') (bs.length + m) ((bs ++ news).map (Value.int .u8)) → w.grownBy w' (Value.slice A bs.length c).ownBlock → (∀ q, (Value.slice A' (bs.length + m) c').ownBlock = some q → (Value.slice A bs.length c).ownBlock = some q ∨ w.heap.size ≤ q) → K (a.put o.dst (.slice A' (bs.length + m) c')) w') : o.wp Try.prog a w K Q := by
  obtain ⟨i, hi, hzz⟩ := Option.map_eq_some_iff.1 info_u8
  simp only [Prod.mk.injEq] at hzz
  obtain ⟨hz, hsz, hby⟩ := hzz
  have h1 : ∀ u ∈ news.map (Value.int .u8), u.oneCell' = true := fun u hu => by (obtain ⟨z, _, rfl⟩ := List.mem_map.1 hu; rfl)
  rcases hown with hown | hown
  · refine wp_append_any (P := Try.prog) w s x 29 ho lo 5 i (.int .u8 0) 1 1 Try.underlying29 hi hz hsz hby rfl (by omega) _ _ _ hs hown (g + 1) (some ⟨g, 0, none⟩) m d (news.map (Value.int .u8)) hx hr h1 (by unfold maxLen; omega) (by omega) hlo ?_
    intro v' w' h2 h3 h4
    obtain ⟨A', c', rfl⟩ := own_shape h2
    rw [← List.map_append] at h2
    refine h A' c' w' h2 h3 (fun q hq => ?_)
    rcases h4 with h4 | h4
    · exact .inl (h4.symm.trans hq)
    · rw [h4] at hq
      injection hq with hq
      exact .inr (by omega)
  · have hadd : ∀ (j : Nat) (u : Value), (news.map (Value.int .u8))[j]? = some u → w.cell? ((⟨g, 0, none⟩ : Addr).add j) = some u := by
      obtain ⟨ad, e, _, hc⟩ := hr.2 hm0
      injection e with e
      subst e
      exact hc
    obtain ⟨v', w', hrun, h3, h4⟩ := run_full (P := Try.prog) w lo 29 29 o.type 5 i Try.underlying29 hi hz hsz hby _ _ _ hown (.slice (some ⟨g, 0, none⟩) m d) m (news.map (Value.int .u8)) (Src.ofSlice w Try.underlying29 ⟨g, 0, none⟩ m d (news.map (Value.int .u8)) (by rw [hr.1, hsz]) hadd h1) hm0 (by unfold maxLen; omega) (by omega)
    obtain ⟨A', c', rfl⟩ := own_shape h3
    unfold Oper.wp execOp
    simp only [ho, resolve, invoke, builtin, Sem.run_bind, Sem.run_pure, Result.andThen_ok, List.map_toArray, List.map_cons, List.map_nil, hs, hx, hrun]
    rw [← List.map_append] at h3
    exact h A' c' w' (own_mono h3 hlo) ⟨h4.os, h4.tape, h4.output, h4.size, fun k hk _ => h4.block k hk⟩ (fun q hq => .inr (h3.lt q hq).1)
/-- Behind an append of bytes and the store of the new slice. -/
theorem Wr.grow {V w' : World} {lo wb : Nat} {A A' : Option Addr} {c c' : Nat} {bs news : List Int} {lg : Bool} (h : Wr V lo wb A c bs lg) (hg : V.grownBy w' (Value.slice A bs.length c).ownBlock)
    (ho : w'.ownsRow lo 5 1 (.slice A' (bs.length + news.length) c') (bs.length + news.length) ((bs ++ news).map (Value.int .u8)))
    (hb : ∀ x ∈ news, 0 ≤ x ∧ x ≤ 255) (hf : (bs ++ news).length ≤ 262144) : Wr (w'.setCell ⟨wb, 0, none⟩ (.slice A' (bs.length + news.length) c')) lo wb A' c' (bs ++ news) lg := by
  have hl : (bs ++ news).length = bs.length + news.length := by simp
  have hb1 : Blk w' wb 52 #[.slice A bs.length c, .bool lg] := h.blk.grown hg (fun e => h.ne e.symm)
  refine ⟨?_, ?_, ?_, fun x hx => ?_, hf⟩
  · have := hb1.set_ 0 (.slice A' (bs.length + news.length) c')
    rw [hl]
    exact this
  · rw [hl]
    have hne : (Value.slice A' (bs.length + news.length) c').ownBlock ≠ some wb := own_blk_ne ho hb1 wrt_ne
    exact .inl <| ho.kept (row := some wb) ⟨rfl, rfl, rfl, by simp, fun k hk hn => Below.heap_setCell w' ⟨wb, 0, none⟩ _ k (fun e => hn (by rw [e]))⟩ (Or.inr hne)
  · simpa using Nat.le_trans h.lob hg.size
  · rcases List.mem_append.1 hx with hx | hx
    · exact h.by_ x hx
    · exact hb x hx
set_option maxRecDepth 100000 in
set_option maxHeartbeats 4000000 in
theorem word_some (v : Int) (w : World) (lo wb : Nat) (A : Option Addr) (c : Nat) (bs : List Int) (h : Wr w lo wb A c bs false) (hroom : bs.length + 8 ≤ 262144) :
    Calls Try.prog 23 #[.pointer (some ⟨wb, 0, none⟩), .int .i64 v] w fun e w' => (∃ x, e = .returned x) ∧ ∃ A' c', Wr w' lo wb A' c' (bs ++ le8 v) false ∧ WrN w w' wb (Value.slice A bs.length c).ownBlock (Value.slice A' (bs ++ le8 v).length c').ownBlock := by
  have hrm : roomP 8 bs false = false := by simp [roomP]; omega
  have HR := Lib.hid (room_any 8 w lo wb A c bs false h)
  rw [hrm] at HR
  clear hrm h
  go_enter Try.func23, Try.ntmps23
  go_wp2_with (go_at_call 51; ((with_reducible refine HR.out.mono ?_); rintro e w1 ⟨rfl, hw1, hn1⟩); have HW1 := Lib.hid hw1; have HN1 := Lib.hid hn1; clear hw1 hn1)
  go_loopg [8] 8 (fun gk v8 wr => ∃ (j : Nat) (A' : Option Addr) (c' : Nat), j + gk = 8 ∧ v8 = .int .i64 j ∧ Wr wr lo wb A' c' (bs ++ bytesTo v j) false ∧ WrN w wr wb (Value.slice A bs.length c).ownBlock (Value.slice A' (bs ++ bytesTo v j).length c').ownBlock)
  case atStart => exact ⟨0, A, c, by simp, rfl, by simpa [bytesTo] using HW1.out, by simpa [bytesTo] using HN1.out⟩
  case round =>
    obtain ⟨j, A', c', hj, rfl, hw, hn⟩ := hrel
    have HW := Lib.hid hw
    have HN := Lib.hid hn
    cases gk with
    | zero =>
      obtain rfl : j = 8 := by omega
      clear hj hw hn
      go_wp2
      refine bodyPost_end (results_none rfl _ _ _) rfl ?_
      exact ⟨⟨_, rfl⟩, A', c', HW.out, HN.out⟩
    | succ gg =>
      have hj8 : (j : Int) < 8 := by omega
      have hj0 : (0 : Int) ≤ (j : Int) := by omega
      have hlj : (bs ++ bytesTo v j).length ≤ 262143 := by rw [List.length_append, bytesTo_len]; omega
      obtain ⟨bj, hbj⟩ : ∃ l, bs ++ bytesTo v j = l := ⟨_, rfl⟩
      have hbj1 : bs ++ bytesTo v (j + 1) = bj ++ [byteAt v j] := by rw [bytesTo_succ, ← List.append_assoc, hbj]
      rw [hbj] at hw hn hlj HW HN
      have HBJ := Lib.hid hbj1
      have b0 := hw.blk.cell 0
      have bl := hw.blk.lt
      have hne := hw.ne
      have HOLD := Lib.hid (fun q (hq : (Value.slice A' bj.length c').ownBlock = some q) => hw.old hq)
      have e8 : IntKind.i64.wrap (8 * (j : Int)) = 8 * (j : Int) := IntWalk.i64_in _ (by omega)
      have e80 : (0 : Int) ≤ 8 * (j : Int) := by omega
      have e81 : 8 * (j : Int) ≤ 64 := by omega
      have eb : IntKind.u8.wrap (v / 2 ^ (8 * (j : Int)).toNat) = byteAt v j := u8_wrap _
      have HE8 := Lib.hid e8
      have HEB := Lib.hid eb
      clear hbj hbj1 hw hn e8 eb
      go_wp2
      refine wp_region_split (S := fun V => Gr (fun x => (Value.slice A' bj.length c').ownBlock = some x) wr V) 12 (by kernel_rfl) (by kernel_rfl) (Gr.refl wr).drew (fun hS0 => ?_)
      simp only [List.take_succ_cons, List.take_zero]
      refine wpAnyH_take (i := 0) (v := .pointer (some ⟨wb, 0, none⟩)) rfl (by kernel_rfl) (by kernel_rfl) (by kernel_rfl) (fun _ _ _ h => h) (Or.inl ⟨rfl, fun w' hS => by (unfold execOp; go_simp)⟩) hS0 ?_
      simp only [Act.put, List.getElem_toArray, List.getElem_cons_zero, List.getElem_cons_succ, List.setIfInBounds_toArray, List.set_cons_zero, List.set_cons_succ]
      refine wpAnyH_take (i := 1) (v := .pointer (some ⟨wb, 0, none⟩)) rfl (by kernel_rfl) (by kernel_rfl) (by kernel_rfl) (fun _ _ _ h => h) (Or.inl ⟨rfl, fun w' hS => by (unfold execOp; go_simp)⟩) hS0 ?_
      simp only [Act.put, List.getElem_toArray, List.getElem_cons_zero, List.getElem_cons_succ, List.setIfInBounds_toArray, List.set_cons_zero, List.set_cons_succ]
      refine wpAnyH_take (i := 2) (v := .pointer (some ⟨wb, 0, none⟩)) rfl (by kernel_rfl) (by kernel_rfl) (by kernel_rfl) (fun _ _ _ h => h) (Or.inl ⟨rfl, fun w' hS => by (unfold execOp; go_simp)⟩) hS0 ?_
      simp only [Act.put, List.getElem_toArray, List.getElem_cons_zero, List.getElem_cons_succ, List.setIfInBounds_toArray, List.set_cons_zero, List.set_cons_succ]
      refine wpAnyH_take (i := 3) (v := .pointer (some ⟨wb, 0, none⟩)) rfl (by kernel_rfl) (by kernel_rfl) (by kernel_rfl) (fun _ _ _ h => h) (Or.inl ⟨rfl, fun w' hS => by (unfold execOp; go_simp)⟩) hS0 ?_
      simp only [Act.put, List.getElem_toArray, List.getElem_cons_zero, List.getElem_cons_succ, List.setIfInBounds_toArray, List.set_cons_zero, List.set_cons_succ]
      refine wpAnyH_take (i := 4) (v := (.slice A' bj.length c')) rfl (by kernel_rfl) (by kernel_rfl) (by kernel_rfl) (fun _ _ _ h => h) (Or.inl ⟨rfl, fun w' hS => by (have yu := (hS.cell (p := ⟨wb, 0, none⟩) bl hne).trans b0; have yl := Nat.lt_of_lt_of_le bl hS.size; unfold execOp; go_simp)⟩) hS0 ?_
      simp only [Act.put, List.getElem_toArray, List.getElem_cons_zero, List.getElem_cons_succ, List.setIfInBounds_toArray, List.set_cons_zero, List.set_cons_succ]
      refine wpAnyH_take (i := 5) (v := .int .i64 v) rfl (by kernel_rfl) (by kernel_rfl) (by kernel_rfl) (fun _ _ _ h => h) (Or.inl ⟨rfl, fun w' hS => by (unfold execOp; go_simp)⟩) hS0 ?_
      simp only [Act.put, List.getElem_toArray, List.getElem_cons_zero, List.getElem_cons_succ, List.setIfInBounds_toArray, List.set_cons_zero, List.set_cons_succ]
      refine wpAnyH_take (i := 6) (v := .int .i64 j) rfl (by kernel_rfl) (by kernel_rfl) (by kernel_rfl) (fun _ _ _ h => h) (Or.inl ⟨rfl, fun w' hS => by (unfold execOp; go_simp)⟩) hS0 ?_
      simp only [Act.put, List.getElem_toArray, List.getElem_cons_zero, List.getElem_cons_succ, List.setIfInBounds_toArray, List.set_cons_zero, List.set_cons_succ]
      refine wpAnyH_take (i := 7) (v := .int .i64 (8 * (j : Int))) rfl (by kernel_rfl) (by kernel_rfl) (by kernel_rfl) (fun _ _ _ h => h) (Or.inl ⟨rfl, fun w' hS => by (have e8 := HE8.out; unfold execOp; go_simp)⟩) hS0 ?_
      simp only [Act.put, List.getElem_toArray, List.getElem_cons_zero, List.getElem_cons_succ, List.setIfInBounds_toArray, List.set_cons_zero, List.set_cons_succ]
      refine wpAnyH_take (i := 8) (v := .int .i64 (v / 2 ^ (8 * (j : Int)).toNat)) rfl (by kernel_rfl) (by kernel_rfl) (by kernel_rfl) (fun _ _ _ h => h) (Or.inl ⟨rfl, fun w' hS => by (unfold execOp; go_simp)⟩) hS0 ?_
      simp only [Act.put, List.getElem_toArray, List.getElem_cons_zero, List.getElem_cons_succ, List.setIfInBounds_toArray, List.set_cons_zero, List.set_cons_succ]
      refine wpAnyH_take (i := 9) (v := .int .u8 (byteAt v j)) rfl (by kernel_rfl) (by kernel_rfl) (by kernel_rfl) (fun _ _ _ h => h) (Or.inl ⟨rfl, fun w' hS => by (have eb := HEB.out; unfold execOp; go_simp)⟩) hS0 ?_
      simp only [Act.put, List.getElem_toArray, List.getElem_cons_zero, List.getElem_cons_succ, List.setIfInBounds_toArray, List.set_cons_zero, List.set_cons_succ]
      have hS6 : Gr (fun x => (Value.slice A' bj.length c').ownBlock = some x) wr (wr.drew.alloc (.cells #[.int .u8 (byteAt v j)] 5)) := hS0.alloc _
      refine wpAnyH_one (i := 10) (by kernel_rfl) rfl rfl (op_val (v := .slice (some ⟨wr.heap.size, 0, none⟩) 1 1) (w' := wr.drew.alloc (.cells #[.int .u8 (byteAt v j)] 5)) (by unfold execOp; go_simp) (And.intro hS6 ?_))
      simp only [Act.put, List.getElem_toArray, List.getElem_cons_zero, List.getElem_cons_succ, List.setIfInBounds_toArray, List.set_cons_zero, List.set_cons_succ]
      have hw6 := HW.out.bel (w' := wr.drew.alloc (.cells #[.int .u8 (byteAt v j)] 5)) ((Below.refl _ wr).drew.alloc (Nat.le_refl _) _)
      have hb6 : Blk (wr.drew.alloc (.cells #[.int .u8 (byteAt v j)] 5)) wr.heap.size 5 #[.int .u8 (byteAt v j)] := Blk.new _ _ _
      have hrd : Reads (wr.drew.alloc (.cells #[.int .u8 (byteAt v j)] 5)) (wr.heap.size + 1) 1 (some ⟨wr.heap.size, 0, none⟩) 1 ([byteAt v j].map (Value.int .u8)) := ⟨rfl, fun _ => ⟨_, rfl, by show wr.heap.size < wr.heap.size + 1; omega, fun i x hx => by (rw [add0, hb6.cell, ← Array.getElem?_toList]; exact hx)⟩⟩
      refine wpAnyH_one (i := 11) (by kernel_rfl) rfl rfl (op_append1 (.tmp 15) (.tmp 21) rfl rfl lo A' c' bj rfl hw6.own hw6.lob (by omega) wr.heap.size 1 1 [byteAt v j] rfl hrd (by omega) (by omega) ?_)
      rintro A2 c2 w7 ho7 hg7 hn7
      have hg17 : Gr (fun x => (Value.slice A' bj.length c').ownBlock = some x) wr w7 := hS6.trans (Gr.of_grown hg7 (fun k e _ => e)) |> fun _ => ⟨hg7.os.trans hS6.os, hg7.tape.trans hS6.tape, hg7.output.trans hS6.output, Nat.le_trans hS6.size hg7.size, fun b hb hS => (hg7.block b (Nat.lt_of_lt_of_le hb hS6.size) (fun e => hS e.symm)).trans (hS6.block b hb hS)⟩
      refine And.intro hg17 ?_
      simp only [Act.put, List.getElem_toArray, List.getElem_cons_zero, List.getElem_cons_succ, List.setIfInBounds_toArray, List.set_cons_zero, List.set_cons_succ]
      have hb7 : Blk w7 wb 52 #[.slice A' bj.length c', .bool false] := hw6.blk.grown hg7 (fun e => hw6.ne e.symm)
      have v0 := hb7.cell 0
      have vl := hb7.lt
      have vf := hb7.frozen 0
      refine wpAnyH_done (by kernel_rfl) ?_ _
      refine wpAny_one (i := 12) (by kernel_rfl) rfl rfl (op_val (v := .pointer (some ⟨wb, 0, none⟩)) (w' := w7) (by unfold execOp; go_simp) ?_)
      simp only [Act.put, List.getElem_toArray, List.getElem_cons_zero, List.getElem_cons_succ, List.setIfInBounds_toArray, List.set_cons_zero, List.set_cons_succ]
      refine wpAny_one (i := 13) (by kernel_rfl) rfl rfl (op_val (v := .pointer (some ⟨wb, 0, none⟩)) (w' := w7) (by unfold execOp; go_simp) ?_)
      simp only [Act.put, List.getElem_toArray, List.getElem_cons_zero, List.getElem_cons_succ, List.setIfInBounds_toArray, List.set_cons_zero, List.set_cons_succ]
      refine wpAny_one (i := 14) (by kernel_rfl) rfl rfl (op_skip (w' := w7.setCell ⟨wb, 0, none⟩ (.slice A2 (bj.length + 1) c2)) (by unfold execOp; go_simp) ?_)
      simp only [Act.put, List.getElem_toArray, List.getElem_cons_zero, List.getElem_cons_succ, List.setIfInBounds_toArray, List.set_cons_zero, List.set_cons_succ]
      refine wpAny_done (by kernel_rfl) ?_ _
      have HV := Lib.hid (hw6.grow (news := [byteAt v j]) hg7 ho7 (fun x hx => by (rw [List.mem_singleton.1 hx]; exact byteAt_ok v j)) (by simp; omega))
      have HX := Lib.hid (show WrN wr (w7.setCell ⟨wb, 0, none⟩ (.slice A2 (bj.length + 1) c2)) wb (Value.slice A' bj.length c').ownBlock (Value.slice A2 (bj.length + 1) c2).ownBlock from ⟨(Gr.mono (S' := fun x => x = wb ∨ (Value.slice A' bj.length c').ownBlock = some x) hg17 (fun _ _ e => Or.inr e)).setCell (p := ⟨wb, 0, none⟩) (Or.inr (Or.inl (show wb = wb from rfl))) _, by
        intro q hq
        rcases hn7 q hq with h1 | h1
        · exact .inl h1
        · exact .inr (by simp at h1; omega)⟩)
      clear hg17 hn7 hg7 ho7 hw6 hb6 hrd hS6 hS0 hb7 v0 vl vf b0 hne
      generalize w7.setCell ⟨wb, 0, none⟩ (.slice A2 (bj.length + 1) c2) = V at HV HX ⊢
      go_wp2
      go_roundg gg
      case measure => omega
      case rel => exact ⟨j + 1, A2, c2, by omega, by go_num, by rw [HBJ.out]; exact HV.out, HN.out.trans (by rw [HBJ.out, List.length_append]; exact HX.out)⟩
end Go.Proofs.Ytnkojjkijkhlbaa
