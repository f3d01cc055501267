/-
  What imports what, as a table.
-/
import Derived.Test.YtibfikadamfpdaaIx
namespace Go.Proofs.Ytibfikadamfpdaa
open Go.RowKit
set_option linter.unusedVariables false
set_option linter.unusedSimpArgs false

theorem info_bool : (Try.prog.info? 4).map (fun i => (i.zero, i.size, i.bytes)) = some (some (.bool false), 1, 1) := by kernel_rfl
theorem info_bools : (Try.prog.info? 44).map (fun i => (i.zero, i.size, i.bytes)) = some (some (.slice none 0 0), 1, 24) := by kernel_rfl
theorem info_int : (Try.prog.info? 3).map (fun i => (i.zero, i.size, i.bytes)) = some (some (.int .i64 0), 1, 8) := by kernel_rfl
theorem made_one (z : Value) (n : Nat) : madeCells #[z] n = (List.replicate n z).toArray := by
  have e : ∀ x : Nat, [z][x % 1]?.getD default = z := fun x => by rw [Nat.mod_one]; rfl
  apply Array.toList_inj.1
  simp [madeCells, e, List.map_const']
theorem run_mkb (n : Nat) (hn : n ≤ 2000) (w : World) : (Instr.makeSlice 44 (.int .i64 n) (.int .i64 n)).run Try.prog w = .ok (.slice (some ⟨w.heap.size, 0, none⟩) n n) (w.alloc (.cells (List.replicate n (Value.bool false)).toArray 4)) := by
  obtain ⟨i, hi, hzz⟩ := Option.map_eq_some_iff.1 info_bool
  simp only [Prod.mk.injEq] at hzz
  obtain ⟨hz, hs, hb⟩ := hzz
  have hr := run_make (P := Try.prog) w 44 4 i (.bool false) Try.underlying44 hi hz .i64 .i64 n n (by omega) (Int.le_refl _) (by rw [hb]; omega) (by omega)
  simp only [Int.toNat_natCast, hs, Nat.mul_one] at hr
  rw [← made_one]
  exact hr
theorem run_mki (n : Nat) (hn : n ≤ 2000) (w : World) : (Instr.makeSlice 26 (.int .i64 n) (.int .i64 n)).run Try.prog w = .ok (.slice (some ⟨w.heap.size, 0, none⟩) n n) (w.alloc (.cells (List.replicate n (Value.int .i64 0)).toArray 3)) := by
  obtain ⟨i, hi, hzz⟩ := Option.map_eq_some_iff.1 info_int
  simp only [Prod.mk.injEq] at hzz
  obtain ⟨hz, hs, hb⟩ := hzz
  have hr := run_make (P := Try.prog) w 26 3 i (.int .i64 0) Try.underlying26 hi hz .i64 .i64 n n (by omega) (Int.le_refl _) (by rw [hb]; omega) (by omega)
  simp only [Int.toNat_natCast, hs, Nat.mul_one] at hr
  rw [← made_one]
  exact hr
theorem run_mkl (n : Nat) (hn : n ≤ 2000) (w : World) : (Instr.makeSlice 39 (.int .i64 n) (.int .i64 n)).run Try.prog w = .ok (.slice (some ⟨w.heap.size, 0, none⟩) n n) (w.alloc (.cells (List.replicate n (Value.slice none 0 0)).toArray 44)) := by
  obtain ⟨i, hi, hzz⟩ := Option.map_eq_some_iff.1 info_bools
  simp only [Prod.mk.injEq] at hzz
  obtain ⟨hz, hs, hb⟩ := hzz
  have hr := run_make (P := Try.prog) w 39 44 i (.slice none 0 0) Try.underlying39 hi hz .i64 .i64 n n (by omega) (Int.le_refl _) (by rw [hb]; omega) (by omega)
  simp only [Int.toNat_natCast, hs, Nat.mul_one] at hr
  rw [← made_one]
  exact hr

def rowB (n : Nat) (g : Nat → Bool) : List Value := (List.range n).map fun j => Value.bool (g j)
def tabL (n : Nat) (tt : Nat → Nat → Bool) : List (List Value) := (List.range n).map fun i => rowB n (tt i)
theorem rowB_length (n : Nat) (g : Nat → Bool) : (rowB n g).length = n := by simp [rowB]
theorem rowB_get {n : Nat} {g : Nat → Bool} {j : Nat} (h : j < n) : (rowB n g)[j]? = some (.bool (g j)) := by simp [rowB, h]
theorem rowB_zero (n : Nat) : List.replicate n (Value.bool false) = rowB n (fun _ => false) := by
  apply List.ext_getElem?
  intro i
  by_cases h : i < n
  · rw [rowB_get h]; simp [h]
  · rw [List.getElem?_eq_none (by simp; omega), List.getElem?_eq_none (by rw [rowB_length]; omega)]
theorem rowB_set {n : Nat} {g : Nat → Bool} {t : Nat} : (rowB n g).set t (.bool true) = rowB n (fun j => g j || t == j) := by
  apply List.ext_getElem?
  intro i
  by_cases h : i < n
  · rw [rowB_get h, List.getElem?_set]
    by_cases e : t = i
    · subst e; simp [rowB_length, h]
    · rw [if_neg e, rowB_get h]; simp [e]
  · rw [List.getElem?_eq_none (by rw [List.length_set, rowB_length]; omega), List.getElem?_eq_none (by rw [rowB_length]; omega)]
theorem tabL_get {n : Nat} {tt : Nat → Nat → Bool} {i : Nat} (h : i < n) : (tabL n tt)[i]? = some (rowB n (tt i)) := by simp [tabL, h]
theorem tabL_length (n : Nat) (tt : Nat → Nat → Bool) : (tabL n tt).length = n := by simp [tabL]
/-- What one imports. -/
def ofN (R : List (List ByteArray)) (i : Nat) : List ByteArray := (R[i]?).getD []
def lkL (N : List ByteArray) (l : List ByteArray) (j : Nat) : Bool := l.any fun s => fst9 N s == some j
def lk (N : List ByteArray) (R : List (List ByteArray)) (i j : Nat) : Bool := lkL N (ofN R i) j
def badL (N : List ByteArray) (l : List ByteArray) : Bool := l.any fun s => (fst9 N s).isNone
/-- The first one that imports what is none of them. -/
def bad9 (N : List ByteArray) (R : List (List ByteArray)) : Option Nat := (List.range N.length).find? fun i => badL N (ofN R i)

/-- A table under way. -/
structure TabM (w : World) (n gw X k : Nat) (f : Nat → Nat → Bool) (cs : Array Value) : Prop where
  blk : Blk w gw 44 cs
  size : cs.size = n
  rows : ∀ i, i < k → ∃ r, cs[i]? = some (.slice (some ⟨r, 0, none⟩) n n) ∧ r < X ∧ Blk w r 4 (rowB n (f i)).toArray
theorem TabM.below {w w' : World} {n gw X k : Nat} {f : Nat → Nat → Bool} {cs : Array Value} (h : TabM w n gw X k f cs) (hb : Below w.heap.size w w') : TabM w' n gw X k f cs :=
  ⟨h.blk.bel2 hb, h.size, fun i hi => by
    obtain ⟨r, h1, h2, h3⟩ := h.rows i hi
    exact ⟨r, h1, h2, h3.bel2 hb⟩⟩
theorem TabM.far {w : World} {n gw X k : Nat} {f : Nat → Nat → Bool} {cs : Array Value} (h : TabM w n gw X k f cs) {r : Nat} {c0 : Array Value} (hr : Blk w r 4 c0) (hX : X ≤ r) (j : Nat) (v : Value) : TabM (w.setCell ⟨r, j, none⟩ v) n gw X k f cs :=
  ⟨h.blk.far (p := ⟨r, j, none⟩) (Blk.ne_ h.blk hr (by decide)) v, h.size, fun i hi => by
    obtain ⟨q, h1, h2, h3⟩ := h.rows i hi
    exact ⟨q, h1, h2, h3.far (p := ⟨r, j, none⟩) (by show q ≠ r; omega) v⟩⟩
theorem TabM.sln {w : World} {n gw X : Nat} {f : Nat → Nat → Bool} {cs : Array Value} (h : TabM w n gw X n f cs) : SlN w w.heap.size (some ⟨gw, 0, none⟩) (tabL n f) := by
  refine ⟨cs.toList, by rw [tabL_length]; simp [h.size], fun hn => ⟨gw, 0, rfl, h.blk.lt, fun j u hu => ?_⟩, fun i l hl => ?_⟩
  · rw [Nat.zero_add, h.blk.cell]; simpa using hu
  · have hi : i < n := by
      have := (List.getElem?_eq_some_iff.1 hl).1
      rwa [tabL_length] at this
    rw [tabL_get hi] at hl
    obtain rfl := Option.some.inj hl
    obtain ⟨r, h1, _, h3⟩ := h.rows i hi
    refine ⟨some ⟨r, 0, none⟩, n, by rw [rowB_length]; simpa using h1, fun hn => ⟨r, 0, rfl, h3.lt, fun j u hu => ?_⟩⟩
    rw [Nat.zero_add, h3.cell]; simpa using hu
def LinkP (w : World) (N : List ByteArray) (R : List (List ByteArray)) (e : Ending) (w' : World) : Prop :=
  Below w.heap.size w w' ∧ match bad9 N R with
  | some i => e = .returned (.tuple #[.slice none 0 0, .int .i64 (i : Int), .bool false])
  | none => ∃ A', e = .returned (.tuple #[.slice A' N.length N.length, .int .i64 0, .bool true]) ∧ SlN w' w'.heap.size A' (tabL N.length (lk N R))
theorem LinkP.bad {w w' : World} {N : List ByteArray} {R : List (List ByteArray)} {e : Ending} (hb : Below w.heap.size w w') {i : Nat} (hi : i < N.length) (hk : ∀ k, k < i → badL N (ofN R k) = false) (hbad : badL N (ofN R i) = true) (he : e = .returned (.tuple #[.slice none 0 0, .int .i64 (i : Int), .bool false])) : LinkP w N R e w' := by
  refine ⟨hb, ?_⟩
  rw [show bad9 N R = some i from find_at hi hbad hk]
  exact he
theorem LinkP.good {w w' : World} {N : List ByteArray} {R : List (List ByteArray)} {e : Ending} (hb : Below w.heap.size w w') (hk : ∀ k, k < N.length → badL N (ofN R k) = false) {A' : Option Addr} (he : e = .returned (.tuple #[.slice A' N.length N.length, .int .i64 0, .bool true])) (h : SlN w' w'.heap.size A' (tabL N.length (lk N R))) : LinkP w N R e w' := by
  refine ⟨hb, ?_⟩
  rw [show bad9 N R = none from find_none hk]
  exact ⟨A', he, h⟩
set_option maxRecDepth 100000 in
set_option maxHeartbeats 4000000 in
theorem linked_any (w : World) (B : Nat) (A D : Option Addr) (c d : Nat) (N : List ByteArray) (R : List (List ByteArray)) (hN : SlV w B A (N.map Value.string)) (hR : SlN w B D (R.map fun r => r.map Value.string)) (hn : N.length ≤ 8) (hB : B ≤ w.heap.size) (hr : R.length ≤ 100) (hrr : ∀ r ∈ R, r.length ≤ 100) :
    Calls Try.prog 23 #[.slice A N.length c, .slice D R.length d] w (LinkP w N R) := by
  have HN := Lib.hid hN
  have HR := Lib.hid hR
  have HRR := Lib.hid hrr
  have n1 : (N.length : Int) ≤ 8 := by omega
  have r1 : (R.length : Int) ≤ 100 := by omega
  have hmkl0 := run_mkl N.length (by omega) w
  have hmkb := fun W => run_mkb N.length (by omega) W
  obtain ⟨W0, hW0⟩ : ∃ W0, w.alloc (.cells (List.replicate N.length (Value.slice none 0 0)).toArray 44) = W0 := ⟨_, rfl⟩
  have hb0 : Below w.heap.size w W0 := by rw [← hW0]; exact (Below.refl _ w).alloc (Nat.le_refl _) _
  have hk0 : Blk W0 w.heap.size 44 (List.replicate N.length (Value.slice none 0 0)).toArray := by rw [← hW0]; exact Blk.new _ _ _
  rw [hW0] at hmkl0
  clear hN hR hrr
  go_enter Try.func23, Try.ntmps23
  go_wp2
  go_loopg [17] N.length (fun gk v17 wr => ∃ i cs, i + gk = N.length ∧ v17 = .int .i64 i ∧ Below w.heap.size w wr ∧ TabM wr N.length w.heap.size wr.heap.size i (lk N R) cs ∧ ∀ k, k < i → badL N (ofN R k) = false)
  case atStart => exact ⟨0, _, by simp, rfl, hb0, ⟨hk0, by simp, fun i hi => absurd hi (by omega)⟩, fun k hk => absurd hk (by omega)⟩
  case round =>
    obtain ⟨i, cs, hi, rfl, hb, ht, hk⟩ := hrel
    have HK := Lib.hid hk
    clear hk hk0 hb0
    cases gk with
    | zero =>
      obtain rfl : i = N.length := by omega
      have HE := Lib.hid (And.intro hb ht)
      clear hi hb ht
      go_wp2
      obtain ⟨hb, ht⟩ := HE.out
      exact bodyPost_ret (v := .tuple #[.slice (some ⟨w.heap.size, 0, none⟩) N.length N.length, .int .i64 0, .bool true]) (by simp [results, Try.results23, go_sem]) rfl (LinkP.good hb HK.out rfl ht.sln)
    | succ gf =>
      have hil : i < N.length := by omega
      have i1 : (i : Int) < (N.length : Int) := by omega
      have i0 : (0 : Int) ≤ (i : Int) := by omega
      have hZw := hb.size
      have hgl := ht.blk.lt
      have hcs := ht.size
      have hci : wr.cell? ⟨w.heap.size, i, none⟩ = some (cs[i]'(by omega)) := (ht.blk.cell i).trans (Array.getElem?_eq_getElem (by omega))
      generalize cs[i]'(by omega) = cv at hci
      have hfi := ht.blk.frozen i
      obtain ⟨W1, hW1⟩ : ∃ W1, wr.alloc (.cells (List.replicate N.length (Value.bool false)).toArray 4) = W1 := ⟨_, rfl⟩
      have hB1 : Below wr.heap.size wr W1 := by rw [← hW1]; exact (Below.refl _ wr).alloc (Nat.le_refl _) _
      have hN1 : Blk W1 wr.heap.size 4 (List.replicate N.length (Value.bool false)).toArray := by rw [← hW1]; exact Blk.new _ _ _
      have hZ1 : W1.heap.size = wr.heap.size + 1 := by rw [← hW1]; simp
      have hmk := hmkb wr
      rw [hW1] at hmk
      have ht1 := ht.below hB1
      obtain ⟨W2, hW2⟩ : ∃ W2, W1.setCell ⟨w.heap.size, i, none⟩ (.slice (some ⟨wr.heap.size, 0, none⟩) N.length N.length) = W2 := ⟨_, rfl⟩
      have hne : wr.heap.size ≠ w.heap.size := by omega
      have hB2 : Below w.heap.size wr W2 := by rw [← hW2]; exact (hB1.mono (by omega)).setCell (p := ⟨w.heap.size, i, none⟩) (Nat.le_refl _) _
      have hN2 : Blk W2 wr.heap.size 4 (rowB N.length fun _ => false).toArray := by
        rw [← hW2, ← rowB_zero]; exact hN1.far (p := ⟨w.heap.size, i, none⟩) hne _
      have hT2 : TabM W2 N.length w.heap.size wr.heap.size i (lk N R) (cs.setIfInBounds i (.slice (some ⟨wr.heap.size, 0, none⟩) N.length N.length)) := by
        rw [← hW2]
        refine ⟨ht1.blk.set_ i _, by simpa using hcs, fun q hq => ?_⟩
        obtain ⟨r, h1, h2, h3⟩ := ht1.rows q hq
        exact ⟨r, by rw [Array.getElem?_setIfInBounds_ne (by omega)]; exact h1, h2, h3.far (p := ⟨w.heap.size, i, none⟩) (Blk.ne_ h3 ht1.blk (by decide)) _⟩
      have hC2 : (cs.setIfInBounds i (Value.slice (some ⟨wr.heap.size, 0, none⟩) N.length N.length))[i]? = some (.slice (some ⟨wr.heap.size, 0, none⟩) N.length N.length) := by
        simp [hcs, hil]
      have hZ2 : W2.heap.size = wr.heap.size + 1 := by rw [← hW2]; simpa using hZ1
      have hci1 : W1.cell? ⟨w.heap.size, i, none⟩ = some cv := (hB1.cell (p := ⟨w.heap.size, i, none⟩) hgl).trans hci
      have hfi1 : W1.frozen? ⟨w.heap.size, i, none⟩ = false := ht1.blk.frozen i
      have hbb : Below w.heap.size w W2 := hb.trans hB2
      clear hmkb hci hfi
      generalize cs.setIfInBounds i (.slice (some ⟨wr.heap.size, 0, none⟩) N.length N.length) = cs2 at hT2 hC2
      by_cases hir : R.length ≤ i
      · have hof : ofN R i = [] := by simp [ofN, List.getElem?_eq_none hir]
        have HE := Lib.hid (And.intro hbb (And.intro hT2 (And.intro hC2 (And.intro hN2 hof))))
        have g1 : (R.length : Int) ≤ (i : Int) := by omega
        clear hb ht ht1 hT2 hC2 hN2 hB1 hB2 hN1 hW1 hbb hof hcs hne hgl
        go_wp2
        go_roundg gf
        case measure => omega
        case rel =>
          obtain ⟨h1, h2, h3, h4, h5⟩ := HE.out
          refine ⟨i + 1, cs2, by omega, by go_num, h1, ⟨h2.blk, h2.size, fun q hq => ?_⟩, fun k hk => ?_⟩
          · by_cases hqi : q = i
            · subst hqi
              refine ⟨_, h3, by omega, ?_⟩
              have : lk N R q = fun _ => false := by funext j; simp [lk, lkL, h5]
              rw [this]; exact h4
            · obtain ⟨r, h6, h7, h8⟩ := h2.rows q (by omega)
              exact ⟨r, h6, by omega, h8⟩
          · by_cases hki : k = i
            · rw [hki]; simp [badL, h5]
            · exact HK.out k (by omega)
      · have hil2 : i < R.length := by omega
        have g1 : (i : Int) < (R.length : Int) := by omega
        obtain ⟨ri, hri⟩ : ∃ ri, R[i]? = some ri := ⟨_, List.getElem?_eq_getElem hil2⟩
        have hof : ofN R i = ri := by simp [ofN, hri]
        have hrl := HRR.out ri (List.mem_of_getElem? hri)
        obtain ⟨dg, dof, DA, dc, rfl, hdg, hdcw, hds⟩ := HR.out.at_ (k := i) (l := ri.map Value.string) (by simp [hri])
        have hdc := ((hbb.mono hB).cell (p := ⟨dg, dof + i, none⟩) hdg).trans hdcw
        rw [List.length_map] at hdc
        have rl1 : (ri.length : Int) ≤ 100 := by omega
        have HDS := Lib.hid hds
        have HRI := Lib.hid (show ∀ Wr : World, Below w.heap.size w Wr → SlV Wr B DA (ri.map Value.string) from fun Wr hb => hds.below (hb.mono hB))
        have HBB := Lib.hid hbb
        have HOF := Lib.hid hof
        have HC2 := Lib.hid hC2
        have HN2 := Lib.hid hN2
        have HT2 := Lib.hid hT2
        clear hb ht ht1 hB1 hB2 hN1 hW1 hbb hof hcs hne hgl hri hds hdcw hrl hN2 hT2 hC2
        go_wp2
        have HDS2 := Lib.hid HDS.out
        have HDR := Lib.hid (fun (Wr : World) (hb : Below w.heap.size w Wr) => HRI.out Wr hb)
        have HNR := Lib.hid (fun (Wr : World) (hb : Below w.heap.size w Wr) => HN.out.below (hb.mono hB))
        have hrB : B ≤ wr.heap.size := by omega
        clear hW2 hci1 hfi1 hmk hZ1
        generalize wr.heap.size = rk at HC2 HN2 HT2 hZ2 hrB hZw ⊢
        have hjn : ∃ Wo, Wo = W2 := ⟨_, rfl⟩
        go_loopg [35] ri.length (fun gk v35 wr => ∃ j, j + gk = ri.length ∧ v35 = .int .i64 j ∧ Below w.heap.size w wr ∧ rk < wr.heap.size ∧ TabM wr N.length w.heap.size rk i (lk N R) cs2 ∧ Blk wr rk 4 (rowB N.length (lkL N (ri.take j))).toArray ∧ ∀ s ∈ ri.take j, (fst9 N s).isNone = false)
        case atStart => exact ⟨0, by simp, rfl, HBB.out, by omega, HT2.out, by rw [show lkL N (ri.take 0) = fun _ => false from by funext j; simp [lkL]]; exact HN2.out, fun s hs => by simp at hs⟩
        case round =>
          obtain ⟨j, hj, rfl, hb, hsz, ht, hbr, hkn⟩ := hrel
          have HKN := Lib.hid hkn
          clear hkn
          cases gk with
          | zero =>
            obtain rfl : j = ri.length := by omega
            have HE := Lib.hid (And.intro hb (And.intro ht hbr))
            clear hb ht hbr hj
            go_wp2
            go_roundg gf
            case measure => omega
            case rel =>
              obtain ⟨h1, h2, h3⟩ := HE.out
              rw [List.take_length] at h3
              refine ⟨i + 1, cs2, by omega, by go_num, h1, ⟨h2.blk, h2.size, fun q hq => ?_⟩, fun k hk => ?_⟩
              · by_cases hqi : q = i
                · subst hqi
                  refine ⟨_, HC2.out, by omega, ?_⟩
                  have : lk N R q = lkL N ri := by funext j; simp [lk, HOF.out]
                  rw [this]; exact h3
                · obtain ⟨r, h6, h7, h8⟩ := h2.rows q (by omega)
                  exact ⟨r, h6, by omega, h8⟩
              · by_cases hki : k = i
                · rw [hki, HOF.out]
                  have h4 := HKN.out
                  rw [List.take_length] at h4
                  unfold badL
                  rw [List.any_eq_false]
                  intro s hs
                  rw [h4 s hs]; simp
                · exact HK.out k (by omega)
          | succ fj =>
            have hjl : j < ri.length := by omega
            have j1 : (j : Int) < (ri.length : Int) := by omega
            have j0 : (0 : Int) ≤ (j : Int) := by omega
            obtain ⟨s, hs⟩ : ∃ s, ri[j]? = some s := ⟨_, List.getElem?_eq_getElem hjl⟩
            obtain ⟨sg, so, rfl, hsg, hsc⟩ := (HDS2.out.at_ (k := j) (u := .string s) (by simp [hs]))
            have hsc1 : wr.cell? ⟨sg, so + j, none⟩ = some (.string s) := by
              have h1 := HDR.out _ hb
              obtain ⟨sg', so', e1, _, h2⟩ := h1.at_ (k := j) (u := .string s) (by simp [hs])
              simp at e1
              obtain ⟨rfl, rfl⟩ := e1
              exact h2
            have HI := idxS_any wr B A c N s (HNR.out _ hb) (by omega)
            have hts : ri.take (j + 1) = ri.take j ++ [s] := by rw [List.take_add_one, hs]; rfl
            have HTS := Lib.hid hts
            have hcg := ht.blk.cell i
            rw [HC2.out] at hcg
            have hcl := ht.blk.lt
            have i2 : (i : Int) < (N.length : Int) := by omega
            cases hf : fst9 N s with
            | none =>
              rw [hf] at HI
              simp only [posZ] at HI
              have HF := Lib.hid hf
              have HB := Lib.hid hb
              clear hf hb hs hts ht hbr hsc
              go_wp2_with (go_at_call 28; (with_reducible refine HI.mono ?_); rintro e w1 ⟨rfl, rfl⟩)
              refine bodyPost_ret (v := .tuple #[.slice none 0 0, .int .i64 (i : Int), .bool false]) (by simp [results, Try.results23, go_sem]) rfl ?_
              refine LinkP.bad HB.out hil HK.out ?_ rfl
              rw [HOF.out]
              unfold badL
              rw [List.any_eq_true]
              exact ⟨s, List.mem_of_getElem? (l := ri) (i := j) (by
                have := congrArg List.length HTS.out
                have h0 := HTS.out
                have h2 : (ri.take (j + 1))[j]? = some s := by rw [h0]; simp [Nat.min_eq_left (Nat.le_of_lt hjl)]
                rw [List.getElem?_take, if_pos (by omega)] at h2
                exact h2), by rw [HF.out]; rfl⟩
            | some t =>
              rw [hf] at HI
              simp only [posZ] at HI
              have htl := fst9_lt hf
              have t1 : (t : Int) < (N.length : Int) := by omega
              have t0 : (0 : Int) ≤ (t : Int) := by omega
              have hct := hbr.cell t
              rw [show ((rowB N.length (lkL N (ri.take j))).toArray)[t]? = some (.bool (lkL N (ri.take j) t)) from by simpa using rowB_get htl] at hct
              have hft := hbr.frozen t
              have HBR := Lib.hid (hbr.set_ t (.bool true))
              have HT := Lib.hid (ht.far hbr (Nat.le_refl _) t (.bool true))
              have HB := Lib.hid (hb.setCell (p := ⟨rk, t, none⟩) (by show w.heap.size ≤ rk; omega) (.bool true))
              have HF := Lib.hid hf
              clear hf hb hs hts ht hbr hsc htl
              go_wp2_with (go_at_call 28; (with_reducible refine HI.mono ?_); rintro e w1 ⟨rfl, rfl⟩)
              go_roundg fj
              case measure => omega
              case rel =>
                refine ⟨j + 1, by omega, by go_num, HB.out, by simpa using hsz, HT.out, ?_, ?_⟩
                · have h := HBR.out
                  rw [show (rowB N.length (lkL N (ri.take j))).toArray.setIfInBounds t (.bool true) = (rowB N.length (lkL N (ri.take (j + 1)))).toArray from by
                    apply Array.toList_inj.1
                    rw [Array.toList_setIfInBounds]
                    show (rowB N.length (lkL N (ri.take j))).set t (.bool true) = rowB N.length (lkL N (ri.take (j + 1)))
                    rw [rowB_set, HTS.out]
                    congr 1
                    funext q
                    simp [lkL, HF.out]] at h
                  exact h
                · intro q hq
                  rw [HTS.out] at hq
                  rcases List.mem_append.1 hq with hq | hq
                  · exact HKN.out q hq
                  · rw [List.mem_singleton.1 hq, HF.out]; rfl
end Go.Proofs.Ytibfikadamfpdaa
