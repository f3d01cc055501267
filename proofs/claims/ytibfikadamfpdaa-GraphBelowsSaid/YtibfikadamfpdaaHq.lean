/-
  Package container/heap over the queue.
-/
import Derived.Test.YtibfikadamfpdaaNl
namespace Go.Proofs.Ytibfikadamfpdaa
open Go.RowKit
set_option linter.unusedVariables false
set_option linter.unusedSimpArgs false

abbrev qi (qb : Nat) : Value := .iface 58 (.pointer (some ⟨qb, 0, none⟩))
theorem meth_len (p : Option Addr) (w : World) : (method 191 58 (.pointer p) "Len").run Try.prog w = .ok (31, .pointer p) w := by kernel_rfl
theorem meth_less (p : Option Addr) (w : World) : (method 191 58 (.pointer p) "Less").run Try.prog w = .ok (54, .pointer p) w := by kernel_rfl
theorem meth_swap (p : Option Addr) (w : World) : (method 191 58 (.pointer p) "Swap").run Try.prog w = .ok (57, .pointer p) w := by kernel_rfl
theorem meth_push (p : Option Addr) (w : World) : (method 191 58 (.pointer p) "Push").run Try.prog w = .ok (56, .pointer p) w := by kernel_rfl
theorem meth_pop (p : Option Addr) (w : World) : (method 191 58 (.pointer p) "Pop").run Try.prog w = .ok (55, .pointer p) w := by kernel_rfl
/-- What a queue is over: names that lie in older blocks. -/
structure QN (base : Nat) (A : Option Addr) (N : List ByteArray) (w : World) : Prop where
  slv : SlV w base A (N.map Value.string)
  n8 : N.length ≤ 8
theorem QN.gr {base : Nat} {A : Option Addr} {N : List ByteArray} {w w' : World} {S : Nat → Prop} (h : QN base A N w) (hg : Gr S w w') (hb : base ≤ w.heap.size) (hs : ∀ k, k < base → ¬ S k) : QN base A N w' := ⟨h.slv.below (hg.belowN hb hs), h.n8⟩
theorem QR.old {w : World} {base qb : Nat} {A : Option Addr} {n c : Nat} {v : Value} {l : List Nat} (h : QR w base qb A n c v l) : ∀ k, k < base → ¬ QF v k := fun k hk e => by
  have := (h.own.lt k e).1
  omega
theorem same_lt {m n : Nat} {l l' : List Nat} (hl : ∀ x ∈ l, x < n) (h1 : l.length = m) (h2 : l'.length = m) (h : SameF m (fl l) (fl l')) : ∀ x ∈ l', x < n := by
  intro x hx
  obtain ⟨k, hk, e⟩ := mem_fl.1 hx
  exact hl x (mem_fl.2 (by rw [h1]; exact (h.mem x).1 ⟨k, by omega, e⟩))
set_option maxRecDepth 100000 in
set_option maxHeartbeats 2000000 in
theorem up_any (w : World) (base qb : Nat) (A : Option Addr) (c : Nat) (v : Value) (N : List ByteArray) (l0 : List Nat) (j0 : Nat) (hq : QR w base qb A N.length c v l0) (hN : QN base A N w) (hl : ∀ x ∈ l0, x < N.length) (hll : l0.length ≤ 8) (hj : j0 < l0.length) (hbase : base ≤ w.heap.size) (hu : UpI (nlt N) l0.length (fl l0) j0) :
    Calls Try.prog 35 #[qi qb, .int .i64 j0] w fun e w' => e = .returned (.tuple #[]) ∧ (∃ l', QR w' base qb A N.length c v l' ∧ l'.length = l0.length ∧ HeapF (nlt N) l0.length (fl l') ∧ SameF l0.length (fl l0) (fl l')) ∧ Gr (QF v) w w' := by
  have HQ := Lib.hid hq
  have HN := Lib.hid hN
  have HL := Lib.hid hl
  have HU := Lib.hid hu
  have mS := meth_swap
  have mL := meth_less
  obtain ⟨m, hm⟩ : ∃ m, l0.length = m := ⟨_, rfl⟩
  have HM := Lib.hid hm
  rw [hm] at hll hj
  clear hq hN hl hu hm
  go_enter Try.func35, Try.ntmps35
  go_wp2
  go_loopg [1] j0 (fun gk v1 wr => ∃ l', v1 = .int .i64 gk ∧ l'.length = m ∧ QR wr base qb A N.length c v l' ∧ UpI (nlt N) m (fl l') gk ∧ SameF m (fl l0) (fl l') ∧ gk < m ∧ Gr (QF v) w wr)
  case atStart => exact ⟨l0, rfl, HM.out, HQ.out, by rw [← HM.out]; exact HU.out, SameF.refl _ _, hj, Gr.refl _⟩
  case round =>
    obtain ⟨l', rfl, hm', hq, hu, hs, hg, hgr⟩ := hrel
    cases gk with
    | zero =>
      have HH := Lib.hid hu.stop0
      have HX := Lib.hid (And.intro hq (And.intro hm' (And.intro hs hgr)))
      clear hq hm' hs hgr hu
      go_wp2
      go_end0
      obtain ⟨h1, h2, h3, h4⟩ := HX.out
      exact ⟨rfl, ⟨l', h1, h2.trans HM.out.symm, by rw [HM.out]; exact HH.out, by rw [HM.out]; exact h3⟩, h4⟩
    | succ f =>
      have hll' : l'.length ≤ 8 := by omega
      have hn := HN.out.gr hgr hbase HQ.out.old
      have hl' := same_lt HL.out HM.out hm' hs
      have hsz := hgr.size
      have e0 : ((f + 1 : Nat) : Int) = (f : Int) + 1 := by omega
      obtain ⟨p, hp⟩ : ∃ p, f / 2 = p := ⟨_, rfl⟩
      have hpar : (f + 1 - 1) / 2 = p := by omega
      have e2 : (f : Int) / 2 = (p : Int) := by omega
      have e3 : ((p : Int) == (f : Int) + 1) = false := by
        have : (p : Int) ≠ (f : Int) + 1 := by omega
        simpa using this
      have hpf : p ≤ f := by omega
      have f8 : (f : Int) ≤ 8 := by omega
      have f0 : (0 : Int) ≤ (f : Int) := by omega
      have hS := fun w1 (hb : Below wr.heap.size wr w1) => swap_any w1 base qb A N.length c v l' (hq.below hb) hll' p (f + 1) (by omega) (by omega)
      cases hlt : nlt N (fl l' (f + 1)) (fl l' p) with
      | false =>
        have HC := nlt_less wr base qb A c v l' N hq hn.slv hl' hn.n8 hll' (f + 1) p (by omega) (by omega) false hlt
        rw [e0] at HC
        have HH := Lib.hid (hu.stop (by rw [hpar]; exact hlt))
        have HX := Lib.hid (And.intro hq (And.intro hm' (And.intro hs hgr)))
        clear hq hm' hs hgr hu hlt hpar hS hl' hn hsz hp
        go_wp2_with (go_at_call 54; (with_reducible refine HC.mono ?_); rintro e w1 ⟨rfl, hb⟩)
        go_end0
        obtain ⟨h1, h2, h3, h4⟩ := HX.out
        exact ⟨rfl, ⟨l', h1.below hb, h2.trans HM.out.symm, by rw [HM.out]; exact HH.out, by rw [HM.out]; exact h3⟩, h4.trans (Gr.of_below hb)⟩
      | true =>
        have HC := nlt_less wr base qb A c v l' N hq hn.slv hl' hn.n8 hll' (f + 1) p (by omega) (by omega) true hlt
        rw [e0] at HC hS
        have HU := Lib.hid (hu.step (nlt_ord N) (by omega) hg (by rw [hpar]; exact hlt))
        rw [hpar] at HU
        have HW := Lib.hid (show SameF m (fl l0) (fl (swL l' p (f + 1))) from by
          have h := SameF.sw_ (m := m) (fl l') (i := p) (j := f + 1) (by omega) hg
          rw [← fl_swL_fun (by omega) (by omega)] at h
          exact hs.trans h)
        rw [← fl_swL_fun (by omega) (by omega)] at HU
        have HX := Lib.hid (And.intro (show (swL l' p (f + 1)).length = m by rw [swL_length]; exact hm') hgr)
        clear hq hm' hs hgr hu hlt hpar hl' hn hsz hp hll'
        go_wp2_with (first
          | (go_at_call 57; (with_reducible refine (hS _ hb).mono ?_); rintro e w2 ⟨rfl, hq2, hg2⟩)
          | (go_at_call 54; (with_reducible refine HC.mono ?_); rintro e w1 ⟨rfl, hb⟩))
        go_roundg p
        case measure => omega
        case rel =>
          obtain ⟨h1, h2⟩ := HX.out
          exact ⟨swL l' p (f + 1), rfl, h1, hq2, HU.out, HW.out, by omega, h2.trans ((Gr.of_below hb).trans hg2)⟩
theorem same_lt2 {m n : Nat} {l l' : List Nat} (hl : ∀ x ∈ l, x < n) (h1 : m ≤ l.length) (h2 : l'.length = l.length) (h : SameF m (fl l) (fl l')) (hr : ∀ k, m ≤ k → fl l' k = fl l k) : ∀ x ∈ l', x < n := by
  intro x hx
  obtain ⟨k, hk, e⟩ := mem_fl.1 hx
  by_cases hkm : k < m
  · obtain ⟨j, hj, e2⟩ := (h.mem x).1 ⟨k, hkm, e⟩
    exact hl x (mem_fl.2 ⟨j, by omega, e2⟩)
  · exact hl x (mem_fl.2 ⟨k, by omega, by rw [← hr k (by omega)]; exact e⟩)
set_option maxRecDepth 100000 in
set_option maxHeartbeats 4000000 in
theorem down_any (w : World) (base qb : Nat) (A : Option Addr) (c : Nat) (v : Value) (N : List ByteArray) (l0 : List Nat) (m : Nat) (hq : QR w base qb A N.length c v l0) (hN : QN base A N w) (hl : ∀ x ∈ l0, x < N.length) (hll : l0.length ≤ 8) (hm : m ≤ l0.length) (hbase : base ≤ w.heap.size) (hu : DnI (nlt N) m (fl l0) 0) :
    Calls Try.prog 36 #[qi qb, .int .i64 0, .int .i64 m] w fun e w' => (∃ b : Bool, e = .returned (.bool b)) ∧ (∃ l', QR w' base qb A N.length c v l' ∧ l'.length = l0.length ∧ HeapF (nlt N) m (fl l') ∧ SameF m (fl l0) (fl l') ∧ ∀ k, m ≤ k → fl l' k = fl l0 k) ∧ Gr (QF v) w w' := by
  have HQ := Lib.hid hq
  have HN := Lib.hid hN
  have HL := Lib.hid hl
  have HU := Lib.hid hu
  have HO := Lib.hid (nlt_ord N)
  have mS := meth_swap
  have mL := meth_less
  have hm8 : m ≤ 8 := by omega
  clear hq hN hl hu
  go_enter Try.func36, Try.ntmps36
  go_wp2
  go_loopg [7] 9 (fun gk v7 wr => ∃ i l', i + gk = 9 ∧ v7 = .int .i64 i ∧ l'.length = l0.length ∧ QR wr base qb A N.length c v l' ∧ DnI (nlt N) m (fl l') i ∧ SameF m (fl l0) (fl l') ∧ (∀ k, m ≤ k → fl l' k = fl l0 k) ∧ (0 < i → i < m) ∧ Gr (QF v) w wr)
  case atStart => exact ⟨0, l0, rfl, rfl, rfl, HQ.out, HU.out, SameF.refl _ _, fun _ _ => rfl, fun h => absurd h (by omega), Gr.refl _⟩
  case round =>
    obtain ⟨i, l', hi, rfl, hm', hq, hu, hs, hr, him, hgr⟩ := hrel
    have i8 : i ≤ 8 := by omega
    have i0 : (0 : Int) ≤ (i : Int) := by omega
    have i9 : (i : Int) ≤ 8 := by omega
    have n0 : (0 : Int) ≤ 2 * (i : Int) + 1 := by omega
    have n1 : (0 : Int) ≤ 2 * (i : Int) := by omega
    have n9 : decide (2 * (i : Int) + 1 < 0) = false := by simpa using n0
    by_cases h1 : m ≤ 2 * i + 1
    · have HH := Lib.hid (hu.none_ h1)
      have HX := Lib.hid (And.intro hq (And.intro hm' (And.intro hs (And.intro hr hgr))))
      have b1 : (m : Int) ≤ 2 * (i : Int) + 1 := by omega
      clear hq hm' hs hgr hu him hr hi h1 i8
      go_wp2
      go_ret
      obtain ⟨h1, h2, h3, h4, h5⟩ := HX.out
      exact ⟨⟨_, rfl⟩, ⟨l', h1, h2, HH.out, h3, h4⟩, h5⟩
    · have hll' : l'.length ≤ 8 := by omega
      have hn := HN.out.gr hgr hbase HQ.out.old
      have hl' := same_lt2 HL.out hm hm' hs hr
      have e1 : ((2 * i + 1 : Nat) : Int) = 2 * (i : Int) + 1 := by omega
      have e2 : ((2 * i + 2 : Nat) : Int) = 2 * (i : Int) + 1 + 1 := by omega
      have b1 : 2 * (i : Int) + 1 < (m : Int) := by omega
      have n2 : decide ((m : Int) ≤ 2 * (i : Int) + 1) = false := by simpa using b1
      have hq0 : ∀ {w1 : World}, Below wr.heap.size wr w1 → QR w1 base qb A N.length c v l' := fun hb => hq.below hb
      have hn0 : ∀ {w1 : World}, Below wr.heap.size wr w1 → QN base A N w1 := fun {w1} hb => hn.gr (Gr.of_below (S := QF v) hb) (Nat.le_trans hbase hgr.size) HQ.out.old
      have C1 := fun (a b : Nat) (r : Bool) (ha : a < m) (hb : b < m) (hlt : nlt N (fl l' a) (fl l' b) = r) (w1 : World) (hw : Below wr.heap.size wr w1) => nlt_less w1 base qb A c v l' N (hq0 hw) (hn0 hw).slv hl' hn.n8 hll' a b (by omega) (by omega) r hlt
      have C2 := fun (a : Nat) (ha : a < m) (w1 : World) (hw : Below wr.heap.size wr w1) => swap_any w1 base qb A N.length c v l' (hq0 hw) hll' i a (by omega) (by omega)
      by_cases h2 : 2 * i + 2 < m
      · cases hf : nlt N (fl l' (2 * i + 2)) (fl l' (2 * i + 1)) with
        | false =>
          have hkid : Kid9 (nlt N) m (fl l') i (2 * i + 1) := Kid9.left (nlt_irr N) (by omega) (fun _ => hf)
          cases hlt : nlt N (fl l' (2 * i + 1)) (fl l' i) with
          | false =>
            have t2 : 2 * (i : Int) + 1 + 1 < (m : Int) := by omega
            have D2 := C1 (2 * i + 1) i false hkid.2.1 (by omega) hlt
            rw [e1] at D2
            have D1 := C1 (2 * i + 2) (2 * i + 1) false h2 (by omega) hf wr (Below.refl _ _)
            rw [e1, e2] at D1
            have HH := Lib.hid (hu.stop HO.out hkid hlt)
            have HX := Lib.hid (And.intro hq (And.intro hm' (And.intro hs (And.intro hr hgr))))
            clear C1 C2 hq hm' hs hgr hu him hr hll' hn hl' hq0 hn0 h1 hkid hlt e1 e2 hf 
            clear h2
            go_wp2_with (first | (go_at_call 54; (with_reducible refine (D2 _ hb1).mono ?_); rintro e w2 ⟨rfl, hb2⟩; have hb2 := hb1.trans (hb2.mono hb1.size)) | (go_at_call 54; (with_reducible refine (D1).mono ?_); rintro e w1 ⟨rfl, hb1⟩))
            go_ret
            obtain ⟨h1, h2, h3, h4, h5⟩ := HX.out
            exact ⟨⟨_, rfl⟩, ⟨l', h1.below hb2, h2, HH.out, h3, h4⟩, h5.trans (Gr.of_below hb2)⟩
          | true =>
            have t2 : 2 * (i : Int) + 1 + 1 < (m : Int) := by omega
            have D2 := C1 (2 * i + 1) i true hkid.2.1 (by omega) hlt
            rw [e1] at D2
            have D1 := C1 (2 * i + 2) (2 * i + 1) false h2 (by omega) hf wr (Below.refl _ _)
            rw [e1, e2] at D1
            have D3 := C2 (2 * i + 1) hkid.2.1
            rw [e1] at D3
            have HU := Lib.hid (hu.step HO.out hkid hlt)
            rw [← fl_swL_fun (by omega) (by have := hkid.2.1; omega)] at HU
            have HW := Lib.hid (show SameF m (fl l0) (fl (swL l' i (2 * i + 1))) from by
              have h := SameF.sw_ (m := m) (fl l') (i := i) (j := 2 * i + 1) (by omega) hkid.2.1
              rw [← fl_swL_fun (by omega) (by have := hkid.2.1; omega)] at h
              exact hs.trans h)
            have HR := Lib.hid (show ∀ k, m ≤ k → fl (swL l' i (2 * i + 1)) k = fl l0 k from fun k hk => by
              rw [fl_swL (by omega) (by have := hkid.2.1; omega)]
              unfold sw
              rw [if_neg (by omega), if_neg (by have := hkid.2.1; omega)]
              exact hr k hk)
            have HX := Lib.hid (And.intro (show (swL l' i (2 * i + 1)).length = l0.length by rw [swL_length]; exact hm') hgr)
            have HJ := Lib.hid hkid.2.1
            clear C1 C2 hq hm' hs hgr hu him hr hll' hn hl' hq0 hn0 h1 hkid hlt e1 e2 hf 
            clear h2
            go_wp2_with (first | (go_at_call 57; (with_reducible refine (D3 _ hb2).mono ?_); rintro e w3 ⟨rfl, hq2, hg2⟩) | (go_at_call 54; (with_reducible refine (D2 _ hb1).mono ?_); rintro e w2 ⟨rfl, hb2⟩; have hb2 := hb1.trans (hb2.mono hb1.size)) | (go_at_call 54; (with_reducible refine (D1).mono ?_); rintro e w1 ⟨rfl, hb1⟩))
            have HJ2 := HJ.out
            go_roundg (9 - (2 * i + 1))
            case measure => omega
            case rel =>
              obtain ⟨h1, h2⟩ := HX.out
              exact ⟨2 * i + 1, swL l' i (2 * i + 1), by omega, by go_num, h1, hq2, HU.out, HW.out, HR.out, fun _ => HJ.out, h2.trans ((Gr.of_below hb2).trans hg2)⟩
        | true =>
          have hkid : Kid9 (nlt N) m (fl l') i (2 * i + 2) := Kid9.right HO.out (nlt_irr N) h2 hf
          cases hlt : nlt N (fl l' (2 * i + 2)) (fl l' i) with
          | false =>
            have t2 : 2 * (i : Int) + 1 + 1 < (m : Int) := by omega
            have D2 := C1 (2 * i + 2) i false hkid.2.1 (by omega) hlt
            rw [e2] at D2
            have D1 := C1 (2 * i + 2) (2 * i + 1) true h2 (by omega) hf wr (Below.refl _ _)
            rw [e1, e2] at D1
            have HH := Lib.hid (hu.stop HO.out hkid hlt)
            have HX := Lib.hid (And.intro hq (And.intro hm' (And.intro hs (And.intro hr hgr))))
            clear C1 C2 hq hm' hs hgr hu him hr hll' hn hl' hq0 hn0 h1 hkid hlt e1 e2 hf 
            clear h2
            go_wp2_with (first | (go_at_call 54; (with_reducible refine (D2 _ hb1).mono ?_); rintro e w2 ⟨rfl, hb2⟩; have hb2 := hb1.trans (hb2.mono hb1.size)) | (go_at_call 54; (with_reducible refine (D1).mono ?_); rintro e w1 ⟨rfl, hb1⟩))
            go_ret
            obtain ⟨h1, h2, h3, h4, h5⟩ := HX.out
            exact ⟨⟨_, rfl⟩, ⟨l', h1.below hb2, h2, HH.out, h3, h4⟩, h5.trans (Gr.of_below hb2)⟩
          | true =>
            have t2 : 2 * (i : Int) + 1 + 1 < (m : Int) := by omega
            have D2 := C1 (2 * i + 2) i true hkid.2.1 (by omega) hlt
            rw [e2] at D2
            have D1 := C1 (2 * i + 2) (2 * i + 1) true h2 (by omega) hf wr (Below.refl _ _)
            rw [e1, e2] at D1
            have D3 := C2 (2 * i + 2) hkid.2.1
            rw [e2] at D3
            have HU := Lib.hid (hu.step HO.out hkid hlt)
            rw [← fl_swL_fun (by omega) (by have := hkid.2.1; omega)] at HU
            have HW := Lib.hid (show SameF m (fl l0) (fl (swL l' i (2 * i + 2))) from by
              have h := SameF.sw_ (m := m) (fl l') (i := i) (j := 2 * i + 2) (by omega) hkid.2.1
              rw [← fl_swL_fun (by omega) (by have := hkid.2.1; omega)] at h
              exact hs.trans h)
            have HR := Lib.hid (show ∀ k, m ≤ k → fl (swL l' i (2 * i + 2)) k = fl l0 k from fun k hk => by
              rw [fl_swL (by omega) (by have := hkid.2.1; omega)]
              unfold sw
              rw [if_neg (by omega), if_neg (by have := hkid.2.1; omega)]
              exact hr k hk)
            have HX := Lib.hid (And.intro (show (swL l' i (2 * i + 2)).length = l0.length by rw [swL_length]; exact hm') hgr)
            have HJ := Lib.hid hkid.2.1
            clear C1 C2 hq hm' hs hgr hu him hr hll' hn hl' hq0 hn0 h1 hkid hlt e1 e2 hf 
            clear h2
            go_wp2_with (first | (go_at_call 57; (with_reducible refine (D3 _ hb2).mono ?_); rintro e w3 ⟨rfl, hq2, hg2⟩) | (go_at_call 54; (with_reducible refine (D2 _ hb1).mono ?_); rintro e w2 ⟨rfl, hb2⟩; have hb2 := hb1.trans (hb2.mono hb1.size)) | (go_at_call 54; (with_reducible refine (D1).mono ?_); rintro e w1 ⟨rfl, hb1⟩))
            have HJ2 := HJ.out
            go_roundg (9 - (2 * i + 2))
            case measure => omega
            case rel =>
              obtain ⟨h1, h2⟩ := HX.out
              exact ⟨2 * i + 2, swL l' i (2 * i + 2), by omega, by go_num, h1, hq2, HU.out, HW.out, HR.out, fun _ => HJ.out, h2.trans ((Gr.of_below hb2).trans hg2)⟩
      · have n3 : decide (2 * (i : Int) + 1 + 1 < (m : Int)) = false := by
          have : ¬ 2 * (i : Int) + 1 + 1 < (m : Int) := by omega
          simpa using this
        have hkid : Kid9 (nlt N) m (fl l') i (2 * i + 1) := Kid9.left (nlt_irr N) (by omega) (fun h => absurd h h2)
        cases hlt : nlt N (fl l' (2 * i + 1)) (fl l' i) with
        | false =>
          have t2 : (m : Int) ≤ 2 * (i : Int) + 1 + 1 := by omega
          have D2 := C1 (2 * i + 1) i false hkid.2.1 (by omega) hlt
          rw [e1] at D2
          have HH := Lib.hid (hu.stop HO.out hkid hlt)
          have HX := Lib.hid (And.intro hq (And.intro hm' (And.intro hs (And.intro hr hgr))))
          clear C1 C2 hq hm' hs hgr hu him hr hll' hn hl' hq0 hn0 h1 hkid hlt e1 e2 
          clear h2
          go_wp2_with (first | (go_at_call 54; (with_reducible refine (D2 wr (Below.refl _ _)).mono ?_); rintro e w2 ⟨rfl, hb2⟩))
          go_ret
          obtain ⟨h1, h2, h3, h4, h5⟩ := HX.out
          exact ⟨⟨_, rfl⟩, ⟨l', h1.below hb2, h2, HH.out, h3, h4⟩, h5.trans (Gr.of_below hb2)⟩
        | true =>
          have t2 : (m : Int) ≤ 2 * (i : Int) + 1 + 1 := by omega
          have D2 := C1 (2 * i + 1) i true hkid.2.1 (by omega) hlt
          rw [e1] at D2
          have D3 := C2 (2 * i + 1) hkid.2.1
          rw [e1] at D3
          have HU := Lib.hid (hu.step HO.out hkid hlt)
          rw [← fl_swL_fun (by omega) (by have := hkid.2.1; omega)] at HU
          have HW := Lib.hid (show SameF m (fl l0) (fl (swL l' i (2 * i + 1))) from by
            have h := SameF.sw_ (m := m) (fl l') (i := i) (j := 2 * i + 1) (by omega) hkid.2.1
            rw [← fl_swL_fun (by omega) (by have := hkid.2.1; omega)] at h
            exact hs.trans h)
          have HR := Lib.hid (show ∀ k, m ≤ k → fl (swL l' i (2 * i + 1)) k = fl l0 k from fun k hk => by
            rw [fl_swL (by omega) (by have := hkid.2.1; omega)]
            unfold sw
            rw [if_neg (by omega), if_neg (by have := hkid.2.1; omega)]
            exact hr k hk)
          have HX := Lib.hid (And.intro (show (swL l' i (2 * i + 1)).length = l0.length by rw [swL_length]; exact hm') hgr)
          have HJ := Lib.hid hkid.2.1
          clear C1 C2 hq hm' hs hgr hu him hr hll' hn hl' hq0 hn0 h1 hkid hlt e1 e2 
          clear h2
          go_wp2_with (first | (go_at_call 57; (with_reducible refine (D3 _ hb2).mono ?_); rintro e w3 ⟨rfl, hq2, hg2⟩) | (go_at_call 54; (with_reducible refine (D2 wr (Below.refl _ _)).mono ?_); rintro e w2 ⟨rfl, hb2⟩))
          have HJ2 := HJ.out
          go_roundg (9 - (2 * i + 1))
          case measure => omega
          case rel =>
            obtain ⟨h1, h2⟩ := HX.out
            exact ⟨2 * i + 1, swL l' i (2 * i + 1), by omega, by go_num, h1, hq2, HU.out, HW.out, HR.out, fun _ => HJ.out, h2.trans ((Gr.of_below hb2).trans hg2)⟩
end Go.Proofs.Ytibfikadamfpdaa
