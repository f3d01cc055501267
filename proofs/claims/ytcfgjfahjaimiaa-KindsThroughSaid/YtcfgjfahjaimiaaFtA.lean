/-
  The first of the sorted methods that is not less than a name: BinarySearchFunc.
-/
import Derived.Test.YtcfgjfahjaimiaaSrQ
namespace Go.Proofs.Ytcfgjfahjaimiaa
open Go.RowKit
set_option linter.unusedVariables false
set_option linter.unusedSimpArgs false

def ltN (z : Fi) (s : ByteArray) : Bool := ltB z.name.data.toList s.data.toList
set_option maxRecDepth 100000 in
set_option maxHeartbeats 2000000 in
theorem cmp2_any (a : Fi) (s : ByteArray) (w : World) (F : Nat → Prop) (us : List Value) (ha : RFi w F a us) :
    Calls Try.prog 75 #[.agg us.toArray, .string s] w fun e w' => (∃ n : Int, e = .returned (.int .i64 n) ∧ decide (n < 0) = ltN a s) ∧ Below w.heap.size w w' := by
  obtain ⟨tv, rfl, hrt⟩ := ha
  obtain ⟨k, p, n, A, m, c, B, m', d, rfl⟩ := hrt.shape
  simp only [tyC]
  clear hrt
  go_enter Try.func75, Try.ntmps75
  go_wp2_with (go_at_call 51; refine (Try.strings_Compare _ _ _).mono ?_; rintro e w' ⟨rfl, rfl⟩)
  go_ret
  exact ⟨⟨_, rfl, rfl⟩, (Below.refl _ w).alloc (Nat.le_refl _) _⟩
def BsP (l : List Fi) (s : ByteArray) (w : World) (e : Ending) (w' : World) : Prop := (∃ (i : Nat) (b : Bool), e = .returned (.tuple #[.int .i64 i, .bool b]) ∧ i ≤ l.length ∧ (∀ z, 0 < i → l[i - 1]? = some z → ltN z s = true) ∧ (∀ z, l[i]? = some z → ltN z s = false)) ∧ Below w.heap.size w w'
set_option maxRecDepth 100000 in
set_option maxHeartbeats 4000000 in
theorem bs_any (l : List Fi) (s : ByteArray) (hl : l.length ≤ 100000) (w : World) (F : Nat → Prop) (A : Option Addr) (c : Nat) (h : SlG 6 RFi w F A l) :
    Calls Try.prog 74 #[.slice A l.length c, .string s, .func (Fn.func 75) #[] #[]] w (BsP l s w) := by
  have HA := Lib.hid h
  have HL := Lib.hid hl
  have n1 : (l.length : Int) ≤ 100000 := by omega
  have n0 : (0 : Int) ≤ (l.length : Int) := by omega
  clear h hl
  go_enter Try.func74, Try.ntmps74
  go_wp2
  go_loopg [9, 10, 11] l.length (fun gk v9 v10 v11 wr => ∃ i j : Nat, gk = j - i ∧ v9 = .int .i64 i ∧ v10 = .int .i64 j ∧ i ≤ j ∧ j ≤ l.length ∧ (∀ z, 0 < i → l[i - 1]? = some z → ltN z s = true) ∧ (∀ z, l[j]? = some z → ltN z s = false) ∧ Below w.heap.size w wr)
  case atStart => exact ⟨0, l.length, rfl, rfl, rfl, Nat.zero_le _, Nat.le_refl _, fun z hz => absurd hz (by omega), fun z hz => by have := (List.getElem?_eq_some_iff.1 hz).1; omega, Below.refl _ w⟩
  case round =>
    obtain ⟨i, j, rfl, rfl, rfl, hij, hjb, hl, hr, hbl⟩ := hrel
    have HBL := Lib.hid hbl
    have hlen := HL.out
    rcases Nat.lt_or_ge i j with hlt | hge
    · obtain ⟨q, h, es, ws, us, eh, wh, hih, hhj, -, -⟩ := mid_ex i j hlt (by omega)
      have f1 : (i : Int) < (j : Int) := by omega
      have f2 : decide (i < j) = true := decide_eq_true hlt
      have f3 : (0 : Int) ≤ (q : Int) := by omega
      have h0 : (0 : Int) ≤ (h : Int) := by omega
      have h1 : (h : Int) < (l.length : Int) := by omega
      obtain ⟨z, hz⟩ : ∃ z, l[h]? = some z := ⟨_, List.getElem?_eq_getElem (by omega)⟩
      obtain ⟨g, o, vs, rfl, hFq, hgl, hrep, hat⟩ := (HA.out.bel RFi_keeps hbl).at_ RFi_sized hz
      have HC := Lib.hid (fun w' (hb' : Below wr.heap.size wr w') => cmp2_any z s w' F vs (RFi_keeps _ _ _ _ _ _ (fun k _ hl => hb'.block k hl) hb'.size (fun _ _ h => h) hrep))
      obtain ⟨tv, rfl, hrt⟩ := hrep
      obtain ⟨k1, p1, n1', A1, m1, c1, B1, l1, d1, rfl⟩ := hrt.shape
      obtain ⟨nm, hnm⟩ : ∃ nm, z.name = nm := ⟨_, rfl⟩
      simp only [tyC, hnm] at HC hat
      have q0 := hat 0 _ rfl
      have q1 := hat 1 _ rfl
      have q2 := hat 2 _ rfl
      have q3 := hat 3 _ rfl
      have q4 := hat 4 _ rfl
      have q5 := hat 5 _ rfl
      rw [Nat.add_zero] at q0
      obtain ⟨h', hh'⟩ : ∃ k, h + 1 = k := ⟨_, rfl⟩
      have e2 : (h : Int) + 1 = (h' : Int) := by omega
      have w2' : IntKind.i64.wrap (h' : Int) = (h' : Int) := wrap_nat (by omega)
      cases hq : ltN z s with
      | true =>
        have HR := Lib.hid (show h' ≤ j ∧ j ≤ l.length ∧ i < h' ∧ (∀ z, 0 < h' → l[h' - 1]? = some z → ltN z s = true) ∧ (∀ z, l[j]? = some z → ltN z s = false) from ⟨by omega, hjb, by omega, fun z' _ hz' => by rw [show h' - 1 = h by omega, hz] at hz'; cases hz'; exact hq, hr⟩)
        rw [hq] at HC
        clear hij hjb hl hr hbl hlt hih hhj hz hat hrt hnm hh' hq hlen
        go_wp2_with (go_at_call 75; refine (HC.out _ (Below.refl _ _)).mono ?_; rintro e w5 ⟨⟨nn, rfl, hlt⟩, hb5⟩; have hn0 : nn < 0 := of_decide_eq_true hlt; have HB5 := Lib.hid hb5; clear hb5)
        go_roundg (j - h')
        case measure => have := HR.out; omega
        case rel => exact ⟨h', j, rfl, rfl, rfl, HR.out.1, HR.out.2.1, HR.out.2.2.2.1, HR.out.2.2.2.2, HBL.out.trans (HB5.out.mono HBL.out.size)⟩
      | false =>
        have HR := Lib.hid (show i ≤ h ∧ h ≤ l.length ∧ h < j ∧ (∀ z, 0 < i → l[i - 1]? = some z → ltN z s = true) ∧ (∀ z, l[h]? = some z → ltN z s = false) from ⟨by omega, by omega, by omega, hl, fun z' hz' => by rw [hz] at hz'; cases hz'; exact hq⟩)
        rw [hq] at HC
        clear hij hjb hl hr hbl hlt hih hhj hz hat hrt hnm hh' hq hlen
        go_wp2_with (go_at_call 75; refine (HC.out _ (Below.refl _ _)).mono ?_; rintro e w5 ⟨⟨nn, rfl, hlt⟩, hb5⟩; have hn0 : ¬ nn < 0 := of_decide_eq_false hlt; have HB5 := Lib.hid hb5; clear hb5)
        go_roundg (h - i)
        case measure => have := HR.out; omega
        case rel => exact ⟨i, h, rfl, rfl, rfl, HR.out.1, HR.out.2.1, HR.out.2.2.2.1, HR.out.2.2.2.2, HBL.out.trans (HB5.out.mono HBL.out.size)⟩
    · obtain rfl : i = j := by omega
      have f1 : ¬ (i : Int) < (i : Int) := by omega
      have f2 : decide (i < i) = false := decide_eq_false (by omega)
      have HE := Lib.hid (show i ≤ l.length ∧ (∀ z, 0 < i → l[i - 1]? = some z → ltN z s = true) ∧ (∀ z, l[i]? = some z → ltN z s = false) from ⟨hjb, hl, hr⟩)
      rcases Nat.lt_or_ge i l.length with hin | hin
      · have g1 : (i : Int) < (l.length : Int) := by omega
        have g2 : decide (i < l.length) = true := decide_eq_true hin
        have g0 : (0 : Int) ≤ (i : Int) := by omega
        obtain ⟨z, hz⟩ : ∃ z, l[i]? = some z := ⟨_, List.getElem?_eq_getElem hin⟩
        obtain ⟨g, o, vs, rfl, hFq, hgl, hrep, hat⟩ := (HA.out.bel RFi_keeps hbl).at_ RFi_sized hz
        have HC := Lib.hid (fun w' (hb' : Below wr.heap.size wr w') => cmp2_any z s w' F vs (RFi_keeps _ _ _ _ _ _ (fun k _ hl => hb'.block k hl) hb'.size (fun _ _ h => h) hrep))
        obtain ⟨tv, rfl, hrt⟩ := hrep
        obtain ⟨k1, p1, n1', A1, m1, c1, B1, l1, d1, rfl⟩ := hrt.shape
        obtain ⟨nm, hnm⟩ : ∃ nm, z.name = nm := ⟨_, rfl⟩
        simp only [tyC, hnm] at HC hat
        have q0 := hat 0 _ rfl
        have q1 := hat 1 _ rfl
        have q2 := hat 2 _ rfl
        have q3 := hat 3 _ rfl
        have q4 := hat 4 _ rfl
        have q5 := hat 5 _ rfl
        rw [Nat.add_zero] at q0
        clear hij hjb hl hr hbl hge hz hat hrt hnm hlen hin
        go_wp2_with (go_at_call 75; refine (HC.out _ (Below.refl _ _)).mono ?_; rintro e w5 ⟨⟨nn, rfl, hlt⟩, hb5⟩; have HB5 := Lib.hid hb5; clear hb5)
        first
          | exact bodyPost_ret (v := .tuple #[.int .i64 i, .bool (nn == 0)]) (by simp [results, Try.results74, go_sem]) rfl ⟨⟨i, _, rfl, HE.out⟩, HBL.out.trans (HB5.out.mono HBL.out.size)⟩
          | exact bodyPost_ret (v := .tuple #[.int .i64 i, .bool (decide (nn = 0))]) (by simp [results, Try.results74, go_sem]) rfl ⟨⟨i, _, rfl, HE.out⟩, HBL.out.trans (HB5.out.mono HBL.out.size)⟩
      · have g1 : ¬ (i : Int) < (l.length : Int) := by omega
        have g2 : decide (i < l.length) = false := decide_eq_false (by omega)
        clear hij hjb hl hr hbl hge hlen hin
        go_wp2
        exact bodyPost_ret (v := .tuple #[.int .i64 i, .bool false]) (by simp [results, Try.results74, go_sem]) rfl ⟨⟨i, _, rfl, HE.out⟩, HBL.out⟩
end Go.Proofs.Ytcfgjfahjaimiaa

namespace Go.Proofs.Ytcfgjfahjaimiaa
open Go.RowKit
set_option linter.unusedVariables false
set_option linter.unusedSimpArgs false

theorem run_from (A : Option Addr) (n c i : Nat) (hi : i ≤ n) (W : World) : (Instr.slice 23 (.slice A n c) (some (.int .i64 i)) none none).run Try.prog W = .ok (.slice (if c = i then A else A.map (·.add (i * 6))) (n - i) (c - i)) W := by
  obtain ⟨t, ht, hzz⟩ := Option.map_eq_some_iff.1 info_field
  simp only [Prod.mk.injEq] at hzz
  have h1 : (0 : Int) ≤ (i : Int) ∧ (i : Int) ≤ (n : Int) := by omega
  simp [Instr.slice, run_underlying Try.underlying23, Instr.sliceBounds, Instr.sliceBound, asIntOf, sizeOf, typeInfo, ht, hzz.2.1, h1, hi]
/-- Is there one of that name and type? -/
def hasP (l : List Fi) (f : Fi) : Bool := l.any (fun m => decide (m.name = f.name) && same m.ty f.ty)
theorem hasP_true {l : List Fi} {f m : Fi} {k : Nat} (h : l[k]? = some m) (hn : m.name = f.name) (hs : same m.ty f.ty = true) : hasP l f = true := by
  unfold hasP
  rw [List.any_eq_true]
  exact ⟨m, List.mem_of_getElem? h, by simp [hn, hs]⟩
theorem hasP_false {l : List Fi} {f : Fi} (h : ∀ (k : Nat) (m : Fi), l[k]? = some m → m.name = f.name → same m.ty f.ty = false) : hasP l f = false := by
  unfold hasP
  rw [List.any_eq_false]
  intro m hm
  obtain ⟨k, hk⟩ := List.mem_iff_getElem?.1 hm
  simp only [Bool.and_eq_true, decide_eq_true_eq, not_and]
  intro hn
  rw [h k m hk hn]
  decide
theorem ltB_tri : ∀ {a b : List UInt8}, ltB a b = false → ltB b a = false → b = a
  | [], [], _, _ => rfl
  | [], y :: b, h, _ => by rw [ltB_nil_cons] at h; cases h
  | x :: a, [], _, h => by rw [ltB_nil_cons] at h; cases h
  | x :: a, y :: b, h1, h2 => by
    rw [ltB_cons] at h1 h2
    simp only [Bool.or_eq_false_iff, Bool.and_eq_false_imp, decide_eq_false_iff_not, decide_eq_true_eq] at h1 h2
    have a1 := (not_congr UInt8.lt_iff_toNat_lt).1 h1.1
    have a2 := (not_congr UInt8.lt_iff_toNat_lt).1 h2.1
    have e : x = y := UInt8.toNat_inj.1 (by omega)
    subst e
    rw [ltB_tri (h1.2 rfl) (h2.2 rfl)]
theorem bytes_tri {a b : ByteArray} (h1 : ltB b.data.toList a.data.toList = false) (h2 : ltB a.data.toList b.data.toList = false) : a = b := by
  have h := ltB_tri h1 h2
  exact ByteArray.ext (Array.toList_inj.1 h)
theorem ltN_ne {z f : Fi} (h : ltN z f.name = true) : z.name ≠ f.name := by
  intro e
  unfold ltN at h
  rw [e, ltB_irr] at h
  cases h
/-- Behind the search: those ahead have other names; from a greater name on all are greater. -/
theorem rise_ahead {l : List Fi} (hr : l.Pairwise (fun x y => ltF y x = false)) {f : Fi} {i k : Nat} {m z : Fi} (h : ltN z f.name = true) (hz : l[i]? = some z) (hk : k ≤ i) (hm : l[k]? = some m) : ltN m f.name = true := by
  rcases Nat.lt_or_eq_of_le hk with hlt | rfl
  · obtain ⟨hi1, hi2⟩ := List.getElem?_eq_some_iff.1 hz
    obtain ⟨hk1, hk2⟩ := List.getElem?_eq_some_iff.1 hm
    have h1 : ltF z m = false := by
      have := List.pairwise_iff_getElem.1 hr k i hk1 hi1 hlt
      rwa [hi2, hk2] at this
    unfold ltN at h ⊢
    cases hq : ltB m.name.data.toList f.name.data.toList with
    | true => rfl
    | false =>
      have := ltB_neg _ _ _ h1 hq
      rw [h] at this; cases this
  · rw [hm] at hz; cases hz; exact h
theorem rise_behind {l : List Fi} (hr : l.Pairwise (fun x y => ltF y x = false)) {f : Fi} {j k : Nat} {m z : Fi} (h : ltN z f.name = false) (hne : z.name ≠ f.name) (hz : l[j]? = some z) (hk : j ≤ k) (hm : l[k]? = some m) : m.name ≠ f.name := by
  intro e
  rcases Nat.lt_or_eq_of_le hk with hlt | rfl
  · obtain ⟨hi1, hi2⟩ := List.getElem?_eq_some_iff.1 hz
    obtain ⟨hk1, hk2⟩ := List.getElem?_eq_some_iff.1 hm
    have h1 : ltF m z = false := by
      have := List.pairwise_iff_getElem.1 hr j k hi1 hk1 hlt
      rwa [hi2, hk2] at this
    unfold ltF at h1
    unfold ltN at h
    rw [e] at h1
    exact hne (bytes_tri h1 h)
  · rw [hm] at hz; cases hz; exact hne e
set_option maxRecDepth 100000 in
set_option maxHeartbeats 8000000 in
theorem has_any (l : List Fi) (f : Fi) (hr : l.Pairwise (fun x y => ltF y x = false)) (hl : l.length ≤ 2000) (hct : ∀ m ∈ l, m.ty.count ≤ 2000000) (w : World) (F F' : Nat → Prop) (A : Option Addr) (c : Nat) (hc : l.length ≤ c) (h : SlG 6 RFi w F A l) (vs : List Value) (hf : RFi w F' f vs) :
    Calls Try.prog 58 #[.slice A l.length c, .agg vs.toArray] w (TruthP w (hasP l f)) := by
  have hf2 := hf
  obtain ⟨tv, rfl, hrt⟩ := hf
  obtain ⟨f1, f2, f3, f4, f5, f6, f7, f8, f9, rfl⟩ := hrt.shape
  simp only [tyC] at hf2 hrt ⊢
  obtain ⟨f0, hf0⟩ : ∃ z, f.name = z := ⟨_, rfl⟩
  rw [hf0] at hf2 ⊢
  have hb1 := ((Below.refl _ w).alloc (Nat.le_refl _) (.cells #[.string f0, .int .i64 f1, .string f2, .string f3, .slice f4 f5 f6, .slice f7 f8 f9] 40))
  have HB1 := Lib.hid hb1
  have HK1 := Lib.hid (Blk.new w 40 #[.string f0, .int .i64 f1, .string f2, .string f3, .slice f4 f5 f6, .slice f7 f8 f9])
  have HC := Lib.hid (bs_any l f0 (by omega) (w.alloc (.cells #[.string f0, .int .i64 f1, .string f2, .string f3, .slice f4 f5 f6, .slice f7 f8 f9] 40)) F A c (h.bel RFi_keeps hb1))
  have HS := Lib.hid (fun w' (hb : Below w.heap.size w w') => h.bel RFi_keeps hb)
  have HT := Lib.hid (fun w' (hb : Below w.heap.size w w') => RT.bel hrt hb)
  have HRF := Lib.hid (fun (i : Nat) (hi : i ≤ l.length) => run_from A l.length c i hi)
  have HRI := Lib.hid hr
  have HLL := Lib.hid hl
  have HCT := Lib.hid hct
  have HNM := Lib.hid hf0
  have HCC := Lib.hid hc
  obtain ⟨B, hB⟩ : ∃ B, hasP l f = B := ⟨_, rfl⟩
  have HBB := Lib.hid hB
  rw [hB]
  clear hf2 hrt hf0 hb1 h hr hl hct hc hB
  go_enter Try.func58, Try.ntmps58
  go_wp2_with (go_at_call 74; refine HC.out.mono ?_; rintro e w5 ⟨⟨i, fd, rfl, hi, hl1, hl2⟩, hb5⟩; have HI := Lib.hid (show i ≤ l.length ∧ (∀ z, 0 < i → l[i - 1]? = some z → ltN z f0 = true) ∧ (∀ z, l[i]? = some z → ltN z f0 = false) from ⟨hi, hl1, hl2⟩); have hsl := HRF.out i hi; obtain ⟨A', hA'⟩ : ∃ z, (if c = i then A else A.map (·.add (i * 6))) = z := ⟨_, rfl⟩; rw [hA'] at hsl; have HAA := Lib.hid hA'; obtain ⟨n', hn'⟩ : ∃ z, l.length - i = z := ⟨_, rfl⟩; rw [hn'] at hsl; have HN' := Lib.hid hn'; clear hA' hn'; have HB5 := Lib.hid (HB1.out.trans (hb5.mono HB1.out.size)); have HK5 := Lib.hid (HK1.out.bel2 hb5); clear hb5 hl1 hl2)
  have n0 : (0 : Int) ≤ (n' : Int) := by omega
  have n1 : (n' : Int) ≤ 2000 := by have := HLL.out; have := HN'.out; omega
  go_loopg [20] n' (fun gk v20 wr => ∃ j : Nat, j + gk = n' ∧ v20 = .int .i64 j ∧ (∀ k m, k < j → l[i + k]? = some m → m.name = f0 ∧ same m.ty f.ty = false) ∧ Below w5.heap.size w5 wr)
  case atStart => exact ⟨0, by omega, rfl, fun k m hk => absurd hk (by omega), Below.refl _ _⟩
  case round =>
    obtain ⟨j, hj, rfl, hall, hb⟩ := hrel
    have HB := Lib.hid hb
    have hk := HK5.out.bel2 hb
    have t0 := hk.cell 0
    have t1 := hk.cell 1
    have t2 := hk.cell 2
    have t3 := hk.cell 3
    have t4 := hk.cell 4
    have t5 := hk.cell 5
    have tl := hk.lt
    have hw := HB5.out.trans (hb.mono HB5.out.size)
    have HW := Lib.hid hw
    have hlen := HN'.out
    obtain ⟨i1, i2, i3⟩ := HI.out
    have hlo : ∀ (k : Nat) (m : Fi), k < i → l[k]? = some m → m.name ≠ f.name := fun k m hk hm => by
      have hin : i - 1 < l.length := by omega
      obtain ⟨z, hz⟩ : ∃ z, l[i - 1]? = some z := ⟨_, List.getElem?_eq_getElem hin⟩
      have h1 := i2 z (by omega) hz
      rw [← HNM.out] at h1
      exact ltN_ne (rise_ahead HRI.out h1 hz (by omega) hm)
    have j0 : (0 : Int) ≤ (j : Int) := by omega
    cases gk with
    | zero =>
      have g1 : ¬ (j : Int) < (n' : Int) := by omega
      have g2 : decide (j < n') = false := decide_eq_false (by omega)
      have hBf : B = false := by
        rw [← HBB.out]
        refine hasP_false fun k m hm he => ?_
        have hkl := (List.getElem?_eq_some_iff.1 hm).1
        rcases Nat.lt_or_ge k i with hki | hki
        · exact absurd he (hlo k m hki hm)
        · exact (hall (k - i) m (by omega) (by rw [show i + (k - i) = k by omega]; exact hm)).2
      have HBF := Lib.hid hBf
      clear hj hall hb hk hw hlen i1 i2 i3 hlo hBf
      go_wp2
      go_ret
      exact ⟨by rw [HBF.out]; rfl, HW.out⟩
    | succ q =>
      have hjl : i + j < l.length := by omega
      obtain ⟨m, hm⟩ : ∃ m, l[i + j]? = some m := ⟨_, List.getElem?_eq_getElem hjl⟩
      have g1 : (j : Int) < (n' : Int) := by omega
      have g2 : decide (j < n') = true := decide_eq_true (by omega)
      obtain ⟨g, o, us, hAe, hFq, hgl, hrep, hat⟩ := (HS.out wr hw).at_ RFi_sized hm
      have hAA := HAA.out
      rw [if_neg (by have := HCC.out; omega), hAe, Option.map_some, addo] at hAA
      obtain ⟨tv, rfl, hrt⟩ := hrep
      obtain ⟨k1, p1, nt, A1, m1, c1, B1, l1, d1, rfl⟩ := hrt.shape
      obtain ⟨nm, hnm⟩ : ∃ z, m.name = z := ⟨_, rfl⟩
      simp only [tyC, hnm] at hat hrt
      have e : o + (i + j) * 6 = o + i * 6 + j * 6 := by omega
      rw [e] at hat
      have q0 := hat 0 _ rfl
      have q1 := hat 1 _ rfl
      have q2 := hat 2 _ rfl
      have q3 := hat 3 _ rfl
      have q4 := hat 4 _ rfl
      have q5 := hat 5 _ rfl
      rw [Nat.add_zero] at q0
      have HM := Lib.hid hm
      have HNM2 := Lib.hid hnm
      have HALL := Lib.hid hall
      have HLO := Lib.hid hlo
      have HJ := Lib.hid hj
      have hbx := (Below.refl _ wr).alloc (Nat.le_refl _) (.cells #[.string nm, .int .i64 k1, .string p1, .string nt, .slice A1 m1 c1, .slice B1 l1 d1] 40)
      have HBX := Lib.hid hbx
      have HSM := Lib.hid (same_all 2000000 (Nat.le_refl _) m.ty f.ty (HCT.out m (List.mem_of_getElem? hm)) (wr.alloc (.cells #[.string nm, .int .i64 k1, .string p1, .string nt, .slice A1 m1 c1, .slice B1 l1 d1] 40)) F F' [.int .i64 k1, .string p1, .string nt, .slice A1 m1 c1, .slice B1 l1 d1] _ (RT.bel hrt hbx) (HT.out _ (hw.trans (hbx.mono hw.size))))
      clear hj hall hb hk hw hlen i1 i2 i3 hlo hm hat hrt hnm hbx e hFq hjl hAe
      subst hAA
      by_cases hne : nm = f0
      · subst hne
        have e1 : (nm.toList != nm.toList) = false := by simp
        cases hs : same m.ty f.ty with
        | true =>
          rw [hs] at HSM
          have hBt : B = true := by rw [← HBB.out]; exact hasP_true HM.out (by rw [HNM2.out, HNM.out]) hs
          have HBT := Lib.hid hBt
          clear hs hBt
          go_wp2_with (go_at_call 19; refine HSM.out.mono ?_; rintro e w7 ⟨rfl, hb7⟩; have HB7 := Lib.hid hb7; clear hb7)
          go_ret
          exact ⟨by rw [HBT.out]; rfl, HW.out.trans ((HBX.out.trans (HB7.out.mono HBX.out.size)).mono HW.out.size)⟩
        | false =>
          rw [hs] at HSM
          have HNX := Lib.hid (show ∀ k m', k < j + 1 → l[i + k]? = some m' → m'.name = nm ∧ same m'.ty f.ty = false from fun k m' hk hm' => by
            rcases Nat.lt_or_ge k j with h1 | h1
            · exact HALL.out k m' h1 hm'
            · obtain rfl : k = j := by omega
              rw [HM.out] at hm'
              cases hm'
              exact ⟨HNM2.out, hs⟩)
          obtain ⟨j', hj'⟩ : ∃ z, j + 1 = z := ⟨_, rfl⟩
          have ej : (j : Int) + 1 = (j' : Int) := by omega
          have wj : IntKind.i64.wrap (j' : Int) = (j' : Int) := wrap_nat (by omega)
          have HJ2 := Lib.hid (show j' + q = n' by have := HJ.out; omega)
          rw [hj'] at HNX
          clear hs hj'
          go_wp2_with (go_at_call 19; refine HSM.out.mono ?_; rintro e w7 ⟨rfl, hb7⟩; have HB7 := Lib.hid hb7; clear hb7)
          go_roundg q
          case measure => omega
          case rel => exact ⟨j', HJ2.out, rfl, HNX.out, HB.out.trans ((HBX.out.trans (HB7.out.mono HBX.out.size)).mono HB.out.size)⟩
      · have e0 : (nm.toList == f0.toList) = false := by simpa [toList_inj] using hne
        have e1 : (nm.toList != f0.toList) = true := by simp [bne, e0]
        have e2 : ¬ nm.toList = f0.toList := by simpa [toList_inj] using hne
        have hBf : B = false := by
          rw [← HBB.out]
          refine hasP_false fun k m' hm' he => ?_
          rcases Nat.lt_or_ge k i with hki | hki
          · exact absurd he (HLO.out k m' hki hm')
          · rcases Nat.lt_or_ge k (i + j) with hkj | hkj
            · exact (HALL.out (k - i) m' (by omega) (by rw [show i + (k - i) = k by omega]; exact hm')).2
            · have hz : ltN m f.name = false := by
                rcases Nat.eq_zero_or_pos j with hj0 | hj0
                · subst hj0
                  have := HI.out.2.2 m (by have := HM.out; rwa [Nat.add_zero] at this)
                  rw [HNM.out]; exact this
                · cases hq : ltN m f.name with
                  | false => rfl
                  | true =>
                    have hil : i < l.length := by have := (List.getElem?_eq_some_iff.1 HM.out).1; omega
                    obtain ⟨z, hz⟩ : ∃ z, l[i]? = some z := ⟨_, List.getElem?_eq_getElem hil⟩
                    have h1 := rise_ahead HRI.out hq HM.out (by omega) hz
                    have h2 := HI.out.2.2 z hz
                    rw [HNM.out] at h1
                    rw [h1] at h2; cases h2
              exact absurd he (rise_behind HRI.out hz (by rw [HNM2.out, HNM.out]; exact hne) HM.out hkj hm')
        have HBF := Lib.hid hBf
        clear hBf hne
        go_wp2
        go_ret
        exact ⟨by rw [HBF.out]; rfl, HW.out.trans (HBX.out.mono HW.out.size)⟩
end Go.Proofs.Ytcfgjfahjaimiaa

namespace Go.Proofs.Ytcfgjfahjaimiaa
open Go.RowKit
set_option linter.unusedVariables false
set_option linter.unusedSimpArgs false

def kindOf : Ty → Int
  | .mk k _ _ _ _ => k
def compP (k m : Int) : Bool := decide (k = 1 ∨ k = 2 ∨ k = 3 ∨ k = 5 ∨ k = 8) || (decide (k = 9) && decide (m = 2))
theorem ty_ex (t : Ty) : ∃ k p n la lr, t = Ty.mk k p n la lr := by cases t; exact ⟨_, _, _, _, _, rfl⟩
set_option maxRecDepth 100000 in
set_option maxHeartbeats 4000000 in
theorem kcomp_any (vars : List Fi) (hlv : vars.length ≤ 140737488355328) (k0 : Int) (p0 n0 : ByteArray) (A0 B0 : Option Addr) (m0 c0 l0 d0 : Nat) (w : World) (F : Nat → Prop) (V : Option Addr) (cv : Nat) (hv : SlG 6 RFi w F V vars) (hF : ∀ k, F k → k < w.heap.size) :
    Calls Try.prog 16 #[.slice V vars.length cv, .agg #[.int .i64 k0, .string p0, .string n0, .slice A0 m0 c0, .slice B0 l0 d0]] w (TruthP w (compP k0 (kindOf ((varP vars n0).getD fiZ).ty))) := by
  have hb1 := ((Below.refl _ w).alloc (Nat.le_refl _) (.cells #[.int .i64 k0, .string p0, .string n0, .slice A0 m0 c0, .slice B0 l0 d0] 26))
  have HB1 := Lib.hid hb1
  have HM := Lib.hid (mustbe_any vars n0 hlv (w.alloc (.cells #[.int .i64 k0, .string p0, .string n0, .slice A0 m0 c0, .slice B0 l0 d0] 26)) F V cv (hv.bel RFi_keeps hb1) (fun k h => Nat.lt_of_lt_of_le (hF k h) hb1.size))
  obtain ⟨k4, p4, n4, la4, lr4, h4⟩ := ty_ex ((varP vars n0).getD fiZ).ty
  rw [h4] at HM ⊢
  have hfd : ∀ (k : Int) (p n : ByteArray) (A B : Option Addr) (m c l d : Nat) (W : World), (Instr.field 26 (.agg #[.int .i64 k, .string p, .string n, .slice A m c, .slice B l d]) 0).run Try.prog W = .ok (.int .i64 k) W := fun _ _ _ _ _ _ _ _ _ _ => by kernel_rfl
  obtain ⟨R, hR⟩ : ∃ R, compP k0 (kindOf (Ty.mk k4 p4 n4 la4 lr4)) = R := ⟨_, rfl⟩
  have HR := Lib.hid (show compP k0 k4 = R from hR)
  rw [hR]
  clear hb1 hv hF h4 hR
  by_cases h9 : k0 = 9
  · have e1 : (k0 == 1) = false := by rw [h9]; decide
    have e2 : (k0 == 2) = false := by rw [h9]; decide
    have e3 : (k0 == 3) = false := by rw [h9]; decide
    have e5 : (k0 == 5) = false := by rw [h9]; decide
    have e8 : (k0 == 8) = false := by rw [h9]; decide
    have e9 : (k0 == 9) = true := by rw [h9]; decide
    have HE := Lib.hid (show R = (k4 == 2) by rw [← HR.out]; unfold compP; subst h9; by_cases h2 : k4 = 2 <;> simp [h2])
    clear h9
    go_enter Try.func16, Try.ntmps16
    go_wp2_with (go_at_call 37; refine HM.out.mono ?_; rintro e w5 ⟨⟨vs, rfl, hv⟩, hb5⟩; obtain ⟨A5, c5, B5, d5, rfl, _, _⟩ := hv.openL; simp only [tyC]; have HW5 := Lib.hid (HB1.out.trans (hb5.mono HB1.out.size)); clear hb5 hv)
    go_ret
    exact ⟨by rw [HE.out]; rfl, HW5.out⟩
  · have e9 : (k0 == 9) = false := by simpa using h9
    have HE := Lib.hid (show R = decide (k0 = 1 ∨ k0 = 2 ∨ k0 = 3 ∨ k0 = 5 ∨ k0 = 8) by rw [← HR.out]; unfold compP; simp [h9])
    clear h9
    go_enter Try.func16, Try.ntmps16
    go_wp2
    all_goals (go_ret; exact ⟨by rw [HE.out]; simp_all, HB1.out⟩)
set_option maxRecDepth 100000 in
set_option maxHeartbeats 4000000 in
theorem rcomp_any (vars : List Fi) (hlv : vars.length ≤ 140737488355328) (k0 : Int) (p0 n0 : ByteArray) (A0 B0 : Option Addr) (m0 c0 l0 d0 : Nat) (w : World) (F : Nat → Prop) (V : Option Addr) (cv : Nat) (hv : SlG 6 RFi w F V vars) :
    Calls Try.prog 17 #[.slice V vars.length cv, .agg #[.int .i64 k0, .string p0, .string n0, .slice A0 m0 c0, .slice B0 l0 d0]] w (TruthP w (compP k0 (kindOf ((varP vars n0).getD fiZ).ty))) := by
  have hb1 := ((Below.refl _ w).alloc (Nat.le_refl _) (.cells #[.int .i64 k0, .string p0, .string n0, .slice A0 m0 c0, .slice B0 l0 d0] 26))
  have HB1 := Lib.hid hb1
  have HC := Lib.hid (known_any vars n0 hlv (w.alloc (.cells #[.int .i64 k0, .string p0, .string n0, .slice A0 m0 c0, .slice B0 l0 d0] 26)) F V cv (hv.bel RFi_keeps hb1))
  obtain ⟨K, hK⟩ : ∃ K, kindOf ((varP vars n0).getD fiZ).ty = K := ⟨_, rfl⟩
  rw [hK]
  obtain ⟨R, hR⟩ : ∃ R, compP k0 K = R := ⟨_, rfl⟩
  have HR := Lib.hid hR
  rw [hR]
  clear hR
  by_cases h9 : k0 = 9
  · have e1 : (k0 == 1) = false := by rw [h9]; decide
    have e2 : (k0 == 2) = false := by rw [h9]; decide
    have e3 : (k0 == 3) = false := by rw [h9]; decide
    have e5 : (k0 == 5) = false := by rw [h9]; decide
    have e8 : (k0 == 8) = false := by rw [h9]; decide
    have e9 : (k0 == 9) = true := by rw [h9]; decide
    have HE := Lib.hid (show R = (K == 2) by rw [← HR.out]; unfold compP; subst h9; by_cases h2 : K = 2 <;> simp [h2])
    cases hvi : varI vars n0 with
    | none =>
      have hN : varN vars n0 = -1 := by unfold varN; rw [hvi]; rfl
      have hp : varP vars n0 = none := by rw [var_both, hvi]; rfl
      rw [hN] at HC
      have hK0 : K = 0 := by rw [← hK, hp]; rfl
      have HF2 := Lib.hid (show R = false by rw [HE.out, hK0]; decide)
      have g1 : ¬ (0 : Int) ≤ -1 := by decide
      clear h9 hb1 hvi hN hp hv hK hK0 HE
      go_enter Try.func17, Try.ntmps17
      go_wp2_with (go_at_call 31; refine HC.out.mono ?_; rintro e w5 ⟨rfl, hw5⟩; subst hw5)
      go_ret
      exact ⟨by rw [HF2.out]; rfl, HB1.out⟩
    | some i =>
      obtain ⟨u, hu, hup⟩ := varI_at hvi
      have hN : varN vars n0 = (i : Int) := by unfold varN; rw [hvi]; rfl
      rw [hN] at HC
      obtain ⟨nm, ⟨k4, p4, n4, la4, lr4⟩⟩ := u
      have hK4 : K = k4 := by rw [← hK, hup]; rfl
      obtain ⟨q, o, us', rfl, hFq, hgl, hrep, hat⟩ := (hv.bel RFi_keeps hb1).at_ RFi_sized hu
      obtain ⟨tv, rfl, hrt⟩ := hrep
      obtain ⟨A5, c5, B5, d5, rfl, _, _⟩ := hrt.openL
      obtain ⟨m5, hm5⟩ : ∃ z, la4.length = z := ⟨_, rfl⟩
      obtain ⟨l5, hl5⟩ : ∃ z, lr4.length = z := ⟨_, rfl⟩
      simp only [tyC, hm5, hl5] at hat
      have q1 := hat 1 _ rfl
      have hil := (List.getElem?_eq_some_iff.1 hu).1
      have i0 : (0 : Int) ≤ (i : Int) := by omega
      have i1 : (i : Int) < (vars.length : Int) := by omega
      have i2 : decide (0 ≤ i) = true := decide_eq_true (by omega)
      subst hK4
      clear h9 hb1 hvi hN hup hv hm5 hl5 hat hrt hil hu hK
      go_enter Try.func17, Try.ntmps17
      go_wp2_with (go_at_call 31; refine HC.out.mono ?_; rintro e w5 ⟨rfl, hw5⟩; subst hw5)
      go_ret
      exact ⟨by rw [HE.out]; rfl, HB1.out⟩
  · have e9 : (k0 == 9) = false := by simpa using h9
    have HE := Lib.hid (show R = decide (k0 = 1 ∨ k0 = 2 ∨ k0 = 3 ∨ k0 = 5 ∨ k0 = 8) by rw [← HR.out]; unfold compP; simp [h9])
    clear h9 hb1 hv hK
    go_enter Try.func17, Try.ntmps17
    go_wp2
    all_goals (go_ret; exact ⟨by rw [HE.out]; simp_all, HB1.out⟩)
end Go.Proofs.Ytcfgjfahjaimiaa

namespace Go.Proofs.Ytcfgjfahjaimiaa
open Go.RowKit
set_option linter.unusedVariables false
set_option linter.unusedSimpArgs false

def mayP (us : List Un) (k : Int) (p n : ByteArray) : Bool := (ifP us k p n).isSome || decide (k = 5) || decide (k = 9)
set_option maxRecDepth 100000 in
set_option maxHeartbeats 4000000 in
theorem may_any (us : List Un) (hok : ∀ u ∈ us, u.ok 140737488355328) (hlen : us.length ≤ 140737488355328) (k0 : Int) (p0 n0 : ByteArray) (A0 B0 : Option Addr) (m0 c0 l0 d0 : Nat) (w : World) (F : Nat → Prop) (A : Option Addr) (c : Nat) (hr : SlG 4 RUn w F A us) (hF : ∀ k, F k → k < w.heap.size) :
    Calls Try.prog 33 #[.slice A us.length c, .agg #[.int .i64 k0, .string p0, .string n0, .slice A0 m0 c0, .slice B0 l0 d0]] w (TruthP w (mayP us k0 p0 n0)) := by
  have hb1 := ((Below.refl _ w).alloc (Nat.le_refl _) (.cells #[.int .i64 k0, .string p0, .string n0, .slice A0 m0 c0, .slice B0 l0 d0] 26))
  have HB1 := Lib.hid hb1
  have HM := Lib.hid (ifaceof_any us hok hlen k0 p0 n0 A0 B0 m0 c0 l0 d0 (w.alloc (.cells #[.int .i64 k0, .string p0, .string n0, .slice A0 m0 c0, .slice B0 l0 d0] 26)) F A c (hr.bel RUn_keeps hb1) (fun k h => Nat.lt_of_lt_of_le (hF k h) hb1.size))
  have hk := Blk.new w 26 #[.int .i64 k0, .string p0, .string n0, .slice A0 m0 c0, .slice B0 l0 d0]
  have HK := Lib.hid hk
  obtain ⟨D, hD⟩ : ∃ D, (ifP us k0 p0 n0) = D := ⟨_, rfl⟩
  have HE := Lib.hid (show mayP us k0 p0 n0 = (D.isSome || decide (k0 = 5) || decide (k0 = 9)) by unfold mayP; rw [hD])
  rw [hD] at HM
  obtain ⟨R, hR⟩ : ∃ R, mayP us k0 p0 n0 = R := ⟨_, rfl⟩
  rw [hR] at HE ⊢
  clear hb1 hk hr hF hok hD hR
  obtain ⟨d, hd⟩ : ∃ d, D.getD dlZ = d := ⟨_, rfl⟩
  obtain ⟨b, hb⟩ : ∃ b, D.isSome = b := ⟨_, rfl⟩
  rw [show IfP F D = fun w e w' => (∃ vs : List Value, e = .returned (.tuple #[.agg vs.toArray, .bool b]) ∧ DlV F d w' vs) ∧ Below w.heap.size w w' from by funext w e w'; unfold IfP; rw [hd, hb]] at HM
  rw [hb] at HE
  clear hd hb
  cases b with
  | true =>
    have e1 : R = true := by rw [HE.out]; rfl
    subst e1
    clear HE
    go_enter Try.func33, Try.ntmps33
    go_wp2_with (go_at_call 32; refine HM.out.mono ?_; rintro e w5 ⟨⟨vs, rfl, hv⟩, hb5⟩; obtain ⟨tv, Af, cf, rfl, hrt, hfs⟩ := hv; obtain ⟨tk, tp, tn, A3, a3', a3, B3, b3', b3, rfl⟩ := hrt.shape; obtain ⟨dk, dn, dof, dv, dt, fs⟩ := d; simp only [tyC, List.cons_append, List.nil_append]; have hw5 := HB1.out.trans (hb5.mono HB1.out.size); have HW5 := Lib.hid hw5; have hk5 := HK.out.bel2 hb5; have m0z := hk5.cell 0; have ml := hk5.lt; have HK5 := Lib.hid hk5; clear hb5 hw5 hk5 hrt hfs)
    go_ret
    exact ⟨rfl, (HW5.out.alloc HW5.out.size _).trans (Below.refl _ _)⟩
  | false =>
    by_cases h5 : k0 = 5
    · have e5 : (k0 == 5) = true := by rw [h5]; decide
      have e1 : R = true := by rw [HE.out]; simp [h5]
      subst e1
      clear HE h5
      go_enter Try.func33, Try.ntmps33
      go_wp2_with (go_at_call 32; refine HM.out.mono ?_; rintro e w5 ⟨⟨vs, rfl, hv⟩, hb5⟩; obtain ⟨tv, Af, cf, rfl, hrt, hfs⟩ := hv; obtain ⟨tk, tp, tn, A3, a3', a3, B3, b3', b3, rfl⟩ := hrt.shape; obtain ⟨dk, dn, dof, dv, dt, fs⟩ := d; simp only [tyC, List.cons_append, List.nil_append]; have hw5 := HB1.out.trans (hb5.mono HB1.out.size); have HW5 := Lib.hid hw5; have hk5 := HK.out.bel2 hb5; have m0z := hk5.cell 0; have ml := hk5.lt; have HK5 := Lib.hid hk5; clear hb5 hw5 hk5 hrt hfs)
      go_ret
      exact ⟨rfl, (HW5.out.alloc HW5.out.size _).trans (Below.refl _ _)⟩
    · have e5 : (k0 == 5) = false := by simpa using h5
      obtain ⟨c9, e9⟩ : ∃ z, (k0 == 9) = z := ⟨_, rfl⟩
      have e1 : R = c9 := by rw [HE.out, ← e9]; by_cases h9 : k0 = 9 <;> simp [h5, h9]
      subst e1
      clear HE h5
      go_enter Try.func33, Try.ntmps33
      go_wp2_with (go_at_call 32; refine HM.out.mono ?_; rintro e w5 ⟨⟨vs, rfl, hv⟩, hb5⟩; obtain ⟨tv, Af, cf, rfl, hrt, hfs⟩ := hv; obtain ⟨tk, tp, tn, A3, a3', a3, B3, b3', b3, rfl⟩ := hrt.shape; obtain ⟨dk, dn, dof, dv, dt, fs⟩ := d; simp only [tyC, List.cons_append, List.nil_append]; have hw5 := HB1.out.trans (hb5.mono HB1.out.size); have HW5 := Lib.hid hw5; have hk5 := HK.out.bel2 hb5; have m0z := hk5.cell 0; have ml := hk5.lt; have HK5 := Lib.hid hk5; clear hb5 hw5 hk5 hrt hfs)
      go_ret
      exact ⟨rfl, (HW5.out.alloc HW5.out.size _).trans (Below.refl _ _)⟩
end Go.Proofs.Ytcfgjfahjaimiaa

namespace Go.Proofs.Ytcfgjfahjaimiaa
open Go.RowKit
set_option linter.unusedVariables false
set_option linter.unusedSimpArgs false

def lackP (ms : List Fi) : List Fi → Option Fi
  | [] => none
  | d :: r => if hasP ms d = false then some d else lackP ms r
theorem lackP_drop {ms l : List Fi} {j : Nat} {d : Fi} (h : l[j]? = some d) : lackP ms (l.drop j) = if hasP ms d = false then some d else lackP ms (l.drop (j + 1)) := by
  obtain ⟨h1, h2⟩ := List.getElem?_eq_some_iff.1 h
  rw [List.drop_eq_getElem_cons h1, h2, lackP]
theorem lackP_all (ms l : List Fi) : (lackP ms l).isSome = !(l.all (hasP ms)) := by
  induction l with
  | nil => rfl
  | cons a r ih => rw [lackP, List.all_cons]; cases h : hasP ms a <;> simp [ih]
set_option maxRecDepth 100000 in
set_option maxHeartbeats 4000000 in
theorem haveall1_any (ms : List Fi) (hr0 : ms.Pairwise (fun x y => ltF y x = false)) (hl0 : ms.length ≤ 2000) (hct : ∀ m ∈ ms, m.ty.count ≤ 2000000) (F' : Nat → Prop) (M : Option Addr) (cm : Nat) (hcm : ms.length ≤ cm) (f : Fi) (F : Nat → Prop) (g : Nat) (w : World) (vs : List Value) (hf : RFi w F f vs) (hM : SlG 6 RFi w F' M ms) (hg : w.cell? ⟨g, 0, none⟩ = some (.slice M ms.length cm)) (hgl : g < w.heap.size) :
    Calls Try.prog 57 #[.agg vs.toArray, .pointer (some ⟨g, 0, none⟩)] w (TruthP w (!hasP ms f)) := by
  have hf2 := hf
  obtain ⟨tv, rfl, hrt⟩ := hf
  obtain ⟨f1, f2, f3, f4, f5, f6, f7, f8, f9, rfl⟩ := hrt.shape
  simp only [tyC] at hf2 hrt ⊢
  have hb1 := ((Below.refl _ w).alloc (Nat.le_refl _) (.cells #[.string f.name, .int .i64 f1, .string f2, .string f3, .slice f4 f5 f6, .slice f7 f8 f9] 40))
  have HB1 := Lib.hid hb1
  have HC := Lib.hid (has_any ms f hr0 hl0 hct (w.alloc (.cells #[.string f.name, .int .i64 f1, .string f2, .string f3, .slice f4 f5 f6, .slice f7 f8 f9] 40)) F' F M cm hcm (hM.bel RFi_keeps hb1) _ (hf2.bel hb1))
  obtain ⟨f0, hf0⟩ : ∃ z, f.name = z := ⟨_, rfl⟩
  rw [hf0] at HC HB1 ⊢
  obtain ⟨b, hb⟩ : ∃ b, hasP ms f = b := ⟨_, rfl⟩
  rw [hb] at HC ⊢
  clear hf2 hrt hf0 hb1 hb hM hr0 hl0 hct hcm
  go_enter Try.func57, Try.ntmps57
  go_wp2_with (go_at_call 58; refine HC.out.mono ?_; rintro e w5 ⟨rfl, hb5⟩; have HW5 := Lib.hid (HB1.out.trans (hb5.mono HB1.out.size)); clear hb5)
  go_ret
  exact ⟨by cases b <;> rfl, HW5.out⟩
set_option maxRecDepth 100000 in
set_option maxHeartbeats 4000000 in
theorem firsth_any (ms : List Fi) (hr0 : ms.Pairwise (fun x y => ltF y x = false)) (hl0 : ms.length ≤ 2000) (hct : ∀ m ∈ ms, m.ty.count ≤ 2000000) (F' : Nat → Prop) (M : Option Addr) (cm : Nat) (hcm : ms.length ≤ cm) (us : List Fi) (hlen : us.length ≤ 140737488355328) (w : World) (F : Nat → Prop) (A : Option Addr) (c g : Nat) (hr : SlG 6 RFi w F A us) (hM : SlG 6 RFi w F' M ms) (hg : w.cell? ⟨g, 0, none⟩ = some (.slice M ms.length cm)) (hgl : g < w.heap.size) (hF : ∀ k, F k → k < w.heap.size) :
    Calls Try.prog 56 #[.slice A us.length c, .func (Fn.func 57) #[] #[.pointer (some ⟨g, 0, none⟩)]] w fun e w' => (∃ vs : List Value, e = .returned (.tuple #[.agg vs.toArray, .bool (lackP ms us).isSome]) ∧ FiV F ((lackP ms us).getD fiZ) w' vs) ∧ Below w.heap.size w w' := by
  have HA := Lib.hid hr
  have HLT := Lib.hid hF
  have HG := Lib.hid hg
  have n0 : (0 : Int) ≤ (us.length : Int) := by omega
  have n1 : (us.length : Int) ≤ 140737488355328 := by omega
  obtain ⟨res, hres⟩ : ∃ r, lackP ms us = r := ⟨_, rfl⟩
  have HR := Lib.hid hres
  rw [hres]
  have HGL := Lib.hid hgl
  have H1 := Lib.hid (fun (f : Fi) (w' : World) (vs : List Value) (h : Below w.heap.size w w') (hf : RFi w' F f vs) => haveall1_any ms hr0 hl0 hct F' M cm hcm f F g w' vs hf (hM.bel RFi_keeps h) ((h.cell (p := ⟨g, 0, none⟩) hgl).trans hg) (Nat.lt_of_lt_of_le hgl h.size))
  clear hr hg hres hF hM hr0 hl0 hct hcm
  go_enter Try.func56, Try.ntmps56
  go_wp2
  go_loopg [11] us.length (fun gk v11 wr => ∃ (j : Nat), j + gk = us.length ∧ v11 = .int .i64 j ∧ Below w.heap.size w wr ∧ Blk wr w.heap.size 40 #[.string ⟨#[]⟩, .int .i64 0, .string ⟨#[]⟩, .string ⟨#[]⟩, .slice none 0 0, .slice none 0 0] ∧ res = lackP ms (us.drop j))
  case atStart => exact ⟨0, by simp, rfl, (Below.refl _ _).alloc (Nat.le_refl _) _, Blk.new _ _ _, by rw [← HR.out]; rfl⟩
  case round =>
    obtain ⟨j, hj, rfl, hb, hk, hsm⟩ := hrel
    have HB := Lib.hid hb
    have HK := Lib.hid hk
    cases gk with
    | zero =>
      obtain rfl : j = us.length := by omega
      rw [List.drop_length] at hsm
      subst hsm
      have z0 := hk.cell 0
      have f0 := hk.frozen 0
      have z1 := hk.cell 1
      have f1 := hk.frozen 1
      have z2 := hk.cell 2
      have f2 := hk.frozen 2
      have z3 := hk.cell 3
      have f3 := hk.frozen 3
      have z4 := hk.cell 4
      have f4 := hk.frozen 4
      have z5 := hk.cell 5
      have f5 := hk.frozen 5
      have zl := hk.lt
      clear hj hb hk
      go_wp2
      have hw6 := HB.out.alloc HB.out.size (.cells #[.string ⟨#[]⟩, .int .i64 0, .string ⟨#[]⟩, .string ⟨#[]⟩, .slice none 0 0, .slice none 0 0] 40)
      have hk6 := HK.out.alloc (.cells #[.string ⟨#[]⟩, .int .i64 0, .string ⟨#[]⟩, .string ⟨#[]⟩, .slice none 0 0, .slice none 0 0] 40)
      have e6 : (putCs wr w.heap.size 0 [.string ⟨#[]⟩, .int .i64 0, .string ⟨#[]⟩, .string ⟨#[]⟩, .slice none 0 0, .slice none 0 0]).alloc (.cells #[.string ⟨#[]⟩, .int .i64 0, .string ⟨#[]⟩, .string ⟨#[]⟩, .slice none 0 0, .slice none 0 0] 40) = (putCs wr w.heap.size 0 [.string ⟨#[]⟩, .int .i64 0, .string ⟨#[]⟩, .string ⟨#[]⟩, .slice none 0 0, .slice none 0 0]).alloc (.cells #[.string ⟨#[]⟩, .int .i64 0, .string ⟨#[]⟩, .string ⟨#[]⟩, .slice none 0 0, .slice none 0 0] 40) := rfl
      have hV := (putCs_blk0 (vs := [.string ⟨#[]⟩, .int .i64 0, .string ⟨#[]⟩, .string ⟨#[]⟩, .slice none 0 0, .slice none 0 0]) HK.out rfl).alloc (.cells #[.string ⟨#[]⟩, .int .i64 0, .string ⟨#[]⟩, .string ⟨#[]⟩, .slice none 0 0, .slice none 0 0] 40)
      have hVb := putCs_bel HB.out (Nat.le_refl _) [.string ⟨#[]⟩, .int .i64 0, .string ⟨#[]⟩, .string ⟨#[]⟩, .slice none 0 0, .slice none 0 0]
      have HV := Lib.hid (hVb.alloc hVb.size (.cells #[.string ⟨#[]⟩, .int .i64 0, .string ⟨#[]⟩, .string ⟨#[]⟩, .slice none 0 0, .slice none 0 0] 40))
      have y0 := hV.cell 0
      have y1 := hV.cell 1
      have y2 := hV.cell 2
      have y3 := hV.cell 3
      have y4 := hV.cell 4
      have y5 := hV.cell 5
      clear hV hw6 hk6 e6 hVb z0 f0 z1 f1 z2 f2 z3 f3 z4 f4 z5 f5
      show bodyPost _ _ _ _ _ ((putCs wr w.heap.size 0 [.string ⟨#[]⟩, .int .i64 0, .string ⟨#[]⟩, .string ⟨#[]⟩, .slice none 0 0, .slice none 0 0]).alloc (.cells #[.string ⟨#[]⟩, .int .i64 0, .string ⟨#[]⟩, .string ⟨#[]⟩, .slice none 0 0, .slice none 0 0] 40))
      generalize (putCs wr w.heap.size 0 [.string ⟨#[]⟩, .int .i64 0, .string ⟨#[]⟩, .string ⟨#[]⟩, .slice none 0 0, .slice none 0 0]).alloc (.cells #[.string ⟨#[]⟩, .int .i64 0, .string ⟨#[]⟩, .string ⟨#[]⟩, .slice none 0 0, .slice none 0 0] 40) = V at HV y0 y1 y2 y3 y4 y5 ⊢
      exact bodyPost_ret (v := .tuple #[.agg #[.string ⟨#[]⟩, .int .i64 0, .string ⟨#[]⟩, .string ⟨#[]⟩, .slice none 0 0, .slice none 0 0], .bool false]) (by simp [results, Try.results56, go_sem, y0, y1, y2, y3, y4, y5]) rfl ⟨⟨[.string ⟨#[]⟩, .int .i64 0, .string ⟨#[]⟩, .string ⟨#[]⟩, .slice none 0 0, .slice none 0 0], rfl, RFi.zero _ _⟩, HV.out⟩
    | succ f =>
      have hjl : j < us.length := by omega
      obtain ⟨u, hu⟩ : ∃ u, us[j]? = some u := ⟨_, List.getElem?_eq_getElem hjl⟩
      have j1 : (j : Int) < (us.length : Int) := by omega
      have j0 : (0 : Int) ≤ (j : Int) := by omega
      have j2 : (j : Int) ≤ 140737488355328 := by omega
      obtain ⟨q, o, vs, rfl, hFq, hql, hrep, hat⟩ := (HA.out.bel RFi_keeps hb).at_ RFi_sized hu
      rw [lackP_drop hu] at hsm
      obtain ⟨fn, ft⟩ := u
      have hds := hrep
      obtain ⟨tv, rfl, hrt⟩ := hrep
      dsimp only at hrt
      obtain ⟨tk, tp, tn, A1, a1', a1, B1, b1', b1, rfl⟩ := hrt.shape
      have HDS := Lib.hid hds
      have q0 := hat 0 _ rfl
      have q1 := hat 1 _ rfl
      have q2 := hat 2 _ rfl
      have q3 := hat 3 _ rfl
      have q4 := hat 4 _ rfl
      have q5 := hat 5 _ rfl
      rw [Nat.add_zero] at q0
      have z0 := hk.cell 0
      have f0 := hk.frozen 0
      have z1 := hk.cell 1
      have f1 := hk.frozen 1
      have z2 := hk.cell 2
      have f2 := hk.frozen 2
      have z3 := hk.cell 3
      have f3 := hk.frozen 3
      have z4 := hk.cell 4
      have f4 := hk.frozen 4
      have z5 := hk.cell 5
      have f5 := hk.frozen 5
      have zl := hk.lt
      have HC := Lib.hid (fun w' (h' : Below wr.heap.size wr w') => H1.out ⟨fn, ft⟩ w' _ (HB.out.trans (h'.mono HB.out.size)) (HDS.out.bel h'))
      by_cases e : hasP ms ⟨fn, ft⟩ = false
      · have ed : (!hasP ms ⟨fn, ft⟩) = true := by rw [e]; rfl
        rw [ed] at HC
        rw [if_pos e] at hsm
        subst hsm
        clear hat hu hb hk e ed
        go_wp2_with (go_at_call 57; refine (HC.out _ ((Below.refl _ _).alloc (Nat.le_refl _) _)).mono ?_; rintro e w5 ⟨rfl, hb5⟩; have hw5 := ((Below.refl _ wr).alloc (Nat.le_refl _) (.cells #[.string fn, .int .i64 tk, .string tp, .string tn, .slice A1 a1' a1, .slice B1 b1' b1] 40)).trans (hb5.mono (by simp)); have hx5 := (Blk.new wr 40 #[.string fn, .int .i64 tk, .string tp, .string tn, .slice A1 a1' a1, .slice B1 b1' b1]).bel2 hb5; have HW5 := Lib.hid hw5; have x0 := hx5.cell 0; have x1 := hx5.cell 1; have x2 := hx5.cell 2; have x3 := hx5.cell 3; have x4 := hx5.cell 4; have x5 := hx5.cell 5; have xl := hx5.lt; have hk5 := HK.out.bel2 hw5; have m0 := hk5.cell 0; have mf0 := hk5.frozen 0; have m1 := hk5.cell 1; have mf1 := hk5.frozen 1; have m2 := hk5.cell 2; have mf2 := hk5.frozen 2; have m3 := hk5.cell 3; have mf3 := hk5.frozen 3; have m4 := hk5.cell 4; have mf4 := hk5.frozen 4; have m5 := hk5.cell 5; have mf5 := hk5.frozen 5; have ml := hk5.lt; have HK5 := Lib.hid hk5; clear hb5 hw5 hx5 hk5)
        have hV := putCs_blk0 (vs := [.string fn, .int .i64 tk, .string tp, .string tn, .slice A1 a1' a1, .slice B1 b1' b1]) HK5.out rfl
        have HV := Lib.hid (putCs_bel (HB.out.trans (HW5.out.mono HB.out.size)) (Nat.le_refl _) [.string fn, .int .i64 tk, .string tp, .string tn, .slice A1 a1' a1, .slice B1 b1' b1])
        have HVR := Lib.hid (show FiV F ⟨fn, ft⟩ (putCs w5 w.heap.size 0 [.string fn, .int .i64 tk, .string tp, .string tn, .slice A1 a1' a1, .slice B1 b1' b1]) [.string fn, .int .i64 tk, .string tp, .string tn, .slice A1 a1' a1, .slice B1 b1' b1] from (HDS.out.bel HW5.out).clear (putCs_gr _ _ 0 w5) HLT.out)
        have y0 := hV.cell 0
        have y1 := hV.cell 1
        have y2 := hV.cell 2
        have y3 := hV.cell 3
        have y4 := hV.cell 4
        have y5 := hV.cell 5
        clear hV x0 m0 mf0 z0 f0 q0 x1 m1 mf1 z1 f1 q1 x2 m2 mf2 z2 f2 q2 x3 m3 mf3 z3 f3 q3 x4 m4 mf4 z4 f4 q4 x5 m5 mf5 z5 f5 q5
        show bodyPost _ _ _ _ _ (putCs w5 w.heap.size 0 [.string fn, .int .i64 tk, .string tp, .string tn, .slice A1 a1' a1, .slice B1 b1' b1])
        generalize putCs w5 w.heap.size 0 [.string fn, .int .i64 tk, .string tp, .string tn, .slice A1 a1' a1, .slice B1 b1' b1] = V at HV HVR y0 y1 y2 y3 y4 y5 ⊢
        exact bodyPost_ret (v := .tuple #[.agg #[.string fn, .int .i64 tk, .string tp, .string tn, .slice A1 a1' a1, .slice B1 b1' b1], .bool true]) (by simp [results, Try.results56, go_sem, y0, y1, y2, y3, y4, y5]) rfl ⟨⟨_, rfl, HVR.out⟩, HV.out⟩
      · have ed : (!hasP ms ⟨fn, ft⟩) = false := by simpa using e
        rw [ed] at HC
        rw [if_neg e] at hsm
        have HSM := Lib.hid hsm
        clear hat hu hb hk hsm e ed hds
        go_wp2_with (go_at_call 57; refine (HC.out _ ((Below.refl _ _).alloc (Nat.le_refl _) _)).mono ?_; rintro e w5 ⟨rfl, hb5⟩; have HB5 := Lib.hid (((Below.refl _ wr).alloc (Nat.le_refl _) (.cells #[.string fn, .int .i64 tk, .string tp, .string tn, .slice A1 a1' a1, .slice B1 b1' b1] 40)).trans (hb5.mono (by simp))); clear hb5)
        go_roundg f
        case measure => omega
        case rel => exact ⟨j + 1, by omega, by go_num, HB.out.trans (HB5.out.mono HB.out.size), HK.out.bel2 HB5.out, HSM.out⟩

set_option maxRecDepth 100000 in
set_option maxHeartbeats 4000000 in
theorem haveall_any (ms : List Fi) (hr0 : ms.Pairwise (fun x y => ltF y x = false)) (hl0 : ms.length ≤ 2000) (hct : ∀ m ∈ ms, m.ty.count ≤ 2000000) (F' : Nat → Prop) (M : Option Addr) (cm : Nat) (hcm : ms.length ≤ cm) (us : List Fi) (hlen : us.length ≤ 140737488355328) (w : World) (F : Nat → Prop) (A : Option Addr) (c : Nat) (hr : SlG 6 RFi w F A us) (hM : SlG 6 RFi w F' M ms) (hF : ∀ k, F k → k < w.heap.size) :
    Calls Try.prog 34 #[.slice M ms.length cm, .slice A us.length c] w (TruthP w (us.all (hasP ms))) := by
  have hb1 := ((Below.refl _ w).alloc (Nat.le_refl _) (.cells #[.slice M ms.length cm] 23))
  have HB1 := Lib.hid hb1
  have hk := Blk.new w 23 #[.slice M ms.length cm]
  have HC := Lib.hid (firsth_any ms hr0 hl0 hct F' M cm hcm us hlen (w.alloc (.cells #[.slice M ms.length cm] 23)) F A c w.heap.size (hr.bel RFi_keeps hb1) (hM.bel RFi_keeps hb1) (hk.cell 0) hk.lt (fun k h => Nat.lt_of_lt_of_le (hF k h) hb1.size))
  generalize (lackP ms us).getD fiZ = d at HC
  rw [lackP_all] at HC
  generalize us.all (hasP ms) = b at HC ⊢
  clear hb1 hk hr hF hM hr0 hl0 hct hcm
  go_enter Try.func34, Try.ntmps34
  go_wp2_with (go_at_call 56; refine HC.out.mono ?_; rintro e w5 ⟨⟨vs, rfl, hv⟩, hb5⟩; obtain ⟨fn, dt⟩ := d; obtain ⟨tv, rfl, hrt⟩ := hv; dsimp only at hrt; obtain ⟨tk, tp, tn, A3, a3', a3, B3, b3', b3, rfl⟩ := hrt.shape; simp only [tyC]; have HW5 := Lib.hid (HB1.out.trans (hb5.mono HB1.out.size)); clear hb5 hrt)
  go_ret
  exact ⟨by cases b <;> rfl, (HW5.out.alloc HW5.out.size _).trans (Below.refl _ _)⟩
end Go.Proofs.Ytcfgjfahjaimiaa
