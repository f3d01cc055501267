/-
  Hashes, what is too great, ExportEncodes: walks.
-/
import Derived.Test.YtnkojjkijkhlbaaQf
import Derived.Test.YtnkojjkijkhlbaaUd
namespace Go.Proofs.Ytnkojjkijkhlbaa
open Go.RowKit
set_option linter.unusedVariables false
set_option linter.unusedSimpArgs false

def strOf (l : List Int) : ByteArray := ⟨(l.map fun c => UInt8.ofNat c.toNat).toArray⟩
theorem conv_any {w : World} {B : Nat} {A : Option Addr} {l : List Int} (h : SlB w B A l) (c : Nat) : (convert 29 9 (.slice A l.length c)).run Try.prog w = .ok (.string (strOf l)) w := by
  obtain ⟨hb, hr⟩ := h
  rcases A with _ | a
  · have hl : l = [] := by
      rcases Nat.eq_zero_or_pos l.length with h0 | h0
      · exact List.eq_nil_of_length_eq_zero h0
      · obtain ⟨ad, e, _⟩ := hr.2 h0; cases e
    subst hl
    exact run_convert_bytes_nil (w := w) 29 5 Try.underlying29 Try.underlying5 0 c 9 Try.underlying9
  · have h2 := run_convert_bytes_back (P := Try.prog) w 29 9 5 a c (l.map fun c => UInt8.ofNat c.toNat) Try.underlying29 Try.underlying5 Try.underlying9 (fun j hj => by
      have hj' : j < l.length := by simpa using hj
      obtain ⟨ad, e, _, hc⟩ := hr.2 (by omega)
      injection e with e
      subst e
      have hx := hb l[j] (List.getElem_mem _)
      have := hc j (.int .u8 l[j]) (by rw [List.getElem?_map, List.getElem?_eq_getElem hj']; rfl)
      rw [this]
      simp only [List.getElem_map, Option.some.injEq, Value.int.injEq, true_and]
      rw [UInt8.toNat_ofNat']
      omega)
    rw [List.length_map] at h2
    exact h2
def GreatP (u : Un) (w : World) (e : Ending) (w' : World) : Prop := ∃ b : Bool, e = .returned (.bool b) ∧ (b = false → u.cnt ≤ 3000) ∧ Below w.heap.size w w'
set_option maxRecDepth 100000 in
set_option maxHeartbeats 8000000 in
theorem great8_any (u : Un) (hok : u.ok 140737488355328) (w : World) (F : Nat → Prop) (hF : ∀ k, F k → k < w.heap.size) (vs : List Value) (hr : RUn w F u vs) :
    Calls Try.prog 9 #[.agg vs.toArray] w (GreatP u w) := by
  obtain ⟨s, im, dc, fn⟩ := u
  have hr' := hr
  obtain ⟨A7, c7, A8, c8, A9, c9, rfl, _, _, _⟩ := hr
  dsimp only at hr'
  have hb0 := (Below.refl _ w).alloc (Nat.le_refl _) (.cells #[.string s, .slice A7 im.length c7, .slice A8 dc.length c8, .slice A9 fn.length c9] 26)
  have HB0 := Lib.hid hb0
  have HK0 := Lib.hid (Blk.new w 26 #[.string s, .slice A7 im.length c7, .slice A8 dc.length c8, .slice A9 fn.length c9])
  have HC := Lib.hid (bulk_any _ hok _ F _ 3000 (RUn_keeps.bel hr' hb0) (by omega) (by omega))
  have HLE := Lib.hid (fun r : Int => (Iff.rfl : decide (3000 < r) = false ↔ decide (3000 < r) = false))
  clear hb0 hr' hok hF
  go_enter Try.func9, Try.ntmps9
  go_wp2_with (go_at_call 20; ((with_reducible refine HC.out.mono ?_); rintro e w2 ⟨r, rfl, hr0, hr1, hr2, hb2⟩); have HR2 := Lib.hid hr2; have HB2 := Lib.hid hb2; clear hb2 hr2)
  go_ret
  exact ⟨_, rfl, fun h => by
    have h1 := of_decide_eq_false h
    have h2 := HR2.out (by omega)
    omega, HB0.out.trans (HB2.out.mono HB0.out.size)⟩
theorem encR_len (u : Un) : (encR u).1.length ≤ 262144 := by
  unfold encR
  split
  · simp
  · split
    · rw [List.length_append, le8_len]; omega
    · simp
def hashR (r : List Int × Int) : Int := if r.2 = 0 then sumP r.1 else 0
theorem EncP.slB {r : List Int × Int} {w w' : World} {A : Option Addr} {c : Nat} (h1 : w'.ownsRow w.heap.size 5 1 (.slice A r.1.length c) r.1.length (r.1.map (Value.int .u8))) (h2 : ∀ x ∈ r.1, 0 ≤ x ∧ x ≤ 255) : SlB w' w'.heap.size A r.1 := ⟨h2, Reads.of_own h1⟩
set_option maxRecDepth 100000 in
set_option maxHeartbeats 8000000 in
theorem hash_any (u : Un) (hc : u.cnt ≤ 2000000) (hok : u.ok 140737488355328) (w : World) (F : Nat → Prop) (hF : ∀ k, F k → k < w.heap.size) (vs : List Value) (hr : RUn w F u vs) :
    Calls Try.prog 14 #[.agg vs.toArray] w fun e w' => e = .returned (.int .i64 (hashR (encR u))) ∧ Below w.heap.size w w' := by
  have hl := encR_len u
  obtain ⟨s, im, dc, fn⟩ := u
  have hr' := hr
  obtain ⟨A7, c7, A8, c8, A9, c9, rfl, _, _, _⟩ := hr
  dsimp only at hr'
  have hb0 := (Below.refl _ w).alloc (Nat.le_refl _) (.cells #[.string s, .slice A7 im.length c7, .slice A8 dc.length c8, .slice A9 fn.length c9] 26)
  have HB0 := Lib.hid hb0
  have HK0 := Lib.hid (Blk.new w 26 #[.string s, .slice A7 im.length c7, .slice A8 dc.length c8, .slice A9 fn.length c9])
  have HC := Lib.hid (encode_any _ hc hok _ F (fun k hk => by have := hF k hk; simp; omega) _ (RUn_keeps.bel hr' hb0))
  obtain ⟨⟨l, r⟩, hR⟩ : ∃ R, encR ⟨s, im, dc, fn⟩ = R := ⟨_, rfl⟩
  rw [hR] at HC hl ⊢
  dsimp only at hl
  have HS := Lib.hid (fun w' B A c (h : SlB w' B A l) => sum_any w' B A c l h (by omega))
  unfold hashR
  dsimp only
  clear hb0 hr' hok hF hc hR hl
  by_cases h0 : r = 0
  · subst h0
    go_enter Try.func14, Try.ntmps14
    go_wp2_with (first
      | (go_at_call 11; ((with_reducible refine HC.out.mono ?_); rintro e w2 ⟨⟨A, c, rfl, ho, hy⟩, hb2⟩); have HSL := Lib.hid (EncP.slB (r := (l, 0)) ho hy); have HB2 := Lib.hid (HB0.out.trans (hb2.mono HB0.out.size)); clear hb2 ho hy)
      | (go_at_call 16; ((with_reducible refine (HS.out _ _ _ _ HSL.out).mono ?_); rintro e w3 ⟨rfl, rfl⟩)))
    go_ret
    exact ⟨by simp, HB2.out⟩
  · have h1 : (r == 0) = false := by simpa using h0
    have h2 : (r != 0) = true := by simpa using h0
    have HN0 := Lib.hid h0
    clear h0
    go_enter Try.func14, Try.ntmps14
    go_wp2_with (first
      | (go_at_call 11; ((with_reducible refine HC.out.mono ?_); rintro e w2 ⟨⟨A, c, rfl, ho, hy⟩, hb2⟩); have HB2 := Lib.hid (HB0.out.trans (hb2.mono HB0.out.size)); clear hb2 ho hy))
    go_ret
    exact ⟨by first | rfl | rw [if_neg HN0.out], HB2.out⟩
set_option maxRecDepth 100000 in
set_option maxHeartbeats 8000000 in
theorem rhash_any (u : Un) (hc : u.cnt ≤ 2000000) (hok : u.ok 140737488355328) (w : World) (F : Nat → Prop) (hF : ∀ k, F k → k < w.heap.size) (vs : List Value) (hr : RUn w F u vs) :
    Calls Try.prog 15 #[.agg vs.toArray] w fun e w' => e = .returned (.int .i64 (hashR (encR u))) ∧ Below w.heap.size w w' := by
  have hl := encR_len u
  obtain ⟨s, im, dc, fn⟩ := u
  have hr' := hr
  obtain ⟨A7, c7, A8, c8, A9, c9, rfl, _, _, _⟩ := hr
  dsimp only at hr'
  have hb0 := (Below.refl _ w).alloc (Nat.le_refl _) (.cells #[.string s, .slice A7 im.length c7, .slice A8 dc.length c8, .slice A9 fn.length c9] 26)
  have HB0 := Lib.hid hb0
  have HK0 := Lib.hid (Blk.new w 26 #[.string s, .slice A7 im.length c7, .slice A8 dc.length c8, .slice A9 fn.length c9])
  have HC := Lib.hid (rencode_any _ hc hok _ F (fun k hk => by have := hF k hk; simp; omega) _ (RUn_keeps.bel hr' hb0))
  obtain ⟨⟨l, r⟩, hR⟩ : ∃ R, encR ⟨s, im, dc, fn⟩ = R := ⟨_, rfl⟩
  rw [hR] at HC hl ⊢
  dsimp only at hl
  have HS := Lib.hid (fun w' B A c (h : SlB w' B A l) => rsum_any w' B A c l h (by omega))
  unfold hashR
  dsimp only
  clear hb0 hr' hok hF hc hR hl
  by_cases h0 : r = 0
  · subst h0
    go_enter Try.func15, Try.ntmps15
    go_wp2_with (first
      | (go_at_call 12; ((with_reducible refine HC.out.mono ?_); rintro e w2 ⟨⟨A, c, rfl, ho, hy⟩, hb2⟩); have HSL := Lib.hid (EncP.slB (r := (l, 0)) ho hy); have HB2 := Lib.hid (HB0.out.trans (hb2.mono HB0.out.size)); clear hb2 ho hy)
      | (go_at_call 17; ((with_reducible refine (HS.out _ _ _ _ HSL.out).mono ?_); rintro e w3 ⟨rfl, rfl⟩)))
    go_ret
    exact ⟨by simp, HB2.out⟩
  · have h1 : (r == 0) = false := by simpa using h0
    have h2 : (r != 0) = true := by simpa using h0
    have HN0 := Lib.hid h0
    clear h0
    go_enter Try.func15, Try.ntmps15
    go_wp2_with (first
      | (go_at_call 12; ((with_reducible refine HC.out.mono ?_); rintro e w2 ⟨⟨A, c, rfl, ho, hy⟩, hb2⟩); have HB2 := Lib.hid (HB0.out.trans (hb2.mono HB0.out.size)); clear hb2 ho hy))
    go_ret
    exact ⟨by first | rfl | rw [if_neg HN0.out], HB2.out⟩
theorem SlB.bel {w w' : World} {A : Option Addr} {l : List Int} (h : SlB w w.heap.size A l) (hb : Below w.heap.size w w') : SlB w' w'.heap.size A l := ⟨h.1, (h.2.below hb).more hb.size⟩
set_option maxRecDepth 100000 in
set_option maxHeartbeats 8000000 in
theorem eencodes_any (u : Un) (hok : u.ok 140737488355328) (w : World) (F : Nat → Prop) (hF : ∀ k, F k → k < w.heap.size) (vs : List Value) (hr : RUn w F u vs) :
    Calls Try.prog 3 #[.agg vs.toArray] w (TruthP w true) := by
  obtain ⟨s, im, dc, fn⟩ := u
  have hr' := hr
  obtain ⟨A7, c7, A8, c8, A9, c9, rfl, _, _, _⟩ := hr
  dsimp only at hr'
  have hb0 := (Below.refl _ w).alloc (Nat.le_refl _) (.cells #[.string s, .slice A7 im.length c7, .slice A8 dc.length c8, .slice A9 fn.length c9] 26)
  have HB0 := Lib.hid hb0
  have HK0 := Lib.hid (Blk.new w 26 #[.string s, .slice A7 im.length c7, .slice A8 dc.length c8, .slice A9 fn.length c9])
  have HG := Lib.hid (great8_any _ hok _ F (fun k hk => by have := hF k hk; simp; omega) _ (RUn_keeps.bel hr' hb0))
  obtain ⟨u, hu⟩ : ∃ u : Un, (⟨s, im, dc, fn⟩ : Un) = u := ⟨_, rfl⟩
  rw [hu] at HG hr' hok
  have HE := Lib.hid (fun (hc : u.cnt ≤ 3000) w1 (hb1 : Below w.heap.size w w1) => encode_any u (by omega) hok w1 F (fun k hk => Nat.lt_of_lt_of_le (hF k hk) hb1.size) _ (RUn_keeps.bel hr' hb1))
  have HR := Lib.hid (fun (hc : u.cnt ≤ 3000) w1 (hb1 : Below w.heap.size w w1) => rencode_any u (by omega) hok w1 F (fun k hk => Nat.lt_of_lt_of_le (hF k hk) hb1.size) _ (RUn_keeps.bel hr' hb1))
  have HH := Lib.hid (fun (hc : u.cnt ≤ 3000) w1 (hb1 : Below w.heap.size w w1) => hash_any u (by omega) hok w1 F (fun k hk => Nat.lt_of_lt_of_le (hF k hk) hb1.size) _ (RUn_keeps.bel hr' hb1))
  have HQ := Lib.hid (fun (hc : u.cnt ≤ 3000) w1 (hb1 : Below w.heap.size w w1) => rhash_any u (by omega) hok w1 F (fun k hk => Nat.lt_of_lt_of_le (hF k hk) hb1.size) _ (RUn_keeps.bel hr' hb1))
  obtain ⟨⟨l, r⟩, hR⟩ : ∃ R, encR u = R := ⟨_, rfl⟩
  rw [hR] at HE HR
  obtain ⟨hh, hhh⟩ : ∃ x, hashR (encR u) = x := ⟨_, rfl⟩
  rw [hhh] at HH HQ
  clear hb0 hr' hok hF hu hR hhh
  go_enter Try.func3, Try.ntmps3
  go_wp2_with (first
    | (go_at_call 9; ((with_reducible refine HG.out.mono ?_); rintro e w1 ⟨b, rfl, hbc, hb1⟩); have HBC := Lib.hid hbc; have HB1 := Lib.hid (HB0.out.trans (hb1.mono HB0.out.size)); have hk1 := HK0.out.bel2 hb1; have HK1 := Lib.hid hk1; have y10 := hk1.cell 0; have y11 := hk1.cell 1; have y12 := hk1.cell 2; have y13 := hk1.cell 3; have yl1 := hk1.lt; clear hbc hb1 hk1)
    | (go_at_call 10; ((with_reducible refine (awake_any _).mono ?_); rintro e w2 ⟨rfl, hb2⟩); have HB2 := Lib.hid (HB1.out.trans (hb2.mono HB1.out.size)); clear hb2)
    | (go_at_call 11; ((with_reducible refine (HE.out (HBC.out (by assumption)) _ HB1.out).mono ?_); rintro e w2 ⟨⟨A, c, rfl, ho, hy⟩, hb2⟩); have HS1 := Lib.hid (EncP.slB (r := (l, r)) ho hy); have HB2 := Lib.hid (HB1.out.trans (hb2.mono HB1.out.size)); have hk2 := HK1.out.bel2 hb2; have HK2 := Lib.hid hk2; have y20 := hk2.cell 0; have y21 := hk2.cell 1; have y22 := hk2.cell 2; have y23 := hk2.cell 3; have yl2 := hk2.lt; clear hb2 ho hy hk2)
    | (go_at_call 12; ((with_reducible refine (HR.out (HBC.out (by assumption)) _ HB2.out).mono ?_); rintro e w3 ⟨⟨A', c', rfl, ho, hy⟩, hb3⟩); have HS3 := Lib.hid (HS1.out.bel hb3); have HS2 := Lib.hid (EncP.slB (r := (l, r)) ho hy); have HB3 := Lib.hid (HB2.out.trans (hb3.mono HB2.out.size)); have hk3 := HK2.out.bel2 hb3; have HK3 := Lib.hid hk3; have y30 := hk3.cell 0; have y31 := hk3.cell 1; have y32 := hk3.cell 2; have y33 := hk3.cell 3; have yl3 := hk3.lt; clear hb3 ho hy hk3))
  · go_ret
    exact ⟨rfl, HB2.out⟩
  · have hcn : u.cnt ≤ 3000 := HBC.out (by assumption)
    have HH1 := Lib.hid (fun w9 (h9 : Below w3.heap.size w3 w9) => HH.out hcn w9 (HB3.out.trans (h9.mono HB3.out.size)))
    have HH2 := Lib.hid (fun w9 (h9 : Below w3.heap.size w3 w9) => HQ.out hcn w9 (HB3.out.trans (h9.mono HB3.out.size)))
    clear hcn
    refine wp_region_held (S := fun x => Below w3.heap.size w3 x) (by kernel_rfl) ?_
    rw [show ({ w3 with drawn := w3.drawn + 1 } : World) = w3.drew from rfl]
    have hS0 : Below w3.heap.size w3 w3.drew := (Below.refl _ w3).drew
    generalize w3.drew = W at hS0 ⊢
    refine wpAnyH_take (i := 0) (v := .slice A l.length c) rfl (by kernel_rfl) (by kernel_rfl) (by kernel_rfl) (fun _ _ _ h => h) (Or.inl ⟨rfl, fun w' hS => by (unfold execOp; go_simp)⟩) hS0 ?_
    simp only [Act.put, List.getElem_toArray, List.getElem_cons_zero, List.getElem_cons_succ, List.setIfInBounds_toArray, List.set_cons_zero, List.set_cons_succ]
    refine wpAnyH_take (i := 1) (v := .string (strOf l)) rfl (by kernel_rfl) (by kernel_rfl) (by kernel_rfl) (fun _ _ _ h => h) (Or.inl ⟨rfl, fun w' hS => by (have e1 := conv_any (HS3.out.bel hS) c; unfold execOp; go_simp)⟩) hS0 ?_
    simp only [Act.put, List.getElem_toArray, List.getElem_cons_zero, List.getElem_cons_succ, List.setIfInBounds_toArray, List.set_cons_zero, List.set_cons_succ]
    refine wpAnyH_take (i := 2) (v := .slice A' l.length c') rfl (by kernel_rfl) (by kernel_rfl) (by kernel_rfl) (fun _ _ _ h => h) (Or.inl ⟨rfl, fun w' hS => by (unfold execOp; go_simp)⟩) hS0 ?_
    simp only [Act.put, List.getElem_toArray, List.getElem_cons_zero, List.getElem_cons_succ, List.setIfInBounds_toArray, List.set_cons_zero, List.set_cons_succ]
    refine wpAnyH_take (i := 3) (v := .string (strOf l)) rfl (by kernel_rfl) (by kernel_rfl) (by kernel_rfl) (fun _ _ _ h => h) (Or.inl ⟨rfl, fun w' hS => by (have e1 := conv_any (HS2.out.bel hS) c'; unfold execOp; go_simp)⟩) hS0 ?_
    simp only [Act.put, List.getElem_toArray, List.getElem_cons_zero, List.getElem_cons_succ, List.setIfInBounds_toArray, List.set_cons_zero, List.set_cons_succ]
    refine wpAnyH_take (i := 4) (v := .bool true) rfl (by kernel_rfl) (by kernel_rfl) (by kernel_rfl) (fun _ _ _ h => h) (Or.inl ⟨rfl, fun w' hS => by (unfold execOp; go_simp)⟩) hS0 ?_
    simp only [Act.put, List.getElem_toArray, List.getElem_cons_zero, List.getElem_cons_succ, List.setIfInBounds_toArray, List.set_cons_zero, List.set_cons_succ]
    refine wpAnyH_take (i := 5) (v := .bool true) rfl (by kernel_rfl) (by kernel_rfl) (by kernel_rfl) (fun _ _ _ h => h) (Or.inl ⟨rfl, fun w' hS => by (unfold execOp; go_simp)⟩) hS0 ?_
    simp only [Act.put, List.getElem_toArray, List.getElem_cons_zero, List.getElem_cons_succ, List.setIfInBounds_toArray, List.set_cons_zero, List.set_cons_succ]
    refine wpAnyH_take (i := 6) (v := .int .i64 r) rfl (by kernel_rfl) (by kernel_rfl) (by kernel_rfl) (fun _ _ _ h => h) (Or.inl ⟨by kernel_rfl, fun w' hS => by (unfold execOp; go_simp)⟩) hS0 ?_
    simp only [Act.put, List.getElem_toArray, List.getElem_cons_zero, List.getElem_cons_succ, List.setIfInBounds_toArray, List.set_cons_zero, List.set_cons_succ]
    refine wpAnyH_take (i := 8) (v := .int .i64 r) rfl (by kernel_rfl) (by kernel_rfl) (by kernel_rfl) (fun _ _ _ h => h) (Or.inl ⟨by kernel_rfl, fun w' hS => by (unfold execOp; go_simp)⟩) hS0 ?_
    simp only [Act.put, List.getElem_toArray, List.getElem_cons_zero, List.getElem_cons_succ, List.setIfInBounds_toArray, List.set_cons_zero, List.set_cons_succ]
    refine wpAnyH_oneG (i := 7) (by kernel_rfl) rfl (by kernel_rfl) (op_call (args := #[.int .i64 r]) (f := 13) (by unfold execOp; go_simp) ((num_any _ _).mono ?_))
    rintro e w7 ⟨rfl, rfl⟩
    refine And.intro hS0 ?_
    simp only [Act.put, List.getElem_toArray, List.getElem_cons_zero, List.getElem_cons_succ, List.setIfInBounds_toArray, List.set_cons_zero, List.set_cons_succ]
    refine wpAnyH_take (i := 9) (v := .bool true) rfl (by kernel_rfl) (by kernel_rfl) (by kernel_rfl) (fun _ _ _ h => h) (Or.inl ⟨by kernel_rfl, fun w' hS => by (unfold execOp; go_simp)⟩) hS0 ?_
    simp only [Act.put, List.getElem_toArray, List.getElem_cons_zero, List.getElem_cons_succ, List.setIfInBounds_toArray, List.set_cons_zero, List.set_cons_succ]
    refine wpAnyH_take (i := 10) (v := .bool true) rfl (by kernel_rfl) (by kernel_rfl) (by kernel_rfl) (fun _ _ _ h => h) (Or.inl ⟨rfl, fun w' hS => by (unfold execOp; go_simp)⟩) hS0 ?_
    simp only [Act.put, List.getElem_toArray, List.getElem_cons_zero, List.getElem_cons_succ, List.setIfInBounds_toArray, List.set_cons_zero, List.set_cons_succ]
    refine wpAnyH_take (i := 11) (v := .bool true) rfl (by kernel_rfl) (by kernel_rfl) (by kernel_rfl) (fun _ _ _ h => h) (Or.inl ⟨rfl, fun w' hS => by (unfold execOp; go_simp)⟩) hS0 ?_
    simp only [Act.put, List.getElem_toArray, List.getElem_cons_zero, List.getElem_cons_succ, List.setIfInBounds_toArray, List.set_cons_zero, List.set_cons_succ]
    refine wpAnyH_take (i := 12) (v := (.agg #[.string s, .slice A7 im.length c7, .slice A8 dc.length c8, .slice A9 fn.length c9])) rfl (by kernel_rfl) (by kernel_rfl) (by kernel_rfl) (fun _ _ _ h => h) (Or.inl ⟨by kernel_rfl, fun w' hS => by (have yb := (HK3.out.bel2 hS); have yc0 := yb.cell 0; have yc1 := yb.cell 1; have yc2 := yb.cell 2; have yc3 := yb.cell 3; have ycl := yb.lt; unfold execOp; go_simp)⟩) hS0 ?_
    simp only [Act.put, List.getElem_toArray, List.getElem_cons_zero, List.getElem_cons_succ, List.setIfInBounds_toArray, List.set_cons_zero, List.set_cons_succ]
    refine wpAnyH_take (i := 14) (v := (.agg #[.string s, .slice A7 im.length c7, .slice A8 dc.length c8, .slice A9 fn.length c9])) rfl (by kernel_rfl) (by kernel_rfl) (by kernel_rfl) (fun _ _ _ h => h) (Or.inl ⟨by kernel_rfl, fun w' hS => by (have yb := (HK3.out.bel2 hS); have yc0 := yb.cell 0; have yc1 := yb.cell 1; have yc2 := yb.cell 2; have yc3 := yb.cell 3; have ycl := yb.lt; unfold execOp; go_simp)⟩) hS0 ?_
    simp only [Act.put, List.getElem_toArray, List.getElem_cons_zero, List.getElem_cons_succ, List.setIfInBounds_toArray, List.set_cons_zero, List.set_cons_succ]
    refine wpAnyH_oneG (i := 13) (by kernel_rfl) rfl (by kernel_rfl) (op_call (args := #[(.agg #[.string s, .slice A7 im.length c7, .slice A8 dc.length c8, .slice A9 fn.length c9])]) (f := 14) (by unfold execOp; go_simp) ((HH1.out _ hS0).mono ?_))
    rintro e w8 ⟨rfl, hb7⟩
    have hS1 := hS0.trans (hb7.mono hS0.size)
    refine And.intro hS1 ?_
    simp only [Act.put, List.getElem_toArray, List.getElem_cons_zero, List.getElem_cons_succ, List.setIfInBounds_toArray, List.set_cons_zero, List.set_cons_succ]
    refine wpAnyH_oneG (i := 15) (by kernel_rfl) rfl (by kernel_rfl) (op_call (args := #[(.agg #[.string s, .slice A7 im.length c7, .slice A8 dc.length c8, .slice A9 fn.length c9])]) (f := 15) (by unfold execOp; go_simp) ((HH2.out _ hS1).mono ?_))
    rintro e w9 ⟨rfl, hb8⟩
    have hS2 := hS1.trans (hb8.mono hS1.size)
    refine And.intro hS2 ?_
    simp only [Act.put, List.getElem_toArray, List.getElem_cons_zero, List.getElem_cons_succ, List.setIfInBounds_toArray, List.set_cons_zero, List.set_cons_succ]
    refine wpAnyH_take (i := 16) (v := .bool true) rfl (by kernel_rfl) (by kernel_rfl) (by kernel_rfl) (fun _ _ _ h => h) (Or.inl ⟨by kernel_rfl, fun w' hS => by (unfold execOp; go_simp)⟩) hS2 ?_
    simp only [Act.put, List.getElem_toArray, List.getElem_cons_zero, List.getElem_cons_succ, List.setIfInBounds_toArray, List.set_cons_zero, List.set_cons_succ]
    refine wpAnyH_take (i := 17) (v := .bool true) rfl (by kernel_rfl) (by kernel_rfl) (by kernel_rfl) (fun _ _ _ h => h) (Or.inl ⟨rfl, fun w' hS => by (unfold execOp; go_simp)⟩) hS2 ?_
    simp only [Act.put, List.getElem_toArray, List.getElem_cons_zero, List.getElem_cons_succ, List.setIfInBounds_toArray, List.set_cons_zero, List.set_cons_succ]
    refine wpAnyH_take (i := 18) (v := .bool true) rfl (by kernel_rfl) (by kernel_rfl) (by kernel_rfl) (fun _ _ _ h => h) (Or.inl ⟨rfl, fun w' hS => by (unfold execOp; go_simp)⟩) hS2 ?_
    simp only [Act.put, List.getElem_toArray, List.getElem_cons_zero, List.getElem_cons_succ, List.setIfInBounds_toArray, List.set_cons_zero, List.set_cons_succ]
    refine wpAnyH_oneG (i := 19) (by kernel_rfl) rfl (by kernel_rfl) (op_call (args := #[]) (f := 10) (by unfold execOp; go_simp) ((awake_any _).mono ?_))
    rintro e w10 ⟨rfl, hb9⟩
    have hS3 := hS2.trans (hb9.mono hS2.size)
    refine And.intro hS3 ?_
    simp only [Act.put, List.getElem_toArray, List.getElem_cons_zero, List.getElem_cons_succ, List.setIfInBounds_toArray, List.set_cons_zero, List.set_cons_succ]
    refine wpAnyH_take (i := 20) (v := .bool true) rfl (by kernel_rfl) (by kernel_rfl) (by kernel_rfl) (fun _ _ _ h => h) (Or.inl ⟨rfl, fun w' hS => by (unfold execOp; go_simp)⟩) hS3 ?_
    simp only [Act.put, List.getElem_toArray, List.getElem_cons_zero, List.getElem_cons_succ, List.setIfInBounds_toArray, List.set_cons_zero, List.set_cons_succ]
    refine wpAnyH_take (i := 21) (v := .bool true) rfl (by kernel_rfl) (by kernel_rfl) (by kernel_rfl) (fun _ _ _ h => h) (Or.inl ⟨rfl, fun w' hS => by (unfold execOp; go_simp)⟩) hS3 ?_
    simp only [Act.put, List.getElem_toArray, List.getElem_cons_zero, List.getElem_cons_succ, List.setIfInBounds_toArray, List.set_cons_zero, List.set_cons_succ]
    refine wpAnyH_done (by kernel_rfl) ?_ _
    go_wp2
    go_ret
    exact ⟨rfl, HB3.out.trans (hS3.mono HB3.out.size)⟩
end Go.Proofs.Ytnkojjkijkhlbaa
