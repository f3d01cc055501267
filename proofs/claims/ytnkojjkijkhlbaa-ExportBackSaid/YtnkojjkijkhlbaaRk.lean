/-
  Bytes, read: walks.
-/
import Derived.Test.YtnkojjkijkhlbaaRh
namespace Go.Proofs.Ytnkojjkijkhlbaa
open Go.RowKit
set_option linter.unusedVariables false
set_option linter.unusedSimpArgs false

/-- What bytes are read as. -/
def decP (l : List Int) : Option Un :=
  if 262144 < l.length then none else
  match unsP l with
  | none => none
  | some a =>
    match wantR ⟨#[77, 85, 49, 10]⟩ a with
    | none => none
    | some (_, r) =>
      match unR 262145 r with
      | none => none
      | some (u, rest) => if rest.length = 0 then (if deepU u then none else some u) else none
def DecP (o : Option Un) (w : World) (e : Ending) (w' : World) : Prop :=
  Below w.heap.size w w' ∧ match o with
    | none => e = .returned (.tuple #[.agg Z4u, .int .i64 4])
    | some u => ∃ vs : List Value, e = .returned (.tuple #[.agg vs.toArray, .int .i64 0]) ∧ RUn w' (fun k => w.heap.size ≤ k) u vs
theorem DecP.bad {o : Option Un} {w w' : World} {e : Ending} (h : o = none) (hb : Below w.heap.size w w') (he : e = .returned (.tuple #[.agg Z4u, .int .i64 4])) : DecP o w e w' := by subst h; exact ⟨hb, he⟩
theorem DecP.good {o : Option Un} {w w' : World} {e : Ending} {u : Un} (h : o = some u) (hb : Below w.heap.size w w') (he : ∃ vs : List Value, e = .returned (.tuple #[.agg vs.toArray, .int .i64 0]) ∧ RUn w' (fun k => w.heap.size ≤ k) u vs) : DecP o w e w' := by subst h; exact ⟨hb, he⟩
theorem unsP_le {l a : List Int} (h : unsP l = some a) : ∃ k, a = l.take k ∧ k ≤ l.length := by
  unfold unsP at h
  split at h
  · cases h
  · split at h
    · cases h; exact ⟨_, rfl, by omega⟩
    · cases h
set_option maxRecDepth 100000 in
set_option maxHeartbeats 4000000 in
theorem dec_long (w : World) (A : Option Addr) (c : Nat) (l : List Int) (hl : 262144 < l.length) (hl2 : l.length ≤ 9000000000000000000) :
    Calls Try.prog 18 #[.slice A l.length c] w (DecP (decP l) w) := by
  have hd : decP l = none := by unfold decP; rw [if_pos hl]
  have n1 : (262144 : Int) < (l.length : Int) := by omega
  have n2 : (l.length : Int) ≤ 9000000000000000000 := by omega
  have HD := Lib.hid hd
  have hb0 : Below w.heap.size w ((w.alloc (.cells #[.string ⟨#[]⟩, .slice none 0 0, .slice none 0 0, .slice none 0 0] 26)).alloc (.cells #[.int .i64 0] 30)) := ((Below.refl _ w).alloc (Nat.le_refl _) _).alloc (by simp) _
  have HB0 := Lib.hid hb0
  clear hl hl2 hd hb0
  go_enter_defers Try.func18, Try.ntmps18
  go_wp2
  have k2 : Blk ((w.alloc (.cells #[.string ⟨#[]⟩, .slice none 0 0, .slice none 0 0, .slice none 0 0] 26)).alloc (.cells #[.int .i64 4] 30)) w.heap.size 26 Z4u := (Blk.new w 26 Z4u).alloc _
  have k3 : Blk ((w.alloc (.cells #[.string ⟨#[]⟩, .slice none 0 0, .slice none 0 0, .slice none 0 0] 26)).alloc (.cells #[.int .i64 4] 30)) (w.heap.size + 1) 30 #[.int .i64 4] := by
    have h := Blk.new (w.alloc (.cells #[.string ⟨#[]⟩, .slice none 0 0, .slice none 0 0, .slice none 0 0] 26)) 30 #[.int .i64 4]
    have e : (w.alloc (.cells #[.string ⟨#[]⟩, .slice none 0 0, .slice none 0 0, .slice none 0 0] 26)).heap.size = w.heap.size + 1 := by simp
    rw [e] at h
    exact h
  have hb4 : Below w.heap.size w ((w.alloc (.cells #[.string ⟨#[]⟩, .slice none 0 0, .slice none 0 0, .slice none 0 0] 26)).alloc (.cells #[.int .i64 4] 30)) := ((Below.refl _ w).alloc (Nat.le_refl _) _).alloc (by simp) _
  exact ⟨_, res_dec _ _ w.heap.size (w.heap.size + 1) _ _ _ _ _ rfl rfl k2 k3, DecP.bad HD.out hb4 rfl⟩
set_option maxRecDepth 100000 in
set_option maxHeartbeats 4000000 in
theorem dec_uns (w : World) (B : Nat) (A : Option Addr) (c : Nat) (l : List Int) (hs : SlB w B A l) (hB : B ≤ w.heap.size) (hc : l.length ≤ c) (hA : A = none → c = 0) (hl : l.length ≤ 262144) (ho : unsP l = none) :
    Calls Try.prog 18 #[.slice A l.length c] w (DecP (decP l) w) := by
  have hmf : ∀ (fn : Fn) (first cap : Array Value) (w : World), (Instr.makeFunc fn first cap).run Try.prog w = .ok (.func fn first cap) w := fun _ _ _ _ => rfl
  have k2 : Blk ((w.alloc (.cells #[.string ⟨#[]⟩, .slice none 0 0, .slice none 0 0, .slice none 0 0] 26)).alloc (.cells #[.int .i64 0] 30)) w.heap.size 26 Z4u := (Blk.new w 26 Z4u).alloc _
  have k3 : Blk ((w.alloc (.cells #[.string ⟨#[]⟩, .slice none 0 0, .slice none 0 0, .slice none 0 0] 26)).alloc (.cells #[.int .i64 0] 30)) (w.heap.size + 1) 30 #[.int .i64 0] := by
    have h := Blk.new (w.alloc (.cells #[.string ⟨#[]⟩, .slice none 0 0, .slice none 0 0, .slice none 0 0] 26)) 30 #[.int .i64 0]
    have e : (w.alloc (.cells #[.string ⟨#[]⟩, .slice none 0 0, .slice none 0 0, .slice none 0 0] 26)).heap.size = w.heap.size + 1 := by simp
    rw [e] at h
    exact h
  have hb0 : Below w.heap.size w ((w.alloc (.cells #[.string ⟨#[]⟩, .slice none 0 0, .slice none 0 0, .slice none 0 0] 26)).alloc (.cells #[.int .i64 0] 30)) := ((Below.refl _ w).alloc (Nat.le_refl _) _).alloc (by simp) _
  have hsz0 : ((w.alloc (.cells #[.string ⟨#[]⟩, .slice none 0 0, .slice none 0 0, .slice none 0 0] 26)).alloc (.cells #[.int .i64 0] 30)).heap.size = w.heap.size + 2 := by simp
  have hcl : decP l = (match unsP l with
  | none => none
  | some a =>
    match wantR ⟨#[77, 85, 49, 10]⟩ a with
    | none => none
    | some (_, r) =>
      match unR 262145 r with
      | none => none
      | some (u, rest) => if rest.length = 0 then (if deepU u then none else some u) else none) := by unfold decP; rw [if_neg (by omega)]
  have n1 : (l.length : Int) ≤ 262144 := by omega
  have K2 := Lib.hid k2
  have K3 := Lib.hid k3
  have HB0 := Lib.hid hb0
  have HZ0 := Lib.hid hsz0
  have HU := Lib.hid (uns_any ((w.alloc (.cells #[.string ⟨#[]⟩, .slice none 0 0, .slice none 0 0, .slice none 0 0] 26)).alloc (.cells #[.int .i64 0] 30)) w.heap.size A c l ⟨hs.1, (hs.2.below (hb0.mono hB)).more hB⟩ (by rw [hsz0]; omega) hc hA hl)
  rw [ho] at HU hcl
  have HO := Lib.hid hcl
  clear hs hB hc hA hl ho k2 k3 hb0 hsz0 hcl
  go_enter_defers Try.func18, Try.ntmps18
  go_wp2_with (go_at_call 31; ((with_reducible refine HU.out.mono ?_); rintro e w1 ⟨hb1, rfl⟩); refine leave_gave _ w.heap.size (w.heap.size + 1) 0 _ _ _ _ w1 w.heap.size rfl rfl (K2.out.bel2 hb1) (K3.out.bel2 hb1) (Nat.le_refl _) (by omega) fun w' hb => DecP.bad HO.out ((HB0.out.trans (hb1.mono (by rw [HZ0.out]; omega))).trans hb) rfl)
set_option maxRecDepth 100000 in
set_option maxHeartbeats 4000000 in
theorem dec_want (w : World) (B : Nat) (A : Option Addr) (c : Nat) (l : List Int) (hs : SlB w B A l) (hB : B ≤ w.heap.size) (hc : l.length ≤ c) (hA : A = none → c = 0) (hl : l.length ≤ 262144) {a : List Int} (ho : unsP l = some a) (hw : wantR ⟨#[77, 85, 49, 10]⟩ a = none) :
    Calls Try.prog 18 #[.slice A l.length c] w (DecP (decP l) w) := by
  have hmf : ∀ (fn : Fn) (first cap : Array Value) (w : World), (Instr.makeFunc fn first cap).run Try.prog w = .ok (.func fn first cap) w := fun _ _ _ _ => rfl
  have k2 : Blk ((w.alloc (.cells #[.string ⟨#[]⟩, .slice none 0 0, .slice none 0 0, .slice none 0 0] 26)).alloc (.cells #[.int .i64 0] 30)) w.heap.size 26 Z4u := (Blk.new w 26 Z4u).alloc _
  have k3 : Blk ((w.alloc (.cells #[.string ⟨#[]⟩, .slice none 0 0, .slice none 0 0, .slice none 0 0] 26)).alloc (.cells #[.int .i64 0] 30)) (w.heap.size + 1) 30 #[.int .i64 0] := by
    have h := Blk.new (w.alloc (.cells #[.string ⟨#[]⟩, .slice none 0 0, .slice none 0 0, .slice none 0 0] 26)) 30 #[.int .i64 0]
    have e : (w.alloc (.cells #[.string ⟨#[]⟩, .slice none 0 0, .slice none 0 0, .slice none 0 0] 26)).heap.size = w.heap.size + 1 := by simp
    rw [e] at h
    exact h
  have hb0 : Below w.heap.size w ((w.alloc (.cells #[.string ⟨#[]⟩, .slice none 0 0, .slice none 0 0, .slice none 0 0] 26)).alloc (.cells #[.int .i64 0] 30)) := ((Below.refl _ w).alloc (Nat.le_refl _) _).alloc (by simp) _
  have hsz0 : ((w.alloc (.cells #[.string ⟨#[]⟩, .slice none 0 0, .slice none 0 0, .slice none 0 0] 26)).alloc (.cells #[.int .i64 0] 30)).heap.size = w.heap.size + 2 := by simp
  have hcl : decP l = (match unsP l with
  | none => none
  | some a =>
    match wantR ⟨#[77, 85, 49, 10]⟩ a with
    | none => none
    | some (_, r) =>
      match unR 262145 r with
      | none => none
      | some (u, rest) => if rest.length = 0 then (if deepU u then none else some u) else none) := by unfold decP; rw [if_neg (by omega)]
  have n1 : (l.length : Int) ≤ 262144 := by omega
  have K2 := Lib.hid k2
  have K3 := Lib.hid k3
  have HB0 := Lib.hid hb0
  have HZ0 := Lib.hid hsz0
  obtain ⟨k, hak, hkl⟩ := unsP_le ho
  have hal : a.length ≤ l.length := by rw [hak, List.length_take]; omega
  have HU := Lib.hid (uns_any ((w.alloc (.cells #[.string ⟨#[]⟩, .slice none 0 0, .slice none 0 0, .slice none 0 0] 26)).alloc (.cells #[.int .i64 0] 30)) w.heap.size A c l ⟨hs.1, (hs.2.below (hb0.mono hB)).more hB⟩ (by rw [hsz0]; omega) hc hA hl)
  have HR0 := Lib.hid (fun w1 (hb1 : Below ((w.alloc (.cells #[.string ⟨#[]⟩, .slice none 0 0, .slice none 0 0, .slice none 0 0] 26)).alloc (.cells #[.int .i64 0] 30)).heap.size ((w.alloc (.cells #[.string ⟨#[]⟩, .slice none 0 0, .slice none 0 0, .slice none 0 0] 26)).alloc (.cells #[.int .i64 0] 30)) w1) => (show Rdr (w1.alloc (.cells #[.slice A a.length c] 69)) w.heap.size w1.heap.size A c a from
    ⟨Blk.new _ _ _, by rw [hak]; exact SlB.take_ ⟨hs.1, (hs.2.below (((hb0.mono hB).trans (hb1.mono (by rw [hsz0]; omega))).alloc (Nat.le_trans hB (by have := hb1.size; rw [hsz0] at this; omega)) _)).more hB⟩ k hkl, by omega, hA, by omega, by have := hb1.size; rw [hsz0] at this; omega⟩))
  have HAL := Lib.hid hal
  rw [ho] at HU hcl
  simp only [hw] at hcl
  have HW := Lib.hid hw
  have HO := Lib.hid hcl
  clear hs hB hc hA hl ho k2 k3 hb0 hsz0 hcl hak hkl hal hw
  go_enter_defers Try.func18, Try.ntmps18
  go_wp2_with (first
    | (go_at_call 32; ((with_reducible refine (want_any _ _ w.heap.size w1.heap.size A c a HR1.out (by decide)).mono ?_); rintro e w2 h2); obtain ⟨rfl, hg⟩ := (RdP.bad HW.out).1 h2; have KU2 := Lib.hid (Gr.blk hg KU1.out (show w.heap.size ≠ w1.heap.size by have := HZ1.out; omega)); have KE2 := Lib.hid (Gr.blk hg KE1.out (show w.heap.size + 1 ≠ w1.heap.size by have := HZ1.out; omega)); have HB2 := Lib.hid (HB1.out.trans (Gr.belowN hg HB1.out.size (by intro q h1 h2; have h2 : q = w1.heap.size := h2; have := HZ1.out; omega))); refine leave_gave _ w.heap.size (w.heap.size + 1) 0 _ _ _ _ w2 w.heap.size rfl rfl KU2.out KE2.out (Nat.le_refl _) (by omega) fun w' hb => DecP.bad HO.out (HB2.out.trans hb) rfl)
    | (go_at_call 31; ((with_reducible refine HU.out.mono ?_); rintro e w1 ⟨hb1, rfl⟩); have HR1 := Lib.hid (HR0.out w1 hb1); have HB1 := Lib.hid ((HB0.out.trans (hb1.mono (by rw [HZ0.out]; omega))).alloc (show w.heap.size ≤ w1.heap.size by have := hb1.size; rw [HZ0.out] at this; omega) (.cells #[.slice A a.length c] 69)); have KU1 := Lib.hid ((K2.out.bel2 hb1).alloc (.cells #[.slice A a.length c] 69)); have KE1 := Lib.hid ((K3.out.bel2 hb1).alloc (.cells #[.slice A a.length c] 69)); have HZ1 := Lib.hid (show w.heap.size + 2 ≤ w1.heap.size by have := hb1.size; rw [HZ0.out] at this; omega); clear hb1))
set_option maxRecDepth 100000 in
set_option maxHeartbeats 4000000 in
theorem dec_unit (w : World) (B : Nat) (A : Option Addr) (c : Nat) (l : List Int) (hs : SlB w B A l) (hB : B ≤ w.heap.size) (hc : l.length ≤ c) (hA : A = none → c = 0) (hl : l.length ≤ 262144) {a r : List Int} (ho : unsP l = some a) (hw : wantR ⟨#[77, 85, 49, 10]⟩ a = some ((), r)) (hn : unR 262145 r = none) :
    Calls Try.prog 18 #[.slice A l.length c] w (DecP (decP l) w) := by
  have hmf : ∀ (fn : Fn) (first cap : Array Value) (w : World), (Instr.makeFunc fn first cap).run Try.prog w = .ok (.func fn first cap) w := fun _ _ _ _ => rfl
  have k2 : Blk ((w.alloc (.cells #[.string ⟨#[]⟩, .slice none 0 0, .slice none 0 0, .slice none 0 0] 26)).alloc (.cells #[.int .i64 0] 30)) w.heap.size 26 Z4u := (Blk.new w 26 Z4u).alloc _
  have k3 : Blk ((w.alloc (.cells #[.string ⟨#[]⟩, .slice none 0 0, .slice none 0 0, .slice none 0 0] 26)).alloc (.cells #[.int .i64 0] 30)) (w.heap.size + 1) 30 #[.int .i64 0] := by
    have h := Blk.new (w.alloc (.cells #[.string ⟨#[]⟩, .slice none 0 0, .slice none 0 0, .slice none 0 0] 26)) 30 #[.int .i64 0]
    have e : (w.alloc (.cells #[.string ⟨#[]⟩, .slice none 0 0, .slice none 0 0, .slice none 0 0] 26)).heap.size = w.heap.size + 1 := by simp
    rw [e] at h
    exact h
  have hb0 : Below w.heap.size w ((w.alloc (.cells #[.string ⟨#[]⟩, .slice none 0 0, .slice none 0 0, .slice none 0 0] 26)).alloc (.cells #[.int .i64 0] 30)) := ((Below.refl _ w).alloc (Nat.le_refl _) _).alloc (by simp) _
  have hsz0 : ((w.alloc (.cells #[.string ⟨#[]⟩, .slice none 0 0, .slice none 0 0, .slice none 0 0] 26)).alloc (.cells #[.int .i64 0] 30)).heap.size = w.heap.size + 2 := by simp
  have hcl : decP l = (match unsP l with
  | none => none
  | some a =>
    match wantR ⟨#[77, 85, 49, 10]⟩ a with
    | none => none
    | some (_, r) =>
      match unR 262145 r with
      | none => none
      | some (u, rest) => if rest.length = 0 then (if deepU u then none else some u) else none) := by unfold decP; rw [if_neg (by omega)]
  have n1 : (l.length : Int) ≤ 262144 := by omega
  have K2 := Lib.hid k2
  have K3 := Lib.hid k3
  have HB0 := Lib.hid hb0
  have HZ0 := Lib.hid hsz0
  obtain ⟨k, hak, hkl⟩ := unsP_le ho
  have hal : a.length ≤ l.length := by rw [hak, List.length_take]; omega
  have HU := Lib.hid (uns_any ((w.alloc (.cells #[.string ⟨#[]⟩, .slice none 0 0, .slice none 0 0, .slice none 0 0] 26)).alloc (.cells #[.int .i64 0] 30)) w.heap.size A c l ⟨hs.1, (hs.2.below (hb0.mono hB)).more hB⟩ (by rw [hsz0]; omega) hc hA hl)
  have HR0 := Lib.hid (fun w1 (hb1 : Below ((w.alloc (.cells #[.string ⟨#[]⟩, .slice none 0 0, .slice none 0 0, .slice none 0 0] 26)).alloc (.cells #[.int .i64 0] 30)).heap.size ((w.alloc (.cells #[.string ⟨#[]⟩, .slice none 0 0, .slice none 0 0, .slice none 0 0] 26)).alloc (.cells #[.int .i64 0] 30)) w1) => (show Rdr (w1.alloc (.cells #[.slice A a.length c] 69)) w.heap.size w1.heap.size A c a from
    ⟨Blk.new _ _ _, by rw [hak]; exact SlB.take_ ⟨hs.1, (hs.2.below (((hb0.mono hB).trans (hb1.mono (by rw [hsz0]; omega))).alloc (Nat.le_trans hB (by have := hb1.size; rw [hsz0] at this; omega)) _)).more hB⟩ k hkl, by omega, hA, by omega, by have := hb1.size; rw [hsz0] at this; omega⟩))
  have HAL := Lib.hid hal
  rw [ho] at HU hcl
  simp only [hw, hn] at hcl
  have HW := Lib.hid hw
  have HN := Lib.hid hn
  have HO := Lib.hid hcl
  clear hs hB hc hA hl ho k2 k3 hb0 hsz0 hcl hak hkl hal hw hn
  go_enter_defers Try.func18, Try.ntmps18
  go_wp2_with (first
    | (go_at_call 33; ((with_reducible refine (run_any 262145 w2 w.heap.size w1.heap.size A2 c2 r HR2.out (by have := HR2.out.len; omega)).mono ?_); rintro e w3 h2); obtain ⟨rfl, hg⟩ := (RdP.bad HN.out).1 h2; have KU3 := Lib.hid (Gr.blk hg KU2.out (show w.heap.size ≠ w1.heap.size by have := HZ1.out; omega)); have KE3 := Lib.hid (Gr.blk hg KE2.out (show w.heap.size + 1 ≠ w1.heap.size by have := HZ1.out; omega)); have HB3 := Lib.hid (HB2.out.trans (Gr.belowN hg HB2.out.size (by intro q h1 h2; have h2 : q = w1.heap.size := h2; have := HZ1.out; omega))); refine leave_gave _ w.heap.size (w.heap.size + 1) 0 _ _ _ _ w3 w.heap.size rfl rfl KU3.out KE3.out (Nat.le_refl _) (by omega) fun w' hb => DecP.bad HO.out (HB3.out.trans hb) rfl)
    | (go_at_call 32; ((with_reducible refine (want_any _ _ w.heap.size w1.heap.size A c a HR1.out (by decide)).mono ?_); rintro e w2 h2); obtain ⟨v, A2, c2, rfl, h2v, hr2, hg⟩ := (RdP.good HW.out).1 h2; obtain rfl := (show _ = _ from h2v); have HR2 := Lib.hid hr2; have KU2 := Lib.hid (Gr.blk hg KU1.out (show w.heap.size ≠ w1.heap.size by have := HZ1.out; omega)); have KE2 := Lib.hid (Gr.blk hg KE1.out (show w.heap.size + 1 ≠ w1.heap.size by have := HZ1.out; omega)); have HB2 := Lib.hid (HB1.out.trans (Gr.belowN hg HB1.out.size (by intro q h1 h2; have h2 : q = w1.heap.size := h2; have := HZ1.out; omega))); clear h2 hr2 hg)
    | (go_at_call 31; ((with_reducible refine HU.out.mono ?_); rintro e w1 ⟨hb1, rfl⟩); have HR1 := Lib.hid (HR0.out w1 hb1); have HB1 := Lib.hid ((HB0.out.trans (hb1.mono (by rw [HZ0.out]; omega))).alloc (show w.heap.size ≤ w1.heap.size by have := hb1.size; rw [HZ0.out] at this; omega) (.cells #[.slice A a.length c] 69)); have KU1 := Lib.hid ((K2.out.bel2 hb1).alloc (.cells #[.slice A a.length c] 69)); have KE1 := Lib.hid ((K3.out.bel2 hb1).alloc (.cells #[.slice A a.length c] 69)); have HZ1 := Lib.hid (show w.heap.size + 2 ≤ w1.heap.size by have := hb1.size; rw [HZ0.out] at this; omega); clear hb1))
theorem keep4 {w : World} {g b : Nat} (x0 x1 x2 x3 : Value) (h : g ≠ b) : ((((w.setCell ⟨b, 0, none⟩ x0).setCell ⟨b, 1, none⟩ x1).setCell ⟨b, 2, none⟩ x2).setCell ⟨b, 3, none⟩ x3).heap[g]? = w.heap[g]? :=
  (Below.heap_setCell _ ⟨b, 3, none⟩ _ g h).trans ((Below.heap_setCell _ ⟨b, 2, none⟩ _ g h).trans ((Below.heap_setCell _ ⟨b, 1, none⟩ _ g h).trans (Below.heap_setCell _ ⟨b, 0, none⟩ _ g h)))
theorem Blk.far4 {w : World} {g b : Nat} {t : TypeId} {cs : Array Value} (x0 x1 x2 x3 : Value) (hk : Blk w g t cs) (h : g ≠ b) : Blk ((((w.setCell ⟨b, 0, none⟩ x0).setCell ⟨b, 1, none⟩ x1).setCell ⟨b, 2, none⟩ x2).setCell ⟨b, 3, none⟩ x3) g t cs := (keep4 x0 x1 x2 x3 h).trans hk
theorem below4 {w w' : World} {b : Nat} (x0 x1 x2 x3 : Value) (hb : Below b w w') : Below b w ((((w'.setCell ⟨b, 0, none⟩ x0).setCell ⟨b, 1, none⟩ x1).setCell ⟨b, 2, none⟩ x2).setCell ⟨b, 3, none⟩ x3) :=
  (((hb.setCell (Nat.le_refl b) _).setCell (Nat.le_refl b) _).setCell (Nat.le_refl b) _).setCell (Nat.le_refl b) _
theorem size4 {w : World} {b : Nat} (x0 x1 x2 x3 : Value) : ((((w.setCell ⟨b, 0, none⟩ x0).setCell ⟨b, 1, none⟩ x1).setCell ⟨b, 2, none⟩ x2).setCell ⟨b, 3, none⟩ x3).heap.size = w.heap.size := by simp
theorem RUn.keep4 {w : World} {b lo : Nat} {u : Un} {vs : List Value} (x0 x1 x2 x3 : Value) (h : RUn w (fun k => lo ≤ k) u vs) (hb : b < lo) : RUn ((((w.setCell ⟨b, 0, none⟩ x0).setCell ⟨b, 1, none⟩ x1).setCell ⟨b, 2, none⟩ x2).setCell ⟨b, 3, none⟩ x3) (fun k => lo ≤ k) u vs :=
  RUn_keeps _ _ _ _ _ _ (fun g hg _ => Go.Proofs.Ytnkojjkijkhlbaa.keep4 x0 x1 x2 x3 (by have hg : lo ≤ g := hg; omega)) (by rw [size4]; exact Nat.le_refl _) (fun _ _ h => h) h
theorem RUn.slim {w : World} {lo : Nat} {u : Un} {vs : List Value} (h : RUn w (fun k => lo ≤ k) u vs) : RUn w (fun k => lo ≤ k ∧ k < w.heap.size) u vs :=
  RUn_keeps _ _ _ _ _ _ (fun g _ _ => rfl) (Nat.le_refl _) (fun g h1 h2 => ⟨h2, h1⟩) h
theorem want_rest {T : ByteArray} {a r : List Int} (h : wantR T a = some ((), r)) : a.take T.size = sB T ∧ r = a.drop T.size := by
  unfold wantR at h
  split at h
  · cases h; exact ⟨by assumption, rfl⟩
  · cases h
theorem Byt.take {l : List Int} (h : Byt l) (k : Nat) : Byt (l.take k) := fun c hc => h c (List.mem_of_mem_take hc)
theorem Byt.drop {l : List Int} (h : Byt l) (k : Nat) : Byt (l.drop k) := fun c hc => h c (List.mem_of_mem_drop hc)
set_option maxRecDepth 100000 in
set_option maxHeartbeats 4000000 in
theorem dec_end (w : World) (B : Nat) (A : Option Addr) (c : Nat) (l : List Int) (hs : SlB w B A l) (hB : B ≤ w.heap.size) (hc : l.length ≤ c) (hA : A = none → c = 0) (hl : l.length ≤ 262144) {a r rest : List Int} {u : Un} (ho : unsP l = some a) (hw : wantR ⟨#[77, 85, 49, 10]⟩ a = some ((), r)) (hn : unR 262145 r = some (u, rest)) (hr : rest.length ≠ 0) :
    Calls Try.prog 18 #[.slice A l.length c] w (DecP (decP l) w) := by
  have hmf : ∀ (fn : Fn) (first cap : Array Value) (w : World), (Instr.makeFunc fn first cap).run Try.prog w = .ok (.func fn first cap) w := fun _ _ _ _ => rfl
  have k2 : Blk ((w.alloc (.cells #[.string ⟨#[]⟩, .slice none 0 0, .slice none 0 0, .slice none 0 0] 26)).alloc (.cells #[.int .i64 0] 30)) w.heap.size 26 Z4u := (Blk.new w 26 Z4u).alloc _
  have k3 : Blk ((w.alloc (.cells #[.string ⟨#[]⟩, .slice none 0 0, .slice none 0 0, .slice none 0 0] 26)).alloc (.cells #[.int .i64 0] 30)) (w.heap.size + 1) 30 #[.int .i64 0] := by
    have h := Blk.new (w.alloc (.cells #[.string ⟨#[]⟩, .slice none 0 0, .slice none 0 0, .slice none 0 0] 26)) 30 #[.int .i64 0]
    have e : (w.alloc (.cells #[.string ⟨#[]⟩, .slice none 0 0, .slice none 0 0, .slice none 0 0] 26)).heap.size = w.heap.size + 1 := by simp
    rw [e] at h
    exact h
  have hb0 : Below w.heap.size w ((w.alloc (.cells #[.string ⟨#[]⟩, .slice none 0 0, .slice none 0 0, .slice none 0 0] 26)).alloc (.cells #[.int .i64 0] 30)) := ((Below.refl _ w).alloc (Nat.le_refl _) _).alloc (by simp) _
  have hsz0 : ((w.alloc (.cells #[.string ⟨#[]⟩, .slice none 0 0, .slice none 0 0, .slice none 0 0] 26)).alloc (.cells #[.int .i64 0] 30)).heap.size = w.heap.size + 2 := by simp
  have hcl : decP l = (match unsP l with
  | none => none
  | some a =>
    match wantR ⟨#[77, 85, 49, 10]⟩ a with
    | none => none
    | some (_, r) =>
      match unR 262145 r with
      | none => none
      | some (u, rest) => if rest.length = 0 then (if deepU u then none else some u) else none) := by unfold decP; rw [if_neg (by omega)]
  have n1 : (l.length : Int) ≤ 262144 := by omega
  have K2 := Lib.hid k2
  have K3 := Lib.hid k3
  have HB0 := Lib.hid hb0
  have HZ0 := Lib.hid hsz0
  obtain ⟨k, hak, hkl⟩ := unsP_le ho
  have hal : a.length ≤ l.length := by rw [hak, List.length_take]; omega
  have HU := Lib.hid (uns_any ((w.alloc (.cells #[.string ⟨#[]⟩, .slice none 0 0, .slice none 0 0, .slice none 0 0] 26)).alloc (.cells #[.int .i64 0] 30)) w.heap.size A c l ⟨hs.1, (hs.2.below (hb0.mono hB)).more hB⟩ (by rw [hsz0]; omega) hc hA hl)
  have HR0 := Lib.hid (fun w1 (hb1 : Below ((w.alloc (.cells #[.string ⟨#[]⟩, .slice none 0 0, .slice none 0 0, .slice none 0 0] 26)).alloc (.cells #[.int .i64 0] 30)).heap.size ((w.alloc (.cells #[.string ⟨#[]⟩, .slice none 0 0, .slice none 0 0, .slice none 0 0] 26)).alloc (.cells #[.int .i64 0] 30)) w1) => (show Rdr (w1.alloc (.cells #[.slice A a.length c] 69)) w.heap.size w1.heap.size A c a from
    ⟨Blk.new _ _ _, by rw [hak]; exact SlB.take_ ⟨hs.1, (hs.2.below (((hb0.mono hB).trans (hb1.mono (by rw [hsz0]; omega))).alloc (Nat.le_trans hB (by have := hb1.size; rw [hsz0] at this; omega)) _)).more hB⟩ k hkl, by omega, hA, by omega, by have := hb1.size; rw [hsz0] at this; omega⟩))
  have HAL := Lib.hid hal
  have hbr : Byt r := by rw [(want_rest hw).2, hak]; exact Byt.drop (Byt.take hs.1 k) _
  have hrl : r.length ≤ a.length := by rw [(want_rest hw).2, List.length_drop]; omega
  have hru := (unR_bwd 262145 _ _ _ hbr hn).1
  have hul : (encU u).length ≤ 262144 := by have := congrArg List.length hru; rw [List.length_append] at this; omega
  have HUK := Lib.hid (szU 140737488355328 u (by omega))
  have HUL := Lib.hid hul
  rw [ho] at HU hcl
  simp only [hw, hn] at hcl
  rw [if_neg hr] at hcl
  have HX := Lib.hid (show (if rest.length = 0 then Ending.returned (.tuple #[]) else (Ending.panicked [{ v := .iface 30 (.int .i64 4), recovered := false }])) = (Ending.panicked [{ v := .iface 30 (.int .i64 4), recovered := false }]) from if_neg hr)
  have HW := Lib.hid hw
  have HN := Lib.hid hn
  have HO := Lib.hid hcl
  clear hs hB hc hA hl ho k2 k3 hb0 hsz0 hcl hak hkl hal hw hn hbr hrl hru hul hr
  go_enter_defers Try.func18, Try.ntmps18
  go_wp2_with (first
    | (go_at_call 34; ((with_reducible refine HE4.out.mono ?_); rintro e w4 ⟨h9, hku4, hke4, hb4, hr4⟩); rw [HX.out] at h9; subst h9; refine leave_gave _ w.heap.size (w.heap.size + 1) 0 _ _ _ _ w4 w.heap.size rfl rfl hku4 hke4 (Nat.le_refl _) (by omega) fun w' hb => DecP.bad HO.out (hb4.trans hb) rfl)
    | (go_at_call 33; ((with_reducible refine (run_any 262145 w2 w.heap.size w1.heap.size A2 c2 r HR2.out (by have := HR2.out.len; omega)).mono ?_); rintro e w3 h2); obtain ⟨v, A3, c3, rfl, ⟨vs, rfl, hs3⟩, hr3, hg⟩ := (RdP.good HN.out).1 h2; have hs4 := RUn_keeps _ _ _ (fun k => w.heap.size + 2 ≤ k) _ _ (fun g _ _ => rfl) (Nat.le_refl _) (fun g _ h => (show w.heap.size + 2 ≤ g from by have h : w2.heap.size ≤ g := h; have := KE2.out.lt; omega)) hs3; clear hs3; obtain ⟨A5, c5, A6, c6, A7, c7, rfl, hs5⟩ := id hs4; clear hs5; have HS3 := Lib.hid hs4; clear hs4; have HR3 := Lib.hid hr3; have KU3 := Lib.hid (Gr.blk hg KU2.out (show w.heap.size ≠ w1.heap.size by have := HZ1.out; omega)); have KE3 := Lib.hid (Gr.blk hg KE2.out (show w.heap.size + 1 ≠ w1.heap.size by have := HZ1.out; omega)); have HB3 := Lib.hid (HB2.out.trans (Gr.belowN hg HB2.out.size (by intro q h1 h2; have h2 : q = w1.heap.size := h2; have := HZ1.out; omega))); have HE4 := Lib.hid ((end_any ((((w3.setCell ⟨w.heap.size, 0, none⟩ (.string u.pkg)).setCell ⟨w.heap.size, 1, none⟩ (.slice A5 u.imps.length c5)).setCell ⟨w.heap.size, 2, none⟩ (.slice A6 u.decls.length c6)).setCell ⟨w.heap.size, 3, none⟩ (.slice A7 u.funs.length c7)) w1.heap.size A3 c3 rest.length (Blk.far4 _ _ _ _ HR3.out.blk (by have := HZ1.out; omega)) HR3.out.len).mono (fun e w' (h9 : ((((w3.setCell ⟨w.heap.size, 0, none⟩ (.string u.pkg)).setCell ⟨w.heap.size, 1, none⟩ (.slice A5 u.imps.length c5)).setCell ⟨w.heap.size, 2, none⟩ (.slice A6 u.decls.length c6)).setCell ⟨w.heap.size, 3, none⟩ (.slice A7 u.funs.length c7)) = w' ∧ e = if rest.length = 0 then .returned (.tuple #[]) else (Ending.panicked [{ v := .iface 30 (.int .i64 4), recovered := false }])) => (show (e = if rest.length = 0 then .returned (.tuple #[]) else (Ending.panicked [{ v := .iface 30 (.int .i64 4), recovered := false }])) ∧ Blk w' w.heap.size 26 #[.string u.pkg, .slice A5 u.imps.length c5, .slice A6 u.decls.length c6, .slice A7 u.funs.length c7] ∧ Blk w' (w.heap.size + 1) 30 #[.int .i64 0] ∧ Below w.heap.size w w' ∧ RUn w' (fun k => w.heap.size + 2 ≤ k) u [.string u.pkg, .slice A5 u.imps.length c5, .slice A6 u.decls.length c6, .slice A7 u.funs.length c7] from by (obtain ⟨h8, h7⟩ := h9; subst h8; exact ⟨h7, KU3.out.four _ _ _ _, Blk.far4 _ _ _ _ KE3.out (by omega), below4 _ _ _ _ HB3.out, RUn.keep4 _ _ _ _ HS3.out (by omega)⟩)))); have y0 : w3.cell? ⟨w.heap.size, 0, none⟩ = some (.string ⟨#[]⟩) := KU3.out.cell 0; have y1 : w3.cell? ⟨w.heap.size, 1, none⟩ = some (.slice none 0 0) := KU3.out.cell 1; have y2 : w3.cell? ⟨w.heap.size, 2, none⟩ = some (.slice none 0 0) := KU3.out.cell 2; have y3 : w3.cell? ⟨w.heap.size, 3, none⟩ = some (.slice none 0 0) := KU3.out.cell 3; have yf := KU3.out.frozen; have yl := KU3.out.lt; clear h2 hr3 hg)
    | (go_at_call 32; ((with_reducible refine (want_any _ _ w.heap.size w1.heap.size A c a HR1.out (by decide)).mono ?_); rintro e w2 h2); obtain ⟨v, A2, c2, rfl, h2v, hr2, hg⟩ := (RdP.good HW.out).1 h2; obtain rfl := (show _ = _ from h2v); have HR2 := Lib.hid hr2; have KU2 := Lib.hid (Gr.blk hg KU1.out (show w.heap.size ≠ w1.heap.size by have := HZ1.out; omega)); have KE2 := Lib.hid (Gr.blk hg KE1.out (show w.heap.size + 1 ≠ w1.heap.size by have := HZ1.out; omega)); have HB2 := Lib.hid (HB1.out.trans (Gr.belowN hg HB1.out.size (by intro q h1 h2; have h2 : q = w1.heap.size := h2; have := HZ1.out; omega))); clear h2 hr2 hg)
    | (go_at_call 31; ((with_reducible refine HU.out.mono ?_); rintro e w1 ⟨hb1, rfl⟩); have HR1 := Lib.hid (HR0.out w1 hb1); have HB1 := Lib.hid ((HB0.out.trans (hb1.mono (by rw [HZ0.out]; omega))).alloc (show w.heap.size ≤ w1.heap.size by have := hb1.size; rw [HZ0.out] at this; omega) (.cells #[.slice A a.length c] 69)); have KU1 := Lib.hid ((K2.out.bel2 hb1).alloc (.cells #[.slice A a.length c] 69)); have KE1 := Lib.hid ((K3.out.bel2 hb1).alloc (.cells #[.slice A a.length c] 69)); have HZ1 := Lib.hid (show w.heap.size + 2 ≤ w1.heap.size by have := hb1.size; rw [HZ0.out] at this; omega); clear hb1))
set_option maxRecDepth 100000 in
set_option maxHeartbeats 4000000 in
theorem dec_deep (w : World) (B : Nat) (A : Option Addr) (c : Nat) (l : List Int) (hs : SlB w B A l) (hB : B ≤ w.heap.size) (hc : l.length ≤ c) (hA : A = none → c = 0) (hl : l.length ≤ 262144) {a r rest : List Int} {u : Un} (ho : unsP l = some a) (hw : wantR ⟨#[77, 85, 49, 10]⟩ a = some ((), r)) (hn : unR 262145 r = some (u, rest)) (hr : rest.length = 0) (hd : deepU u = true) :
    Calls Try.prog 18 #[.slice A l.length c] w (DecP (decP l) w) := by
  have hmf : ∀ (fn : Fn) (first cap : Array Value) (w : World), (Instr.makeFunc fn first cap).run Try.prog w = .ok (.func fn first cap) w := fun _ _ _ _ => rfl
  have k2 : Blk ((w.alloc (.cells #[.string ⟨#[]⟩, .slice none 0 0, .slice none 0 0, .slice none 0 0] 26)).alloc (.cells #[.int .i64 0] 30)) w.heap.size 26 Z4u := (Blk.new w 26 Z4u).alloc _
  have k3 : Blk ((w.alloc (.cells #[.string ⟨#[]⟩, .slice none 0 0, .slice none 0 0, .slice none 0 0] 26)).alloc (.cells #[.int .i64 0] 30)) (w.heap.size + 1) 30 #[.int .i64 0] := by
    have h := Blk.new (w.alloc (.cells #[.string ⟨#[]⟩, .slice none 0 0, .slice none 0 0, .slice none 0 0] 26)) 30 #[.int .i64 0]
    have e : (w.alloc (.cells #[.string ⟨#[]⟩, .slice none 0 0, .slice none 0 0, .slice none 0 0] 26)).heap.size = w.heap.size + 1 := by simp
    rw [e] at h
    exact h
  have hb0 : Below w.heap.size w ((w.alloc (.cells #[.string ⟨#[]⟩, .slice none 0 0, .slice none 0 0, .slice none 0 0] 26)).alloc (.cells #[.int .i64 0] 30)) := ((Below.refl _ w).alloc (Nat.le_refl _) _).alloc (by simp) _
  have hsz0 : ((w.alloc (.cells #[.string ⟨#[]⟩, .slice none 0 0, .slice none 0 0, .slice none 0 0] 26)).alloc (.cells #[.int .i64 0] 30)).heap.size = w.heap.size + 2 := by simp
  have hcl : decP l = (match unsP l with
  | none => none
  | some a =>
    match wantR ⟨#[77, 85, 49, 10]⟩ a with
    | none => none
    | some (_, r) =>
      match unR 262145 r with
      | none => none
      | some (u, rest) => if rest.length = 0 then (if deepU u then none else some u) else none) := by unfold decP; rw [if_neg (by omega)]
  have n1 : (l.length : Int) ≤ 262144 := by omega
  have K2 := Lib.hid k2
  have K3 := Lib.hid k3
  have HB0 := Lib.hid hb0
  have HZ0 := Lib.hid hsz0
  obtain ⟨k, hak, hkl⟩ := unsP_le ho
  have hal : a.length ≤ l.length := by rw [hak, List.length_take]; omega
  have HU := Lib.hid (uns_any ((w.alloc (.cells #[.string ⟨#[]⟩, .slice none 0 0, .slice none 0 0, .slice none 0 0] 26)).alloc (.cells #[.int .i64 0] 30)) w.heap.size A c l ⟨hs.1, (hs.2.below (hb0.mono hB)).more hB⟩ (by rw [hsz0]; omega) hc hA hl)
  have HR0 := Lib.hid (fun w1 (hb1 : Below ((w.alloc (.cells #[.string ⟨#[]⟩, .slice none 0 0, .slice none 0 0, .slice none 0 0] 26)).alloc (.cells #[.int .i64 0] 30)).heap.size ((w.alloc (.cells #[.string ⟨#[]⟩, .slice none 0 0, .slice none 0 0, .slice none 0 0] 26)).alloc (.cells #[.int .i64 0] 30)) w1) => (show Rdr (w1.alloc (.cells #[.slice A a.length c] 69)) w.heap.size w1.heap.size A c a from
    ⟨Blk.new _ _ _, by rw [hak]; exact SlB.take_ ⟨hs.1, (hs.2.below (((hb0.mono hB).trans (hb1.mono (by rw [hsz0]; omega))).alloc (Nat.le_trans hB (by have := hb1.size; rw [hsz0] at this; omega)) _)).more hB⟩ k hkl, by omega, hA, by omega, by have := hb1.size; rw [hsz0] at this; omega⟩))
  have HAL := Lib.hid hal
  have hbr : Byt r := by rw [(want_rest hw).2, hak]; exact Byt.drop (Byt.take hs.1 k) _
  have hrl : r.length ≤ a.length := by rw [(want_rest hw).2, List.length_drop]; omega
  have hru := (unR_bwd 262145 _ _ _ hbr hn).1
  have hul : (encU u).length ≤ 262144 := by have := congrArg List.length hru; rw [List.length_append] at this; omega
  have HUK := Lib.hid (szU 140737488355328 u (by omega))
  have HUL := Lib.hid hul
  rw [ho] at HU hcl
  simp only [hw, hn] at hcl
  rw [if_pos hr, if_pos hd] at hcl
  have HX := Lib.hid (show (if rest.length = 0 then Ending.returned (.tuple #[]) else (Ending.panicked [{ v := .iface 30 (.int .i64 4), recovered := false }])) = Ending.returned (.tuple #[]) from if_pos hr)
  have HD := Lib.hid hd
  have HW := Lib.hid hw
  have HN := Lib.hid hn
  have HO := Lib.hid hcl
  clear hs hB hc hA hl ho k2 k3 hb0 hsz0 hcl hak hkl hal hw hn hbr hrl hru hul hr hd
  go_enter_defers Try.func18, Try.ntmps18
  go_wp2_with (first
    | (go_at_call 35; ((with_reducible refine (refuse_any _).mono ?_); rintro e w6 ⟨rfl, rfl⟩); refine leave_gave _ w.heap.size (w.heap.size + 1) 0 _ _ _ _ w5 w.heap.size rfl rfl KU5.out KE5.out (Nat.le_refl _) (by omega) fun w' hb => DecP.bad HO.out (HB5.out.trans hb) rfl)
    | (go_at_call 21; ((with_reducible refine (show Calls Try.prog 21 #[.agg #[.string u.pkg, .slice A5 u.imps.length c5, .slice A6 u.decls.length c6, .slice A7 u.funs.length c7]] w4 (TruthP w4 true) from HD.out ▸ tooDeep_any u (by have := HUK.out.1; have := HUL.out; omega) HUK.out.2 w4 _ (fun k hk => hk.2) _ HR4.out.slim).mono ?_); rintro e w5 ⟨rfl, hb5⟩); have KU5 := Lib.hid (KU4.out.bel2 hb5); have KE5 := Lib.hid (KE4.out.bel2 hb5); have HB5 := Lib.hid (HB4.out.trans (hb5.mono HB4.out.size)); have HR5 := Lib.hid (RUn_keeps.bel HR4.out hb5); have x0 : w5.cell? ⟨w.heap.size, 0, none⟩ = some (.string u.pkg) := KU5.out.cell 0; have x1 : w5.cell? ⟨w.heap.size, 1, none⟩ = some (.slice A5 u.imps.length c5) := KU5.out.cell 1; have x2 : w5.cell? ⟨w.heap.size, 2, none⟩ = some (.slice A6 u.decls.length c6) := KU5.out.cell 2; have x3 : w5.cell? ⟨w.heap.size, 3, none⟩ = some (.slice A7 u.funs.length c7) := KU5.out.cell 3; have xf := KU5.out.frozen; have xl := KU5.out.lt; have xe := KE5.out.cell 0; have xef := KE5.out.frozen; have xel := KE5.out.lt; clear hb5 z0 z1 z2 z3 zl)
    | (go_at_call 34; ((with_reducible refine HE4.out.mono ?_); rintro e w4 ⟨h9, hku4, hke4, hb4, hr4⟩); rw [HX.out] at h9; subst h9; have KU4 := Lib.hid hku4; have KE4 := Lib.hid hke4; have HB4 := Lib.hid hb4; have HR4 := Lib.hid hr4; have z0 : w4.cell? ⟨w.heap.size, 0, none⟩ = some (.string u.pkg) := hku4.cell 0; have z1 : w4.cell? ⟨w.heap.size, 1, none⟩ = some (.slice A5 u.imps.length c5) := hku4.cell 1; have z2 : w4.cell? ⟨w.heap.size, 2, none⟩ = some (.slice A6 u.decls.length c6) := hku4.cell 2; have z3 : w4.cell? ⟨w.heap.size, 3, none⟩ = some (.slice A7 u.funs.length c7) := hku4.cell 3; have zl := hku4.lt; clear hku4 hke4 hb4 hr4 y0 y1 y2 y3 yf yl)
    | (go_at_call 33; ((with_reducible refine (run_any 262145 w2 w.heap.size w1.heap.size A2 c2 r HR2.out (by have := HR2.out.len; omega)).mono ?_); rintro e w3 h2); obtain ⟨v, A3, c3, rfl, ⟨vs, rfl, hs3⟩, hr3, hg⟩ := (RdP.good HN.out).1 h2; have hs4 := RUn_keeps _ _ _ (fun k => w.heap.size + 2 ≤ k) _ _ (fun g _ _ => rfl) (Nat.le_refl _) (fun g _ h => (show w.heap.size + 2 ≤ g from by have h : w2.heap.size ≤ g := h; have := KE2.out.lt; omega)) hs3; clear hs3; obtain ⟨A5, c5, A6, c6, A7, c7, rfl, hs5⟩ := id hs4; clear hs5; have HS3 := Lib.hid hs4; clear hs4; have HR3 := Lib.hid hr3; have KU3 := Lib.hid (Gr.blk hg KU2.out (show w.heap.size ≠ w1.heap.size by have := HZ1.out; omega)); have KE3 := Lib.hid (Gr.blk hg KE2.out (show w.heap.size + 1 ≠ w1.heap.size by have := HZ1.out; omega)); have HB3 := Lib.hid (HB2.out.trans (Gr.belowN hg HB2.out.size (by intro q h1 h2; have h2 : q = w1.heap.size := h2; have := HZ1.out; omega))); have HE4 := Lib.hid ((end_any ((((w3.setCell ⟨w.heap.size, 0, none⟩ (.string u.pkg)).setCell ⟨w.heap.size, 1, none⟩ (.slice A5 u.imps.length c5)).setCell ⟨w.heap.size, 2, none⟩ (.slice A6 u.decls.length c6)).setCell ⟨w.heap.size, 3, none⟩ (.slice A7 u.funs.length c7)) w1.heap.size A3 c3 rest.length (Blk.far4 _ _ _ _ HR3.out.blk (by have := HZ1.out; omega)) HR3.out.len).mono (fun e w' (h9 : ((((w3.setCell ⟨w.heap.size, 0, none⟩ (.string u.pkg)).setCell ⟨w.heap.size, 1, none⟩ (.slice A5 u.imps.length c5)).setCell ⟨w.heap.size, 2, none⟩ (.slice A6 u.decls.length c6)).setCell ⟨w.heap.size, 3, none⟩ (.slice A7 u.funs.length c7)) = w' ∧ e = if rest.length = 0 then .returned (.tuple #[]) else (Ending.panicked [{ v := .iface 30 (.int .i64 4), recovered := false }])) => (show (e = if rest.length = 0 then .returned (.tuple #[]) else (Ending.panicked [{ v := .iface 30 (.int .i64 4), recovered := false }])) ∧ Blk w' w.heap.size 26 #[.string u.pkg, .slice A5 u.imps.length c5, .slice A6 u.decls.length c6, .slice A7 u.funs.length c7] ∧ Blk w' (w.heap.size + 1) 30 #[.int .i64 0] ∧ Below w.heap.size w w' ∧ RUn w' (fun k => w.heap.size + 2 ≤ k) u [.string u.pkg, .slice A5 u.imps.length c5, .slice A6 u.decls.length c6, .slice A7 u.funs.length c7] from by (obtain ⟨h8, h7⟩ := h9; subst h8; exact ⟨h7, KU3.out.four _ _ _ _, Blk.far4 _ _ _ _ KE3.out (by omega), below4 _ _ _ _ HB3.out, RUn.keep4 _ _ _ _ HS3.out (by omega)⟩)))); have y0 : w3.cell? ⟨w.heap.size, 0, none⟩ = some (.string ⟨#[]⟩) := KU3.out.cell 0; have y1 : w3.cell? ⟨w.heap.size, 1, none⟩ = some (.slice none 0 0) := KU3.out.cell 1; have y2 : w3.cell? ⟨w.heap.size, 2, none⟩ = some (.slice none 0 0) := KU3.out.cell 2; have y3 : w3.cell? ⟨w.heap.size, 3, none⟩ = some (.slice none 0 0) := KU3.out.cell 3; have yf := KU3.out.frozen; have yl := KU3.out.lt; clear h2 hr3 hg)
    | (go_at_call 32; ((with_reducible refine (want_any _ _ w.heap.size w1.heap.size A c a HR1.out (by decide)).mono ?_); rintro e w2 h2); obtain ⟨v, A2, c2, rfl, h2v, hr2, hg⟩ := (RdP.good HW.out).1 h2; obtain rfl := (show _ = _ from h2v); have HR2 := Lib.hid hr2; have KU2 := Lib.hid (Gr.blk hg KU1.out (show w.heap.size ≠ w1.heap.size by have := HZ1.out; omega)); have KE2 := Lib.hid (Gr.blk hg KE1.out (show w.heap.size + 1 ≠ w1.heap.size by have := HZ1.out; omega)); have HB2 := Lib.hid (HB1.out.trans (Gr.belowN hg HB1.out.size (by intro q h1 h2; have h2 : q = w1.heap.size := h2; have := HZ1.out; omega))); clear h2 hr2 hg)
    | (go_at_call 31; ((with_reducible refine HU.out.mono ?_); rintro e w1 ⟨hb1, rfl⟩); have HR1 := Lib.hid (HR0.out w1 hb1); have HB1 := Lib.hid ((HB0.out.trans (hb1.mono (by rw [HZ0.out]; omega))).alloc (show w.heap.size ≤ w1.heap.size by have := hb1.size; rw [HZ0.out] at this; omega) (.cells #[.slice A a.length c] 69)); have KU1 := Lib.hid ((K2.out.bel2 hb1).alloc (.cells #[.slice A a.length c] 69)); have KE1 := Lib.hid ((K3.out.bel2 hb1).alloc (.cells #[.slice A a.length c] 69)); have HZ1 := Lib.hid (show w.heap.size + 2 ≤ w1.heap.size by have := hb1.size; rw [HZ0.out] at this; omega); clear hb1))
set_option maxRecDepth 100000 in
set_option maxHeartbeats 4000000 in
theorem dec_ok (w : World) (B : Nat) (A : Option Addr) (c : Nat) (l : List Int) (hs : SlB w B A l) (hB : B ≤ w.heap.size) (hc : l.length ≤ c) (hA : A = none → c = 0) (hl : l.length ≤ 262144) {a r rest : List Int} {u : Un} (ho : unsP l = some a) (hw : wantR ⟨#[77, 85, 49, 10]⟩ a = some ((), r)) (hn : unR 262145 r = some (u, rest)) (hr : rest.length = 0) (hd : deepU u = false) :
    Calls Try.prog 18 #[.slice A l.length c] w (DecP (decP l) w) := by
  have hmf : ∀ (fn : Fn) (first cap : Array Value) (w : World), (Instr.makeFunc fn first cap).run Try.prog w = .ok (.func fn first cap) w := fun _ _ _ _ => rfl
  have k2 : Blk ((w.alloc (.cells #[.string ⟨#[]⟩, .slice none 0 0, .slice none 0 0, .slice none 0 0] 26)).alloc (.cells #[.int .i64 0] 30)) w.heap.size 26 Z4u := (Blk.new w 26 Z4u).alloc _
  have k3 : Blk ((w.alloc (.cells #[.string ⟨#[]⟩, .slice none 0 0, .slice none 0 0, .slice none 0 0] 26)).alloc (.cells #[.int .i64 0] 30)) (w.heap.size + 1) 30 #[.int .i64 0] := by
    have h := Blk.new (w.alloc (.cells #[.string ⟨#[]⟩, .slice none 0 0, .slice none 0 0, .slice none 0 0] 26)) 30 #[.int .i64 0]
    have e : (w.alloc (.cells #[.string ⟨#[]⟩, .slice none 0 0, .slice none 0 0, .slice none 0 0] 26)).heap.size = w.heap.size + 1 := by simp
    rw [e] at h
    exact h
  have hb0 : Below w.heap.size w ((w.alloc (.cells #[.string ⟨#[]⟩, .slice none 0 0, .slice none 0 0, .slice none 0 0] 26)).alloc (.cells #[.int .i64 0] 30)) := ((Below.refl _ w).alloc (Nat.le_refl _) _).alloc (by simp) _
  have hsz0 : ((w.alloc (.cells #[.string ⟨#[]⟩, .slice none 0 0, .slice none 0 0, .slice none 0 0] 26)).alloc (.cells #[.int .i64 0] 30)).heap.size = w.heap.size + 2 := by simp
  have hcl : decP l = (match unsP l with
  | none => none
  | some a =>
    match wantR ⟨#[77, 85, 49, 10]⟩ a with
    | none => none
    | some (_, r) =>
      match unR 262145 r with
      | none => none
      | some (u, rest) => if rest.length = 0 then (if deepU u then none else some u) else none) := by unfold decP; rw [if_neg (by omega)]
  have n1 : (l.length : Int) ≤ 262144 := by omega
  have K2 := Lib.hid k2
  have K3 := Lib.hid k3
  have HB0 := Lib.hid hb0
  have HZ0 := Lib.hid hsz0
  obtain ⟨k, hak, hkl⟩ := unsP_le ho
  have hal : a.length ≤ l.length := by rw [hak, List.length_take]; omega
  have HU := Lib.hid (uns_any ((w.alloc (.cells #[.string ⟨#[]⟩, .slice none 0 0, .slice none 0 0, .slice none 0 0] 26)).alloc (.cells #[.int .i64 0] 30)) w.heap.size A c l ⟨hs.1, (hs.2.below (hb0.mono hB)).more hB⟩ (by rw [hsz0]; omega) hc hA hl)
  have HR0 := Lib.hid (fun w1 (hb1 : Below ((w.alloc (.cells #[.string ⟨#[]⟩, .slice none 0 0, .slice none 0 0, .slice none 0 0] 26)).alloc (.cells #[.int .i64 0] 30)).heap.size ((w.alloc (.cells #[.string ⟨#[]⟩, .slice none 0 0, .slice none 0 0, .slice none 0 0] 26)).alloc (.cells #[.int .i64 0] 30)) w1) => (show Rdr (w1.alloc (.cells #[.slice A a.length c] 69)) w.heap.size w1.heap.size A c a from
    ⟨Blk.new _ _ _, by rw [hak]; exact SlB.take_ ⟨hs.1, (hs.2.below (((hb0.mono hB).trans (hb1.mono (by rw [hsz0]; omega))).alloc (Nat.le_trans hB (by have := hb1.size; rw [hsz0] at this; omega)) _)).more hB⟩ k hkl, by omega, hA, by omega, by have := hb1.size; rw [hsz0] at this; omega⟩))
  have HAL := Lib.hid hal
  have hbr : Byt r := by rw [(want_rest hw).2, hak]; exact Byt.drop (Byt.take hs.1 k) _
  have hrl : r.length ≤ a.length := by rw [(want_rest hw).2, List.length_drop]; omega
  have hru := (unR_bwd 262145 _ _ _ hbr hn).1
  have hul : (encU u).length ≤ 262144 := by have := congrArg List.length hru; rw [List.length_append] at this; omega
  have HUK := Lib.hid (szU 140737488355328 u (by omega))
  have HUL := Lib.hid hul
  rw [ho] at HU hcl
  simp only [hw, hn] at hcl
  rw [if_pos hr, hd, if_neg (by decide)] at hcl
  have HX := Lib.hid (show (if rest.length = 0 then Ending.returned (.tuple #[]) else (Ending.panicked [{ v := .iface 30 (.int .i64 4), recovered := false }])) = Ending.returned (.tuple #[]) from if_pos hr)
  have HD := Lib.hid hd
  have HW := Lib.hid hw
  have HN := Lib.hid hn
  have HO := Lib.hid hcl
  clear hs hB hc hA hl ho k2 k3 hb0 hsz0 hcl hak hkl hal hw hn hbr hrl hru hul hr hd
  go_enter_defers Try.func18, Try.ntmps18
  go_wp2_with (first
    | (go_at_call 21; ((with_reducible refine (show Calls Try.prog 21 #[.agg #[.string u.pkg, .slice A5 u.imps.length c5, .slice A6 u.decls.length c6, .slice A7 u.funs.length c7]] w4 (TruthP w4 false) from HD.out ▸ tooDeep_any u (by have := HUK.out.1; have := HUL.out; omega) HUK.out.2 w4 _ (fun k hk => hk.2) _ HR4.out.slim).mono ?_); rintro e w5 ⟨rfl, hb5⟩); have KU5 := Lib.hid (KU4.out.bel2 hb5); have KE5 := Lib.hid (KE4.out.bel2 hb5); have HB5 := Lib.hid (HB4.out.trans (hb5.mono HB4.out.size)); have HR5 := Lib.hid (RUn_keeps.bel HR4.out hb5); have x0 : w5.cell? ⟨w.heap.size, 0, none⟩ = some (.string u.pkg) := KU5.out.cell 0; have x1 : w5.cell? ⟨w.heap.size, 1, none⟩ = some (.slice A5 u.imps.length c5) := KU5.out.cell 1; have x2 : w5.cell? ⟨w.heap.size, 2, none⟩ = some (.slice A6 u.decls.length c6) := KU5.out.cell 2; have x3 : w5.cell? ⟨w.heap.size, 3, none⟩ = some (.slice A7 u.funs.length c7) := KU5.out.cell 3; have xf := KU5.out.frozen; have xl := KU5.out.lt; have xe := KE5.out.cell 0; have xef := KE5.out.frozen; have xel := KE5.out.lt; clear hb5 z0 z1 z2 z3 zl)
    | (go_at_call 34; ((with_reducible refine HE4.out.mono ?_); rintro e w4 ⟨h9, hku4, hke4, hb4, hr4⟩); rw [HX.out] at h9; subst h9; have KU4 := Lib.hid hku4; have KE4 := Lib.hid hke4; have HB4 := Lib.hid hb4; have HR4 := Lib.hid hr4; have z0 : w4.cell? ⟨w.heap.size, 0, none⟩ = some (.string u.pkg) := hku4.cell 0; have z1 : w4.cell? ⟨w.heap.size, 1, none⟩ = some (.slice A5 u.imps.length c5) := hku4.cell 1; have z2 : w4.cell? ⟨w.heap.size, 2, none⟩ = some (.slice A6 u.decls.length c6) := hku4.cell 2; have z3 : w4.cell? ⟨w.heap.size, 3, none⟩ = some (.slice A7 u.funs.length c7) := hku4.cell 3; have zl := hku4.lt; clear hku4 hke4 hb4 hr4 y0 y1 y2 y3 yf yl)
    | (go_at_call 33; ((with_reducible refine (run_any 262145 w2 w.heap.size w1.heap.size A2 c2 r HR2.out (by have := HR2.out.len; omega)).mono ?_); rintro e w3 h2); obtain ⟨v, A3, c3, rfl, ⟨vs, rfl, hs3⟩, hr3, hg⟩ := (RdP.good HN.out).1 h2; have hs4 := RUn_keeps _ _ _ (fun k => w.heap.size + 2 ≤ k) _ _ (fun g _ _ => rfl) (Nat.le_refl _) (fun g _ h => (show w.heap.size + 2 ≤ g from by have h : w2.heap.size ≤ g := h; have := KE2.out.lt; omega)) hs3; clear hs3; obtain ⟨A5, c5, A6, c6, A7, c7, rfl, hs5⟩ := id hs4; clear hs5; have HS3 := Lib.hid hs4; clear hs4; have HR3 := Lib.hid hr3; have KU3 := Lib.hid (Gr.blk hg KU2.out (show w.heap.size ≠ w1.heap.size by have := HZ1.out; omega)); have KE3 := Lib.hid (Gr.blk hg KE2.out (show w.heap.size + 1 ≠ w1.heap.size by have := HZ1.out; omega)); have HB3 := Lib.hid (HB2.out.trans (Gr.belowN hg HB2.out.size (by intro q h1 h2; have h2 : q = w1.heap.size := h2; have := HZ1.out; omega))); have HE4 := Lib.hid ((end_any ((((w3.setCell ⟨w.heap.size, 0, none⟩ (.string u.pkg)).setCell ⟨w.heap.size, 1, none⟩ (.slice A5 u.imps.length c5)).setCell ⟨w.heap.size, 2, none⟩ (.slice A6 u.decls.length c6)).setCell ⟨w.heap.size, 3, none⟩ (.slice A7 u.funs.length c7)) w1.heap.size A3 c3 rest.length (Blk.far4 _ _ _ _ HR3.out.blk (by have := HZ1.out; omega)) HR3.out.len).mono (fun e w' (h9 : ((((w3.setCell ⟨w.heap.size, 0, none⟩ (.string u.pkg)).setCell ⟨w.heap.size, 1, none⟩ (.slice A5 u.imps.length c5)).setCell ⟨w.heap.size, 2, none⟩ (.slice A6 u.decls.length c6)).setCell ⟨w.heap.size, 3, none⟩ (.slice A7 u.funs.length c7)) = w' ∧ e = if rest.length = 0 then .returned (.tuple #[]) else (Ending.panicked [{ v := .iface 30 (.int .i64 4), recovered := false }])) => (show (e = if rest.length = 0 then .returned (.tuple #[]) else (Ending.panicked [{ v := .iface 30 (.int .i64 4), recovered := false }])) ∧ Blk w' w.heap.size 26 #[.string u.pkg, .slice A5 u.imps.length c5, .slice A6 u.decls.length c6, .slice A7 u.funs.length c7] ∧ Blk w' (w.heap.size + 1) 30 #[.int .i64 0] ∧ Below w.heap.size w w' ∧ RUn w' (fun k => w.heap.size + 2 ≤ k) u [.string u.pkg, .slice A5 u.imps.length c5, .slice A6 u.decls.length c6, .slice A7 u.funs.length c7] from by (obtain ⟨h8, h7⟩ := h9; subst h8; exact ⟨h7, KU3.out.four _ _ _ _, Blk.far4 _ _ _ _ KE3.out (by omega), below4 _ _ _ _ HB3.out, RUn.keep4 _ _ _ _ HS3.out (by omega)⟩)))); have y0 : w3.cell? ⟨w.heap.size, 0, none⟩ = some (.string ⟨#[]⟩) := KU3.out.cell 0; have y1 : w3.cell? ⟨w.heap.size, 1, none⟩ = some (.slice none 0 0) := KU3.out.cell 1; have y2 : w3.cell? ⟨w.heap.size, 2, none⟩ = some (.slice none 0 0) := KU3.out.cell 2; have y3 : w3.cell? ⟨w.heap.size, 3, none⟩ = some (.slice none 0 0) := KU3.out.cell 3; have yf := KU3.out.frozen; have yl := KU3.out.lt; clear h2 hr3 hg)
    | (go_at_call 32; ((with_reducible refine (want_any _ _ w.heap.size w1.heap.size A c a HR1.out (by decide)).mono ?_); rintro e w2 h2); obtain ⟨v, A2, c2, rfl, h2v, hr2, hg⟩ := (RdP.good HW.out).1 h2; obtain rfl := (show _ = _ from h2v); have HR2 := Lib.hid hr2; have KU2 := Lib.hid (Gr.blk hg KU1.out (show w.heap.size ≠ w1.heap.size by have := HZ1.out; omega)); have KE2 := Lib.hid (Gr.blk hg KE1.out (show w.heap.size + 1 ≠ w1.heap.size by have := HZ1.out; omega)); have HB2 := Lib.hid (HB1.out.trans (Gr.belowN hg HB1.out.size (by intro q h1 h2; have h2 : q = w1.heap.size := h2; have := HZ1.out; omega))); clear h2 hr2 hg)
    | (go_at_call 31; ((with_reducible refine HU.out.mono ?_); rintro e w1 ⟨hb1, rfl⟩); have HR1 := Lib.hid (HR0.out w1 hb1); have HB1 := Lib.hid ((HB0.out.trans (hb1.mono (by rw [HZ0.out]; omega))).alloc (show w.heap.size ≤ w1.heap.size by have := hb1.size; rw [HZ0.out] at this; omega) (.cells #[.slice A a.length c] 69)); have KU1 := Lib.hid ((K2.out.bel2 hb1).alloc (.cells #[.slice A a.length c] 69)); have KE1 := Lib.hid ((K3.out.bel2 hb1).alloc (.cells #[.slice A a.length c] 69)); have HZ1 := Lib.hid (show w.heap.size + 2 ≤ w1.heap.size by have := hb1.size; rw [HZ0.out] at this; omega); clear hb1))
  refine leave_back _ w.heap.size (w.heap.size + 1) _ _ _ _ _ _ rfl rfl (Blk.far (KU5.out.four _ _ _ _) (show w.heap.size ≠ w.heap.size + 1 by omega) _) ((Blk.far4 _ _ _ _ KE5.out (by omega)).set_ 0 _) (DecP.good HO.out ((below4 _ _ _ _ HB5.out).setCell (show w.heap.size ≤ w.heap.size + 1 by omega) _) ⟨_, rfl, ?_⟩)
  exact RUn_keeps _ _ _ _ _ _ (fun g hg _ => Below.heap_setCell _ ⟨w.heap.size + 1, 0, none⟩ _ g (by have hg : w.heap.size + 2 ≤ g := hg; show g ≠ w.heap.size + 1; omega)) (by simp) (fun g _ h => by have h : w.heap.size + 2 ≤ g := h; show w.heap.size ≤ g; omega) (RUn.keep4 _ _ _ _ HR5.out (by omega))
end Go.Proofs.Ytnkojjkijkhlbaa
