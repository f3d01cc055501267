/-
  What is found: walks.
-/
import Derived.Test.YtcfgjfahjaimiaaTyJ
namespace Go.Proofs.Ytcfgjfahjaimiaa
open Go.RowKit
set_option linter.unusedVariables false
set_option linter.unusedSimpArgs false

def Ty.kind : Ty → Int
  | .mk k _ _ _ _ => k
/-- What is found: a name's type, where none is there yet; whether that may be. -/
def takeP (l : List ByteArray) (fd : List Ty) (s : ByteArray) (a : Ty) : Bool × List Ty :=
  match place l s with
  | none => (true, fd)
  | some i => match fd[i]? with
    | none => (true, fd)
    | some u => if u.kind = 0 then (a.kind != 4 && a.kind != 0, fd.set i a) else (true, fd)
/-- The block of what is found. -/
def Fd (w : World) (F : Nat → Prop) (g : Nat) (fd : List Ty) : Prop := ∃ cs, Blk w g 26 cs ∧ ¬ F g ∧ RTs w F fd cs.toList
theorem Fd.bel {w w' : World} {F : Nat → Prop} {g : Nat} {fd : List Ty} (h : Fd w F g fd) (hb : Below w.heap.size w w') : Fd w' F g fd := by
  obtain ⟨cs, h1, h2, h3⟩ := h
  exact ⟨cs, h1.bel2 hb, h2, RTs.keep (fun g _ hg => hb.block g hg) hb.size (fun g _ h => h) _ _ h3⟩
theorem Fd.at_ {w : World} {F : Nat → Prop} {g : Nat} {fd : List Ty} (h : Fd w F g fd) {i : Nat} {u : Ty} (hu : fd[i]? = some u) : ∃ us, RT w F u us ∧ ∀ (j : Nat) (v : Value), us[j]? = some v → w.cell? ⟨g, i * 5 + j, none⟩ = some v := by
  obtain ⟨cs, h1, h2, h3⟩ := h
  obtain ⟨us, h4, h5⟩ := h3.at i u hu
  exact ⟨us, h4, fun j v hv => by rw [h1.cell, ← Array.getElem?_toList]; exact h5 j v hv⟩
theorem Fd.thaw {w : World} {F : Nat → Prop} {g : Nat} {fd : List Ty} (h : Fd w F g fd) (i : Nat) : w.frozen? ⟨g, i, none⟩ = false := by
  obtain ⟨cs, h1, h2, h3⟩ := h
  exact h1.frozen i
theorem Fd.lt {w : World} {F : Nat → Prop} {g : Nat} {fd : List Ty} (h : Fd w F g fd) : g < w.heap.size := by
  obtain ⟨cs, h1, h2, h3⟩ := h
  exact h1.lt
def set5 (xs : List Value) (i : Nat) (v0 v1 v2 v3 v4 : Value) : List Value := ((((xs.set (i * 5) v0).set (i * 5 + 1) v1).set (i * 5 + 2) v2).set (i * 5 + 3) v3).set (i * 5 + 4) v4
theorem five_of {h : List Value} (hl : h.length = 5) : ∃ a b c d e, h = [a, b, c, d, e] := by
  match h, hl with
  | [a, b, c, d, e], _ => exact ⟨a, b, c, d, e, rfl⟩
theorem RTs.set_ {w : World} {F : Nat → Prop} {a : Ty} {v0 v1 v2 v3 v4 : Value} (ha : RT w F a [v0, v1, v2, v3, v4]) : ∀ {ts : List Ty} {xs : List Value} {i : Nat}, RTs w F ts xs → i < ts.length → RTs w F (ts.set i a) (set5 xs i v0 v1 v2 v3 v4)
  | [], xs, i, h, hi => by simp at hi
  | t :: r, xs, i, h, hi => by
    simp only [RTs] at h
    obtain ⟨hh, q, rfl, h2, h3⟩ := h
    have hl := h2.length
    cases i with
    | zero =>
      obtain ⟨x0, x1, x2, x3, x4, rfl⟩ := five_of hl
      simp only [List.set_cons_zero, RTs]
      exact ⟨[v0, v1, v2, v3, v4], q, by simp [set5], ha, h3⟩
    | succ i =>
      have := RTs.set_ ha (i := i) h3 (by simpa using hi)
      simp only [List.set_cons_succ, RTs]
      refine ⟨hh, set5 q i v0 v1 v2 v3 v4, ?_, h2, this⟩
      obtain ⟨x0, x1, x2, x3, x4, rfl⟩ := five_of hl
      have e : ∀ j, (i + 1) * 5 + j = (i * 5 + j) + 5 := fun j => by omega
      have e0 : (i + 1) * 5 = i * 5 + 5 := by omega
      simp [set5, e, e0, List.set_cons_succ]
theorem Gr.in_ {w w' : World} {g : Nat} (h : Gr (fun x => x = g) w w') (i : Nat) (v : Value) : Gr (fun x => x = g) w (w'.setCell ⟨g, i, none⟩ v) := h.setCell (p := ⟨g, i, none⟩) (Or.inr (show g = g from rfl)) v
theorem Fd.put {w : World} {F : Nat → Prop} {g : Nat} {fd : List Ty} (h : Fd w F g fd) {i : Nat} (hi : i < fd.length) {a : Ty} {v0 v1 v2 v3 v4 : Value} (ha : RT w F a [v0, v1, v2, v3, v4]) :
    Fd (((((w.setCell ⟨g, i * 5, none⟩ v0).setCell ⟨g, i * 5 + 1, none⟩ v1).setCell ⟨g, i * 5 + 2, none⟩ v2).setCell ⟨g, i * 5 + 3, none⟩ v3).setCell ⟨g, i * 5 + 4, none⟩ v4) F g (fd.set i a) ∧ Gr (· = g) w (((((w.setCell ⟨g, i * 5, none⟩ v0).setCell ⟨g, i * 5 + 1, none⟩ v1).setCell ⟨g, i * 5 + 2, none⟩ v2).setCell ⟨g, i * 5 + 3, none⟩ v3).setCell ⟨g, i * 5 + 4, none⟩ v4) := by
  obtain ⟨cs, h1, h2, h3⟩ := h
  have hG : Gr (· = g) w (((((w.setCell ⟨g, i * 5, none⟩ v0).setCell ⟨g, i * 5 + 1, none⟩ v1).setCell ⟨g, i * 5 + 2, none⟩ v2).setCell ⟨g, i * 5 + 3, none⟩ v3).setCell ⟨g, i * 5 + 4, none⟩ v4) :=
    (((((Gr.refl w).in_ _ _).in_ _ _).in_ _ _).in_ _ _).in_ _ _
  refine ⟨⟨_, ((((h1.set_ _ v0).set_ _ v1).set_ _ v2).set_ _ v3).set_ _ v4, h2, ?_⟩, hG⟩
  have := RTs.keep (F' := F) (fun k hk hl => hG.block k hl (by rintro rfl; exact h2 hk)) hG.size (fun _ _ h => h) _ _ (RTs.set_ ha h3 hi)
  simpa [set5] using this
set_option maxRecDepth 100000 in
set_option maxHeartbeats 2000000 in
theorem take_any (w : World) (F : Nat → Prop) (m g c : Nat) (l : List ByteArray) (fd : List Ty) (s : ByteArray) (a : Ty) (us : List Value) (hm : PlMap w m l) (hl : l.length ≤ 100000) (hfl : fd.length = l.length) (hfd : Fd w F g fd) (hmg : m ≠ g) (hs : s.size ≤ maxLen) (ha : RT w F a us) :
    Calls Try.prog 61 #[.agg #[.map (some m), .slice (some ⟨g, 0, none⟩) fd.length c], .string s, .agg us.toArray] w fun e w' => e = .returned (.bool (takeP l fd s a).1) ∧ Fd w' F g (takeP l fd s a).2 ∧ Gr (· = g) w w' := by
  have hml := hm.lt
  obtain ⟨ka, pa, na, la, ra⟩ := a
  obtain ⟨A1, c1, A2, c2, rfl, hA1, hA2⟩ := ha.openL
  show Calls Try.prog 61 #[.agg #[.map (some m), .slice (some ⟨g, 0, none⟩) fd.length c], .string s, .agg #[.int .i64 ka, .string pa, .string na, .slice A1 la.length c1, .slice A2 ra.length c2]] w _
  have hlk := hm.look s hs (by omega)
  have hlk1 := fun o : Obj => (hm.keep (w' := w.alloc o) (Below.heap_alloc w o m hml)).look s hs (by omega)
  have hlk2 := fun o o' : Obj => (hm.keep (w' := (w.alloc o).alloc o') ((Below.heap_alloc _ o' m (by simp; omega)).trans (Below.heap_alloc w o m hml))).look s hs (by omega)
  cases hp : place l s with
  | none =>
    have hT : takeP l fd s (.mk ka pa na la ra) = (true, fd) := by simp only [takeP, hp]
    rw [hT]
    rw [hp] at hlk hlk1 hlk2
    have HF := Lib.hid hfd
    clear hm hfd hT hp ha hA1 hA2
    go_enter Try.func61, Try.ntmps61
    go_wp2
    go_ret
    exact ⟨rfl, HF.out.bel (((Below.refl _ w).alloc (Nat.le_refl _) _).alloc (by simp) _), ((Gr.refl w).alloc _).alloc _⟩
  | some i =>
    have hil := place_lt hp
    obtain ⟨u, hu⟩ : ∃ u, fd[i]? = some u := ⟨_, List.getElem?_eq_getElem (by omega)⟩
    obtain ⟨uu, hru, hat⟩ := hfd.at_ hu
    obtain ⟨ku, pu, nu, lu, ru⟩ := u
    obtain ⟨A3, c3, A4, c4, rfl, hA3, hA4⟩ := hru.openL
    have q0 := hat 0 _ rfl
    rw [Nat.add_zero] at q0
    have hgl := hfd.lt
    have i0 : (0 : Int) ≤ (i : Int) := by omega
    have i1 : (i : Int) < (fd.length : Int) := by omega
    rw [hp] at hlk hlk1 hlk2
    have HF := Lib.hid hfd
    by_cases hk : ku = 0
    · subst hk
      have hT : takeP l fd s (.mk ka pa na la ra) = (ka != 4 && ka != 0, fd.set i (.mk ka pa na la ra)) := by simp [takeP, hp, hu, Ty.kind]
      rw [hT]
      have HPU := Lib.hid (hfd.put (i := i) (by omega) ha)
      have q1 := hat 1 _ rfl
      have q2 := hat 2 _ rfl
      have q3 := hat 3 _ rfl
      have q4 := hat 4 _ rfl
      have f0 := hfd.thaw (i * 5)
      have f1 := hfd.thaw (i * 5 + 1)
      have f2 := hfd.thaw (i * 5 + 2)
      have f3 := hfd.thaw (i * 5 + 3)
      have f4 := hfd.thaw (i * 5 + 4)
      obtain ⟨lst, hlst⟩ : ∃ x, fd.set i (.mk ka pa na la ra) = x := ⟨_, rfl⟩
      rw [hlst] at HPU ⊢
      clear hm hfd hp hat hru hA3 hA4 hT hlst ha hA1 hA2
      by_cases h4 : ka = 4
      · subst h4
        go_enter Try.func61, Try.ntmps61
        go_wp2
        go_ret
        exact ⟨rfl, HPU.out.1.bel (((Below.refl _ _).alloc (Nat.le_refl _) _).alloc (by simp) _), (HPU.out.2.alloc _).alloc _⟩
      · have h4b : (ka != 4) = true := by simpa using h4
        have h4c : (ka == 4) = false := by simpa using h4
        go_enter Try.func61, Try.ntmps61
        go_wp2
        go_ret
        exact ⟨by simp [h4], HPU.out.1.bel (((Below.refl _ _).alloc (Nat.le_refl _) _).alloc (by simp) _), (HPU.out.2.alloc _).alloc _⟩
    · have hT : takeP l fd s (.mk ka pa na la ra) = (true, fd) := by simp [takeP, hp, hu, Ty.kind, hk]
      rw [hT]
      have hkb : (ku != 0) = true := by simpa using hk
      clear hm hfd hT hp ha hA1 hA2 hk hat hru hA3 hA4
      go_enter Try.func61, Try.ntmps61
      go_wp2
      go_ret
      exact ⟨rfl, HF.out.bel (((Below.refl _ w).alloc (Nat.le_refl _) _).alloc (by simp) _), ((Gr.refl w).alloc _).alloc _⟩
end Go.Proofs.Ytcfgjfahjaimiaa
