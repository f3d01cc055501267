/-
  Types in memory of their own: walks.
-/
import Derived.Test.YtcfgjfahjaimiaaTyO
namespace Go.Proofs.Ytcfgjfahjaimiaa
open Go.RowKit
set_option linter.unusedVariables false
set_option linter.unusedSimpArgs false

/-- A type in memory of its own. -/
def NewP (t : Ty) (w : World) (e : Ending) (w' : World) : Prop := ∃ (k : Int) (p n : ByteArray) (A : Option Addr) (m c : Nat) (A' : Option Addr) (m' c' : Nat), e = .returned (.agg #[.int .i64 k, .string p, .string n, .slice A m c, .slice A' m' c']) ∧ RT w' (fun k => w.heap.size ≤ k) t [.int .i64 k, .string p, .string n, .slice A m c, .slice A' m' c'] ∧ Below w.heap.size w w'
def NewsP (l : List Ty) (w : World) (e : Ending) (w' : World) : Prop := ∃ A c, e = .returned (.slice A l.length c) ∧ SlT w' (fun k => w.heap.size ≤ k) A l ∧ Below w.heap.size w w'
theorem set_zero (l : List Ty) (j f : Nat) (u : Ty) (h : l[j]? = some u) : (l.take j ++ List.replicate (f + 1) tyZ).set j u = l.take (j + 1) ++ List.replicate f tyZ := by
  have hj := (List.getElem?_eq_some_iff.1 h).1
  have hl : (l.take j).length = j := by simp; omega
  rw [List.set_append_right _ _ (by omega), hl, Nat.sub_self, List.replicate_succ, List.set_cons_zero, List.take_add_one, h, Option.toList_some, List.append_assoc]
  rfl
theorem at_zero (l : List Ty) (j f : Nat) (h : j < l.length) : (l.take j ++ List.replicate (f + 1) tyZ)[j]? = some tyZ := by
  have hl : (l.take j).length = j := by simp; omega
  rw [List.getElem?_append_right (by omega), hl, Nat.sub_self, List.replicate_succ]
  rfl
theorem RT.more {w : World} {F F' : Nat → Prop} {t : Ty} {vs : List Value} (h : RT w F t vs) (hF : ∀ k, F k → F' k) : RT w F' t vs := RT.keep (fun _ _ _ => rfl) (Nat.le_refl _) (fun k _ hk => hF k hk) _ _ h
theorem five_bel {a w : World} {B g : Nat} (hb : Below B a w) (h : B ≤ g) (i : Nat) (v0 v1 v2 v3 v4 : Value) : Below B a (((((w.setCell ⟨g, i * 5, none⟩ v0).setCell ⟨g, i * 5 + 1, none⟩ v1).setCell ⟨g, i * 5 + 2, none⟩ v2).setCell ⟨g, i * 5 + 3, none⟩ v3).setCell ⟨g, i * 5 + 4, none⟩ v4) :=
  ((((hb.setCell (p := ⟨g, i * 5, none⟩) h v0).setCell (p := ⟨g, i * 5 + 1, none⟩) h v1).setCell (p := ⟨g, i * 5 + 2, none⟩) h v2).setCell (p := ⟨g, i * 5 + 3, none⟩) h v3).setCell (p := ⟨g, i * 5 + 4, none⟩) h v4
def CpyC (N : Nat) : Prop := ∀ t : Ty, t.count ≤ N → t.mx ≤ 140737488355328 → ∀ (w : World) (F : Nat → Prop) (vs : List Value), RT w F t vs → Calls Try.prog 53 #[.agg vs.toArray] w (NewP t w)
set_option maxRecDepth 100000 in
set_option maxHeartbeats 2000000 in
theorem each_copied (N : Nat) (ih : CpyC N) (hN : N ≤ 2000000) (l : List Ty) (hc : countL l ≤ N) (hz : mxL l ≤ 140737488355328) (w : World) (F : Nat → Prop) (A : Option Addr) (c : Nat) (ha : SlT w F A l) :
    Calls Try.prog 80 #[.slice A l.length c, .func (Fn.func 53) #[] #[]] w (NewsP l w) := by
  have hln := len_countL l
  have HA := Lib.hid ha
  have n0 : (0 : Int) ≤ (l.length : Int) := by omega
  have n1 : (l.length : Int) ≤ 2000000 := by omega
  by_cases hl0 : l.length = 0
  · obtain rfl : l = [] := List.length_eq_zero_iff.1 hl0
    clear ha hl0 HA n0 n1 hln
    go_enter Try.func80, Try.ntmps80
    go_wp2
    go_loopg [16] 0 (fun gk v16 wr => v16 = .int .i64 0 ∧ wr = w)
    case atStart => exact ⟨rfl, rfl⟩
    case round =>
      obtain ⟨rfl, rfl⟩ := hrel
      go_wp2
      go_ret
      exact ⟨_, _, rfl, SlT.none_ _ _, Below.refl _ _⟩
  · have n2 : (0 : Int) < (l.length : Int) := by omega
    have n3 : decide (0 < l.length) = true := decide_eq_true (by omega)
    have hmk := fun W => run_mk l.length (by omega) W
    clear ha hl0
    go_enter Try.func80, Try.ntmps80
    go_wp2
    go_loopg [16] l.length (fun gk v16 wr => ∃ j : Nat, j + gk = l.length ∧ v16 = .int .i64 j ∧ Below w.heap.size w wr ∧ Fd wr (fun k => w.heap.size < k) w.heap.size (l.take j ++ List.replicate gk tyZ))
    case atStart => exact ⟨0, by simp, rfl, (Below.refl _ w).alloc (Nat.le_refl _) _, by simpa using Fd.made w (fun k => w.heap.size < k) l.length (by simp)⟩
    case round =>
      obtain ⟨j, hj, rfl, hb, hfd⟩ := hrel
      have HB := Lib.hid hb
      have HF := Lib.hid hfd
      cases gk with
      | zero =>
        obtain rfl : j = l.length := by omega
        clear hj hfd hb
        go_wp2
        go_ret
        refine ⟨_, _, rfl, ?_, HB.out⟩
        have := HF.out
        rw [List.take_length, List.replicate_zero, List.append_nil] at this
        exact this.slice (fun k hk => Nat.le_of_lt hk) (Nat.le_refl _)
      | succ f =>
        have hjl : j < l.length := by omega
        obtain ⟨u, hu⟩ : ∃ u, l[j]? = some u := ⟨_, List.getElem?_eq_getElem hjl⟩
        obtain ⟨q, o, vs, rfl, hFq, hgl, hrep, hat⟩ := (HA.out.bel hb).at_ hu
        have hck := count_kid l j u hu
        have hsk := mx_kid l j u hu
        have HI := Lib.hid (fun w' (hb' : Below wr.heap.size wr w') => ih u (by omega) (by omega) w' F vs (hrep.bel hb'))
        obtain ⟨k1, p1, n1', A1, m1', c1, B1, l1, d1, rfl⟩ := hrep.shape
        have q0 := hat 0 _ rfl
        have q1 := hat 1 _ rfl
        have q2 := hat 2 _ rfl
        have q3 := hat 3 _ rfl
        have q4 := hat 4 _ rfl
        have j1 : (j : Int) < (l.length : Int) := by omega
        simp only [Nat.add_zero] at q0
        have HU := Lib.hid hu
        clear hat hb hfd hrep hu
        go_wp2_with (go_at_call 53; refine (HI.out _ ((Below.refl _ wr).alloc (Nat.le_refl _) _)).mono ?_; rintro e w5 ⟨k2, p2, n2, A2, m2, c2, B2, l2, d2, rfl, hr5, hb5⟩; have hB5 := ((Below.refl _ wr).alloc (Nat.le_refl wr.heap.size) (.cells #[.int .i64 k1, .string p1, .string n1', .slice A1 m1' c1, .slice B1 l1 d1] 26)).trans (hb5.mono (by simp)); have hF5 := HF.out.bel hB5; obtain ⟨zz, hzr, hat5⟩ := hF5.at_ (at_zero l j f hjl); obtain ⟨k3, p3, n3', A3, m3, c3, B3, l3, d3, rfl⟩ := hzr.shape; have x0 := hat5 0 _ rfl; have x1 := hat5 1 _ rfl; have x2 := hat5 2 _ rfl; have x3 := hat5 3 _ rfl; have x4 := hat5 4 _ rfl; rw [Nat.add_zero] at x0; have f0 := hF5.thaw (j * 5); have f1 := hF5.thaw (j * 5 + 1); have f2 := hF5.thaw (j * 5 + 2); have f3 := hF5.thaw (j * 5 + 3); have f4 := hF5.thaw (j * 5 + 4); have HR5 := Lib.hid hr5; have HF5 := Lib.hid hF5; have HB5 := Lib.hid hB5; clear hr5 hF5 hB5 hat5 hb5)
        go_roundg f
        case measure => omega
        case rel =>
          have hBl := HB.out.size
          have hP := HF5.out.put (i := j) (by have := List.length_replicate (n := f + 1) (a := tyZ); simp; omega) (HR5.out.more (fun k hk => by simp at hk; omega))
          rw [set_zero l j f u HU.out] at hP
          exact ⟨j + 1, by omega, by go_num, five_bel (HB.out.trans (HB5.out.mono hBl)) (Nat.le_refl _) _ _ _ _ _ _, hP.1⟩
end Go.Proofs.Ytcfgjfahjaimiaa
