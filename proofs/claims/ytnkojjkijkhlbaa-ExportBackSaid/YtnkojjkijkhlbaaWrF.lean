/-
  The writer's lists: walks.
-/
import Derived.Test.YtnkojjkijkhlbaaWrE
import Derived.Test.YtnkojjkijkhlbaaUb
namespace Go.Proofs.Ytnkojjkijkhlbaa
open Go.RowKit
set_option linter.unusedVariables false
set_option linter.unusedSimpArgs false

theorem WrN.fresh {w w' : World} {wb g : Nat} {o o' : Option Nat} (h : WrN w w' wb o o') (hg : g < w.heap.size) (h1 : g ≠ wb) (h2 : o ≠ some g) : w'.heap[g]? = w.heap[g]? :=
  h.gr.block g hg (fun e => e.elim h1 h2)
def encIm (a : Im) : List Int := (le8 a.name.size ++ sB a.name) ++ le8 a.hash
set_option maxRecDepth 100000 in
set_option maxHeartbeats 2000000 in
theorem imp_any (a : Im) (hs : a.name.size ≤ 140737488355328) (w : World) (lo wb : Nat) (A : Option Addr) (c : Nat) (bs : List Int) (lg : Bool) (h : Wr w lo wb A c bs lg) :
    Calls Try.prog 46 #[.pointer (some ⟨wb, 0, none⟩), .agg #[.string a.name, .int .i64 a.hash]] w (PutP lo wb (Value.slice A bs.length c).ownBlock bs lg (encIm a) w) := by
  obtain ⟨s, v⟩ := a
  dsimp only at hs ⊢
  have hk0 := Blk.new w 83 #[.string s, .int .i64 v]
  have hb0 := (Below.refl _ w).alloc (Nat.le_refl _) (.cells #[.string s, .int .i64 v] 83)
  have HR := Lib.hid (text_any s hs _ lo wb A c bs lg (h.bel hb0))
  have HB0 := Lib.hid hb0
  have HK0 := Lib.hid hk0
  have HO := Lib.hid (fun q (hq : (Value.slice A bs.length c).ownBlock = some q) => h.old hq)
  have HW := Lib.hid h.blk.lt
  clear h hb0 hk0
  go_enter Try.func46, Try.ntmps46
  go_wp2_with (first
    | (go_at_call 44; ((with_reducible refine HR.out.mono ?_); rintro e w1 ⟨⟨x, rfl⟩, A1, c1, b1, l1, hw1, hn1, hf1, hl1⟩); have HM := Lib.hid (word_any v w1 lo wb A1 c1 b1 l1 hw1); have hk1 : Blk w1 w.heap.size 83 #[.string s, .int .i64 v] := (hn1.fresh HK0.out.lt (fun e => by have := HW.out; omega) (fun e => by have := HO.out _ e; omega)).trans HK0.out; have y1 := hk1.cell 1; have yl := hk1.lt; have HN1 := Lib.hid hn1; have HF1 := Lib.hid hf1; have HL1 := Lib.hid hl1; clear hw1 hn1 hf1 hl1 hk1)
    | (go_at_call 23; ((with_reducible refine HM.out.mono ?_); rintro e w2 ⟨⟨x, rfl⟩, A2, c2, b2, l2, hw2, hn2, hf2, hl2⟩); have HW2 := Lib.hid hw2; have HN2 := Lib.hid (HN1.out.trans hn2); have HF2 := Lib.hid hf2; have HL2 := Lib.hid hl2; clear hw2 hn2 hf2 hl2))
  refine bodyPost_end (results_none rfl _ _ _) rfl ?_
  exact ⟨⟨_, rfl⟩, A2, c2, b2, l2, HW2.out, (WrN.of_below wb _ HB0.out).trans HN2.out, PutP.rule HF1.out HL1.out HF2.out HL2.out⟩
theorem Wr.olo {w : World} {lo wb : Nat} {A : Option Addr} {c : Nat} {bs : List Int} {lg : Bool} (h : Wr w lo wb A c bs lg) : ∀ q, (Value.slice A bs.length c).ownBlock = some q → lo ≤ q := fun q hq => by
  obtain ⟨cs, fr, _, h2⟩ := h.own.blk hq
  exact h2
theorem SlG.wr {α : Type} {R : Rel α} {n : Nat} (hR : Keeps R) {w w' : World} {F : Nat → Prop} {A : Option Addr} {l : List α} {wb lo : Nat} {o o' : Option Nat} (h : SlG n R w F A l) (hn : WrN w w' wb o o') (hF : ∀ k, F k → k < lo) (hwb : lo ≤ wb) (ho : ∀ q, o = some q → lo ≤ q) : SlG n R w' F A l :=
  h.keep hR (fun k hk hl => hn.fresh hl (fun e => by have := hF k hk; omega) (fun e => by have := hF k hk; have := ho k e; omega)) hn.gr.size (fun _ _ h => h)
def encL {α : Type} (f : α → List Int) : List α → List Int
  | [] => []
  | a :: r => f a ++ encL f r
theorem encL_append {α : Type} (f : α → List Int) (a b : List α) : encL f (a ++ b) = encL f a ++ encL f b := by
  induction a with
  | nil => rfl
  | cons x r ih => simp only [List.cons_append, encL, ih, List.append_assoc]
theorem encL_take {α : Type} (f : α → List Int) (l : List α) (i : Nat) (t : α) (h : l[i]? = some t) : encL f (l.take (i + 1)) = encL f (l.take i) ++ f t := by
  rw [List.take_add_one, h, Option.toList_some, encL_append]
  simp [encL]
theorem PutP.stop {bs bs1 o1 o2 : List Int} {lg lg1 : Bool}
    (h1 : (lg = false ∧ bs.length + o1.length ≤ 262144) → bs1 = bs ++ o1 ∧ lg1 = false) (hl : lg1 = true) :
    ((lg = false ∧ bs.length + (o1 ++ o2).length ≤ 262144) → bs1 = bs ++ (o1 ++ o2) ∧ lg1 = false) ∧ (¬ (lg = false ∧ bs.length + (o1 ++ o2).length ≤ 262144) → lg1 = true) := by
  refine ⟨fun ⟨e, q⟩ => ?_, fun _ => hl⟩
  rw [List.length_append] at q
  have := (h1 ⟨e, by omega⟩).2
  rw [hl] at this; cases this
set_option maxRecDepth 100000 in
set_option maxHeartbeats 4000000 in
theorem puts_im (l : List Im) (hl : l.length ≤ 140737488355328) (hok : ∀ a ∈ l, a.name.size ≤ 140737488355328) (w : World) (lo wb : Nat) (A : Option Addr) (c : Nat) (bs : List Int) (lg : Bool) (h : Wr w lo wb A c bs lg) (hwb : lo ≤ wb) (F : Nat → Prop) (hF : ∀ k, F k → k < lo) (B : Option Addr) (d : Nat) (hr : SlG 2 RIm w F B l) :
    Calls Try.prog 45 #[.pointer (some ⟨wb, 0, none⟩), .slice B l.length d, .func (Fn.func 46) #[] #[]] w (PutP lo wb (Value.slice A bs.length c).ownBlock bs lg (le8 l.length ++ encL encIm l) w) := by
  have HR := Lib.hid (number_any l.length w lo wb A c bs lg h)
  have HA := Lib.hid hr
  have HO := Lib.hid h.olo
  have HOK := Lib.hid hok
  have HF := Lib.hid hF
  have n0 : (0 : Int) ≤ (l.length : Int) := by omega
  have n1 : (l.length : Int) ≤ 140737488355328 := by omega
  clear h hr hF hok
  go_enter Try.func45, Try.ntmps45
  go_wp2_with (go_at_call 74; ((with_reducible refine HR.out.mono ?_); rintro e w1 ⟨⟨x, rfl⟩, A1, c1, b1, l1, hw1, hn1, hp1⟩); have HW1 := Lib.hid hw1; have HN1 := Lib.hid hn1; have HP1 := Lib.hid hp1; clear hw1 hn1 hp1)
  go_loopg [14] l.length (fun gk v14 wr => ∃ (j : Nat) (A' : Option Addr) (c' : Nat) (b' : List Int) (l' : Bool), j + gk = l.length ∧ v14 = .int .i64 j ∧ Wr wr lo wb A' c' b' l' ∧ WrN w wr wb (Value.slice A bs.length c).ownBlock (Value.slice A' b'.length c').ownBlock ∧ (((lg = false ∧ bs.length + (le8 l.length ++ encL encIm (l.take j)).length ≤ 262144) → b' = bs ++ (le8 l.length ++ encL encIm (l.take j)) ∧ l' = false) ∧ (¬ (lg = false ∧ bs.length + (le8 l.length ++ encL encIm (l.take j)).length ≤ 262144) → l' = true)))
  case atStart => exact ⟨0, A1, c1, b1, l1, by simp, rfl, HW1.out, HN1.out, by simpa [encL] using HP1.out⟩
  case round =>
    obtain ⟨j, A', c', b', l', hj, rfl, hw, hn, hp⟩ := hrel
    have HW := Lib.hid hw
    have HN := Lib.hid hn
    have HP := Lib.hid hp
    cases gk with
    | zero =>
      obtain rfl : j = l.length := by omega
      clear hj hw hn hp
      go_wp2
      refine bodyPost_end (results_none rfl _ _ _) rfl ?_
      have := HP.out
      rw [List.take_length] at this
      exact ⟨⟨_, rfl⟩, A', c', b', l', HW.out, HN.out, this⟩
    | succ f =>
      have hjl : j < l.length := by omega
      obtain ⟨u, hu⟩ : ∃ u, l[j]? = some u := ⟨_, List.getElem?_eq_getElem hjl⟩
      have hm := HOK.out u (List.mem_of_getElem? hu)
      have j1 : (j : Int) < (l.length : Int) := by omega
      have j0 : (0 : Int) ≤ (j : Int) := by omega
      obtain ⟨q, o, vs, rfl, hFq, hql, hrep, hat⟩ := (HA.out.wr RIm_keeps hn HF.out hwb HO.out).at_ RIm_sized hu
      obtain rfl : vs = [.string u.name, .int .i64 u.hash] := hrep
      have q0 := hat 0 _ rfl
      have q1 := hat 1 _ rfl
      rw [Nat.add_zero] at q0
      have y1 := hw.blk.cell 1
      have yl := hw.blk.lt
      have hb0 := (Below.refl _ wr).alloc (Nat.le_refl _) (.cells #[.string u.name, .int .i64 u.hash] 83)
      have HI := Lib.hid (imp_any u hm _ lo wb A' c' b' l' (hw.bel hb0))
      have HB0 := Lib.hid hb0
      have HE := Lib.hid (encL_take encIm l j u hu)
      have HS := Lib.hid (show encL encIm l = encL encIm (l.take j) ++ encL encIm (l.drop j) by rw [← encL_append, List.take_append_drop])
      clear hat hu hw hn hp hb0 hm
      cases l' with
      | true =>
        go_wp2
        refine bodyPost_ret (results_none rfl _ _ _) rfl ?_
        refine ⟨⟨_, rfl⟩, A', c', b', true, HW.out.bel HB0.out, HN.out.trans (WrN.of_below wb _ HB0.out), ?_⟩
        rw [HS.out, ← List.append_assoc]
        exact PutP.stop HP.out.1 rfl
      | false =>
        go_wp2_with (go_at_call 46; ((with_reducible refine HI.out.mono ?_); rintro e w2 ⟨⟨x, rfl⟩, A2, c2, b2, l2, hw2, hn2, hp2⟩); have HW2 := Lib.hid hw2; have HN2 := Lib.hid (HN.out.trans ((WrN.of_below wb _ HB0.out).trans hn2)); have HP2 := Lib.hid hp2; clear hw2 hn2 hp2)
        go_roundg f
        case measure => omega
        case rel =>
          refine ⟨j + 1, A2, c2, b2, l2, by omega, by go_num, HW2.out, HN2.out, ?_⟩
          rw [HE.out, ← List.append_assoc]
          exact PutP.rule (bs1 := b') (lg1 := false) (fun q => ⟨(HP.out.1 q).1, rfl⟩) (fun q => absurd (HP.out.2 q) (by simp)) (fun q => HP2.out.1 (by simpa using q)) (fun q => HP2.out.2 (by simpa using q))
end Go.Proofs.Ytnkojjkijkhlbaa
