/-
  Types' texts: walks of those that call themselves.
-/
import Derived.Test.YtcfgjfahjaimiaaTyF
namespace Go.Proofs.Ytcfgjfahjaimiaa
open Go.RowKit
set_option linter.unusedVariables false
set_option linter.unusedSimpArgs false

section
variable {base : Nat} {w w1 : World} {v v1 : Value} {x : List UInt8}
theorem own_keep {b size n : Nat} {e : TypeId} {v : Value} {xs : List Value} {w w' : World} (h : w.ownsRow b e size v n xs) (hk : ∀ g, v.ownBlock = some g → g < w.heap.size → w'.heap[g]? = w.heap[g]?) : w'.ownsRow b e size v n xs := by
  refine ⟨h.1, ?_⟩
  rcases h.2 with h2 | ⟨g, cap, cur, rfl, hg, hh, r⟩
  · exact .inl h2
  · exact .inr ⟨g, cap, cur, rfl, hg, (hk g rfl (Array.getElem?_eq_some_iff.1 hh).1).trans hh, r⟩
theorem AppP.set_ (h : AppP base w v x v1 w1) {q : Addr} (hq : w.heap.size ≤ q.block) (hne : v1.ownBlock ≠ some q.block) (u : Value) : AppP base w v x v1 (w1.setCell q u) :=
  ⟨own_keep h.1 fun g hg _ => Below.heap_setCell w1 q u g (fun e => hne (e ▸ hg)), h.2.1.setCell (.inl hq) u, h.2.2⟩
theorem AppP.far (h : AppP base w v x v1 w1) {g : Nat} (hg : g < w.heap.size) (hv : v.ownBlock ≠ some g) : v1.ownBlock ≠ some g := fun e => by
  rcases h.2.2 g e with h1 | h1
  · exact hv h1
  · omega
end
theorem txtF_none {l : List Ty} (h : l.length = 0) : txtF l = [] := by
  cases l with
  | nil => rfl
  | cons a r => simp at h
def WC (N : Nat) : Prop := ∀ t : Ty, t.count ≤ N → ∀ (w : World) (base : Nat) (F : Nat → Prop) (vs : List Value) (v : Value) (l : List UInt8), RT w F t vs → (∀ g, F g → g < base) → base ≤ w.heap.size → w.ownsRow base 5 1 v l.length (l.map byteV) → l.length + 10 * t.sz ≤ 50000000 →
  Calls Try.prog 47 #[v, .agg vs.toArray] w (BytesP base w v (l ++ txt t))
set_option maxRecDepth 100000 in
set_option maxHeartbeats 2000000 in
theorem wfirst_any (N : Nat) (ih : WC N) (la : List Ty) (hc : countL la ≤ N) (w : World) (base : Nat) (F : Nat → Prop) (v : Value) (l : List UInt8) (A : Option Addr) (c : Nat) (hs : SlT w F A la) (hF : ∀ g, F g → g < base) (hbs : base ≤ w.heap.size) (hown : w.ownsRow base 5 1 v l.length (l.map byteV)) (hl : l.length + 10 * szL la ≤ 50000000) :
    Calls Try.prog 63 #[v, .slice A la.length c] w (BytesP base w v (l ++ txtF la)) := by
  cases la with
  | nil =>
    have HO := Lib.hid hown
    clear hown
    simp only [List.length_nil, txtF, List.append_nil]
    go_enter Try.func63, Try.ntmps63
    go_wp2
    go_ret
    exact ⟨v, rfl, AppP.here HO.out⟩
  | cons u r =>
    rw [countL_cons] at hc
    rw [szL_cons] at hl
    obtain ⟨g, o, us, hA, hFg, hgl, hrep, hat⟩ := hs.at_ (i := 0) (u := u) rfl
    subst hA
    have HI := Lib.hid (ih u (by omega) w base F us v l hrep hF hbs hown (by omega))
    obtain ⟨m, hm⟩ : ∃ m, (u :: r).length = m := ⟨_, rfl⟩
    have m0 : (0 : Int) < (m : Int) := by rw [← hm, List.length_cons]; omega
    rw [hm]
    obtain ⟨k1, p1, n1, A1, m1, c1, B1, l1, d1, rfl⟩ := hrep.shape
    have q0 := hat 0 _ rfl
    have q1 := hat 1 _ rfl
    have q2 := hat 2 _ rfl
    have q3 := hat 3 _ rfl
    have q4 := hat 4 _ rfl
    simp only [Nat.zero_mul, Nat.add_zero] at q0 q1 q2 q3 q4
    clear hat hrep hs hown hm hc hl ih
    go_enter Try.func63, Try.ntmps63
    go_wp2_with (go_at_call 47; refine HI.out.mono ?_; rintro e w5 ⟨v5, rfl, hA5⟩)
    go_ret
    exact ⟨v5, rfl, hA5⟩
set_option maxRecDepth 100000 in
set_option maxHeartbeats 4000000 in
theorem wfunc_any (N : Nat) (ih : WC N) (k : Int) (p n : ByteArray) (la lr : List Ty) (hc : countL la + countL lr ≤ N) (hN : N ≤ 2000000) (w : World) (base : Nat) (F : Nat → Prop) (v : Value) (l : List UInt8) (A B : Option Addr) (c d : Nat) (ha : SlT w F A la) (hb : SlT w F B lr) (hF : ∀ g, F g → g < base) (hbs : base ≤ w.heap.size)
    (hown : w.ownsRow base 5 1 v l.length (l.map byteV)) (hl : l.length + 10 * (szL la + szL lr + 1) ≤ 50000000) :
    Calls Try.prog 64 #[v, .agg #[.int .i64 k, .string p, .string n, .slice A la.length c, .slice B lr.length d]] w (BytesP base w v (l ++ ([102, 117, 110, 99, 40] ++ (txtJ la ++ ([41] ++ (if lr.length = 0 then [] else [32] ++ txtF lr)))))) := by
  have hln := len_countL la
  have hlv := fun q (h : v.ownBlock = some q) => (hown.lt q h).1
  have hne0 : v.ownBlock ≠ some w.heap.size := fun h => by have := (hown.lt _ h).2; omega
  have hj := txtJ_len la
  have hlf := txtF_len lr
  have hrun := app_string (w := w.alloc (.cells #[.int .i64 k, .string p, .string n, .slice A la.length c, .slice B lr.length d] 26)) (hown.alloc _) 79 ⟨#[102, 117, 110, 99, 40]⟩ (by show l.length + 5 ≤ _; omega) (by simp; omega)
  have HB := Lib.hid hb
  have HSA := Lib.hid (fun (v' : Value) (x : List UInt8) (w' : World) (h : AppP base w v x v' w') => h.sl hlv hF ha)
  have HSB := Lib.hid (fun (v' : Value) (x : List UInt8) (w' : World) (h : AppP base w v x v' w') => h.sl hlv hF hb)
  clear ha hb hown
  have hl0 : (0 : Int) ≤ (la.length : Int) := by omega
  have hl1 : (la.length : Int) ≤ 2000000 := by omega
  obtain ⟨X, hX⟩ : ∃ X, l ++ ([102, 117, 110, 99, 40] ++ (txtJ la ++ ([41] ++ (if lr.length = 0 then [] else [32] ++ txtF lr)))) = X := ⟨_, rfl⟩
  rw [hX]
  have HX := Lib.hid hX
  clear hX
  go_enter Try.func64, Try.ntmps64
  go_wp2_with (at_builtin; refine wpList_app rfl (.tmp 7) (.const (.string ⟨#[102, 117, 110, 99, 40]⟩)) _ _ rfl _ _ rfl rfl _ hrun ?_; intro v1 w1 hA1; have hbx1 : Blk w1 w.heap.size 26 #[.int .i64 k, .string p, .string n, .slice A la.length c, .slice B lr.length d] := hA1.blk (Blk.new _ _ _) hne0; have hT1 : AppP base w v (l ++ [102, 117, 110, 99, 40]) v1 w1 := AppP.from hA1; have x3 := hbx1.cell 3; have xl := hbx1.lt)
  clear hrun
  have hs0 : w.heap.size < (w.alloc (.cells #[.int .i64 k, .string p, .string n, .slice A la.length c, .slice B lr.length d] 26)).heap.size := by simp
  go_loopg [0, 12] la.length (fun gk v0 v12 wr => ∃ j : Nat, j + gk = la.length ∧ v12 = .int .i64 j ∧ AppP base (w.alloc (.cells #[.int .i64 k, .string p, .string n, .slice A la.length c, .slice B lr.length d] 26)) v (l ++ ([102, 117, 110, 99, 40] ++ txtJ (la.take j))) v0 wr ∧ Blk wr w.heap.size 26 #[.int .i64 k, .string p, .string n, .slice A la.length c, .slice B lr.length d])
  case atStart => exact ⟨0, by simp, rfl, by simpa [txtJ] using hA1, hbx1⟩
  case round =>
    obtain ⟨j, hjl, rfl, hT, hbx⟩ := hrel
    have hneb := hT.far hs0 hne0
    have hne2 : u0.ownBlock ≠ some wr.heap.size := fun h => by have := (hT.own.lt _ h).2; omega
    have hwr := hT.size
    have bz := hbx.lt
    cases gk with
    | zero =>
      obtain rfl : j = la.length := by omega
      rw [List.take_length] at hT
      have hB9 := HSB.out _ _ _ (AppP.from hT)
      have hrun := app_one (w := wr.alloc (.cells #[.int .u8 41] 5)) (hT.own.alloc _) 79 wr.heap.size 41 (Blk.new _ _ _) (by simp only [List.length_append, List.length_cons, List.length_nil]; omega) (by simp; omega)
      have HT := Lib.hid hT
      have HBX := Lib.hid hbx
      have HB9 := Lib.hid hB9
      clear hT hbx hjl hB9
      by_cases hz : lr.length = 0
      · have hX : l ++ ([102, 117, 110, 99, 40] ++ txtJ la) ++ [41] ++ txtF lr = X := by rw [← HX.out, if_pos hz, txtF_none hz]; simp
        have hz' : ¬ (0 : Int) < (lr.length : Int) := by omega
        clear hz
        go_wp2_with (first
          | (at_builtin; refine wpList_app rfl (.tmp 25) (.tmp 26) _ _ rfl _ _ rfl rfl _ hrun ?_; intro v3 w3 hA3; have hT3 := HT.out.trans (AppP.from hA3); have hbx3 := hA3.blk (HBX.out.alloc _) hneb; have x4 := hbx3.cell 4; have xl3 := hbx3.lt; have hB3 := HSB.out _ _ _ (AppP.from hT3); have hs3 := hT3.size)
          | (go_at_call 63; refine (wfirst_any N ih lr (by omega) _ base F _ _ B d hB3 hF (by omega) hT3.own (by simp only [List.length_append, List.length_cons, List.length_nil]; omega)).mono ?_; rintro e w5 ⟨v5, rfl, hA5⟩))
        go_ret
        exact ⟨v5, rfl, by rw [← hX]; exact AppP.from (hT3.trans hA5)⟩
      · have hX : l ++ ([102, 117, 110, 99, 40] ++ txtJ la) ++ [41] ++ [32] ++ txtF lr = X := by rw [← HX.out, if_neg hz]; simp
        have hz' : (0 : Int) < (lr.length : Int) := by omega
        clear hz
        go_wp2_with (first
          | (at_builtin; refine wpList_app rfl (.tmp 25) (.tmp 26) _ _ rfl _ _ rfl rfl _ hrun ?_; intro v3 w3 hA3; have hT3 := HT.out.trans (AppP.from hA3); have hbx3 := hA3.blk (HBX.out.alloc _) hneb; have x4 := hbx3.cell 4; have xl3 := hbx3.lt; have hB3 := HSB.out _ _ _ (AppP.from hT3); have hs3 := hT3.size; have hne3 := hT3.far hs0 hne0; have hrun2 := app_one (w := w3.alloc (.cells #[.int .u8 32] 5)) (hT3.own.alloc _) 79 w3.heap.size 32 (Blk.new _ _ _) (by simp only [List.length_append, List.length_cons, List.length_nil]; omega) (by simp; omega))
          | (at_builtin; refine wpList_app rfl (.tmp 32) (.tmp 33) _ _ rfl _ _ rfl rfl _ hrun2 ?_; intro v4 w4 hA4; have hT4 := hT3.trans (AppP.from hA4); have hbx4 := hA4.blk (hbx3.alloc _) hne3; have x44 := hbx4.cell 4; have xl4 := hbx4.lt; have hB4 := HSB.out _ _ _ (AppP.from hT4); have hs4 := hT4.size)
          | (go_at_call 63; refine (wfirst_any N ih lr (by omega) _ base F _ _ B d hB4 hF (by omega) hT4.own (by simp only [List.length_append, List.length_cons, List.length_nil]; omega)).mono ?_; rintro e w5 ⟨v5, rfl, hA5⟩))
        go_ret
        exact ⟨v5, rfl, by rw [← hX]; exact AppP.from (hT4.trans hA5)⟩
    | succ f =>
      have hjl2 : j < la.length := by omega
      obtain ⟨u, hu⟩ : ∃ u, la[j]? = some u := ⟨_, List.getElem?_eq_getElem hjl2⟩
      have hsA := HSA.out _ _ _ (AppP.from hT)
      obtain ⟨g, o, us, hgA, hFg, hgl, hrep, hat⟩ := hsA.at_ hu
      subst hgA
      have hck := count_kid la j u hu
      have hsk := sz_kid la j u hu
      have hlj : (la.take j).length = j := by rw [List.length_take]; omega
      have hJ : txtJ (la.take (j + 1)) = txtJ (la.take j) ++ ((if j = 0 then [] else [44, 32]) ++ txt u) := by rw [List.take_add_one, hu, Option.toList_some, txtJ_snoc, hlj]
      have hJl := txtJ_len (la.take j)
      have HJ := Lib.hid hJ
      have hHU := fun (w' : World) (hr : RT w' F u us) => ih u (by omega) w' base F us
      obtain ⟨k1, p1, n1, A1, m1, c1, B1, l1, d1, rfl⟩ := hrep.shape
      have q0 := hat 0 _ rfl
      have q1 := hat 1 _ rfl
      have q2 := hat 2 _ rfl
      have q3 := hat 3 _ rfl
      have q4 := hat 4 _ rfl
      simp only [Nat.add_zero] at q0
      have j0 : (0 : Int) ≤ (j : Int) := by omega
      have j1 : (j : Int) < (la.length : Int) := by omega
      have j2 : (j : Int) ≤ 2000000 := by omega
      have HREP := Lib.hid (hrep.bel ((Below.refl _ wr).alloc (Nat.le_refl _) (.cells #[.int .i64 k1, .string p1, .string n1, .slice A1 m1 c1, .slice B1 l1 d1] 26)))
      have HT := Lib.hid hT
      have HBX := Lib.hid hbx
      have HHU := Lib.hid hHU
      clear hT hbx hu hat hrep hsA hJ hHU
      by_cases hj0 : j = 0
      · have hjn : ¬ (0 : Int) < (j : Int) := by omega
        have HJ0 := Lib.hid (show txtJ (la.take (j + 1)) = txtJ (la.take j) ++ txt u by rw [HJ.out, if_pos hj0, List.nil_append])
        clear hj0
        go_wp2_with (go_at_call 47; refine (HHU.out _ HREP.out _ _ HREP.out hF (by simp; omega) (HT.out.own.alloc _) (by simp only [List.length_append, List.length_cons, List.length_nil]; omega)).mono ?_; rintro e w5 ⟨v5, rfl, hA5⟩)
        have hT5 := HT.out.trans (AppP.from hA5)
        have hbx5 := hA5.blk (HBX.out.alloc _) hneb
        go_roundg f
        case measure => omega
        case rel => exact ⟨j + 1, by omega, by go_num, by rw [HJ0.out]; simpa [List.append_assoc] using hT5, hbx5⟩
      · have hjn : (0 : Int) < (j : Int) := by omega
        have HJ0 := Lib.hid (show txtJ (la.take (j + 1)) = txtJ (la.take j) ++ ([44, 32] ++ txt u) by rw [HJ.out, if_neg hj0])
        have hrun := app_string (w := wr.alloc (.cells #[.int .i64 k1, .string p1, .string n1, .slice A1 m1 c1, .slice B1 l1 d1] 26)) (HT.out.own.alloc _) 79 ⟨#[44, 32]⟩ (by simp only [List.length_append, List.length_cons, List.length_nil]; show _ + 2 ≤ _; omega) (by simp; omega)
        clear hj0
        go_wp2_with (first
          | (at_builtin; refine wpList_app rfl (.tmp 19) (.const (.string ⟨#[44, 32]⟩)) _ _ rfl _ _ rfl rfl _ hrun ?_; intro v3 w3 hA3; have hbu := hA3.blk (Blk.new _ _ _) hne2; have y0 := hbu.cell 0; have y1 := hbu.cell 1; have y2 := hbu.cell 2; have y3 := hbu.cell 3; have y4 := hbu.cell 4; have yl := hbu.lt; have hr3 := hA3.rt (fun q hq => (HT.out.own.lt q hq).1) hF HREP.out; have hs3 := hA3.size)
          | (go_at_call 47; refine (HHU.out _ hr3 _ _ hr3 hF (by simp at hs3; omega) hA3.own (by simp only [List.length_append, List.length_cons, List.length_nil]; simp; omega)).mono ?_; rintro e w5 ⟨v5, rfl, hA5⟩))
        have hA35 := hA3.trans hA5
        have hT5 := HT.out.trans (AppP.from hA35)
        have hbx5 := hA35.blk (HBX.out.alloc _) hneb
        go_roundg f
        case measure => omega
        case rel => exact ⟨j + 1, by omega, by go_num, by rw [HJ0.out]; simpa [List.append_assoc] using hT5, hbx5⟩
end Go.Proofs.Ytcfgjfahjaimiaa
