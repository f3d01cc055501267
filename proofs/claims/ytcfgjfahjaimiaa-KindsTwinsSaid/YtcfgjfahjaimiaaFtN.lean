/-
  What is answered lies in memory that may be written: types, fields, methods.
-/
import Derived.Test.YtcfgjfahjaimiaaSrQ
import Derived.Test.YtcfgjfahjaimiaaUk
namespace Go.Proofs.Ytcfgjfahjaimiaa
open Go.RowKit
set_option linter.unusedVariables false
set_option linter.unusedSimpArgs false

/-- A row of types in a block that may be written. -/
def Th (w : World) (F : Nat → Prop) (A : Option Addr) (n : Nat) : Prop := ∀ a, A = some a → ∃ (h : Nat) (cs : Array Value), a = ⟨h, 0, none⟩ ∧ F h ∧ Blk w h 26 cs ∧ n * 5 ≤ cs.size
theorem Th.none_ (w : World) (F : Nat → Prop) (n : Nat) : Th w F none n := fun a h => by cases h
theorem Th.keep {w w' : World} {F F' : Nat → Prop} {A : Option Addr} {n : Nat} (h : Th w F A n) (hk : ∀ q, F q → q < w.heap.size → w'.heap[q]? = w.heap[q]?) (hF : ∀ q, q < w.heap.size → F q → F' q) : Th w' F' A n := by
  intro a ha
  obtain ⟨g, cs, rfl, h1, h2, h3⟩ := h a ha
  exact ⟨g, cs, rfl, hF g h2.lt h1, (hk g h1 h2.lt).trans h2, h3⟩
theorem Th.of_fd {w : World} {F F' : Nat → Prop} {g : Nat} {l : List Ty} (h : Fd w F g l) (hg : F' g) : Th w F' (some ⟨g, 0, none⟩) l.length := by
  intro a ha
  obtain ⟨cs, h1, h2, h3⟩ := h
  injection ha with ha
  subst ha
  exact ⟨g, cs, rfl, hg, h1, by have := h3.len5; simp at this; omega⟩
def NewsPT (l : List Ty) (w : World) (e : Ending) (w' : World) : Prop := ∃ A c, e = .returned (.slice A l.length c) ∧ SlT w' (fun k => w.heap.size ≤ k) A l ∧ Below w.heap.size w w' ∧ Th w' (fun k => w.heap.size ≤ k) A l.length
def NewPT (t : Ty) (w : World) (e : Ending) (w' : World) : Prop := ∃ (k : Int) (p n : ByteArray) (A : Option Addr) (m c : Nat) (A' : Option Addr) (m' c' : Nat), e = .returned (.agg #[.int .i64 k, .string p, .string n, .slice A m c, .slice A' m' c']) ∧ RT w' (fun k => w.heap.size ≤ k) t [.int .i64 k, .string p, .string n, .slice A m c, .slice A' m' c'] ∧ Below w.heap.size w w' ∧ Th w' (fun k => w.heap.size ≤ k) A m
def RFiT : Rel Fi := fun w F f vs => RFi w F f vs ∧ ∃ (nm : ByteArray) (k : Int) (p n : ByteArray) (A : Option Addr) (m c : Nat) (B : Option Addr) (m' d : Nat), vs = [.string nm, .int .i64 k, .string p, .string n, .slice A m c, .slice B m' d] ∧ Th w F A m
theorem RFiT_keeps : Keeps RFiT := by
  intro w w' F F' u vs hk hs hF h
  obtain ⟨h1, nm, k, p, n, A, m, c, B, m', d, hv, h2⟩ := h
  exact ⟨RFi_keeps _ _ _ _ _ _ hk hs hF h1, nm, k, p, n, A, m, c, B, m', d, hv, h2.keep hk hF⟩
theorem RFiT_sized : Sized RFiT 6 := fun w F a vs h => RFi_sized _ _ _ _ h.1
theorem RFiT.zero (w : World) (F : Nat → Prop) : RFiT w F fiZ z6.toList := ⟨RFi.zero w F, _, _, _, _, _, _, _, _, _, _, rfl, Th.none_ _ _ _⟩
theorem rowsT_zeros (w : World) (F : Nat → Prop) : ∀ n : Nat, RowsOf RFiT w F (List.replicate n fiZ) (madeCells z6 (n * 6)).toList
  | 0 => by
    show _ = _
    simp [madeCells]
  | n + 1 => by
    rw [show (n + 1) * 6 = 6 + n * 6 by omega, made6]
    simp only [List.replicate_succ]
    exact ⟨_, _, rfl, RFiT.zero w F, rowsT_zeros w F n⟩
theorem FdGT.made (w : World) (F : Nat → Prop) (n : Nat) (hF : ¬ F w.heap.size) : FdG 6 40 RFiT (w.alloc (.cells (madeCells z6 (n * 6)) 40)) F w.heap.size (List.replicate n fiZ) :=
  ⟨_, Blk.new _ _ _, hF, rowsT_zeros _ _ _⟩
def NewFPT (f : Fi) (w : World) (e : Ending) (w' : World) : Prop := ∃ (k : Int) (p n : ByteArray) (A : Option Addr) (m c : Nat) (A' : Option Addr) (m' c' : Nat), e = .returned (.agg #[.string f.name, .int .i64 k, .string p, .string n, .slice A m c, .slice A' m' c']) ∧ RFiT w' (fun k => w.heap.size ≤ k) f [.string f.name, .int .i64 k, .string p, .string n, .slice A m c, .slice A' m' c'] ∧ Below w.heap.size w w'
def NewFsPT (l : List Fi) (w : World) (e : Ending) (w' : World) : Prop := ∃ A c, e = .returned (.slice A l.length c) ∧ (0 < l.length → ∃ g, A = some ⟨g, 0, none⟩ ∧ w.heap.size ≤ g ∧ FdG 6 40 RFiT w' (fun k => g < k) g l) ∧ Below w.heap.size w w'
set_option maxRecDepth 100000 in
set_option maxHeartbeats 2000000 in
theorem each_copiedT (N : Nat) (ih : CpyC N) (hN : N ≤ 2000000) (l : List Ty) (hc : countL l ≤ N) (hz : mxL l ≤ 140737488355328) (w : World) (F : Nat → Prop) (A : Option Addr) (c : Nat) (ha : SlT w F A l) :
    Calls Try.prog 80 #[.slice A l.length c, .func (Fn.func 53) #[] #[]] w (NewsPT l w) := by
  have hln := len_countL l
  have HA := Lib.hid ha
  have n0 : (0 : Int) ≤ (l.length : Int) := by omega
  have n1 : (l.length : Int) ≤ 2000000 := by omega
  by_cases hl0 : l.length = 0
  · obtain rfl : l = [] := List.length_eq_zero_iff.1 hl0
    clear ha hl0 HA n0 n1 hln
    go_enter Try.func80, Try.ntmps80
    go_wp2
    go_loopg [16] 0 (fun gk v16 wr => v16 = .int .i64 0 ∧ wr = w)
    case atStart => exact ⟨rfl, rfl⟩
    case round =>
      obtain ⟨rfl, rfl⟩ := hrel
      go_wp2
      go_ret
      exact ⟨_, _, rfl, SlT.none_ _ _, Below.refl _ _, Th.none_ _ _ _⟩
  · have n2 : (0 : Int) < (l.length : Int) := by omega
    have n3 : decide (0 < l.length) = true := decide_eq_true (by omega)
    have hmk := fun W => run_mk l.length (by omega) W
    clear ha hl0
    go_enter Try.func80, Try.ntmps80
    go_wp2
    go_loopg [16] l.length (fun gk v16 wr => ∃ j : Nat, j + gk = l.length ∧ v16 = .int .i64 j ∧ Below w.heap.size w wr ∧ Fd wr (fun k => w.heap.size < k) w.heap.size (l.take j ++ List.replicate gk tyZ))
    case atStart => exact ⟨0, by simp, rfl, (Below.refl _ w).alloc (Nat.le_refl _) _, by simpa using Fd.made w (fun k => w.heap.size < k) l.length (by simp)⟩
    case round =>
      obtain ⟨j, hj, rfl, hb, hfd⟩ := hrel
      have HB := Lib.hid hb
      have HF := Lib.hid hfd
      cases gk with
      | zero =>
        obtain rfl : j = l.length := by omega
        clear hj hfd hb
        go_wp2
        go_ret
        have hff := HF.out
        rw [List.take_length, List.replicate_zero, List.append_nil] at hff
        exact ⟨_, _, rfl, hff.slice (fun k hk => Nat.le_of_lt hk) (Nat.le_refl _), HB.out, Th.of_fd hff (Nat.le_refl _)⟩
      | succ f =>
        have hjl : j < l.length := by omega
        obtain ⟨u, hu⟩ : ∃ u, l[j]? = some u := ⟨_, List.getElem?_eq_getElem hjl⟩
        obtain ⟨q, o, vs, rfl, hFq, hgl, hrep, hat⟩ := (HA.out.bel hb).at_ hu
        have hck := count_kid l j u hu
        have hsk := mx_kid l j u hu
        have HI := Lib.hid (fun w' (hb' : Below wr.heap.size wr w') => ih u (by omega) (by omega) w' F vs (hrep.bel hb'))
        obtain ⟨k1, p1, n1', A1, m1', c1, B1, l1, d1, rfl⟩ := hrep.shape
        have q0 := hat 0 _ rfl
        have q1 := hat 1 _ rfl
        have q2 := hat 2 _ rfl
        have q3 := hat 3 _ rfl
        have q4 := hat 4 _ rfl
        have j1 : (j : Int) < (l.length : Int) := by omega
        simp only [Nat.add_zero] at q0
        have HU := Lib.hid hu
        clear hat hb hfd hrep hu
        go_wp2_with (go_at_call 53; refine (HI.out _ ((Below.refl _ wr).alloc (Nat.le_refl _) _)).mono ?_; rintro e w5 ⟨k2, p2, n2, A2, m2, c2, B2, l2, d2, rfl, hr5, hb5⟩; have hB5 := ((Below.refl _ wr).alloc (Nat.le_refl wr.heap.size) (.cells #[.int .i64 k1, .string p1, .string n1', .slice A1 m1' c1, .slice B1 l1 d1] 26)).trans (hb5.mono (by simp)); have hF5 := HF.out.bel hB5; obtain ⟨zz, hzr, hat5⟩ := hF5.at_ (at_zero l j f hjl); obtain ⟨k3, p3, n3', A3, m3, c3, B3, l3, d3, rfl⟩ := hzr.shape; have x0 := hat5 0 _ rfl; have x1 := hat5 1 _ rfl; have x2 := hat5 2 _ rfl; have x3 := hat5 3 _ rfl; have x4 := hat5 4 _ rfl; rw [Nat.add_zero] at x0; have f0 := hF5.thaw (j * 5); have f1 := hF5.thaw (j * 5 + 1); have f2 := hF5.thaw (j * 5 + 2); have f3 := hF5.thaw (j * 5 + 3); have f4 := hF5.thaw (j * 5 + 4); have HR5 := Lib.hid hr5; have HF5 := Lib.hid hF5; have HB5 := Lib.hid hB5; clear hr5 hF5 hB5 hat5 hb5)
        go_roundg f
        case measure => omega
        case rel =>
          have hBl := HB.out.size
          have hP := HF5.out.put (i := j) (by have := List.length_replicate (n := f + 1) (a := tyZ); simp; omega) (HR5.out.more (fun k hk => by simp at hk; omega))
          rw [set_zero l j f u HU.out] at hP
          exact ⟨j + 1, by omega, by go_num, five_bel (HB.out.trans (HB5.out.mono hBl)) (Nat.le_refl _) _ _ _ _ _ _, hP.1⟩
set_option maxRecDepth 100000 in
set_option maxHeartbeats 4000000 in
theorem rebuilt_copiedT (N : Nat) (ih : CpyC N) (hN : N ≤ 2000000) (k : Int) (p n : ByteArray) (la lr : List Ty) (hct : (Ty.mk k p n la lr).count ≤ N + 1) (hsz : (Ty.mk k p n la lr).mx ≤ 140737488355328) (w : World) (F : Nat → Prop) (A B : Option Addr) (c d : Nat) (ha : SlT w F A la) (hb : SlT w F B lr) :
    Calls Try.prog 70 #[.agg #[.int .i64 k, .string p, .string n, .slice A la.length c, .slice B lr.length d], (.func (Fn.func 53) #[] #[])] w (NewPT (.mk k p n la lr) w) := by
  rw [count_mk] at hct
  rw [mx_mk] at hsz
  have H1 := Lib.hid (fun w' (h : Below w.heap.size w w') => each_copiedT N ih hN la (by omega) (by omega) w' F A c (ha.bel h))
  have H2 := Lib.hid (fun w' (h : Below w.heap.size w w') => each_copied N ih hN lr (by omega) (by omega) w' F B d (hb.bel h))
  clear ha hb
  go_enter Try.func70, Try.ntmps70
  go_wp2
  have hS1 : Below w.heap.size w ((w.alloc (.cells #[.int .i64 k, .string p, .string n, .slice A la.length c, .slice B lr.length d] 26)).alloc (.cells z5 26)) := ((Below.refl _ w).alloc (Nat.le_refl _) _).alloc (by simp) _
  have hK1 : Blk ((w.alloc (.cells #[.int .i64 k, .string p, .string n, .slice A la.length c, .slice B lr.length d] 26)).alloc (.cells z5 26)) w.heap.size 26 #[.int .i64 k, .string p, .string n, .slice A la.length c, .slice B lr.length d] := (Blk.new _ _ _).alloc _
  have hR1 : Blk ((w.alloc (.cells #[.int .i64 k, .string p, .string n, .slice A la.length c, .slice B lr.length d] 26)).alloc (.cells z5 26)) (w.heap.size + 1) 26 z5 := Blk.new_at (by simp)
  change (Code.wp _ _ _ _ ((w.alloc (.cells #[.int .i64 k, .string p, .string n, .slice A la.length c, .slice B lr.length d] 26)).alloc (.cells z5 26)))
  generalize (w.alloc (.cells #[.int .i64 k, .string p, .string n, .slice A la.length c, .slice B lr.length d] 26)).alloc (.cells z5 26) = W at hS1 hK1 hR1 ⊢
  have hsW := hR1.lt
  refine wp_region_held_drew (S := fun V => Below w.heap.size w V ∧ Blk V w.heap.size 26 #[.int .i64 k, .string p, .string n, .slice A la.length c, .slice B lr.length d]) (by kernel_rfl) ⟨hS1.drew, hK1.drew⟩ (fun hS0 => ?_)
  refine wpAnyH_take (i := 0) (v := .pointer (some ⟨w.heap.size, 0, none⟩)) rfl (by kernel_rfl) (by kernel_rfl) (by kernel_rfl) (fun _ _ _ h => h) (Or.inl ⟨rfl, fun w' hS => by (unfold execOp; go_simp)⟩) hS0 ?_
  simp only [Act.put, List.getElem_toArray, List.getElem_cons_zero, List.getElem_cons_succ, List.setIfInBounds_toArray, List.set_cons_zero, List.set_cons_succ]
  refine wpAnyH_take (i := 1) (v := .int .i64 k) rfl (by kernel_rfl) (by kernel_rfl) (by kernel_rfl) (fun _ _ _ h => h) (Or.inl ⟨rfl, fun w' hS => by (have z0 := hS.2.cell 0; have z1 := hS.2.cell 1; have z2 := hS.2.cell 2; have z3 := hS.2.cell 3; have z4 := hS.2.cell 4; have zl := hS.2.lt; unfold execOp; go_simp)⟩) hS0 ?_
  simp only [Act.put, List.getElem_toArray, List.getElem_cons_zero, List.getElem_cons_succ, List.setIfInBounds_toArray, List.set_cons_zero, List.set_cons_succ]
  refine wpAnyH_take (i := 2) (v := .pointer (some ⟨w.heap.size, 1, none⟩)) rfl (by kernel_rfl) (by kernel_rfl) (by kernel_rfl) (fun _ _ _ h => h) (Or.inl ⟨rfl, fun w' hS => by (unfold execOp; go_simp)⟩) hS0 ?_
  simp only [Act.put, List.getElem_toArray, List.getElem_cons_zero, List.getElem_cons_succ, List.setIfInBounds_toArray, List.set_cons_zero, List.set_cons_succ]
  refine wpAnyH_take (i := 3) (v := .string p) rfl (by kernel_rfl) (by kernel_rfl) (by kernel_rfl) (fun _ _ _ h => h) (Or.inl ⟨rfl, fun w' hS => by (have z0 := hS.2.cell 0; have z1 := hS.2.cell 1; have z2 := hS.2.cell 2; have z3 := hS.2.cell 3; have z4 := hS.2.cell 4; have zl := hS.2.lt; unfold execOp; go_simp)⟩) hS0 ?_
  simp only [Act.put, List.getElem_toArray, List.getElem_cons_zero, List.getElem_cons_succ, List.setIfInBounds_toArray, List.set_cons_zero, List.set_cons_succ]
  refine wpAnyH_take (i := 5) (v := .pointer (some ⟨w.heap.size, 2, none⟩)) rfl (by kernel_rfl) (by kernel_rfl) (by kernel_rfl) (fun _ _ _ h => h) (Or.inl ⟨rfl, fun w' hS => by (unfold execOp; go_simp)⟩) hS0 ?_
  simp only [Act.put, List.getElem_toArray, List.getElem_cons_zero, List.getElem_cons_succ, List.setIfInBounds_toArray, List.set_cons_zero, List.set_cons_succ]
  refine wpAnyH_take (i := 6) (v := .string n) rfl (by kernel_rfl) (by kernel_rfl) (by kernel_rfl) (fun _ _ _ h => h) (Or.inl ⟨rfl, fun w' hS => by (have z0 := hS.2.cell 0; have z1 := hS.2.cell 1; have z2 := hS.2.cell 2; have z3 := hS.2.cell 3; have z4 := hS.2.cell 4; have zl := hS.2.lt; unfold execOp; go_simp)⟩) hS0 ?_
  simp only [Act.put, List.getElem_toArray, List.getElem_cons_zero, List.getElem_cons_succ, List.setIfInBounds_toArray, List.set_cons_zero, List.set_cons_succ]
  refine wpAnyH_take (i := 8) (v := .pointer (some ⟨w.heap.size, 3, none⟩)) rfl (by kernel_rfl) (by kernel_rfl) (by kernel_rfl) (fun _ _ _ h => h) (Or.inl ⟨rfl, fun w' hS => by (unfold execOp; go_simp)⟩) hS0 ?_
  simp only [Act.put, List.getElem_toArray, List.getElem_cons_zero, List.getElem_cons_succ, List.setIfInBounds_toArray, List.set_cons_zero, List.set_cons_succ]
  refine wpAnyH_take (i := 9) (v := .slice A la.length c) rfl (by kernel_rfl) (by kernel_rfl) (by kernel_rfl) (fun _ _ _ h => h) (Or.inl ⟨rfl, fun w' hS => by (have z0 := hS.2.cell 0; have z1 := hS.2.cell 1; have z2 := hS.2.cell 2; have z3 := hS.2.cell 3; have z4 := hS.2.cell 4; have zl := hS.2.lt; unfold execOp; go_simp)⟩) hS0 ?_
  simp only [Act.put, List.getElem_toArray, List.getElem_cons_zero, List.getElem_cons_succ, List.setIfInBounds_toArray, List.set_cons_zero, List.set_cons_succ]
  refine wpAnyH_take (i := 10) (v := (.func (Fn.func 53) #[] #[])) rfl (by kernel_rfl) (by kernel_rfl) (by kernel_rfl) (fun _ _ _ h => h) (Or.inl ⟨rfl, fun w' hS => by (unfold execOp; go_simp)⟩) hS0 ?_
  simp only [Act.put, List.getElem_toArray, List.getElem_cons_zero, List.getElem_cons_succ, List.setIfInBounds_toArray, List.set_cons_zero, List.set_cons_succ]
  refine wpAnyH_take (i := 12) (v := .pointer (some ⟨w.heap.size, 4, none⟩)) rfl (by kernel_rfl) (by kernel_rfl) (by kernel_rfl) (fun _ _ _ h => h) (Or.inl ⟨rfl, fun w' hS => by (unfold execOp; go_simp)⟩) hS0 ?_
  simp only [Act.put, List.getElem_toArray, List.getElem_cons_zero, List.getElem_cons_succ, List.setIfInBounds_toArray, List.set_cons_zero, List.set_cons_succ]
  refine wpAnyH_take (i := 13) (v := .slice B lr.length d) rfl (by kernel_rfl) (by kernel_rfl) (by kernel_rfl) (fun _ _ _ h => h) (Or.inl ⟨rfl, fun w' hS => by (have z0 := hS.2.cell 0; have z1 := hS.2.cell 1; have z2 := hS.2.cell 2; have z3 := hS.2.cell 3; have z4 := hS.2.cell 4; have zl := hS.2.lt; unfold execOp; go_simp)⟩) hS0 ?_
  simp only [Act.put, List.getElem_toArray, List.getElem_cons_zero, List.getElem_cons_succ, List.setIfInBounds_toArray, List.set_cons_zero, List.set_cons_succ]
  refine wpAnyH_take (i := 14) (v := (.func (Fn.func 53) #[] #[])) rfl (by kernel_rfl) (by kernel_rfl) (by kernel_rfl) (fun _ _ _ h => h) (Or.inl ⟨rfl, fun w' hS => by (unfold execOp; go_simp)⟩) hS0 ?_
  simp only [Act.put, List.getElem_toArray, List.getElem_cons_zero, List.getElem_cons_succ, List.setIfInBounds_toArray, List.set_cons_zero, List.set_cons_succ]
  have hW0 : Below W.heap.size W W.drew := (Below.refl _ W).drew
  refine wpAnyH_one (i := 4) (by kernel_rfl) rfl rfl (op_call (args := #[.string p]) (f := 52) (by unfold execOp; go_simp) ((clone_any p _ (by omega)).mono ?_))
  rintro e w1 ⟨rfl, hb1⟩
  have hW1 : Below W.heap.size W w1 := hW0.trans (hb1.mono hW0.size)
  have hB1 := hS1.trans (hW1.mono hS1.size)
  refine And.intro ⟨hB1, hK1.below hW1 hK1.lt⟩ ?_
  simp only [Act.put, List.getElem_toArray, List.getElem_cons_zero, List.getElem_cons_succ, List.setIfInBounds_toArray, List.set_cons_zero, List.set_cons_succ]
  refine wpAnyH_one (i := 7) (by kernel_rfl) rfl rfl (op_call (args := #[.string n]) (f := 52) (by unfold execOp; go_simp) ((clone_any n _ (by omega)).mono ?_))
  rintro e w2 ⟨rfl, hb2⟩
  have hW2 : Below W.heap.size W w2 := hW1.trans (hb2.mono hW1.size)
  have hB2 := hS1.trans (hW2.mono hS1.size)
  refine And.intro ⟨hB2, hK1.below hW2 hK1.lt⟩ ?_
  simp only [Act.put, List.getElem_toArray, List.getElem_cons_zero, List.getElem_cons_succ, List.setIfInBounds_toArray, List.set_cons_zero, List.set_cons_succ]
  refine wpAnyH_one (i := 11) (by kernel_rfl) rfl rfl (op_call (args := #[.slice A la.length c, (.func (Fn.func 53) #[] #[])]) (f := 80) (by unfold execOp; go_simp) ((H1.out _ hB2).mono ?_))
  rintro e w3 ⟨A3, c3, rfl, hs3, hb3, ht3⟩
  have hW3 : Below W.heap.size W w3 := hW2.trans (hb3.mono hW2.size)
  have hB3 := hS1.trans (hW3.mono hS1.size)
  refine And.intro ⟨hB3, hK1.below hW3 hK1.lt⟩ ?_
  simp only [Act.put, List.getElem_toArray, List.getElem_cons_zero, List.getElem_cons_succ, List.setIfInBounds_toArray, List.set_cons_zero, List.set_cons_succ]
  refine wpAnyH_one (i := 15) (by kernel_rfl) rfl rfl (op_call (args := #[.slice B lr.length d, (.func (Fn.func 53) #[] #[])]) (f := 80) (by unfold execOp; go_simp) ((H2.out _ hB3).mono ?_))
  rintro e w4 ⟨A4, c4, rfl, hs4, hb4⟩
  have hW4 : Below W.heap.size W w4 := hW3.trans (hb4.mono hW3.size)
  have hB4 := hS1.trans (hW4.mono hS1.size)
  refine And.intro ⟨hB4, hK1.below hW4 hK1.lt⟩ ?_
  simp only [Act.put, List.getElem_toArray, List.getElem_cons_zero, List.getElem_cons_succ, List.setIfInBounds_toArray, List.set_cons_zero, List.set_cons_succ]
  refine wpAnyH_one (i := 16) (by kernel_rfl) rfl rfl (op_val (v := .agg #[.int .i64 k, .string p, .string n, .slice A3 la.length c3, .slice A4 lr.length c4]) (by unfold execOp; go_simp) (And.intro ⟨hB4, hK1.below hW4 hK1.lt⟩ ?_))
  simp only [Act.put, List.getElem_toArray, List.getElem_cons_zero, List.getElem_cons_succ, List.setIfInBounds_toArray, List.set_cons_zero, List.set_cons_succ]
  have hR4 := hR1.below hW4 hsW
  have x0 := hR4.cell 0
  have x1 := hR4.cell 1
  have x2 := hR4.cell 2
  have x3 := hR4.cell 3
  have x4 := hR4.cell 4
  have xl := hR4.lt
  have f0 := hR4.frozen 0
  have f1 := hR4.frozen 1
  have f2 := hR4.frozen 2
  have f3 := hR4.frozen 3
  have f4 := hR4.frozen 4
  simp only [z5] at x0 x1 x2 x3 x4
  obtain ⟨V, hVe⟩ : ∃ V, ((((w4.setCell ⟨w.heap.size + 1, 0, none⟩ (.int .i64 k)).setCell ⟨w.heap.size + 1, 1, none⟩ (.string p)).setCell ⟨w.heap.size + 1, 2, none⟩ (.string n)).setCell ⟨w.heap.size + 1, 3, none⟩ (.slice A3 la.length c3)).setCell ⟨w.heap.size + 1, 4, none⟩ (.slice A4 lr.length c4) = V := ⟨_, rfl⟩
  have hVg : Gr (fun x => x = w.heap.size + 1) w4 V := by
    rw [← hVe]
    exact (((((Gr.refl w4).in_ _ _).in_ _ _).in_ _ _).in_ _ _).in_ _ _
  have hVb : Blk V (w.heap.size + 1) 26 #[.int .i64 k, .string p, .string n, .slice A3 la.length c3, .slice A4 lr.length c4] := by
    rw [← hVe]
    exact ((((hR4.set_ 0 _).set_ 1 _).set_ 2 _).set_ 3 _).set_ 4 _
  have hVw : Below w.heap.size w V := ⟨hVg.os.trans hB4.os, hVg.tape.trans hB4.tape, hVg.output.trans hB4.output, Nat.le_trans hB4.size hVg.size, fun q hq => (hVg.block q (by have := hB4.size; omega) (fun e => by have : q = w.heap.size + 1 := e; omega)).trans (hB4.block q hq)⟩
  have hVk : Blk V w.heap.size 26 #[.int .i64 k, .string p, .string n, .slice A la.length c, .slice B lr.length d] := (hVg.block _ (hK1.below hW4 hK1.lt).lt (fun e => by have : w.heap.size = w.heap.size + 1 := e; omega)).trans (hK1.below hW4 hK1.lt)
  refine wpAnyH_one (i := 17) (by kernel_rfl) rfl rfl (op_skip (w' := V) (by rw [← hVe]; unfold execOp; go_simp) (And.intro ⟨hVw, hVk⟩ ?_))
  simp only [Act.put, List.getElem_toArray, List.getElem_cons_zero, List.getElem_cons_succ, List.setIfInBounds_toArray, List.set_cons_zero, List.set_cons_succ]
  refine wpAnyH_done (by kernel_rfl) ?_ _
  have HVW := Lib.hid hVw
  have HTH := Lib.hid (show Th V (fun q => w.heap.size ≤ q) A3 la.length from Th.keep ht3 (fun q hq hl => (hVg.block q (Nat.lt_of_lt_of_le hl hb4.size) (fun e => by have : q = w.heap.size + 1 := e; have : w2.heap.size ≤ q := hq; have := hW2.size; omega)).trans (hb4.block q hl)) (fun q _ hq => by have : w2.heap.size ≤ q := hq; have := hB2.size; show w.heap.size ≤ q; omega))
  have HT := Lib.hid (RT.mk_ (k := k) (p := p) (n := n) (c := c3) (c' := c4) (w := V) (F := fun q => w.heap.size ≤ q)
    (SlT.keep (F' := fun q => w.heap.size ≤ q) (hs3.bel hb4) (fun q hq hl => hVg.block q hl (fun e => by have : q = w.heap.size + 1 := e; have : w2.heap.size ≤ q := hq; have := hW2.size; omega)) hVg.size (fun q _ hq => by have : w2.heap.size ≤ q := hq; have := hB2.size; show w.heap.size ≤ q; omega))
    (SlT.keep (F' := fun q => w.heap.size ≤ q) hs4 (fun q hq hl => hVg.block q hl (fun e => by have : q = w.heap.size + 1 := e; have : w3.heap.size ≤ q := hq; have := hW3.size; omega)) hVg.size (fun q _ hq => by have : w3.heap.size ≤ q := hq; have := hB3.size; show w.heap.size ≤ q; omega)))
  have y0 := hVb.cell 0
  have y1 := hVb.cell 1
  have y2 := hVb.cell 2
  have y3 := hVb.cell 3
  have y4 := hVb.cell 4
  have yl := hVb.lt
  clear hVe hVg hVb hVw hVk x0 x1 x2 x3 x4 f0 f1 f2 f3 f4 hR4 hs3 ht3 hs4 hb1 hb2 hb3 hb4 hW0 hW1 hW2 hW3 hW4 hB1 hB2 hB3 hB4 hS0 hS1 hK1 hR1 H1 H2 ih
  go_wp2
  exact bodyPost_ret (v := .agg #[.int .i64 k, .string p, .string n, .slice A3 la.length c3, .slice A4 lr.length c4]) (by simp [results, Try.results70, go_sem, y0, y1, y2, y3, y4]) rfl ⟨_, _, _, _, _, _, _, _, _, rfl, HT.out, HVW.out, HTH.out⟩
set_option maxRecDepth 100000 in
set_option maxHeartbeats 2000000 in
theorem copied_anyT (N : Nat) (ih : CpyC N) (hN : N ≤ 2000000) (t : Ty) (hct : t.count ≤ N + 1) (hsz : t.mx ≤ 140737488355328) (w : World) (F : Nat → Prop) (vs : List Value) (hr : RT w F t vs) : Calls Try.prog 53 #[.agg vs.toArray] w (NewPT t w) := by
  obtain ⟨k, p, n, la, lr⟩ := t
  obtain ⟨A, c, B, d, rfl, ha, hb⟩ := hr.openL
  have HI := Lib.hid (fun w' (h : Below w.heap.size w w') => rebuilt_copiedT N ih hN k p n la lr hct hsz w' F A B c d (ha.bel h) (hb.bel h))
  show Calls Try.prog 53 #[.agg #[.int .i64 k, .string p, .string n, .slice A la.length c, .slice B lr.length d]] w _
  clear hr ha hb ih
  have hS1 : Below w.heap.size w ((w.alloc (.cells #[.int .i64 k, .string p, .string n, .slice A la.length c, .slice B lr.length d] 26)).alloc (.cells z5 26)) := ((Below.refl _ w).alloc (Nat.le_refl _) _).alloc (by simp) _
  have HS1 := Lib.hid hS1
  have hR1 : Blk ((w.alloc (.cells #[.int .i64 k, .string p, .string n, .slice A la.length c, .slice B lr.length d] 26)).alloc (.cells z5 26)) (w.heap.size + 1) 26 z5 := Blk.new_at (by simp)
  have HR1 := Lib.hid hR1
  clear hS1 hR1
  go_enter Try.func53, Try.ntmps53
  go_wp2_with (go_at_call 70; refine (HI.out _ HS1.out).mono ?_; rintro e w5 ⟨k2, p2, n2, A2, m2, c2, B2, l2, d2, rfl, hr5, hb5, ht5⟩; have hR5 := HR1.out.below hb5 HR1.out.lt; have x0 := hR5.cell 0; have x1 := hR5.cell 1; have x2 := hR5.cell 2; have x3 := hR5.cell 3; have x4 := hR5.cell 4; simp only [z5] at x0 x1 x2 x3 x4; have xl := hR5.lt; have f0 := hR5.frozen 0; have f1 := hR5.frozen 1; have f2 := hR5.frozen 2; have f3 := hR5.frozen 3; have f4 := hR5.frozen 4; have HRR := Lib.hid hr5; have HT5 := Lib.hid ht5; have HBB := Lib.hid hb5; have HR5 := Lib.hid hR5; clear hr5 ht5 hb5 hR5)
  have hV := put5_blk HR5.out (.int .i64 k2) (.string p2) (.string n2) (.slice A2 m2 c2) (.slice B2 l2 d2)
  have HV5 := Lib.hid (put5_bel ((HS1.out.trans (HBB.out.mono HS1.out.size))) (show w.heap.size ≤ w.heap.size + 1 by omega) (.int .i64 k2) (.string p2) (.string n2) (.slice A2 m2 c2) (.slice B2 l2 d2))
  have HVR := Lib.hid ((HRR.out.gr (put5_gr w5 (w.heap.size + 1) (.int .i64 k2) (.string p2) (.string n2) (.slice A2 m2 c2) (.slice B2 l2 d2)) (fun h => by simp at h; omega)).more (F' := fun q => w.heap.size ≤ q) (fun q hq => by simp at hq; show w.heap.size ≤ q; omega))
  have HTV := Lib.hid (show Th (put5 w5 (w.heap.size + 1) (.int .i64 k2) (.string p2) (.string n2) (.slice A2 m2 c2) (.slice B2 l2 d2)) (fun q => w.heap.size ≤ q) A2 m2 from Th.keep HT5.out (fun q hq hl => (put5_gr w5 (w.heap.size + 1) (.int .i64 k2) (.string p2) (.string n2) (.slice A2 m2 c2) (.slice B2 l2 d2)).block q hl (fun e => by have e1 : q = w.heap.size + 1 := e; simp at hq; omega)) (fun q _ hq => by simp at hq; show w.heap.size ≤ q; omega))
  have y0 := hV.cell 0
  have y1 := hV.cell 1
  have y2 := hV.cell 2
  have y3 := hV.cell 3
  have y4 := hV.cell 4
  clear hV x0 x1 x2 x3 x4 f0 f1 f2 f3 f4
  show bodyPost _ _ _ _ _ (put5 w5 (w.heap.size + 1) (.int .i64 k2) (.string p2) (.string n2) (.slice A2 m2 c2) (.slice B2 l2 d2))
  generalize put5 w5 (w.heap.size + 1) (.int .i64 k2) (.string p2) (.string n2) (.slice A2 m2 c2) (.slice B2 l2 d2) = V at HV5 HVR HTV y0 y1 y2 y3 y4 ⊢
  exact bodyPost_ret (v := .agg #[.int .i64 k2, .string p2, .string n2, .slice A2 m2 c2, .slice B2 l2 d2]) (by simp [results, Try.results53, go_sem, y0, y1, y2, y3, y4]) rfl ⟨_, _, _, _, _, _, _, _, _, rfl, HVR.out, HV5.out, HTV.out⟩
set_option maxRecDepth 100000 in
set_option maxHeartbeats 4000000 in
theorem cfield_anyT (f : Fi) (hc : f.ty.count ≤ 2000000) (hok : f.ok 140737488355328) (w : World) (F : Nat → Prop) (vs : List Value) (hr : RFi w F f vs) : Calls Try.prog 26 #[.agg vs.toArray] w (NewFPT f w) := by
  obtain ⟨nm, t⟩ := f
  obtain ⟨tv, rfl, hrt⟩ := hr
  have hnm : nm.size ≤ 140737488355328 := hok.1
  have hmx : t.mx ≤ 140737488355328 := hok.2
  dsimp only at hrt hc
  have HC := Lib.hid (fun w' (h : Below w.heap.size w w') => copied_anyT 1999999 (copied_all 1999999 (by omega)) (by omega) t (by omega) hmx w' F _ (hrt.bel h))
  obtain ⟨k1, p1, n1', A1, m1, c1, B1, l1, d1, rfl⟩ := hrt.shape
  simp only [tyC] at HC ⊢
  clear hrt hok hmx
  go_enter Try.func26, Try.ntmps26
  go_wp2
  have hS1 : Below w.heap.size w ((w.alloc (.cells #[.string nm, .int .i64 k1, .string p1, .string n1', .slice A1 m1 c1, .slice B1 l1 d1] 40)).alloc (.cells #[.string ⟨#[]⟩, .int .i64 0, .string ⟨#[]⟩, .string ⟨#[]⟩, .slice none 0 0, .slice none 0 0] 40)) := ((Below.refl _ w).alloc (Nat.le_refl _) _).alloc (by simp) _
  have hK1 : Blk ((w.alloc (.cells #[.string nm, .int .i64 k1, .string p1, .string n1', .slice A1 m1 c1, .slice B1 l1 d1] 40)).alloc (.cells #[.string ⟨#[]⟩, .int .i64 0, .string ⟨#[]⟩, .string ⟨#[]⟩, .slice none 0 0, .slice none 0 0] 40)) w.heap.size 40 #[.string nm, .int .i64 k1, .string p1, .string n1', .slice A1 m1 c1, .slice B1 l1 d1] := (Blk.new _ _ _).alloc _
  have hR1 : Blk ((w.alloc (.cells #[.string nm, .int .i64 k1, .string p1, .string n1', .slice A1 m1 c1, .slice B1 l1 d1] 40)).alloc (.cells #[.string ⟨#[]⟩, .int .i64 0, .string ⟨#[]⟩, .string ⟨#[]⟩, .slice none 0 0, .slice none 0 0] 40)) (w.heap.size + 1) 40 #[.string ⟨#[]⟩, .int .i64 0, .string ⟨#[]⟩, .string ⟨#[]⟩, .slice none 0 0, .slice none 0 0] := Blk.new_at (by simp)
  change (Code.wp _ _ _ _ ((w.alloc (.cells #[.string nm, .int .i64 k1, .string p1, .string n1', .slice A1 m1 c1, .slice B1 l1 d1] 40)).alloc (.cells #[.string ⟨#[]⟩, .int .i64 0, .string ⟨#[]⟩, .string ⟨#[]⟩, .slice none 0 0, .slice none 0 0] 40)))
  generalize (w.alloc (.cells #[.string nm, .int .i64 k1, .string p1, .string n1', .slice A1 m1 c1, .slice B1 l1 d1] 40)).alloc (.cells #[.string ⟨#[]⟩, .int .i64 0, .string ⟨#[]⟩, .string ⟨#[]⟩, .slice none 0 0, .slice none 0 0] 40) = W at hS1 hK1 hR1 ⊢
  have hsW := hR1.lt
  refine wp_region_held_drew (S := fun V => Below w.heap.size w V ∧ Blk V w.heap.size 40 #[.string nm, .int .i64 k1, .string p1, .string n1', .slice A1 m1 c1, .slice B1 l1 d1]) (by kernel_rfl) ⟨hS1.drew, hK1.drew⟩ (fun hS0 => ?_)
  refine wpAnyH_take (i := 0) (v := .pointer (some ⟨w.heap.size, 0, none⟩)) rfl (by kernel_rfl) (by kernel_rfl) (by kernel_rfl) (fun _ _ _ h => h) (Or.inl ⟨rfl, fun w' hS => by (unfold execOp; go_simp)⟩) hS0 ?_
  simp only [Act.put, List.getElem_toArray, List.getElem_cons_zero, List.getElem_cons_succ, List.setIfInBounds_toArray, List.set_cons_zero, List.set_cons_succ]
  refine wpAnyH_take (i := 1) (v := .string nm) rfl (by kernel_rfl) (by kernel_rfl) (by kernel_rfl) (fun _ _ _ h => h) (Or.inl ⟨rfl, fun w' hS => by (have z0 := hS.2.cell 0; have zl := hS.2.lt; unfold execOp; go_simp)⟩) hS0 ?_
  simp only [Act.put, List.getElem_toArray, List.getElem_cons_zero, List.getElem_cons_succ, List.setIfInBounds_toArray, List.set_cons_zero, List.set_cons_succ]
  refine wpAnyH_take (i := 3) (v := .pointer (some ⟨w.heap.size, 1, none⟩)) rfl (by kernel_rfl) (by kernel_rfl) (by kernel_rfl) (fun _ _ _ h => h) (Or.inl ⟨rfl, fun w' hS => by (unfold execOp; go_simp)⟩) hS0 ?_
  simp only [Act.put, List.getElem_toArray, List.getElem_cons_zero, List.getElem_cons_succ, List.setIfInBounds_toArray, List.set_cons_zero, List.set_cons_succ]
  refine wpAnyH_take (i := 4) (v := .agg #[.int .i64 k1, .string p1, .string n1', .slice A1 m1 c1, .slice B1 l1 d1]) rfl (by kernel_rfl) (by kernel_rfl) (by kernel_rfl) (fun _ _ _ h => h) (Or.inl ⟨rfl, fun w' hS => by (have z1 := hS.2.cell 1; have z2 := hS.2.cell 2; have z3 := hS.2.cell 3; have z4 := hS.2.cell 4; have z5 := hS.2.cell 5; have zl := hS.2.lt; unfold execOp; go_simp)⟩) hS0 ?_
  simp only [Act.put, List.getElem_toArray, List.getElem_cons_zero, List.getElem_cons_succ, List.setIfInBounds_toArray, List.set_cons_zero, List.set_cons_succ]
  have hW0 : Below W.heap.size W W.drew := (Below.refl _ W).drew
  refine wpAnyH_one (i := 2) (by kernel_rfl) rfl rfl (op_call (args := #[.string nm]) (f := 52) (by unfold execOp; go_simp) ((clone_any nm _ (by omega)).mono ?_))
  rintro e w1 ⟨rfl, hb1⟩
  have hW1 : Below W.heap.size W w1 := hW0.trans (hb1.mono hW0.size)
  have hB1 := hS1.trans (hW1.mono hS1.size)
  refine And.intro ⟨hB1, hK1.below hW1 hK1.lt⟩ ?_
  simp only [Act.put, List.getElem_toArray, List.getElem_cons_zero, List.getElem_cons_succ, List.setIfInBounds_toArray, List.set_cons_zero, List.set_cons_succ]
  refine wpAnyH_one (i := 5) (by kernel_rfl) rfl rfl (op_call (args := #[.agg #[.int .i64 k1, .string p1, .string n1', .slice A1 m1 c1, .slice B1 l1 d1]]) (f := 53) (by unfold execOp; go_simp) ((HC.out _ hB1).mono ?_))
  rintro e w2 ⟨k2, p2, n2, A2, m2, c2, B2, l2, d2, rfl, hr2, hb2, ht2⟩
  have hW2 : Below W.heap.size W w2 := hW1.trans (hb2.mono hW1.size)
  have hB2 := hS1.trans (hW2.mono hS1.size)
  refine And.intro ⟨hB2, hK1.below hW2 hK1.lt⟩ ?_
  simp only [Act.put, List.getElem_toArray, List.getElem_cons_zero, List.getElem_cons_succ, List.setIfInBounds_toArray, List.set_cons_zero, List.set_cons_succ]
  refine wpAnyH_one (i := 6) (by kernel_rfl) rfl rfl (op_val (v := .agg #[.string nm, .int .i64 k2, .string p2, .string n2, .slice A2 m2 c2, .slice B2 l2 d2]) (by unfold execOp; go_simp) (And.intro ⟨hB2, hK1.below hW2 hK1.lt⟩ ?_))
  simp only [Act.put, List.getElem_toArray, List.getElem_cons_zero, List.getElem_cons_succ, List.setIfInBounds_toArray, List.set_cons_zero, List.set_cons_succ]
  have hR4 := hR1.below hW2 hsW
  have x0 := hR4.cell 0
  have f0 := hR4.frozen 0
  have x1 := hR4.cell 1
  have f1 := hR4.frozen 1
  have x2 := hR4.cell 2
  have f2 := hR4.frozen 2
  have x3 := hR4.cell 3
  have f3 := hR4.frozen 3
  have x4 := hR4.cell 4
  have f4 := hR4.frozen 4
  have x5 := hR4.cell 5
  have f5 := hR4.frozen 5
  have xl := hR4.lt
  obtain ⟨V, hVe⟩ : ∃ V, putCs w2 (w.heap.size + 1) 0 [.string nm, .int .i64 k2, .string p2, .string n2, .slice A2 m2 c2, .slice B2 l2 d2] = V := ⟨_, rfl⟩
  have hVg : Gr (fun x => x = w.heap.size + 1) w2 V := hVe ▸ putCs_gr _ _ 0 w2
  have hVb : Blk V (w.heap.size + 1) 40 #[.string nm, .int .i64 k2, .string p2, .string n2, .slice A2 m2 c2, .slice B2 l2 d2] := hVe ▸ putCs_blk0 (vs := [.string nm, .int .i64 k2, .string p2, .string n2, .slice A2 m2 c2, .slice B2 l2 d2]) hR4 rfl
  have hVw : Below w.heap.size w V := hB2.trans (hVg.belowN hB2.size (fun k hk e => by have e2 : k = w.heap.size + 1 := e; omega))
  have hVk : Blk V w.heap.size 40 #[.string nm, .int .i64 k1, .string p1, .string n1', .slice A1 m1 c1, .slice B1 l1 d1] := (hVg.block _ (hK1.below hW2 hK1.lt).lt (fun e => by have : w.heap.size = w.heap.size + 1 := e; omega)).trans (hK1.below hW2 hK1.lt)
  refine wpAnyH_one (i := 7) (by kernel_rfl) rfl rfl (op_skip (w' := V) (by rw [← hVe]; simp only [putCs]; unfold execOp; go_simp) (And.intro ⟨hVw, hVk⟩ ?_))
  simp only [Act.put, List.getElem_toArray, List.getElem_cons_zero, List.getElem_cons_succ, List.setIfInBounds_toArray, List.set_cons_zero, List.set_cons_succ]
  refine wpAnyH_done (by kernel_rfl) ?_ _
  have HVW := Lib.hid hVw
  have HTH := Lib.hid (show Th V (fun q => w.heap.size ≤ q) A2 m2 from Th.keep ht2 (fun q hq hl => hVg.block q hl (fun e => by have e1 : q = w.heap.size + 1 := e; have h1 : w1.heap.size ≤ q := hq; have h2 := hW1.size; omega)) (fun q _ hq => by have h1 : w1.heap.size ≤ q := hq; have h2 := hB1.size; show w.heap.size ≤ q; omega))
  have HT := Lib.hid (RT_keeps.clr (F' := fun q => w.heap.size ≤ q) hr2 hVg (fun k hk e => by have h1 : w1.heap.size ≤ k := hk; have h2 := hW1.size; have e2 : k = w.heap.size + 1 := e; omega) (fun k hk => by have h1 : w1.heap.size ≤ k := hk; have h2 := hB1.size; show w.heap.size ≤ k; omega))
  have y0 := hVb.cell 0
  have y1 := hVb.cell 1
  have y2 := hVb.cell 2
  have y3 := hVb.cell 3
  have y4 := hVb.cell 4
  have y5 := hVb.cell 5
  have yl := hVb.lt
  clear hVe hVg hVb hVw hVk x0 f0 x1 f1 x2 f2 x3 f3 x4 f4 x5 f5 hR4 hr2 ht2 hb1 hb2 hW0 hW1 hW2 hB1 hB2 hS0 hS1 hK1 hR1
  go_wp2
  exact bodyPost_ret (v := .agg #[.string nm, .int .i64 k2, .string p2, .string n2, .slice A2 m2 c2, .slice B2 l2 d2]) (by simp [results, Try.results26, go_sem, y0, y1, y2, y3, y4, y5]) rfl ⟨_, _, _, _, _, _, _, _, _, rfl, ⟨⟨_, rfl, HT.out⟩, ⟨_, _, _, _, _, _, _, _, _, _, rfl, HTH.out⟩⟩, HVW.out⟩
set_option maxRecDepth 100000 in
set_option maxHeartbeats 4000000 in
theorem cfields_anyT (l : List Fi) (hl : l.length ≤ 2000) (hc : ∀ f ∈ l, f.ty.count ≤ 2000000) (hok : ∀ f ∈ l, f.ok 140737488355328) (w : World) (F : Nat → Prop) (A : Option Addr) (c : Nat) (ha : SlG 6 RFi w F A l) :
    Calls Try.prog 24 #[.slice A l.length c, .func (Fn.func 26) #[] #[]] w (NewFsPT l w) := by
  have HA := Lib.hid ha
  have HCT := Lib.hid hc
  have HOK := Lib.hid hok
  have n0 : (0 : Int) ≤ (l.length : Int) := by omega
  have n1 : (l.length : Int) ≤ 2000000 := by omega
  by_cases hl0 : l.length = 0
  · obtain rfl : l = [] := List.length_eq_zero_iff.1 hl0
    clear ha hl0 HA n0 n1 hl hc hok HCT HOK
    go_enter Try.func24, Try.ntmps24
    go_wp2
    go_loopg [16] 0 (fun gk v16 wr => v16 = .int .i64 0 ∧ wr = w)
    case atStart => exact ⟨rfl, rfl⟩
    case round =>
      obtain ⟨rfl, rfl⟩ := hrel
      go_wp2
      go_ret
      exact ⟨_, _, rfl, fun h => absurd h (by decide), Below.refl _ _⟩
  · have n2 : (0 : Int) < (l.length : Int) := by omega
    have n3 : decide (0 < l.length) = true := decide_eq_true (by omega)
    have hmk := fun W => run_mkf l.length (by omega) W
    clear ha hl0 hc hok
    go_enter Try.func24, Try.ntmps24
    go_wp2
    go_loopg [16] l.length (fun gk v16 wr => ∃ j : Nat, j + gk = l.length ∧ v16 = .int .i64 j ∧ Below w.heap.size w wr ∧ FdG 6 40 RFiT wr (fun k => w.heap.size < k) w.heap.size (l.take j ++ List.replicate gk fiZ))
    case atStart => exact ⟨0, by simp, rfl, (Below.refl _ w).alloc (Nat.le_refl _) _, by simpa using FdGT.made w (fun k => w.heap.size < k) l.length (by simp)⟩
    case round =>
      obtain ⟨j, hj, rfl, hb, hfd⟩ := hrel
      have HB := Lib.hid hb
      have HF := Lib.hid hfd
      cases gk with
      | zero =>
        obtain rfl : j = l.length := by omega
        clear hj hfd hb
        go_wp2
        go_ret
        have hff := HF.out
        rw [List.take_length, List.replicate_zero, List.append_nil] at hff
        exact ⟨_, _, rfl, fun _ => ⟨w.heap.size, rfl, Nat.le_refl _, hff⟩, HB.out⟩
      | succ f =>
        have hjl : j < l.length := by omega
        obtain ⟨u, hu⟩ : ∃ u, l[j]? = some u := ⟨_, List.getElem?_eq_getElem hjl⟩
        obtain ⟨q, o, vs, rfl, hFq, hgl, hrep, hat⟩ := (HA.out.bel RFi_keeps hb).at_ RFi_sized hu
        have hm := List.mem_of_getElem? hu
        have HI := Lib.hid (fun w' (hb' : Below wr.heap.size wr w') => cfield_anyT u (HCT.out u hm) (HOK.out u hm) w' F vs (RFi_keeps _ _ _ _ _ _ (fun k _ hl => hb'.block k hl) hb'.size (fun _ _ h => h) hrep))
        obtain ⟨tv, rfl, hrt⟩ := hrep
        obtain ⟨k1, p1, n1', A1, m1', c1, B1, l1, d1, rfl⟩ := hrt.shape
        obtain ⟨nm, hnm⟩ : ∃ nm, u.name = nm := ⟨_, rfl⟩
        simp only [tyC, hnm] at HI hat
        have q0 := hat 0 _ rfl
        have q1 := hat 1 _ rfl
        have q2 := hat 2 _ rfl
        have q3 := hat 3 _ rfl
        have q4 := hat 4 _ rfl
        have q5 := hat 5 _ rfl
        have j1 : (j : Int) < (l.length : Int) := by omega
        simp only [Nat.add_zero] at q0
        have HU := Lib.hid hu
        have HNM := Lib.hid hnm
        clear hat hb hfd hrt hu hm hnm
        go_wp2_with (go_at_call 26; refine (HI.out _ ((Below.refl _ wr).alloc (Nat.le_refl _) _)).mono ?_; rintro e w5 ⟨k2, p2, n2, A2, m2, c2, B2, l2, d2, rfl, hr5, hb5⟩; rw [HNM.out] at hr5 ⊢; have hB5 := ((Below.refl _ wr).alloc (Nat.le_refl wr.heap.size) (.cells #[.string nm, .int .i64 k1, .string p1, .string n1', .slice A1 m1' c1, .slice B1 l1 d1] 40)).trans (hb5.mono (by simp)); have hF5 := HF.out.bel RFiT_keeps hB5; obtain ⟨zz, hzr, hat5⟩ := hF5.at_ RFiT_sized (at_zeroG fiZ l j f hjl); obtain ⟨⟨zt, rfl, hzr⟩, _⟩ := hzr; obtain ⟨k3, p3, n3', A3, m3, c3, B3, l3, d3, rfl⟩ := hzr.shape; simp only [tyC] at hat5; have x0 := hat5 0 _ rfl; have x1 := hat5 1 _ rfl; have x2 := hat5 2 _ rfl; have x3 := hat5 3 _ rfl; have x4 := hat5 4 _ rfl; have x5 := hat5 5 _ rfl; rw [Nat.add_zero] at x0; have f0 := hF5.thaw (j * 6); have f1 := hF5.thaw (j * 6 + 1); have f2 := hF5.thaw (j * 6 + 2); have f3 := hF5.thaw (j * 6 + 3); have f4 := hF5.thaw (j * 6 + 4); have f5 := hF5.thaw (j * 6 + 5);  have HR5 := Lib.hid hr5; have HF5 := Lib.hid hF5; have HB5 := Lib.hid hB5; clear hr5 hF5 hB5 hat5 hb5)
        go_roundg f
        case measure => omega
        case rel =>
          have hBl := HB.out.size
          have hP := HF5.out.put RFiT_keeps RFiT_sized (i := j) (a := u) (by have := List.length_replicate (n := f + 1) (a := fiZ); simp; omega) (RFiT_keeps _ _ _ _ _ _ (fun _ _ _ => rfl) (Nat.le_refl _) (fun k _ hk => by simp at hk; show w.heap.size < k; omega) HR5.out)
          rw [set_zeroG fiZ l j f u HU.out] at hP
          exact ⟨j + 1, by omega, by go_num, (HB.out.trans (HB5.out.mono hBl)).trans ((putCs_gr w.heap.size [.string nm, .int .i64 k2, .string p2, .string n2, .slice A2 m2 c2, .slice B2 l2 d2] (j * 6) w5).belowN (HB.out.trans (HB5.out.mono hBl)).size (fun k hk e => by have e2 : k = w.heap.size := e; omega)), hP⟩
set_option maxRecDepth 100000 in
set_option maxHeartbeats 4000000 in
theorem methods_anyT (us : List Un) (hok : ∀ u ∈ us, u.ok 140737488355328) (hlen : us.length ≤ 140737488355328) (hcn : ∀ u ∈ us, u.cnt ≤ 2000) (vars : List Fi) (hlv : vars.length ≤ 140737488355328) (t : Ty) (w : World) (F : Nat → Prop) (A V : Option Addr) (c cv : Nat) (vs : List Value) (hr : SlG 4 RUn w F A us) (hv : SlG 6 RFi w F V vars) (ht : RT w F t vs) (hF : ∀ k, F k → k < w.heap.size) :
    Calls Try.prog 11 #[.slice A us.length c, .slice V vars.length cv, .agg vs.toArray] w (NewFsPT (Srt.isort ltF (methP us vars t)) w) := by
  obtain ⟨k0, p0, n0, A0, m0, c0, B0, l0, d0, rfl⟩ := ht.shape
  simp only [tyC] at ht ⊢
  have hb1 := ((Below.refl _ w).alloc (Nat.le_refl _) (.cells #[.int .i64 k0, .string p0, .string n0, .slice A0 m0 c0, .slice B0 l0 d0] 26))
  have HB1 := Lib.hid hb1
  have hfew := (methP_few hok hcn vars t).sort
  have HC := Lib.hid (sortedm_any us hok hlen hcn vars hlv t (w.alloc (.cells #[.int .i64 k0, .string p0, .string n0, .slice A0 m0 c0, .slice B0 l0 d0] 26)) F A V c cv [.int .i64 k0, .string p0, .string n0, .slice A0 m0 c0, .slice B0 l0 d0] (hr.bel RUn_keeps hb1) (hv.bel RFi_keeps hb1) (ht.bel hb1) (fun k h => Nat.lt_of_lt_of_le (hF k h) hb1.size))
  generalize Srt.isort ltF (methP us vars t) = l at hfew HC ⊢
  have HE := Lib.hid (fun w5 F A c (h : SlG 6 RFi w5 F A l) => cfields_anyT l hfew.1 (fun f hf => by have := sumL_mem (fun f : Fi => f.ty.count) l f hf; have := hfew.2.1; omega) hfew.2.2 w5 F A c h)
  clear hb1 hr hv ht hF hok hcn hfew
  go_enter Try.func11, Try.ntmps11
  go_wp2_with (first
    | (go_at_call 24; refine (HE.out _ _ _ _ HS5.out).mono ?_; rintro e w6 ⟨A6, c6, rfl, hs6, hb6⟩; have HS6 := Lib.hid hs6; have HB6 := Lib.hid (HW5.out.trans (hb6.mono HW5.out.size)); clear hb6 hs6)
    | (go_at_call 25; refine HC.out.mono ?_; rintro e w5 ⟨⟨A5, c5, rfl, _, hs5⟩, hb5⟩; have HW5 := Lib.hid (HB1.out.trans (hb5.mono HB1.out.size)); have HS5 := Lib.hid hs5; clear hs5 hb5))
  go_ret
  exact ⟨A6, c6, rfl, fun h0 => by obtain ⟨g, e, h1, h2⟩ := HS6.out h0; exact ⟨g, e, Nat.le_trans HW5.out.size h1, h2⟩, HB6.out⟩
end Go.Proofs.Ytcfgjfahjaimiaa

namespace Go.Proofs.Ytcfgjfahjaimiaa
open Go.RowKit
set_option linter.unusedVariables false
set_option linter.unusedSimpArgs false

theorem few_ctT {l : List Fi} (h : Few l) : ∀ m ∈ l, m.ty.count ≤ 2000000 := by
  intro m hm
  obtain ⟨i, hi⟩ := List.mem_iff_getElem?.1 hm
  have h1 := sumL_kid (fun f : Fi => f.ty.count) l i m hi
  have h2 := h.2.1
  have h3 : m.ty.count ≤ sumL (fun f : Fi => f.ty.count) l := by
    have h1' : sumL (fun f : Fi => f.ty.count) (l.take i) + m.ty.count ≤ sumL (fun f : Fi => f.ty.count) l := h1
    omega
  omega
/-- A row of fields that may be written, and so may the rows of types that stand first in them. -/
def Spl1 (hi : Nat) (w : World) (g n : Nat) : Prop := (∃ cs, Blk w g 40 cs ∧ n * 6 ≤ cs.size) ∧ ∀ i, i < n → ∃ (A : Option Addr) (m c : Nat), w.cell? ⟨g, i * 6 + 4, none⟩ = some (.slice A m c) ∧ m ≤ 2000000 ∧ (A = none → m = 0) ∧ Th w (fun k => g < k ∧ k < hi) A m
theorem spl_of {w : World} {g : Nat} {l : List Fi} (h : FdG 6 40 RFiT w (fun k => g < k) g l) (hct : ∀ f ∈ l, f.ty.count ≤ 2000000) : Spl1 w.heap.size w g l.length := by
  refine ⟨?_, fun i hi => ?_⟩
  · obtain ⟨cs, h1, h2, h3⟩ := h
    have h4 := h3.len RFiT_sized
    exact ⟨cs, h1, by rw [← Array.length_toList, h4]; exact Nat.le_refl _⟩
  · obtain ⟨f, hf⟩ : ∃ f, l[i]? = some f := ⟨_, List.getElem?_eq_getElem hi⟩
    obtain ⟨us, ⟨h1, nm, k, p, n, A, m, c, B, m', d, rfl, h2⟩, h3⟩ := h.at_ RFiT_sized hf
    refine ⟨A, m, c, h3 4 _ rfl, ?_, ?_, ?_⟩
    · have h4 := hct f (List.mem_of_getElem? hf)
      obtain ⟨nm', k', p', n', la, lr⟩ := f
      obtain ⟨tv, e, hrt⟩ := h1
      obtain ⟨A7, c7, B7, d7, rfl, _, _⟩ := hrt.openL
      simp only [tyC, List.cons.injEq, Value.slice.injEq] at e
      have e1 : m = la.length := e.2.2.2.2.1.2.1
      have h5 := len_countL la
      rw [count_mk] at h4
      omega
    · obtain ⟨nm', k', p', n', la, lr⟩ := f
      obtain ⟨tv, e, hrt⟩ := h1
      obtain ⟨A7, c7, B7, d7, rfl, ha, _⟩ := hrt.openL
      simp only [tyC, List.cons.injEq, Value.slice.injEq] at e
      intro hA
      have e1 : m = la.length := e.2.2.2.2.1.2.1
      have e2 : A = A7 := e.2.2.2.2.1.1
      rcases Nat.eq_zero_or_pos la.length with h0 | h0
      · omega
      · obtain ⟨xs, hrow, _⟩ := ha
        obtain ⟨g7, o7, e7, _⟩ := hrow.2 h0
        rw [← e2, hA] at e7
        cases e7
    · intro a ha
      obtain ⟨q, cs, rfl, h4, h5, h6⟩ := h2 a ha
      exact ⟨q, cs, rfl, ⟨h4, h5.lt⟩, h5, h6⟩
theorem Spl1.keep {hi : Nat} {w w' : World} {g n : Nat} (h : Spl1 hi w g n) (hb : Below w.heap.size w w') : Spl1 hi w' g n := by
  obtain ⟨⟨cs, h1, h2⟩, h3⟩ := h
  refine ⟨⟨cs, h1.bel2 hb, h2⟩, fun i hi => ?_⟩
  obtain ⟨A, m, c, h4, h5, hN, h6⟩ := h3 i hi
  exact ⟨A, m, c, (World.cell?_of_block (hb.block g h1.lt)).trans h4, h5, hN, h6.keep (fun q _ hl => hb.block q hl) (fun q _ hq => hq)⟩
theorem Spl1.name {hi : Nat} {w : World} {g n : Nat} (h : Spl1 hi w g n) (j : Nat) (v : Value) : Spl1 hi (w.setCell ⟨g, j * 6, none⟩ v) g n := by
  obtain ⟨⟨cs, h1, h2⟩, h3⟩ := h
  refine ⟨⟨_, h1.set_ (j * 6) v, by simpa using h2⟩, fun i hi => ?_⟩
  obtain ⟨A, m, c, h4, h5, hN, h6⟩ := h3 i hi
  refine ⟨A, m, c, ?_, h5, hN, h6.keep (fun q hq _ => Below.heap_setCell w _ v q (fun e => by have e1 : q = g := e; omega)) (fun q _ hq => hq)⟩
  rw [World.cell?_setCell_other _ _ _ _ (by intro e; simp only [Addr.mk.injEq] at e; omega)]
  exact h4
theorem Spl1.arg {hi : Nat} {w : World} {g n : Nat} (h : Spl1 hi w g n) {q : Nat} {cs : Array Value} (hk : Blk w q 26 cs) (hq : g < q) (i : Nat) (vs : List Value) (hi2 : i + vs.length ≤ cs.size) : Spl1 hi (putCs w q i vs) g n := by
  obtain ⟨⟨ds, h1, h2⟩, h3⟩ := h
  have hg := putCs_gr q vs i w
  refine ⟨⟨ds, hg.blk h1 (fun e => by have e1 : g = q := e; omega), h2⟩, fun j hj => ?_⟩
  obtain ⟨A, m, c, h4, h5, hN, h6⟩ := h3 j hj
  refine ⟨A, m, c, (hg.cell h1.lt (fun e => by have e1 : g = q := e; omega)).trans h4, h5, hN, ?_⟩
  intro a ha
  obtain ⟨x, es, rfl, h7, h8, h9⟩ := h6 a ha
  by_cases e : x = q
  · subst e
    have e2 : es = cs := by
      have h10 := h8.symm.trans hk
      injection h10 with h10
      injection h10
    subst e2
    exact ⟨x, _, rfl, h7, putCs_mid vs i w es hk hi2, by simp; omega⟩
  · exact ⟨x, es, rfl, h7, hg.blk h8 e, h9⟩
theorem FrP.sl2 {F : Nat → Prop} {base : Nat} {w : World} {A : Option Addr} {c : Nat} {l : List Fi} (h : FrP F base w A c l) (hF : ∀ k, F k → k < base) : SlG 6 RFi w (fun k => F k ∨ base ≤ k) A l := by
  rcases Nat.eq_zero_or_pos l.length with h0 | h0
  · obtain rfl := List.length_eq_zero_iff.1 h0
    exact ⟨[], ⟨by simp, fun h => absurd h (by simp)⟩, rfl⟩
  · obtain ⟨g, rfl, hb, h1⟩ := h.fd hF h0
    exact h1.slice (fun _ h => .inl h) (.inr hb)
set_option maxRecDepth 100000 in
set_option maxHeartbeats 8000000 in
theorem ktwins_any (us : List Un) (hok : ∀ u ∈ us, u.ok 140737488355328) (hlen : us.length ≤ 140737488355328) (t : Ty) (w : World) (F1 F3 : Nat → Prop) (A : Option Addr) (c : Nat) (vs : List Value) (hr : SlG 4 RUn w F1 A us) (ht : RT w F3 t vs) :
    Calls Try.prog 6 #[.slice A us.length c, .agg vs.toArray] w (TruthP w true) := by
  replace hr := hr.low RUn_keeps
  replace ht := ht.lowF
  obtain ⟨k0, p0, n0, A0, m0, c0, B0, l0, d0, rfl⟩ := ht.shape
  simp only [tyC] at ht ⊢
  have hb1 := ((Below.refl _ w).alloc (Nat.le_refl _) (.cells #[.int .i64 k0, .string p0, .string n0, .slice A0 m0 c0, .slice B0 l0 d0] 26))
  have HB1 := Lib.hid hb1
  have HK1 := Lib.hid (Blk.new w 26 #[.int .i64 k0, .string p0, .string n0, .slice A0 m0 c0, .slice B0 l0 d0])
  have HU := Lib.hid (units_any us hok hlen (w.alloc (.cells #[.int .i64 k0, .string p0, .string n0, .slice A0 m0 c0, .slice B0 l0 d0] 26)) (fun k => k < w.heap.size) A c (hr.bel RUn_keeps hb1))
  have HG := Lib.hid (fun w' (h : Below w.heap.size w w') => great1_any t w w' h (fun k => k < w.heap.size) k0 p0 n0 A0 B0 m0 c0 l0 d0 ht)
  have HM := Lib.hid (fun (hcn : ∀ u ∈ us, u.cnt ≤ 2000) w' (h : Below w.heap.size w w') => methods_anyT us hok hlen hcn [] (by decide) t w' (fun k => k < w.heap.size) A none c 0 [.int .i64 k0, .string p0, .string n0, .slice A0 m0 c0, .slice B0 l0 d0] (hr.bel RUn_keeps h) (SlG.none_ _ _) (ht.bel h) (fun k hk => Nat.lt_of_lt_of_le hk h.size))
  have HM2 := Lib.hid (fun (hcn : ∀ u ∈ us, u.cnt ≤ 2000) w' (h : Below w.heap.size w w') => methods_any us hok hlen hcn [] (by decide) t w' (fun k => k < w.heap.size) A none c 0 [.int .i64 k0, .string p0, .string n0, .slice A0 m0 c0, .slice B0 l0 d0] (hr.bel RUn_keeps h) (SlG.none_ _ _) (ht.bel h) (fun k hk => Nat.lt_of_lt_of_le hk h.size))
  have HR := Lib.hid (fun (hcn : ∀ u ∈ us, u.cnt ≤ 2000) w' (h : Below w.heap.size w w') => rmeth_any us hok hlen hcn [] (by decide) t w' (fun k => k < w.heap.size) A none c 0 [.int .i64 k0, .string p0, .string n0, .slice A0 m0 c0, .slice B0 l0 d0] (hr.bel RUn_keeps h) (SlG.none_ _ _) (ht.bel h) (fun k hk => Nat.lt_of_lt_of_le hk h.size))
  have HW := Lib.hid (fun (hcn : ∀ u ∈ us, u.cnt ≤ 2000) => (methP_few hok hcn [] t).sort)
  generalize Srt.isort ltF (methP us [] t) = L at HM HM2 HR HW
  simp only [List.length_nil] at HM HM2 HR
  clear hb1 hr ht hok
  go_enter Try.func6, Try.ntmps6
  go_wp2_with (first
    | (go_at_call 7; refine HU.out.mono ?_; rintro e w2 ⟨bu, rfl, hcn, hb2⟩; have HCN := Lib.hid hcn; have HB2 := Lib.hid (HB1.out.trans (hb2.mono HB1.out.size)); clear hcn; have hk2 := HK1.out.bel2 hb2; have t0 := hk2.cell 0; have t1 := hk2.cell 1; have t2 := hk2.cell 2; have t3 := hk2.cell 3; have t4 := hk2.cell 4; have tl := hk2.lt; have HK2 := Lib.hid hk2; clear hb2 hk2)
    | (go_at_call 9; have _g := HB2; refine (HG.out _ HB2.out).mono ?_; rintro e w4 ⟨⟨bg, rfl⟩, hb4⟩; have HB4 := Lib.hid (HB2.out.trans (hb4.mono HB2.out.size)); have hk4 := HK2.out.bel2 hb4; have t0 := hk4.cell 0; have t1 := hk4.cell 1; have t2 := hk4.cell 2; have t3 := hk4.cell 3; have t4 := hk4.cell 4; have tl := hk4.lt; have HK4 := Lib.hid hk4; clear hb4 hk4)
    | (go_at_call 11; have _g := HB4; have HC2 := Lib.hid (HCN.out (by first | assumption | exact Bool.eq_false_iff.2 (by assumption))); refine (HM.out HC2.out _ HB4.out).mono ?_; rintro e w5 ⟨A5, c5, rfl, hs5, hb5⟩; have HBL := Lib.hid hb5; have HB5 := Lib.hid (HB4.out.trans (hb5.mono HB4.out.size)); have HS5 := Lib.hid hs5; clear hs5; have hk5 := HK4.out.bel2 hb5; have t0 := hk5.cell 0; have t1 := hk5.cell 1; have t2 := hk5.cell 2; have t3 := hk5.cell 3; have t4 := hk5.cell 4; have tl := hk5.lt; have HK5 := Lib.hid hk5; clear hb5 hk5)
    | (go_at_call 13; have _g := HB5; refine (HR.out HC2.out _ HB5.out).mono ?_; rintro e w6 ⟨⟨A6, c6, rfl, hf6⟩, hb6⟩; have HB6 := Lib.hid (HB5.out.trans (hb6.mono HB5.out.size)); have HS6 := Lib.hid (hf6.sl2 (fun k hk => Nat.lt_of_lt_of_le hk HB5.out.size)); have HB56 := Lib.hid hb6; clear hf6; have hk6 := HK5.out.bel2 hb6; have t0 := hk6.cell 0; have t1 := hk6.cell 1; have t2 := hk6.cell 2; have t3 := hk6.cell 3; have t4 := hk6.cell 4; have tl := hk6.lt; have HK6 := Lib.hid hk6; clear hb6 hk6)
    | (go_at_call 10; refine (awake_any _).mono ?_; rintro e w8 ⟨rfl, hb8⟩; first | have HB8 := Lib.hid (HB4.out.trans (hb8.mono HB4.out.size)) | have HB8 := Lib.hid (HB2.out.trans (hb8.mono HB2.out.size)); clear hb8))
  all_goals try (go_ret; exact ⟨by simp, HB8.out⟩)
  obtain ⟨g, hg⟩ : ∃ g, 0 < L.length → A5 = some ⟨g, 0, none⟩ ∧ w4.heap.size ≤ g ∧ g < w5.heap.size ∧ Spl1 w5.heap.size w6 g L.length := by
    by_cases h0 : 0 < L.length
    · obtain ⟨g, e, h1, h2⟩ := HS5.out h0
      exact ⟨g, fun _ => ⟨e, h1, h2.lt, (spl_of h2 (few_ctT (HW.out HC2.out))).keep HB56.out⟩⟩
    · exact ⟨0, fun h => absurd h h0⟩
  have HSP := Lib.hid hg
  have HFW := Lib.hid (HW.out HC2.out)
  have n0' : (0 : Int) ≤ (L.length : Int) := by omega
  have n1' : (L.length : Int) ≤ 2000 := by have := HFW.out.1; omega
  clear hg t0 t1 t2 t3 t4 tl
  go_loopg [7] L.length (fun gk v7 wr => ∃ j : Nat, j + gk = L.length ∧ v7 = .int .i64 j ∧ Gr (fun k => w4.heap.size ≤ k ∧ k < w5.heap.size) w6 wr ∧ (0 < L.length → Spl1 w5.heap.size wr g L.length))
  case atStart => exact ⟨0, by omega, rfl, Gr.refl _, fun h => (HSP.out h).2.2.2⟩
  case round =>
    obtain ⟨j, hj, rfl, hgr, hsp⟩ := hrel
    have HGR := Lib.hid hgr
    cases gk with
    | zero =>
      have g1 : ¬ (j : Int) < (L.length : Int) := by omega
      have g2 : decide (j < L.length) = false := decide_eq_false (by omega)
      have hbr : Below w.heap.size w wr := HB6.out.trans (hgr.belowN HB6.out.size (fun k hk e => by have := HB4.out.size; omega))
      have HBR := Lib.hid hbr
      have hkr : Blk wr w.heap.size 26 #[.int .i64 k0, .string p0, .string n0, .slice A0 m0 c0, .slice B0 l0 d0] := hgr.blk HK6.out (fun e => by have := HK4.out.lt; omega)
      have t0 := hkr.cell 0
      have t1 := hkr.cell 1
      have t2 := hkr.cell 2
      have t3 := hkr.cell 3
      have t4 := hkr.cell 4
      have tl := hkr.lt
      have HSR := Lib.hid (show SlG 6 RFi wr (fun k => k < w.heap.size ∨ w5.heap.size ≤ k) A6 L from HS6.out.keep RFi_keeps (fun k hk hl => hgr.block k hl (fun e => by have := HB4.out.size; rcases hk with hk | hk <;> omega)) hgr.size (fun _ _ h => h))
      clear hj hgr hsp hbr hkr
      go_wp2_with (first
        | (go_at_call 11; refine (HM2.out HC2.out _ HBR.out).mono ?_; rintro e w9 ⟨A9, c9, rfl, hs9, hb9⟩; have HB9 := Lib.hid (HBR.out.trans (hb9.mono HBR.out.size)); have HS9 := Lib.hid hs9; have HSR9 := Lib.hid (HSR.out.bel RFi_keeps hb9); clear hb9 hs9)
        | (go_at_call 12; refine (rsamef_any L HFW.out.2.1 HFW.out.1 _ _ _ A9 A6 c9 c6 HS9.out HSR9.out).mono ?_; rintro e w10 ⟨rfl, hb10⟩; have HB10 := Lib.hid (HB9.out.trans (hb10.mono HB9.out.size)); clear hb10)
        | (go_at_call 10; refine (awake_any _).mono ?_; rintro e w11 ⟨rfl, hb11⟩; have HB11 := Lib.hid (HB10.out.trans (hb11.mono HB10.out.size)); clear hb11))
      all_goals (go_ret; exact ⟨by simp, HB11.out⟩)
    | succ f =>
      have hjl : j < L.length := by omega
      obtain ⟨rfl, hg1, hg2, _⟩ := HSP.out (by omega)
      have hsp0 := hsp (by omega)
      obtain ⟨⟨cs, hkg, hcs⟩, hall⟩ := hsp0
      obtain ⟨z0, hz0⟩ : ∃ z, cs[j * 6]? = some z := ⟨_, Array.getElem?_eq_getElem (by omega)⟩
      have q0 : wr.cell? ⟨g, j * 6, none⟩ = some z0 := by rw [hkg.cell]; exact hz0
      have f0 := hkg.frozen (j * 6)
      have gl := hkg.lt
      have j1 : (j : Int) < (L.length : Int) := by omega
      have jd : decide (j < L.length) = true := decide_eq_true hjl
      have j0 : (0 : Int) ≤ (j : Int) := by omega
      have j2 : (j : Int) ≤ 2000 := by omega
      have hsp1 := (hsp (by omega)).name j (.string ⟨#[63]⟩)
      have hgr1 : Gr (fun k => w4.heap.size ≤ k ∧ k < w5.heap.size) w6 (wr.setCell ⟨g, j * 6, none⟩ (.string ⟨#[63]⟩)) := hgr.setCell (p := ⟨g, j * 6, none⟩) (Or.inr ⟨hg1, hg2⟩) _
      obtain ⟨Aa, m, ca, ha, hm, hnz, _⟩ := hsp1.2 j hjl
      have HNZ := Lib.hid hnz
      have HA := Lib.hid ha
      have HSP1 := Lib.hid hsp1
      have HGR1 := Lib.hid hgr1
      have m0' : (0 : Int) ≤ (m : Int) := by omega
      have m1' : (m : Int) ≤ 2000000 := by omega
      clear hsp hall hcs hz0 hkg hgr hsp1 hgr1 ha hnz HGR
      go_wp2
      go_loopg [8] m (fun gk v8 wr2 => ∃ k : Nat, k + gk = m ∧ v8 = .int .i64 k ∧ Gr (fun k => w4.heap.size ≤ k ∧ k < w5.heap.size) w6 wr2 ∧ Spl1 w5.heap.size wr2 g L.length ∧ wr2.cell? ⟨g, j * 6 + 4, none⟩ = some (.slice Aa m ca))
      case atStart => exact ⟨0, by omega, rfl, HGR1.out, HSP1.out, HA.out⟩
      case round =>
        obtain ⟨k, hk, rfl, hgr, hsp, ha⟩ := hrel
        have HGR2 := Lib.hid hgr
        have HSP2 := Lib.hid hsp
        have HA2 := Lib.hid ha
        have gl2 := hsp.1.choose_spec.1.lt
        cases gk with
        | zero =>
          have k1 : ¬ (k : Int) < (m : Int) := by omega
          have kd : decide (k < m) = false := decide_eq_false (by omega)
          clear hgr hsp hk
          go_wp2
          go_roundg f
          case measure => omega
          case rel => exact ⟨j + 1, by omega, by go_num, HGR2.out, fun _ => HSP2.out⟩
        | succ q =>
          have hkm : k < m := by omega
          have k1 : (k : Int) < (m : Int) := by omega
          have kd : decide (k < m) = true := decide_eq_true hkm
          have k0' : (0 : Int) ≤ (k : Int) := by omega
          have k2' : (k : Int) ≤ 2000000 := by omega
          obtain ⟨A', m', c', ha', hm', _, hth⟩ := hsp.2 j hjl
          rw [ha] at ha'
          injection ha' with ha'
          injection ha' with e1 e2 e3
          subst e1 e2 e3
          obtain ⟨a, rfl⟩ : ∃ a, Aa = some a := by
            cases Aa with
            | some a => exact ⟨a, rfl⟩
            | none => exact absurd (HNZ.out rfl) (by omega)
          obtain ⟨x, ds, e, ⟨hx1, hx2⟩, hx3, hx4⟩ := hth _ rfl
          subst e
          have hfive : k * 5 + 5 ≤ ds.size := by omega
          have HX3 := Lib.hid hx3
          have xl := hx3.lt
          obtain ⟨y0, hy0⟩ : ∃ z, ds[k * 5 + 0]? = some z := ⟨_, Array.getElem?_eq_getElem (by omega)⟩
          have x0 : wr.cell? ⟨x, k * 5 + 0, none⟩ = some y0 := by rw [hx3.cell]; exact hy0
          have fx0 := hx3.frozen (k * 5 + 0)
          obtain ⟨y1, hy1⟩ : ∃ z, ds[k * 5 + 1]? = some z := ⟨_, Array.getElem?_eq_getElem (by omega)⟩
          have x1 : wr.cell? ⟨x, k * 5 + 1, none⟩ = some y1 := by rw [hx3.cell]; exact hy1
          have fx1 := hx3.frozen (k * 5 + 1)
          obtain ⟨y2, hy2⟩ : ∃ z, ds[k * 5 + 2]? = some z := ⟨_, Array.getElem?_eq_getElem (by omega)⟩
          have x2 : wr.cell? ⟨x, k * 5 + 2, none⟩ = some y2 := by rw [hx3.cell]; exact hy2
          have fx2 := hx3.frozen (k * 5 + 2)
          obtain ⟨y3, hy3⟩ : ∃ z, ds[k * 5 + 3]? = some z := ⟨_, Array.getElem?_eq_getElem (by omega)⟩
          have x3 : wr.cell? ⟨x, k * 5 + 3, none⟩ = some y3 := by rw [hx3.cell]; exact hy3
          have fx3 := hx3.frozen (k * 5 + 3)
          obtain ⟨y4, hy4⟩ : ∃ z, ds[k * 5 + 4]? = some z := ⟨_, Array.getElem?_eq_getElem (by omega)⟩
          have x4 : wr.cell? ⟨x, k * 5 + 4, none⟩ = some y4 := by rw [hx3.cell]; exact hy4
          have fx4 := hx3.frozen (k * 5 + 4)
          rw [Nat.add_zero] at x0 fx0
          have hbuild : ∀ W, (Instr.build 26 #[(0, .int .i64 77)]).run Try.prog W = .ok (.agg #[.int .i64 77, .string ⟨#[]⟩, .string ⟨#[]⟩, .slice none 0 0, .slice none 0 0]) W := fun _ => by kernel_rfl
          have hgN : Gr (fun k => w4.heap.size ≤ k ∧ k < w5.heap.size) w6 (putCs wr x (k * 5) [.int .i64 77, .string ⟨#[]⟩, .string ⟨#[]⟩, .slice none 0 0, .slice none 0 0]) := hgr.trans ((putCs_gr x [.int .i64 77, .string ⟨#[]⟩, .string ⟨#[]⟩, .slice none 0 0, .slice none 0 0] (k * 5) wr).mono (fun q _ e => by have e1 : q = x := e; omega))
          have hsN := hsp.arg hx3 hx1 (k * 5) [.int .i64 77, .string ⟨#[]⟩, .string ⟨#[]⟩, .slice none 0 0, .slice none 0 0] (by simpa using hfive)
          have haN : (putCs wr x (k * 5) [.int .i64 77, .string ⟨#[]⟩, .string ⟨#[]⟩, .slice none 0 0, .slice none 0 0]).cell? ⟨g, j * 6 + 4, none⟩ = some (.slice (some ⟨x, 0, none⟩) m ca) := ((putCs_gr x [.int .i64 77, .string ⟨#[]⟩, .string ⟨#[]⟩, .slice none 0 0, .slice none 0 0] (k * 5) wr).cell gl2 (fun e => by have e1 : g = x := e; omega)).trans ha
          have HGN := Lib.hid hgN
          have HSN := Lib.hid hsN
          have HAN := Lib.hid haN
          clear hgr hsp hgN hsN haN hth hy0 hy1 hy2 hy3 hy4 hx3 hx4 hfive hm'
          go_wp2
          go_roundg q
          case measure => omega
          case rel => exact ⟨k + 1, by omega, by go_num, HGN.out, HSN.out, HAN.out⟩
end Go.Proofs.Ytcfgjfahjaimiaa
