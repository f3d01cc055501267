/-
  Types in the place of variables: plainly, and walks.
-/
import Derived.Test.YtkgilhdoahkakaaTyS
namespace Go.Proofs.Ytkgilhdoahkakaa
open Go.RowKit
set_option linter.unusedVariables false
set_option linter.unusedSimpArgs false

/-- The type that is put in the place of a variable. -/
def hitT (nl : List ByteArray) (ts : List Ty) (k : Int) (n : ByteArray) : Option Ty := if k = 9 then (place nl n).bind (fun i => ts[i]?) else none
mutual
def putT (nl : List ByteArray) (ts : List Ty) : Ty → Ty
  | .mk k p n la lr => (hitT nl ts k n).getD (.mk k p n (putL nl ts la) (putL nl ts lr))
def putL (nl : List ByteArray) (ts : List Ty) : List Ty → List Ty
  | [] => []
  | t :: r => putT nl ts t :: putL nl ts r
end
theorem putT_mk (nl : List ByteArray) (ts : List Ty) (k : Int) (p n : ByteArray) (la lr : List Ty) : putT nl ts (.mk k p n la lr) = (hitT nl ts k n).getD (.mk k p n (putL nl ts la) (putL nl ts lr)) := by simp only [putT]
theorem putL_map (nl : List ByteArray) (ts : List Ty) : ∀ l : List Ty, putL nl ts l = l.map (putT nl ts)
  | [] => by simp only [putL, List.map_nil]
  | t :: r => by simp only [putL, List.map_cons, putL_map nl ts r]
theorem putL_len (nl : List ByteArray) (ts : List Ty) (l : List Ty) : (putL nl ts l).length = l.length := by rw [putL_map, List.length_map]
theorem set_zeroA {α : Type} (l : List α) (φ : α → Ty) (j f : Nat) (u : α) (h : l[j]? = some u) : ((l.take j).map φ ++ List.replicate (f + 1) tyZ).set j (φ u) = (l.take (j + 1)).map φ ++ List.replicate f tyZ := by
  have hj := (List.getElem?_eq_some_iff.1 h).1
  have hl : ((l.take j).map φ).length = j := by simp; omega
  rw [List.set_append_right _ _ (by omega), hl, Nat.sub_self, List.replicate_succ, List.set_cons_zero, List.take_add_one, h, Option.toList_some, List.map_append, List.append_assoc]
  rfl
theorem at_zeroA {α : Type} (l : List α) (φ : α → Ty) (j f : Nat) (h : j < l.length) : ((l.take j).map φ ++ List.replicate (f + 1) tyZ)[j]? = some tyZ := by
  have hl : ((l.take j).map φ).length = j := by simp; omega
  rw [List.getElem?_append_right (by omega), hl, Nat.sub_self, List.replicate_succ]
  rfl
/-- Places and types, as a putter has them. -/
structure Pu (w : World) (F : Nat → Prop) (m : Nat) (D : Option Addr) (nl : List ByteArray) (ts : List Ty) : Prop where
  map : PlMap w m nl
  row : SlT w F D ts
theorem Pu.bel {w w' : World} {F : Nat → Prop} {m : Nat} {D : Option Addr} {nl : List ByteArray} {ts : List Ty} (h : Pu w F m D nl ts) (hb : Below w.heap.size w w') : Pu w' F m D nl ts := ⟨h.map.bel hb, h.row.bel hb⟩
def PutC (nl : List ByteArray) (ts : List Ty) (N : Nat) : Prop := ∀ t : Ty, t.count ≤ N → t.mx ≤ 140737488355328 → ∀ (w : World) (F F' : Nat → Prop) (m : Nat) (D : Option Addr) (f : Nat) (vs : List Value), Pu w F' m D nl ts → RT w F t vs → Calls Try.prog 56 #[.agg #[.map (some m), .slice D ts.length f], .agg vs.toArray] w (NewP (putT nl ts t) w)
set_option maxRecDepth 100000 in
set_option maxHeartbeats 2000000 in
theorem each_put (nl : List ByteArray) (ts : List Ty) (N : Nat) (ih : PutC nl ts N) (hN : N ≤ 2000000) (l : List Ty) (hc : countL l ≤ N) (hz : mxL l ≤ 140737488355328) (w : World) (F F' : Nat → Prop) (m : Nat) (D : Option Addr) (f : Nat) (hpu : Pu w F' m D nl ts) (A : Option Addr) (c : Nat) (ha : SlT w F A l) :
    Calls Try.prog 94 #[.slice A l.length c, .func (Fn.func 56) #[.agg #[.map (some m), .slice D ts.length f]] #[]] w (NewsP (putL nl ts l) w) := by
  have hln := len_countL l
  have HA := Lib.hid ha
  have HP := Lib.hid hpu
  have n0 : (0 : Int) ≤ (l.length : Int) := by omega
  have n1 : (l.length : Int) ≤ 2000000 := by omega
  by_cases hl0 : l.length = 0
  · obtain rfl : l = [] := List.length_eq_zero_iff.1 hl0
    clear ha hl0 HA n0 n1 hln hpu HP
    go_enter Try.func94, Try.ntmps94
    go_wp2
    go_loopg [16] 0 (fun gk v16 wr => v16 = .int .i64 0 ∧ wr = w)
    case atStart => exact ⟨rfl, rfl⟩
    case round =>
      obtain ⟨rfl, rfl⟩ := hrel
      go_wp2
      go_ret
      exact ⟨none, 0, by rw [putL_len]; rfl, by rw [putL_map]; exact SlT.none_ _ _, Below.refl _ _⟩
  · have n2 : (0 : Int) < (l.length : Int) := by omega
    have n3 : decide (0 < l.length) = true := decide_eq_true (by omega)
    have hmk := fun W => run_mk l.length (by omega) W
    clear ha hl0 hpu
    go_enter Try.func94, Try.ntmps94
    go_wp2
    go_loopg [16] l.length (fun gk v16 wr => ∃ j : Nat, j + gk = l.length ∧ v16 = .int .i64 j ∧ Below w.heap.size w wr ∧ Fd wr (fun k => w.heap.size < k) w.heap.size ((l.take j).map (putT nl ts) ++ List.replicate gk tyZ))
    case atStart => exact ⟨0, by simp, rfl, (Below.refl _ w).alloc (Nat.le_refl _) _, by simpa using Fd.made w (fun k => w.heap.size < k) l.length (by simp)⟩
    case round =>
      obtain ⟨j, hj, rfl, hb, hfd⟩ := hrel
      have HB := Lib.hid hb
      have HF := Lib.hid hfd
      cases gk with
      | zero =>
        obtain rfl : j = l.length := by omega
        clear hj hfd hb
        go_wp2
        go_ret
        refine ⟨some ⟨w.heap.size, 0, none⟩, l.length, by rw [putL_len]; rfl, ?_, HB.out⟩
        have := HF.out
        rw [List.take_length, List.replicate_zero, List.append_nil, ← putL_map] at this
        exact this.slice (fun k hk => Nat.le_of_lt hk) (Nat.le_refl _)
      | succ g =>
        have hjl : j < l.length := by omega
        obtain ⟨u, hu⟩ : ∃ u, l[j]? = some u := ⟨_, List.getElem?_eq_getElem hjl⟩
        obtain ⟨q, o, vs, rfl, hFq, hgl, hrep, hat⟩ := (HA.out.bel hb).at_ hu
        have hck := count_kid l j u hu
        have hsk := mx_kid l j u hu
        have HI := Lib.hid (fun w' (hb' : Below wr.heap.size wr w') => ih u (by omega) (by omega) w' F F' m D f vs ((HP.out.bel hb).bel hb') (hrep.bel hb'))
        obtain ⟨k1, p1, n1', A1, m1', c1, B1, l1, d1, rfl⟩ := hrep.shape
        have q0 := hat 0 _ rfl
        have q1 := hat 1 _ rfl
        have q2 := hat 2 _ rfl
        have q3 := hat 3 _ rfl
        have q4 := hat 4 _ rfl
        have j1 : (j : Int) < (l.length : Int) := by omega
        simp only [Nat.add_zero] at q0
        have HU := Lib.hid hu
        clear hat hb hfd hrep hu
        go_wp2_with (go_at_call 56; refine (HI.out _ ((Below.refl _ wr).alloc (Nat.le_refl _) _)).mono ?_; rintro e w5 ⟨k2, p2, n2, A2, m2, c2, B2, l2, d2, rfl, hr5, hb5⟩; have hB5 := ((Below.refl _ wr).alloc (Nat.le_refl wr.heap.size) (.cells #[.int .i64 k1, .string p1, .string n1', .slice A1 m1' c1, .slice B1 l1 d1] 24)).trans (hb5.mono (by simp)); have hF5 := HF.out.bel hB5; obtain ⟨zz, hzr, hat5⟩ := hF5.at_ (at_zeroA l (putT nl ts) j g hjl); obtain ⟨k3, p3, n3', A3, m3, c3, B3, l3, d3, rfl⟩ := hzr.shape; have x0 := hat5 0 _ rfl; have x1 := hat5 1 _ rfl; have x2 := hat5 2 _ rfl; have x3 := hat5 3 _ rfl; have x4 := hat5 4 _ rfl; rw [Nat.add_zero] at x0; have f0 := hF5.thaw (j * 5); have f1 := hF5.thaw (j * 5 + 1); have f2 := hF5.thaw (j * 5 + 2); have f3 := hF5.thaw (j * 5 + 3); have f4 := hF5.thaw (j * 5 + 4); have HR5 := Lib.hid hr5; have HF5 := Lib.hid hF5; have HB5 := Lib.hid hB5; clear hr5 hF5 hB5 hat5 hb5)
        go_roundg g
        case measure => omega
        case rel =>
          have hBl := HB.out.size
          have hP := HF5.out.put (i := j) (by have := List.length_replicate (n := g + 1) (a := tyZ); simp; omega) (HR5.out.more (fun k hk => by simp at hk; omega))
          rw [set_zeroA l (putT nl ts) j g u HU.out] at hP
          exact ⟨j + 1, by omega, by go_num, five_bel (HB.out.trans (HB5.out.mono hBl)) (Nat.le_refl _) _ _ _ _ _ _, hP.1⟩
set_option maxRecDepth 100000 in
set_option maxHeartbeats 4000000 in
theorem rebuilt_put (nl : List ByteArray) (ts : List Ty) (N : Nat) (ih : PutC nl ts N) (hN : N ≤ 2000000) (k : Int) (p n : ByteArray) (la lr : List Ty) (hct : (Ty.mk k p n la lr).count ≤ N + 1) (hsz : (Ty.mk k p n la lr).mx ≤ 140737488355328) (w : World) (F F' : Nat → Prop) (m : Nat) (D : Option Addr) (f : Nat) (hpu : Pu w F' m D nl ts) (A B : Option Addr) (c d : Nat) (ha : SlT w F A la) (hb : SlT w F B lr) :
    Calls Try.prog 82 #[.agg #[.int .i64 k, .string p, .string n, .slice A la.length c, .slice B lr.length d], (.func (Fn.func 56) #[.agg #[.map (some m), .slice D ts.length f]] #[])] w (NewP (.mk k p n (putL nl ts la) (putL nl ts lr)) w) := by
  rw [count_mk] at hct
  rw [mx_mk] at hsz
  have H1 := Lib.hid (fun w' (h : Below w.heap.size w w') => each_put nl ts N ih hN la (by omega) (by omega) w' F F' m D f (hpu.bel h) A c (ha.bel h))
  have H2 := Lib.hid (fun w' (h : Below w.heap.size w w') => each_put nl ts N ih hN lr (by omega) (by omega) w' F F' m D f (hpu.bel h) B d (hb.bel h))
  clear ha hb hpu
  go_enter Try.func82, Try.ntmps82
  go_wp2
  have hS1 : Below w.heap.size w ((w.alloc (.cells #[.int .i64 k, .string p, .string n, .slice A la.length c, .slice B lr.length d] 24)).alloc (.cells z5 24)) := ((Below.refl _ w).alloc (Nat.le_refl _) _).alloc (by simp) _
  have hK1 : Blk ((w.alloc (.cells #[.int .i64 k, .string p, .string n, .slice A la.length c, .slice B lr.length d] 24)).alloc (.cells z5 24)) w.heap.size 24 #[.int .i64 k, .string p, .string n, .slice A la.length c, .slice B lr.length d] := (Blk.new _ _ _).alloc _
  have hR1 : Blk ((w.alloc (.cells #[.int .i64 k, .string p, .string n, .slice A la.length c, .slice B lr.length d] 24)).alloc (.cells z5 24)) (w.heap.size + 1) 24 z5 := Blk.new_at (by simp)
  change (Code.wp _ _ _ _ ((w.alloc (.cells #[.int .i64 k, .string p, .string n, .slice A la.length c, .slice B lr.length d] 24)).alloc (.cells z5 24)))
  generalize (w.alloc (.cells #[.int .i64 k, .string p, .string n, .slice A la.length c, .slice B lr.length d] 24)).alloc (.cells z5 24) = W at hS1 hK1 hR1 ⊢
  have hsW := hR1.lt
  refine wp_region_held_drew (S := fun V => Below w.heap.size w V ∧ Blk V w.heap.size 24 #[.int .i64 k, .string p, .string n, .slice A la.length c, .slice B lr.length d]) (by kernel_rfl) ⟨hS1.drew, hK1.drew⟩ (fun hS0 => ?_)
  refine wpAnyH_take (i := 0) (v := .pointer (some ⟨w.heap.size, 0, none⟩)) rfl (by kernel_rfl) (by kernel_rfl) (by kernel_rfl) (fun _ _ _ h => h) (Or.inl ⟨rfl, fun w' hS => by (unfold execOp; go_simp)⟩) hS0 ?_
  simp only [Act.put, List.getElem_toArray, List.getElem_cons_zero, List.getElem_cons_succ, List.setIfInBounds_toArray, List.set_cons_zero, List.set_cons_succ]
  refine wpAnyH_take (i := 1) (v := .int .i64 k) rfl (by kernel_rfl) (by kernel_rfl) (by kernel_rfl) (fun _ _ _ h => h) (Or.inl ⟨rfl, fun w' hS => by (have z0 := hS.2.cell 0; have z1 := hS.2.cell 1; have z2 := hS.2.cell 2; have z3 := hS.2.cell 3; have z4 := hS.2.cell 4; have zl := hS.2.lt; unfold execOp; go_simp)⟩) hS0 ?_
  simp only [Act.put, List.getElem_toArray, List.getElem_cons_zero, List.getElem_cons_succ, List.setIfInBounds_toArray, List.set_cons_zero, List.set_cons_succ]
  refine wpAnyH_take (i := 2) (v := .pointer (some ⟨w.heap.size, 1, none⟩)) rfl (by kernel_rfl) (by kernel_rfl) (by kernel_rfl) (fun _ _ _ h => h) (Or.inl ⟨rfl, fun w' hS => by (unfold execOp; go_simp)⟩) hS0 ?_
  simp only [Act.put, List.getElem_toArray, List.getElem_cons_zero, List.getElem_cons_succ, List.setIfInBounds_toArray, List.set_cons_zero, List.set_cons_succ]
  refine wpAnyH_take (i := 3) (v := .string p) rfl (by kernel_rfl) (by kernel_rfl) (by kernel_rfl) (fun _ _ _ h => h) (Or.inl ⟨rfl, fun w' hS => by (have z0 := hS.2.cell 0; have z1 := hS.2.cell 1; have z2 := hS.2.cell 2; have z3 := hS.2.cell 3; have z4 := hS.2.cell 4; have zl := hS.2.lt; unfold execOp; go_simp)⟩) hS0 ?_
  simp only [Act.put, List.getElem_toArray, List.getElem_cons_zero, List.getElem_cons_succ, List.setIfInBounds_toArray, List.set_cons_zero, List.set_cons_succ]
  refine wpAnyH_take (i := 5) (v := .pointer (some ⟨w.heap.size, 2, none⟩)) rfl (by kernel_rfl) (by kernel_rfl) (by kernel_rfl) (fun _ _ _ h => h) (Or.inl ⟨rfl, fun w' hS => by (unfold execOp; go_simp)⟩) hS0 ?_
  simp only [Act.put, List.getElem_toArray, List.getElem_cons_zero, List.getElem_cons_succ, List.setIfInBounds_toArray, List.set_cons_zero, List.set_cons_succ]
  refine wpAnyH_take (i := 6) (v := .string n) rfl (by kernel_rfl) (by kernel_rfl) (by kernel_rfl) (fun _ _ _ h => h) (Or.inl ⟨rfl, fun w' hS => by (have z0 := hS.2.cell 0; have z1 := hS.2.cell 1; have z2 := hS.2.cell 2; have z3 := hS.2.cell 3; have z4 := hS.2.cell 4; have zl := hS.2.lt; unfold execOp; go_simp)⟩) hS0 ?_
  simp only [Act.put, List.getElem_toArray, List.getElem_cons_zero, List.getElem_cons_succ, List.setIfInBounds_toArray, List.set_cons_zero, List.set_cons_succ]
  refine wpAnyH_take (i := 8) (v := .pointer (some ⟨w.heap.size, 3, none⟩)) rfl (by kernel_rfl) (by kernel_rfl) (by kernel_rfl) (fun _ _ _ h => h) (Or.inl ⟨rfl, fun w' hS => by (unfold execOp; go_simp)⟩) hS0 ?_
  simp only [Act.put, List.getElem_toArray, List.getElem_cons_zero, List.getElem_cons_succ, List.setIfInBounds_toArray, List.set_cons_zero, List.set_cons_succ]
  refine wpAnyH_take (i := 9) (v := .slice A la.length c) rfl (by kernel_rfl) (by kernel_rfl) (by kernel_rfl) (fun _ _ _ h => h) (Or.inl ⟨rfl, fun w' hS => by (have z0 := hS.2.cell 0; have z1 := hS.2.cell 1; have z2 := hS.2.cell 2; have z3 := hS.2.cell 3; have z4 := hS.2.cell 4; have zl := hS.2.lt; unfold execOp; go_simp)⟩) hS0 ?_
  simp only [Act.put, List.getElem_toArray, List.getElem_cons_zero, List.getElem_cons_succ, List.setIfInBounds_toArray, List.set_cons_zero, List.set_cons_succ]
  refine wpAnyH_take (i := 10) (v := .func (Fn.func 56) #[.agg #[.map (some m), .slice D ts.length f]] #[]) rfl (by kernel_rfl) (by kernel_rfl) (by kernel_rfl) (fun _ _ _ h => h) (Or.inl ⟨rfl, fun w' hS => by (unfold execOp; go_simp)⟩) hS0 ?_
  simp only [Act.put, List.getElem_toArray, List.getElem_cons_zero, List.getElem_cons_succ, List.setIfInBounds_toArray, List.set_cons_zero, List.set_cons_succ]
  refine wpAnyH_take (i := 12) (v := .pointer (some ⟨w.heap.size, 4, none⟩)) rfl (by kernel_rfl) (by kernel_rfl) (by kernel_rfl) (fun _ _ _ h => h) (Or.inl ⟨rfl, fun w' hS => by (unfold execOp; go_simp)⟩) hS0 ?_
  simp only [Act.put, List.getElem_toArray, List.getElem_cons_zero, List.getElem_cons_succ, List.setIfInBounds_toArray, List.set_cons_zero, List.set_cons_succ]
  refine wpAnyH_take (i := 13) (v := .slice B lr.length d) rfl (by kernel_rfl) (by kernel_rfl) (by kernel_rfl) (fun _ _ _ h => h) (Or.inl ⟨rfl, fun w' hS => by (have z0 := hS.2.cell 0; have z1 := hS.2.cell 1; have z2 := hS.2.cell 2; have z3 := hS.2.cell 3; have z4 := hS.2.cell 4; have zl := hS.2.lt; unfold execOp; go_simp)⟩) hS0 ?_
  simp only [Act.put, List.getElem_toArray, List.getElem_cons_zero, List.getElem_cons_succ, List.setIfInBounds_toArray, List.set_cons_zero, List.set_cons_succ]
  refine wpAnyH_take (i := 14) (v := .func (Fn.func 56) #[.agg #[.map (some m), .slice D ts.length f]] #[]) rfl (by kernel_rfl) (by kernel_rfl) (by kernel_rfl) (fun _ _ _ h => h) (Or.inl ⟨rfl, fun w' hS => by (unfold execOp; go_simp)⟩) hS0 ?_
  simp only [Act.put, List.getElem_toArray, List.getElem_cons_zero, List.getElem_cons_succ, List.setIfInBounds_toArray, List.set_cons_zero, List.set_cons_succ]
  have hW0 : Below W.heap.size W W.drew := (Below.refl _ W).drew
  refine wpAnyH_one (i := 4) (by kernel_rfl) rfl rfl (op_call (args := #[.string p]) (f := 72) (by unfold execOp; go_simp) ((clone_any p _ (by omega)).mono ?_))
  rintro e w1 ⟨rfl, hb1⟩
  have hW1 : Below W.heap.size W w1 := hW0.trans (hb1.mono hW0.size)
  have hB1 := hS1.trans (hW1.mono hS1.size)
  refine And.intro ⟨hB1, hK1.below hW1 hK1.lt⟩ ?_
  simp only [Act.put, List.getElem_toArray, List.getElem_cons_zero, List.getElem_cons_succ, List.setIfInBounds_toArray, List.set_cons_zero, List.set_cons_succ]
  refine wpAnyH_one (i := 7) (by kernel_rfl) rfl rfl (op_call (args := #[.string n]) (f := 72) (by unfold execOp; go_simp) ((clone_any n _ (by omega)).mono ?_))
  rintro e w2 ⟨rfl, hb2⟩
  have hW2 : Below W.heap.size W w2 := hW1.trans (hb2.mono hW1.size)
  have hB2 := hS1.trans (hW2.mono hS1.size)
  refine And.intro ⟨hB2, hK1.below hW2 hK1.lt⟩ ?_
  simp only [Act.put, List.getElem_toArray, List.getElem_cons_zero, List.getElem_cons_succ, List.setIfInBounds_toArray, List.set_cons_zero, List.set_cons_succ]
  refine wpAnyH_one (i := 11) (by kernel_rfl) rfl rfl (op_call (args := #[.slice A la.length c, .func (Fn.func 56) #[.agg #[.map (some m), .slice D ts.length f]] #[]]) (f := 94) (by unfold execOp; go_simp) ((H1.out _ hB2).mono ?_))
  rintro e w3 ⟨A3, c3, he3, hs3, hb3⟩
  rw [putL_len] at he3
  subst he3
  have hW3 : Below W.heap.size W w3 := hW2.trans (hb3.mono hW2.size)
  have hB3 := hS1.trans (hW3.mono hS1.size)
  refine And.intro ⟨hB3, hK1.below hW3 hK1.lt⟩ ?_
  simp only [Act.put, List.getElem_toArray, List.getElem_cons_zero, List.getElem_cons_succ, List.setIfInBounds_toArray, List.set_cons_zero, List.set_cons_succ]
  refine wpAnyH_one (i := 15) (by kernel_rfl) rfl rfl (op_call (args := #[.slice B lr.length d, .func (Fn.func 56) #[.agg #[.map (some m), .slice D ts.length f]] #[]]) (f := 94) (by unfold execOp; go_simp) ((H2.out _ hB3).mono ?_))
  rintro e w4 ⟨A4, c4, he4, hs4, hb4⟩
  rw [putL_len] at he4
  subst he4
  have hW4 : Below W.heap.size W w4 := hW3.trans (hb4.mono hW3.size)
  have hB4 := hS1.trans (hW4.mono hS1.size)
  refine And.intro ⟨hB4, hK1.below hW4 hK1.lt⟩ ?_
  simp only [Act.put, List.getElem_toArray, List.getElem_cons_zero, List.getElem_cons_succ, List.setIfInBounds_toArray, List.set_cons_zero, List.set_cons_succ]
  refine wpAnyH_one (i := 16) (by kernel_rfl) rfl rfl (op_val (v := .agg #[.int .i64 k, .string p, .string n, .slice A3 la.length c3, .slice A4 lr.length c4]) (by unfold execOp; go_simp) (And.intro ⟨hB4, hK1.below hW4 hK1.lt⟩ ?_))
  simp only [Act.put, List.getElem_toArray, List.getElem_cons_zero, List.getElem_cons_succ, List.setIfInBounds_toArray, List.set_cons_zero, List.set_cons_succ]
  have hR4 := hR1.below hW4 hsW
  have x0 := hR4.cell 0
  have x1 := hR4.cell 1
  have x2 := hR4.cell 2
  have x3 := hR4.cell 3
  have x4 := hR4.cell 4
  have xl := hR4.lt
  have f0 := hR4.frozen 0
  have f1 := hR4.frozen 1
  have f2 := hR4.frozen 2
  have f3 := hR4.frozen 3
  have f4 := hR4.frozen 4
  simp only [z5] at x0 x1 x2 x3 x4
  obtain ⟨V, hVe⟩ : ∃ V, ((((w4.setCell ⟨w.heap.size + 1, 0, none⟩ (.int .i64 k)).setCell ⟨w.heap.size + 1, 1, none⟩ (.string p)).setCell ⟨w.heap.size + 1, 2, none⟩ (.string n)).setCell ⟨w.heap.size + 1, 3, none⟩ (.slice A3 la.length c3)).setCell ⟨w.heap.size + 1, 4, none⟩ (.slice A4 lr.length c4) = V := ⟨_, rfl⟩
  have hVg : Gr (fun x => x = w.heap.size + 1) w4 V := by
    rw [← hVe]
    exact (((((Gr.refl w4).in_ _ _).in_ _ _).in_ _ _).in_ _ _).in_ _ _
  have hVb : Blk V (w.heap.size + 1) 24 #[.int .i64 k, .string p, .string n, .slice A3 la.length c3, .slice A4 lr.length c4] := by
    rw [← hVe]
    exact ((((hR4.set_ 0 _).set_ 1 _).set_ 2 _).set_ 3 _).set_ 4 _
  have hVw : Below w.heap.size w V := ⟨hVg.os.trans hB4.os, hVg.tape.trans hB4.tape, hVg.output.trans hB4.output, Nat.le_trans hB4.size hVg.size, fun q hq => (hVg.block q (by have := hB4.size; omega) (fun e => by have : q = w.heap.size + 1 := e; omega)).trans (hB4.block q hq)⟩
  have hVk : Blk V w.heap.size 24 #[.int .i64 k, .string p, .string n, .slice A la.length c, .slice B lr.length d] := (hVg.block _ (hK1.below hW4 hK1.lt).lt (fun e => by have : w.heap.size = w.heap.size + 1 := e; omega)).trans (hK1.below hW4 hK1.lt)
  refine wpAnyH_one (i := 17) (by kernel_rfl) rfl rfl (op_skip (w' := V) (by rw [← hVe]; unfold execOp; go_simp) (And.intro ⟨hVw, hVk⟩ ?_))
  simp only [Act.put, List.getElem_toArray, List.getElem_cons_zero, List.getElem_cons_succ, List.setIfInBounds_toArray, List.set_cons_zero, List.set_cons_succ]
  refine wpAnyH_done (by kernel_rfl) ?_ _
  have HVW := Lib.hid hVw
  have HT := Lib.hid (RT.mk_ (k := k) (p := p) (n := n) (c := c3) (c' := c4) (w := V) (F := fun q => w.heap.size ≤ q)
    (SlT.keep (F' := fun q => w.heap.size ≤ q) (hs3.bel hb4) (fun q hq hl => hVg.block q hl (fun e => by have : q = w.heap.size + 1 := e; have : w2.heap.size ≤ q := hq; have := hW2.size; omega)) hVg.size (fun q _ hq => by have : w2.heap.size ≤ q := hq; have := hB2.size; show w.heap.size ≤ q; omega))
    (SlT.keep (F' := fun q => w.heap.size ≤ q) hs4 (fun q hq hl => hVg.block q hl (fun e => by have : q = w.heap.size + 1 := e; have : w3.heap.size ≤ q := hq; have := hW3.size; omega)) hVg.size (fun q _ hq => by have : w3.heap.size ≤ q := hq; have := hB3.size; show w.heap.size ≤ q; omega)))
  rw [putL_len, putL_len] at HT
  have y0 := hVb.cell 0
  have y1 := hVb.cell 1
  have y2 := hVb.cell 2
  have y3 := hVb.cell 3
  have y4 := hVb.cell 4
  have yl := hVb.lt
  clear hVe hVg hVb hVw hVk x0 x1 x2 x3 x4 f0 f1 f2 f3 f4 hR4 hs3 hs4 hb1 hb2 hb3 hb4 hW0 hW1 hW2 hW3 hW4 hB1 hB2 hB3 hB4 hS0 hS1 hK1 hR1 H1 H2 ih
  go_wp2
  exact bodyPost_ret (v := .agg #[.int .i64 k, .string p, .string n, .slice A3 la.length c3, .slice A4 lr.length c4]) (by simp [results, Try.results82, go_sem, y0, y1, y2, y3, y4]) rfl ⟨_, _, _, _, _, _, _, _, _, rfl, HT.out, HVW.out⟩
end Go.Proofs.Ytkgilhdoahkakaa
