/-
  Units that come in: opened, with their numbers' range.
-/
import Derived.Test.YtnkojjkijkhlbaaUb
import Derived.Test.YtnkojjkijkhlbaaTv
namespace Go.Proofs.Ytnkojjkijkhlbaa
open Go.ChangeShapes Go.WideShapes Go.Deep Go.RowKit
set_option linter.unusedVariables false
set_option linter.unusedSimpArgs false

def Im.rng (a : Im) : Prop := I64 a.hash
def Fi.rng (f : Fi) : Prop := f.ty.rng
def Dl.rng (d : Dl) : Prop := I64 d.kind ∧ I64 d.value ∧ d.ty.rng ∧ ∀ f ∈ d.fields, f.rng
mutual
def Ex.rng : Ex → Prop
  | .mk op n _ kids => I64 op ∧ I64 n ∧ rngEs kids
def rngEs : List Ex → Prop
  | [] => True
  | t :: r => t.rng ∧ rngEs r
end
theorem rngEs_iff : ∀ l : List Ex, rngEs l ↔ ∀ a ∈ l, a.rng
  | [] => by simp [rngEs]
  | t :: r => by simp only [rngEs, rngEs_iff r, List.mem_cons, forall_eq_or_imp]
mutual
def St.rng : St → Prop
  | .mk op n es bo el => I64 op ∧ I64 n ∧ rngEs es ∧ rngSs bo ∧ rngSs el
def rngSs : List St → Prop
  | [] => True
  | t :: r => t.rng ∧ rngSs r
end
theorem rngSs_iff : ∀ l : List St, rngSs l ↔ ∀ a ∈ l, a.rng
  | [] => by simp [rngSs]
  | t :: r => by simp only [rngSs, rngSs_iff r, List.mem_cons, forall_eq_or_imp]
def Fn8.rng (f : Fn8) : Prop := I64 f.params ∧ I64 f.locals ∧ ∀ s ∈ f.body, s.rng
def Un.rng (u : Un) : Prop := (∀ a ∈ u.imps, a.rng) ∧ (∀ d ∈ u.decls, d.rng) ∧ ∀ f ∈ u.funs, f.rng
section
variable {H : Type} {enc : TypeId × Value → H} {w : World} {base : Nat} {spare : Nat → Bool} {held : Bool}
set_option maxRecDepth 100000 in
set_option maxHeartbeats 1000000 in
theorem open_imR (n : Nat) (cs : List Value) (x : DataW H × List MemPlace) (h : DataW.trod enc Try.prog w base spare held n 83 cs = some x) : ∃ a : Im, RIm w (fun k => base ≤ k) a cs ∧ ∀ B, (∀ k ∈ x.1.weights Try.prog 83, k ≤ B) → (a.ok B ∧ a.rng) := by
  obtain ⟨xs, m, hm, rfl, hcl, hxl, hf⟩ := DataW.trod_struct Try.underlying83 h
  have hcf : Try.prog.cellsOf 83 = 2 := by kernel_rfl
  rw [hcf] at hcl
  subst hm
  match cs, hcl with
  | [c0, c1], _ =>
  match xs, (show xs.length = 2 from hxl) with
  | [y0, y1], _ =>
    have ki : Try.prog.cellsOf 3 = 1 := by kernel_rfl
    have ks : Try.prog.cellsOf 9 = 1 := by kernel_rfl
    have kk1 : Try.prog.cellsOf 2 = 1 := by kernel_rfl
    have e0 := hf 0 _ rfl
    have e1 := hf 1 _ rfl
    simp [ki, ks, cells_type, kk1] at e0 e1
    clear hf hxl hcf
    obtain ⟨v0, hv0, hy0, _⟩ := DataW.trod_string Try.underlying9 e0
    obtain ⟨v1, hv1, hy1, hg1⟩ := DataW.trod_int Try.underlying2 e1
    simp only [List.cons.injEq, and_true] at hv0 hv1
    subst hv0 hv1
    subst hy0 hy1
    refine ⟨⟨v0, v1⟩, rfl, fun B hB => ?_⟩
    rw [agg_w Try.underlying83] at hB
    have w0 : ∀ k ∈ _, k ≤ B := fun k hk => hB k (DataW.weights_mem_each (j := 0) (t := 9) rfl rfl k hk)
    have w1 : ∀ k ∈ _, k ≤ B := fun k hk => hB k (DataW.weights_mem_each (j := 1) (t := 2) rfl rfl k hk)
    exact ⟨str_w v0 _ B w0, i64_of hg1⟩
set_option maxRecDepth 100000 in
set_option maxHeartbeats 1000000 in
theorem open_fiR (n : Nat) (cs : List Value) (x : DataW H × List MemPlace) (h : DataW.trod enc Try.prog w base spare held n 74 cs = some x) : ∃ a : Fi, RFi w (fun k => base ≤ k) a cs ∧ ∀ B, (∀ k ∈ x.1.weights Try.prog 74, k ≤ B) → (a.ok B ∧ a.rng) := by
  obtain ⟨xs, m, hm, rfl, hcl, hxl, hf⟩ := DataW.trod_struct Try.underlying74 h
  have hcf : Try.prog.cellsOf 74 = 6 := by kernel_rfl
  rw [hcf] at hcl
  subst hm
  match cs, hcl with
  | [c0, c1, c2, c3, c4, c5], _ =>
  match xs, (show xs.length = 2 from hxl) with
  | [y0, y1], _ =>
    have ki : Try.prog.cellsOf 3 = 1 := by kernel_rfl
    have ks : Try.prog.cellsOf 9 = 1 := by kernel_rfl
    have e0 := hf 0 _ rfl
    have e1 := hf 1 _ rfl
    simp [ki, ks, cells_type] at e0 e1
    clear hf hxl hcf
    obtain ⟨v0, hv0, hy0, _⟩ := DataW.trod_string Try.underlying9 e0
    obtain ⟨v1, hv1, _, _, hw1⟩ := open_typeR _ _ _ e1
    simp only [List.cons.injEq, and_true] at hv0
    subst hv0
    subst hy0
    refine ⟨⟨v0, v1⟩, ⟨_, rfl, hv1⟩, fun B hB => ?_⟩
    rw [agg_w Try.underlying74] at hB
    have w0 : ∀ k ∈ _, k ≤ B := fun k hk => hB k (DataW.weights_mem_each (j := 0) (t := 9) rfl rfl k hk)
    have w1 : ∀ k ∈ _, k ≤ B := fun k hk => hB k (DataW.weights_mem_each (j := 1) (t := 44) rfl rfl k hk)
    exact ⟨⟨str_w v0 _ B w0, (hw1 B w1).1⟩, (hw1 B w1).2⟩
set_option maxRecDepth 100000 in
set_option maxHeartbeats 1000000 in
theorem open_dlR (n : Nat) (cs : List Value) (x : DataW H × List MemPlace) (h : DataW.trod enc Try.prog w base spare held n 47 cs = some x) : ∃ a : Dl, RDl w (fun k => base ≤ k) a cs ∧ ∀ B, (∀ k ∈ x.1.weights Try.prog 47, k ≤ B) → (a.ok B ∧ a.rng) := by
  obtain ⟨xs, m, hm, rfl, hcl, hxl, hf⟩ := DataW.trod_struct Try.underlying47 h
  have hcf : Try.prog.cellsOf 47 = 10 := by kernel_rfl
  rw [hcf] at hcl
  subst hm
  match cs, hcl with
  | [c0, c1, c2, c3, c4, c5, c6, c7, c8, c9], _ =>
  match xs, (show xs.length = 6 from hxl) with
  | [y0, y1, y2, y3, y4, y5], _ =>
    have ki : Try.prog.cellsOf 3 = 1 := by kernel_rfl
    have ks : Try.prog.cellsOf 9 = 1 := by kernel_rfl
    have kk3 : Try.prog.cellsOf 2 = 1 := by kernel_rfl
    have kk5 : Try.prog.cellsOf 45 = 1 := by kernel_rfl
    have e0 := hf 0 _ rfl
    have e1 := hf 1 _ rfl
    have e2 := hf 2 _ rfl
    have e3 := hf 3 _ rfl
    have e4 := hf 4 _ rfl
    have e5 := hf 5 _ rfl
    simp [ki, ks, cells_type, kk3, kk5] at e0 e1 e2 e3 e4 e5
    clear hf hxl hcf
    cases m with
    | zero => simp [DataW.trod] at e5
    | succ m =>
        obtain ⟨v0, hv0, hy0, hg0⟩ := DataW.trod_int Try.underlying3 e0
        obtain ⟨v1, hv1, hy1, _⟩ := DataW.trod_string Try.underlying9 e1
        obtain ⟨v2, hv2, hy2, _⟩ := DataW.trod_string Try.underlying9 e2
        obtain ⟨v3, hv3, hy3, hg3⟩ := DataW.trod_int Try.underlying2 e3
        obtain ⟨v4, hv4, _, _, hw4⟩ := open_typeR _ _ _ e4
        obtain ⟨A5, v5, d5, hv5, hs5, hw5⟩ := open_sl RFi 6 (by omega) RFi_sized 74 45 Try.underlying45 (by kernel_rfl) (of_decide_eq_true (by kernel_rfl)) (fun B a => Fi.ok B a ∧ Fi.rng a) m (fun cs x hx => open_fiR m cs x hx) e5
        simp only [List.cons.injEq, and_true] at hv0 hv1 hv2 hv3 hv5
        subst hv0 hv1 hv2 hv3 hv5
        subst hy0 hy1 hy2 hy3
        refine ⟨⟨v0, v1, v2, v3, v4, v5⟩, ⟨_, A5, d5, rfl, hv4, hs5⟩, fun B hB => ?_⟩
        rw [agg_w Try.underlying47] at hB
        have w0 : ∀ k ∈ _, k ≤ B := fun k hk => hB k (DataW.weights_mem_each (j := 0) (t := 3) rfl rfl k hk)
        have w1 : ∀ k ∈ _, k ≤ B := fun k hk => hB k (DataW.weights_mem_each (j := 1) (t := 9) rfl rfl k hk)
        have w2 : ∀ k ∈ _, k ≤ B := fun k hk => hB k (DataW.weights_mem_each (j := 2) (t := 9) rfl rfl k hk)
        have w3 : ∀ k ∈ _, k ≤ B := fun k hk => hB k (DataW.weights_mem_each (j := 3) (t := 2) rfl rfl k hk)
        have w4 : ∀ k ∈ _, k ≤ B := fun k hk => hB k (DataW.weights_mem_each (j := 4) (t := 44) rfl rfl k hk)
        have w5 : ∀ k ∈ _, k ≤ B := fun k hk => hB k (DataW.weights_mem_each (j := 5) (t := 45) rfl rfl k hk)
        exact ⟨⟨str_w v1 _ B w1, str_w v2 _ B w2, (hw4 B w4).1, (hw5 B w5).1, fun a ha => ((hw5 B w5).2 a ha).1⟩, i64_of hg0, i64_of hg3, (hw4 B w4).2, fun a ha => ((hw5 B w5).2 a ha).2⟩
set_option maxRecDepth 100000 in
set_option maxHeartbeats 1000000 in
theorem open_exR : ∀ (n : Nat) (cs : List Value) (x : DataW H × List MemPlace), DataW.trod enc Try.prog w base spare held n 140 cs = some x → ∃ a : Ex, RE w (fun k => base ≤ k) a cs ∧ ∀ B, (∀ k ∈ x.1.weights Try.prog 140, k ≤ B) → (a.ok B ∧ a.rng) := by
  intro n
  induction n using Nat.strongRecOn with
  | _ n ih =>
  intro cs x h
  obtain ⟨xs, m, hm, rfl, hcl, hxl, hf⟩ := DataW.trod_struct Try.underlying140 h
  have hcf : Try.prog.cellsOf 140 = 4 := by kernel_rfl
  rw [hcf] at hcl
  subst hm
  match cs, hcl with
  | [c0, c1, c2, c3], _ =>
  match xs, (show xs.length = 4 from hxl) with
  | [y0, y1, y2, y3], _ =>
    have ki : Try.prog.cellsOf 3 = 1 := by kernel_rfl
    have ks : Try.prog.cellsOf 9 = 1 := by kernel_rfl
    have kk1 : Try.prog.cellsOf 2 = 1 := by kernel_rfl
    have kk3 : Try.prog.cellsOf 109 = 1 := by kernel_rfl
    have e0 := hf 0 _ rfl
    have e1 := hf 1 _ rfl
    have e2 := hf 2 _ rfl
    have e3 := hf 3 _ rfl
    simp [ki, ks, cells_type, kk1, kk3] at e0 e1 e2 e3
    clear hf hxl hcf
    cases m with
    | zero => simp [DataW.trod] at e3
    | succ m =>
        obtain ⟨v0, hv0, hy0, hg0⟩ := DataW.trod_int Try.underlying3 e0
        obtain ⟨v1, hv1, hy1, hg1⟩ := DataW.trod_int Try.underlying2 e1
        obtain ⟨v2, hv2, hy2, _⟩ := DataW.trod_string Try.underlying9 e2
        obtain ⟨A3, v3, d3, hv3, hs3, hw3⟩ := open_sl RE 4 (by omega) RE_sized 140 109 Try.underlying109 (by kernel_rfl) (of_decide_eq_true (by kernel_rfl)) (fun B a => Ex.ok B a ∧ Ex.rng a) m (fun cs x hx => ih m (by omega) cs x hx) e3
        simp only [List.cons.injEq, and_true] at hv0 hv1 hv2 hv3
        subst hv0 hv1 hv2 hv3
        subst hy0 hy1 hy2
        refine ⟨.mk v0 v1 v2 v3, RE.mk_ hs3, fun B hB => ?_⟩
        rw [agg_w Try.underlying140] at hB
        have w0 : ∀ k ∈ _, k ≤ B := fun k hk => hB k (DataW.weights_mem_each (j := 0) (t := 3) rfl rfl k hk)
        have w1 : ∀ k ∈ _, k ≤ B := fun k hk => hB k (DataW.weights_mem_each (j := 1) (t := 2) rfl rfl k hk)
        have w2 : ∀ k ∈ _, k ≤ B := fun k hk => hB k (DataW.weights_mem_each (j := 2) (t := 9) rfl rfl k hk)
        have w3 : ∀ k ∈ _, k ≤ B := fun k hk => hB k (DataW.weights_mem_each (j := 3) (t := 109) rfl rfl k hk)
        exact ⟨by simp only [Ex.ok]; exact ⟨str_w v2 _ B w2, (hw3 B w3).1, (okEs_iff _).2 (fun a ha => ((hw3 B w3).2 a ha).1)⟩, by simp only [Ex.rng]; exact ⟨i64_of hg0, i64_of hg1, (rngEs_iff _).2 (fun a ha => ((hw3 B w3).2 a ha).2)⟩⟩
set_option maxRecDepth 100000 in
set_option maxHeartbeats 1000000 in
theorem open_stR : ∀ (n : Nat) (cs : List Value) (x : DataW H × List MemPlace), DataW.trod enc Try.prog w base spare held n 111 cs = some x → ∃ a : St, RS w (fun k => base ≤ k) a cs ∧ ∀ B, (∀ k ∈ x.1.weights Try.prog 111, k ≤ B) → (a.ok B ∧ a.rng) := by
  intro n
  induction n using Nat.strongRecOn with
  | _ n ih =>
  intro cs x h
  obtain ⟨xs, m, hm, rfl, hcl, hxl, hf⟩ := DataW.trod_struct Try.underlying111 h
  have hcf : Try.prog.cellsOf 111 = 5 := by kernel_rfl
  rw [hcf] at hcl
  subst hm
  match cs, hcl with
  | [c0, c1, c2, c3, c4], _ =>
  match xs, (show xs.length = 5 from hxl) with
  | [y0, y1, y2, y3, y4], _ =>
    have ki : Try.prog.cellsOf 3 = 1 := by kernel_rfl
    have ks : Try.prog.cellsOf 9 = 1 := by kernel_rfl
    have kk1 : Try.prog.cellsOf 2 = 1 := by kernel_rfl
    have kk2 : Try.prog.cellsOf 109 = 1 := by kernel_rfl
    have kk3 : Try.prog.cellsOf 62 = 1 := by kernel_rfl
    have kk4 : Try.prog.cellsOf 62 = 1 := by kernel_rfl
    have e0 := hf 0 _ rfl
    have e1 := hf 1 _ rfl
    have e2 := hf 2 _ rfl
    have e3 := hf 3 _ rfl
    have e4 := hf 4 _ rfl
    simp [ki, ks, cells_type, kk1, kk2, kk3, kk4] at e0 e1 e2 e3 e4
    clear hf hxl hcf
    cases m with
    | zero => simp [DataW.trod] at e2
    | succ m =>
        obtain ⟨v0, hv0, hy0, hg0⟩ := DataW.trod_int Try.underlying3 e0
        obtain ⟨v1, hv1, hy1, hg1⟩ := DataW.trod_int Try.underlying2 e1
        obtain ⟨A2, v2, d2, hv2, hs2, hw2⟩ := open_sl RE 4 (by omega) RE_sized 140 109 Try.underlying109 (by kernel_rfl) (of_decide_eq_true (by kernel_rfl)) (fun B a => Ex.ok B a ∧ Ex.rng a) m (fun cs x hx => open_exR m cs x hx) e2
        obtain ⟨A3, v3, d3, hv3, hs3, hw3⟩ := open_sl RS 5 (by omega) RS_sized 111 62 Try.underlying62 (by kernel_rfl) (of_decide_eq_true (by kernel_rfl)) (fun B a => St.ok B a ∧ St.rng a) m (fun cs x hx => ih m (by omega) cs x hx) e3
        obtain ⟨A4, v4, d4, hv4, hs4, hw4⟩ := open_sl RS 5 (by omega) RS_sized 111 62 Try.underlying62 (by kernel_rfl) (of_decide_eq_true (by kernel_rfl)) (fun B a => St.ok B a ∧ St.rng a) m (fun cs x hx => ih m (by omega) cs x hx) e4
        simp only [List.cons.injEq, and_true] at hv0 hv1 hv2 hv3 hv4
        subst hv0 hv1 hv2 hv3 hv4
        subst hy0 hy1
        refine ⟨.mk v0 v1 v2 v3 v4, RS.mk_ hs2 hs3 hs4, fun B hB => ?_⟩
        rw [agg_w Try.underlying111] at hB
        have w0 : ∀ k ∈ _, k ≤ B := fun k hk => hB k (DataW.weights_mem_each (j := 0) (t := 3) rfl rfl k hk)
        have w1 : ∀ k ∈ _, k ≤ B := fun k hk => hB k (DataW.weights_mem_each (j := 1) (t := 2) rfl rfl k hk)
        have w2 : ∀ k ∈ _, k ≤ B := fun k hk => hB k (DataW.weights_mem_each (j := 2) (t := 109) rfl rfl k hk)
        have w3 : ∀ k ∈ _, k ≤ B := fun k hk => hB k (DataW.weights_mem_each (j := 3) (t := 62) rfl rfl k hk)
        have w4 : ∀ k ∈ _, k ≤ B := fun k hk => hB k (DataW.weights_mem_each (j := 4) (t := 62) rfl rfl k hk)
        exact ⟨by simp only [St.ok]; exact ⟨⟨(hw2 B w2).1, (okEs_iff _).2 (fun a ha => ((hw2 B w2).2 a ha).1)⟩, ⟨(hw3 B w3).1, (okSs_iff _).2 (fun a ha => ((hw3 B w3).2 a ha).1)⟩, ⟨(hw4 B w4).1, (okSs_iff _).2 (fun a ha => ((hw4 B w4).2 a ha).1)⟩⟩, by simp only [St.rng]; exact ⟨i64_of hg0, i64_of hg1, (rngEs_iff _).2 (fun a ha => ((hw2 B w2).2 a ha).2), (rngSs_iff _).2 (fun a ha => ((hw3 B w3).2 a ha).2), (rngSs_iff _).2 (fun a ha => ((hw4 B w4).2 a ha).2)⟩⟩
set_option maxRecDepth 100000 in
set_option maxHeartbeats 1000000 in
theorem open_fnR (n : Nat) (cs : List Value) (x : DataW H × List MemPlace) (h : DataW.trod enc Try.prog w base spare held n 64 cs = some x) : ∃ a : Fn8, RFn w (fun k => base ≤ k) a cs ∧ ∀ B, (∀ k ∈ x.1.weights Try.prog 64, k ≤ B) → (a.ok B ∧ a.rng) := by
  obtain ⟨xs, m, hm, rfl, hcl, hxl, hf⟩ := DataW.trod_struct Try.underlying64 h
  have hcf : Try.prog.cellsOf 64 = 5 := by kernel_rfl
  rw [hcf] at hcl
  subst hm
  match cs, hcl with
  | [c0, c1, c2, c3, c4], _ =>
  match xs, (show xs.length = 5 from hxl) with
  | [y0, y1, y2, y3, y4], _ =>
    have ki : Try.prog.cellsOf 3 = 1 := by kernel_rfl
    have ks : Try.prog.cellsOf 9 = 1 := by kernel_rfl
    have kk1 : Try.prog.cellsOf 4 = 1 := by kernel_rfl
    have kk4 : Try.prog.cellsOf 62 = 1 := by kernel_rfl
    have e0 := hf 0 _ rfl
    have e1 := hf 1 _ rfl
    have e2 := hf 2 _ rfl
    have e3 := hf 3 _ rfl
    have e4 := hf 4 _ rfl
    simp [ki, ks, cells_type, kk1, kk4] at e0 e1 e2 e3 e4
    clear hf hxl hcf
    cases m with
    | zero => simp [DataW.trod] at e4
    | succ m =>
        obtain ⟨v0, hv0, hy0, _⟩ := DataW.trod_string Try.underlying9 e0
        obtain ⟨v1, hv1, hy1⟩ := DataW.trod_bool Try.underlying4 e1
        obtain ⟨v2, hv2, hy2, hg2⟩ := DataW.trod_int Try.underlying3 e2
        obtain ⟨v3, hv3, hy3, hg3⟩ := DataW.trod_int Try.underlying3 e3
        obtain ⟨A4, v4, d4, hv4, hs4, hw4⟩ := open_sl RS 5 (by omega) RS_sized 111 62 Try.underlying62 (by kernel_rfl) (of_decide_eq_true (by kernel_rfl)) (fun B a => St.ok B a ∧ St.rng a) m (fun cs x hx => open_stR m cs x hx) e4
        simp only [List.cons.injEq, and_true] at hv0 hv1 hv2 hv3 hv4
        subst hv0 hv1 hv2 hv3 hv4
        subst hy0 hy1 hy2 hy3
        refine ⟨⟨v0, v1, v2, v3, v4⟩, ⟨A4, d4, rfl, hs4⟩, fun B hB => ?_⟩
        rw [agg_w Try.underlying64] at hB
        have w0 : ∀ k ∈ _, k ≤ B := fun k hk => hB k (DataW.weights_mem_each (j := 0) (t := 9) rfl rfl k hk)
        have w1 : ∀ k ∈ _, k ≤ B := fun k hk => hB k (DataW.weights_mem_each (j := 1) (t := 4) rfl rfl k hk)
        have w2 : ∀ k ∈ _, k ≤ B := fun k hk => hB k (DataW.weights_mem_each (j := 2) (t := 3) rfl rfl k hk)
        have w3 : ∀ k ∈ _, k ≤ B := fun k hk => hB k (DataW.weights_mem_each (j := 3) (t := 3) rfl rfl k hk)
        have w4 : ∀ k ∈ _, k ≤ B := fun k hk => hB k (DataW.weights_mem_each (j := 4) (t := 62) rfl rfl k hk)
        exact ⟨⟨str_w v0 _ B w0, (hw4 B w4).1, fun a ha => ((hw4 B w4).2 a ha).1⟩, i64_of hg2, i64_of hg3, fun a ha => ((hw4 B w4).2 a ha).2⟩
set_option maxRecDepth 100000 in
set_option maxHeartbeats 1000000 in
theorem open_unR (n : Nat) (cs : List Value) (x : DataW H × List MemPlace) (h : DataW.trod enc Try.prog w base spare held n 26 cs = some x) : ∃ a : Un, RUn w (fun k => base ≤ k) a cs ∧ ∀ B, (∀ k ∈ x.1.weights Try.prog 26, k ≤ B) → (a.ok B ∧ a.rng) := by
  obtain ⟨xs, m, hm, rfl, hcl, hxl, hf⟩ := DataW.trod_struct Try.underlying26 h
  have hcf : Try.prog.cellsOf 26 = 4 := by kernel_rfl
  rw [hcf] at hcl
  subst hm
  match cs, hcl with
  | [c0, c1, c2, c3], _ =>
  match xs, (show xs.length = 4 from hxl) with
  | [y0, y1, y2, y3], _ =>
    have ki : Try.prog.cellsOf 3 = 1 := by kernel_rfl
    have ks : Try.prog.cellsOf 9 = 1 := by kernel_rfl
    have kk1 : Try.prog.cellsOf 22 = 1 := by kernel_rfl
    have kk2 : Try.prog.cellsOf 23 = 1 := by kernel_rfl
    have kk3 : Try.prog.cellsOf 24 = 1 := by kernel_rfl
    have e0 := hf 0 _ rfl
    have e1 := hf 1 _ rfl
    have e2 := hf 2 _ rfl
    have e3 := hf 3 _ rfl
    simp [ki, ks, cells_type, kk1, kk2, kk3] at e0 e1 e2 e3
    clear hf hxl hcf
    cases m with
    | zero => simp [DataW.trod] at e1
    | succ m =>
        obtain ⟨v0, hv0, hy0, _⟩ := DataW.trod_string Try.underlying9 e0
        obtain ⟨A1, v1, d1, hv1, hs1, hw1⟩ := open_sl RIm 2 (by omega) RIm_sized 83 22 Try.underlying22 (by kernel_rfl) (of_decide_eq_true (by kernel_rfl)) (fun B a => Im.ok B a ∧ Im.rng a) m (fun cs x hx => open_imR m cs x hx) e1
        obtain ⟨A2, v2, d2, hv2, hs2, hw2⟩ := open_sl RDl 10 (by omega) RDl_sized 47 23 Try.underlying23 (by kernel_rfl) (of_decide_eq_true (by kernel_rfl)) (fun B a => Dl.ok B a ∧ Dl.rng a) m (fun cs x hx => open_dlR m cs x hx) e2
        obtain ⟨A3, v3, d3, hv3, hs3, hw3⟩ := open_sl RFn 5 (by omega) RFn_sized 64 24 Try.underlying24 (by kernel_rfl) (of_decide_eq_true (by kernel_rfl)) (fun B a => Fn8.ok B a ∧ Fn8.rng a) m (fun cs x hx => open_fnR m cs x hx) e3
        simp only [List.cons.injEq, and_true] at hv0 hv1 hv2 hv3
        subst hv0 hv1 hv2 hv3
        subst hy0
        refine ⟨⟨v0, v1, v2, v3⟩, ⟨A1, d1, A2, d2, A3, d3, rfl, hs1, hs2, hs3⟩, fun B hB => ?_⟩
        rw [agg_w Try.underlying26] at hB
        have w0 : ∀ k ∈ _, k ≤ B := fun k hk => hB k (DataW.weights_mem_each (j := 0) (t := 9) rfl rfl k hk)
        have w1 : ∀ k ∈ _, k ≤ B := fun k hk => hB k (DataW.weights_mem_each (j := 1) (t := 22) rfl rfl k hk)
        have w2 : ∀ k ∈ _, k ≤ B := fun k hk => hB k (DataW.weights_mem_each (j := 2) (t := 23) rfl rfl k hk)
        have w3 : ∀ k ∈ _, k ≤ B := fun k hk => hB k (DataW.weights_mem_each (j := 3) (t := 24) rfl rfl k hk)
        exact ⟨⟨str_w v0 _ B w0, ⟨(hw1 B w1).1, fun a ha => ((hw1 B w1).2 a ha).1⟩, ⟨(hw2 B w2).1, fun a ha => ((hw2 B w2).2 a ha).1⟩, (hw3 B w3).1, fun a ha => ((hw3 B w3).2 a ha).1⟩, fun a ha => ((hw1 B w1).2 a ha).2, fun a ha => ((hw2 B w2).2 a ha).2, fun a ha => ((hw3 B w3).2 a ha).2⟩
end
end Go.Proofs.Ytnkojjkijkhlbaa
