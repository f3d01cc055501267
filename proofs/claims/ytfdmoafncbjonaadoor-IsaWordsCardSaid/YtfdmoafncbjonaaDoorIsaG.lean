/-
  The row's common parts: a start that fits, the table's fact, the instruction as an argument.
-/
import Derived.Test.YtfdmoafncbjonaaDoorRows
import Derived.Test.YtfdmoafncbjonaaDoorTie
import Derived.Test.YtfdmoafncbjonaaDoorCards
import Derived.Test.YtfdmoafncbjonaaDoorIsaE
import Derived.Test.YtfdmoafncbjonaaDoorIsaF
import Derived.ChangeSame
import Derived.ChangeVars
import Derived.JoinedOf
import Derived.RowKit
import Derived.RowKitTokens
import Derived.RowKit3
import Derived.LaidLaws
import Derived.Handed
import Derived.ProofKit
import Derived.OpenShut
import Derived.Lib.SmallJoins
import Derived.Lib.LaidTab
import Derived.SevenTiedAt
import Derived.Stop.Joined
import Derived.Stop.LaidErr
import Derived.Carry
namespace Go.Proofs.YtfdmoafncbjonaaDoor
open Go.ChangeShapes Go.WideShapes Go.ChangeAt Go.RowKit Go.Joins Go.Deep
set_option linter.unusedVariables false

theorem own : ownKnob Tryd.prog.godebug = none := by kernel_rfl
/-- The settled world, the library's three tables holding what their texts lay. -/
noncomputable def laidWorld (os : Os) : World :=
  let w0 := World.holding Tryd.prog os ⟨#[], #[], []⟩
  { w0 with heap := ((w0.heap.modify 0 fun
      | .cells _ t frozen => .cells (Lib.pow10Tab.map fun z => Value.int .u64 z).toArray t frozen
      | o => o).modify 1 fun
      | .cells _ t frozen => .cells ((bytesOf Rows.laid_math_bits_deBruijn32tab).map fun z => Value.int .u8 z).toArray t frozen
      | o => o).modify 2 fun
      | .cells _ t frozen => .cells ((bytesOf Rows.laid_math_bits_deBruijn64tab).map fun z => Value.int .u8 z).toArray t frozen
      | o => o }
where
  bytesOf : DataW Unit → List Int
    | .agg l => l.map fun | .lit (.int _ n) => n | _ => 0
    | _ => []
theorem laidWorld_met (os : Os) (args : Array Value) : laidMet Tryd.prog Rows.isaUsesRow.laid ((laidWorld os).forCall (fun _ _ => 0) ⟨#[], args, []⟩).memory :=
  laidMet_of_run' 8 (by kernel_rfl) (by kernel_rfl)
theorem tab_of_laid {W : World} (h : laidMet Tryd.prog Rows.isaUsesRow.laid W) : Tab W := by
  have e : Tryd.prog.globalNamed "internal/strconv.uint64pow10" = some 0 := by kernel_rfl
  have e2 : (Tryd.prog.globals[0]?).map (·.type) = some 59 := by kernel_rfl
  have h1 : laidMet Tryd.prog [("internal/strconv.uint64pow10", Rows.laid_internal_strconv_uint64pow10)] W := laidMet.tail (laidMet.tail h)
  exact Lib.tabIs_of_head (P := Tryd.prog) e e2 Tryd.underlying59 Tryd.underlying45 (by kernel_rfl) (by kernel_rfl) h1

section
variable {H : Type} {enc : TypeId × Value → H} {P : Program} {w : World} {base : Nat} {spare : Nat → Bool} {held : Bool}
theorem open_agg5 {r : Reach} {b0 : Nat} {t : TypeId} {f0 f1 f2 f3 f4 : Field} {v : Value} {d : DataW H} {p : List MemPlace} (hs : P.underlying t = some (.struct #[f0, f1, f2, f3, f4])) (hone : oneCellFields P #[f0, f1, f2, f3, f4] = true) (hC : P.cellsOf t = 5)
    (hv : Value.okWide P w r b0 t v) (h : DataW.Trod enc P w base spare held t v d p) :
    ∃ (v0 v1 v2 v3 v4 : Value) (y0 y1 y2 y3 y4 : DataW H × List MemPlace) (n : Nat), v = .agg #[v0, v1, v2, v3, v4] ∧ d = .agg [y0.1, y1.1, y2.1, y3.1, y4.1] ∧ p = y0.2 ++ (y1.2 ++ (y2.2 ++ (y3.2 ++ y4.2))) ∧
      DataW.trod enc P w base spare held n f0.type [v0] = some y0 ∧ DataW.trod enc P w base spare held n f1.type [v1] = some y1 ∧ DataW.trod enc P w base spare held n f2.type [v2] = some y2 ∧ DataW.trod enc P w base spare held n f3.type [v3] = some y3 ∧ DataW.trod enc P w base spare held n f4.type [v4] = some y4 := by
  obtain ⟨cs, rfl, hsz⟩ := okWide_struct hs hv
  obtain ⟨l⟩ := cs
  match l, hsz.trans hC with
  | [c0, c1, c2, c3, c4], _ =>
    obtain ⟨fuel, hf⟩ := h
    obtain ⟨xs, n, _, hx, _, hlen, hg⟩ := DataW.trod_struct hs hf
    obtain ⟨o0, k0⟩ := hone_of hone 0 f0 rfl
    obtain ⟨o1, k1⟩ := hone_of hone 1 f1 rfl
    obtain ⟨o2, k2⟩ := hone_of hone 2 f2 rfl
    obtain ⟨o3, k3⟩ := hone_of hone 3 f3 rfl
    obtain ⟨o4, k4⟩ := hone_of hone 4 f4 rfl
    match xs, hlen with
    | [y0, y1, y2, y3, y4], _ =>
      simp only [Prod.mk.injEq] at hx
      exact ⟨c0, c1, c2, c3, c4, y0, y1, y2, y3, y4, n, rfl, by simpa using hx.1, by simpa using hx.2, by simpa [Value.cells, o0, k0] using hg 0 f0 rfl, by simpa [Value.cells, o1, k1] using hg 1 f1 rfl, by simpa [Value.cells, o2, k2] using hg 2 f2 rfl, by simpa [Value.cells, o3, k3] using hg 3 f3 rfl, by simpa [Value.cells, o4, k4] using hg 4 f4 rfl⟩
theorem trodAll_below (hl : laidOutB P = true) {W W' : World} (hb : Below W.heap.size W W') : ∀ {ts : List TypeId} {vs : List Value} {ds : List (DataW H)} {ps : List MemPlace},
    (∀ t ∈ ts, P.readableRec t = true ∧ t < P.types.size) → DataW.TrodAll enc P W 0 (fun _ => true) true ts vs ds ps → (∀ x ∈ ps, x.block < W.heap.size) →
    DataW.TrodAll enc P W' 0 (fun b => decide (b < W.heap.size)) true ts vs ds ps
  | [], [], [], _, _, h, _ => h
  | _ :: _, _ :: _, _ :: _, _, hT, ⟨p, q, h1, h2, e⟩, hs =>
    ⟨p, q, Below.trod hl (hT _ (List.mem_cons.2 (Or.inl rfl))).1 (hT _ (List.mem_cons.2 (Or.inl rfl))).2 h1 hb (fun x hx => hs x (by rw [e]; exact List.mem_append_left _ hx)),
      trodAll_below hl hb (fun t ht => hT t (List.mem_cons.2 (Or.inr ht))) h2 (fun x hx => hs x (by rw [e]; exact List.mem_append_right _ hx)), e⟩
/-- The row's last step for a law: true, and of what was there nothing has turned. -/
theorem post_law {f : Func} {s : ChangeSpec} {W W' : World} {args : Array Value} {ds : List (DataW H)} {before : List MemPlace} {tb : TypeId}
    (hl : laidOutB P = true) (hR : ∀ t ∈ f.params.toList, P.readableRec t = true ∧ t < P.types.size) (hv : s.vars = []) (hr : f.resultTypes = #[tb]) (ht : P.underlying tb = some .bool)
    (hfn : s.fn H ds = { results := [.lit (.bool true)], args := ds })
    (hW : DataW.Whole enc P f.params.toList s.vars false W args.toList ds [] before) (hb : Below W.heap.size W W') :
    s.post enc P f false true false false W args (.bool true) W' := by
  have hlt : ∀ p ∈ before, p.block < W.heap.size := fun p hp => hW.lt p hp
  have hA : DataW.TrodAll enc P W 0 (fun _ => true) true f.params.toList args.toList ds before := by
    obtain ⟨p, q, hA, hV, rfl, _, _⟩ := hW
    rw [hv] at hV
    obtain ⟨_, rfl⟩ := trodVars_none hV
    simpa using hA
  refine ⟨ds, [], before, [], before, [], hW, ?_, ?_, ?_, hb.frame _, fun h => by cases h⟩
  · rw [List.append_nil, hfn, hr]
    exact trodAll_mk1 (shut_bool ht true)
  · rw [List.append_nil, hfn]
    exact trodAll_below hl hb hR hA hlt
  · rw [List.append_nil, hfn, hv]
    rfl
end
theorem tab_heap {w w' : World} (h : Tab w) (e : w'.heap = w.heap) : Tab w' := by
  unfold Tab Lib.TabIs World.var? at *
  rw [e]; exact h
theorem below_heap {B : Nat} {w w1 w2 : World} (h : Below B w w1) (e1 : w2.heap = w1.heap) (e2 : w2.os = w1.os) (e3 : w2.tape = w1.tape) (e4 : w2.output = w1.output) : Below B w w2 :=
  ⟨e2.trans h.os, e3.trans h.tape, e4.trans h.output, by rw [e1]; exact h.size, fun k hk => by rw [e1]; exact h.block k hk⟩
/-- A number of 64 bits with a sign. -/
def I64 (n : Int) : Prop := -9223372036854775808 ≤ n ∧ n ≤ 9223372036854775807
theorem i64_of {n : Int} (h : (Lit.int .i64 n).wf = true) : I64 n := by
  have e1 : IntKind.i64.min = -9223372036854775808 := rfl
  have e2 : IntKind.i64.max = 9223372036854775807 := rfl
  simp [Lit.wf, e1, e2] at h
  exact ⟨by omega, by omega⟩
def inst (op a b c n : Int) : Value := .agg #[.int .i64 op, .int .i64 a, .int .i64 b, .int .i64 c, .int .i64 n]
theorem open_inst {H : Type} {enc : TypeId × Value → H} {w : World} {base : Nat} {spare : Nat → Bool} {held : Bool} {r : Reach} {b0 : Nat} {v : Value} {d : DataW H} {p : List MemPlace}
    (hv : Value.okWide Tryd.prog w r b0 27 v) (h : DataW.Trod enc Tryd.prog w base spare held 27 v d p) : ∃ op a b c n : Int, v = inst op a b c n ∧ I64 op ∧ I64 a ∧ I64 b ∧ I64 c ∧ I64 n := by
  obtain ⟨v0, v1, v2, v3, v4, y0, y1, y2, y3, y4, k, rfl, rfl, rfl, h0, h1, h2, h3, h4⟩ := open_agg5 Tryd.underlying27 (by kernel_rfl) (by kernel_rfl) hv h
  obtain ⟨n0, e0, _, w0⟩ := DataW.trod_int Tryd.underlying3 h0
  obtain ⟨n1, e1, _, w1⟩ := DataW.trod_int Tryd.underlying3 h1
  obtain ⟨n2, e2, _, w2⟩ := DataW.trod_int Tryd.underlying3 h2
  obtain ⟨n3, e3, _, w3⟩ := DataW.trod_int Tryd.underlying3 h3
  obtain ⟨n4, e4, _, w4⟩ := DataW.trod_int Tryd.underlying2 h4
  simp only [List.cons.injEq, and_true] at e0 e1 e2 e3 e4
  subst e0 e1 e2 e3 e4
  exact ⟨n0, n1, n2, n3, n4, rfl, i64_of w0, i64_of w1, i64_of w2, i64_of w3, i64_of w4⟩
theorem decode_G (v : Int) (hv : I64 v) (h : G v = true) (w : World) : Calls Tryd.prog 16 #[.int .i64 v] w fun e w' => e = .returned (.tuple #[.agg #[.int .i64 (dO v), .int .i64 (dA v), .int .i64 (dB v), .int .i64 (dC v), .int .i64 (dN v)], .int .i64 0]) ∧ Below w.heap.size w w' := by
  have := decode_any v hv.1 hv.2 w
  rw [h] at this; exact this
theorem decode_N (v : Int) (hv : I64 v) (h : G v = false) (w : World) : Calls Tryd.prog 16 #[.int .i64 v] w fun e w' => e = .returned (.tuple #[.agg #[.int .i64 0, .int .i64 0, .int .i64 0, .int .i64 0, .int .i64 0], .int .i64 4]) ∧ Below w.heap.size w w' := by
  have := decode_any v hv.1 hv.2 w
  rw [h] at this; exact this
theorem rdecode_G (v : Int) (hv : I64 v) (h : G v = true) (w : World) : Calls Tryd.prog 17 #[.int .i64 v] w fun e w' => e = .returned (.tuple #[.agg #[.int .i64 (dO v), .int .i64 (dA v), .int .i64 (dB v), .int .i64 (dC v), .int .i64 (dN v)], .int .i64 0]) ∧ Below w.heap.size w w' := by
  have := rdecode_any v hv.1 hv.2 w
  rw [h] at this; exact this
theorem rdecode_N (v : Int) (hv : I64 v) (h : G v = false) (w : World) : Calls Tryd.prog 17 #[.int .i64 v] w fun e w' => e = .returned (.tuple #[.agg #[.int .i64 0, .int .i64 0, .int .i64 0, .int .i64 0, .int .i64 0], .int .i64 4]) ∧ Below w.heap.size w w' := by
  have := rdecode_any v hv.1 hv.2 w
  rw [h] at this; exact this
theorem encode_back (v : Int) (h : G v = true) (w : World) : Calls Tryd.prog 13 #[.agg #[.int .i64 (dO v), .int .i64 (dA v), .int .i64 (dB v), .int .i64 (dC v), .int .i64 (dN v)]] w fun e w' => e = .returned (.tuple #[.int .i64 v, .int .i64 0]) ∧ Below w.heap.size w w' := by
  simp only [G, Bool.and_eq_true, decide_eq_true_eq] at h
  have := encode_yes _ _ _ _ _ h.1 w
  rw [h.2] at this; exact this
theorem decode_back (op a b c n : Int) (h : F op a b c n = true) (w : World) : Calls Tryd.prog 16 #[.int .i64 (W op a b c n)] w fun e w' => e = .returned (.tuple #[.agg #[.int .i64 op, .int .i64 a, .int .i64 b, .int .i64 c, .int .i64 n], .int .i64 0]) ∧ Below w.heap.size w w' := by
  obtain ⟨b0, b1⟩ := W_bd (F_bd h)
  obtain ⟨e1, e2, e3, e4, e5⟩ := d_back (F_bd h)
  have := decode_G (W op a b c n) ⟨by omega, by omega⟩ (G_of h) w
  rw [e1, e2, e3, e4, e5] at this
  exact this
theorem G_pos {v : Int} (h : G v = true) : 0 ≤ v := by
  rcases Int.lt_or_le v 0 with hv | hv
  · rw [G_neg hv] at h; cases h
  · exact hv
theorem txt_ne {op a b c n : Int} (h : F op a b c n = true) : (txt op a b c n).toList ≠ [] := by
  rw [toList_data]
  show (T op a b c n).toArray.toList ≠ []
  simpa using T_ne h
theorem txt_inj {op a b c n op' a' b' c' n' : Int} (h : F op a b c n = true) (h' : F op' a' b' c' n' = true) (e : txt op a b c n = txt op' a' b' c' n') :
    op = op' ∧ a = a' ∧ b = b' ∧ c = c' ∧ n = n' := by
  refine T_inj h h' ?_
  have : (T op a b c n).toArray = (T op' a' b' c' n').toArray := congrArg ByteArray.data e
  simpa using this
theorem keepS {w wx wy : World} {op0 a0 b0 c0 n0 op1 a1 b1 c1 n1 : Int} (h : wx.cell? ⟨w.heap.size, 0, none⟩ = some (.int .i64 op0) ∧ wx.cell? ⟨w.heap.size, 1, none⟩ = some (.int .i64 a0) ∧ wx.cell? ⟨w.heap.size, 2, none⟩ = some (.int .i64 b0) ∧ wx.cell? ⟨w.heap.size, 3, none⟩ = some (.int .i64 c0) ∧ wx.cell? ⟨w.heap.size, 4, none⟩ = some (.int .i64 n0) ∧ wx.cell? ⟨w.heap.size + 1, 0, none⟩ = some (.int .i64 op1) ∧ wx.cell? ⟨w.heap.size + 1, 1, none⟩ = some (.int .i64 a1) ∧ wx.cell? ⟨w.heap.size + 1, 2, none⟩ = some (.int .i64 b1) ∧ wx.cell? ⟨w.heap.size + 1, 3, none⟩ = some (.int .i64 c1) ∧ wx.cell? ⟨w.heap.size + 1, 4, none⟩ = some (.int .i64 n1) ∧ Tab wx ∧ Below w.heap.size w wx ∧ w.heap.size + 1 < wx.heap.size) (hb : Below wx.heap.size wx wy) : wy.cell? ⟨w.heap.size, 0, none⟩ = some (.int .i64 op0) ∧ wy.cell? ⟨w.heap.size, 1, none⟩ = some (.int .i64 a0) ∧ wy.cell? ⟨w.heap.size, 2, none⟩ = some (.int .i64 b0) ∧ wy.cell? ⟨w.heap.size, 3, none⟩ = some (.int .i64 c0) ∧ wy.cell? ⟨w.heap.size, 4, none⟩ = some (.int .i64 n0) ∧ wy.cell? ⟨w.heap.size + 1, 0, none⟩ = some (.int .i64 op1) ∧ wy.cell? ⟨w.heap.size + 1, 1, none⟩ = some (.int .i64 a1) ∧ wy.cell? ⟨w.heap.size + 1, 2, none⟩ = some (.int .i64 b1) ∧ wy.cell? ⟨w.heap.size + 1, 3, none⟩ = some (.int .i64 c1) ∧ wy.cell? ⟨w.heap.size + 1, 4, none⟩ = some (.int .i64 n1) ∧ Tab wy ∧ Below w.heap.size w wy ∧ w.heap.size + 1 < wy.heap.size := by
  obtain ⟨h0, h1, h2, h3, h4, h5, h6, h7, h8, h9, ht, hB, hz⟩ := h
  have f := fun o => hb.cell (p := ⟨w.heap.size, o, none⟩) (by show w.heap.size < _; omega)
  have g := fun o => hb.cell (p := ⟨w.heap.size + 1, o, none⟩) (by show w.heap.size + 1 < _; omega)
  exact ⟨(f 0).trans h0, (f 1).trans h1, (f 2).trans h2, (f 3).trans h3, (f 4).trans h4, (g 0).trans h5, (g 1).trans h6, (g 2).trans h7, (g 3).trans h8, (g 4).trans h9, tab_below ht hb, below_next hB hb, by have := hb.size; omega⟩
theorem laidOut : laidOutB Tryd.prog = true := by kernel_rfl
end Go.Proofs.YtfdmoafncbjonaaDoor
