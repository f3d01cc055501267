/-
  The rows' common parts of stage 9.
-/
import Derived.Test.YtibfikadamfpdaaRows
import Derived.Test.YtibfikadamfpdaaSl
import Derived.ChangeSlices
import Derived.ChangeArms
import Derived.Deep.Slices
import Derived.Deep.Fields
import Derived.SizedLaws
import Derived.ChangeSame
import Derived.ChangeVars
import Derived.JoinedOf
import Derived.RowKit
import Derived.RowKitTokens
import Derived.RowKit3
import Derived.LaidLaws
import Derived.Handed
import Derived.ProofKit
import Derived.OpenShut
import Derived.Lib.SmallJoins
import Derived.Lib.LaidTab
import Derived.SevenTiedAt
import Derived.Stop.Joined
import Derived.Stop.LaidErr
import Derived.Carry
import Derived.WalkKit
import Derived.ProofKit
import Derived.OpenShut
import Derived.JoinedCond
namespace Go.Proofs.Ytibfikadamfpdaa
open Go.ChangeShapes Go.WideShapes Go.ChangeAt Go.RowKit Go.Joins Go.Deep
set_option linter.unusedVariables false
set_option linter.unusedSimpArgs false

theorem own : ownKnob Try.prog.godebug = none := by kernel_rfl
theorem laidOut : laidOutB Try.prog = true := by kernel_rfl
section
variable {H : Type} {enc : TypeId × Value → H} {P : Program} {w : World} {base : Nat} {spare : Nat → Bool} {held : Bool}
theorem u8_of {n : Int} (h : (Lit.int .u8 n).wf = true) : 0 ≤ n ∧ n ≤ 255 := by
  have e1 : IntKind.u8.min = 0 := rfl
  have e2 : IntKind.u8.max = 255 := rfl
  simp [Lit.wf, e1, e2] at h
  exact ⟨by omega, by omega⟩
theorem sized_all {ts : List TypeId} {ds : List (DataW H)} (h : (DataW.weightsEach P ts ds).all (· ≤ reachBytes) = true) {j : Nat} {t : TypeId} {d : DataW H} (ht : ts[j]? = some t) (hd : ds[j]? = some d) : ∀ k ∈ d.weights P t, k ≤ 140737488355328 := by
  intro k hk
  have h1 := List.all_eq_true.1 h _ (DataW.weights_mem_each ht hd k hk)
  have h2 : k ≤ reachBytes := by simpa using h1
  have h3 := reachBytes_lt
  omega
theorem trodAll_below (hl : laidOutB P = true) {W W' : World} (hb : Below W.heap.size W W') : ∀ {ts : List TypeId} {vs : List Value} {ds : List (DataW H)} {ps : List MemPlace},
    (∀ t ∈ ts, P.readableRec t = true ∧ t < P.types.size) → DataW.TrodAll enc P W 0 (fun _ => true) true ts vs ds ps → (∀ x ∈ ps, x.block < W.heap.size) →
    DataW.TrodAll enc P W' 0 (fun b => decide (b < W.heap.size)) true ts vs ds ps
  | [], [], [], _, _, h, _ => h
  | _ :: _, _ :: _, _ :: _, _, hT, ⟨p, q, h1, h2, e⟩, hs =>
    ⟨p, q, Below.trod hl (hT _ (List.mem_cons.2 (Or.inl rfl))).1 (hT _ (List.mem_cons.2 (Or.inl rfl))).2 h1 hb (fun x hx => hs x (by rw [e]; exact List.mem_append_left _ hx)),
      trodAll_below hl hb (fun t ht => hT t (List.mem_cons.2 (Or.inr ht))) h2 (fun x hx => hs x (by rw [e]; exact List.mem_append_right _ hx)), e⟩
/-- The row's last step for a law: true, and of what was there nothing has turned. -/
theorem post_law {f : Func} {s : ChangeSpec} {W W' : World} {args : Array Value} {ds : List (DataW H)} {before : List MemPlace} {tb : TypeId}
    (hl : laidOutB P = true) (hR : ∀ t ∈ f.params.toList, P.readableRec t = true ∧ t < P.types.size) (hv : s.vars = []) (hr : f.resultTypes = #[tb]) (ht : P.underlying tb = some .bool)
    (hfn : s.fn H ds = { results := [.lit (.bool true)], args := ds })
    (hW : DataW.Whole enc P f.params.toList s.vars false W args.toList ds [] before) (hb : Below W.heap.size W W') :
    s.post enc P f false true false false W args (.bool true) W' := by
  have hlt : ∀ p ∈ before, p.block < W.heap.size := fun p hp => hW.lt p hp
  have hA : DataW.TrodAll enc P W 0 (fun _ => true) true f.params.toList args.toList ds before := by
    obtain ⟨p, q, hA, hV, rfl, _, _⟩ := hW
    rw [hv] at hV
    obtain ⟨_, rfl⟩ := trodVars_none hV
    simpa using hA
  refine ⟨ds, [], before, [], before, [], hW, ?_, ?_, ?_, hb.frame _, fun h => by cases h⟩
  · rw [List.append_nil, hfn, hr]
    exact trodAll_mk1 (shut_bool ht true)
  · rw [List.append_nil, hfn]
    exact trodAll_below hl hb hR hA hlt
  · rw [List.append_nil, hfn, hv]
    rfl
end


section
variable {H : Type} {enc : TypeId × Value → H} {w : World} {base : Nat} {spare : Nat → Bool} {held : Bool}
theorem cells_str : Try.prog.cellsOf 9 = 1 := by kernel_rfl
theorem cells_strs : Try.prog.cellsOf 22 = 1 := by kernel_rfl
theorem bytes_str : 0 < Try.prog.bytesOf 9 := of_decide_eq_true (by kernel_rfl)
theorem bytes_strs : 0 < Try.prog.bytesOf 22 := of_decide_eq_true (by kernel_rfl)
theorem hop_str (m : Nat) (cs : List Value) (x : DataW H × List MemPlace) (h : DataW.trod enc Try.prog w base spare held m 9 cs = some x) : ∃ a, RStr w (fun k => base ≤ k) a cs ∧ ∀ B, (∀ k ∈ x.1.weights Try.prog 9, k ≤ B) → True := by
  obtain ⟨p, hp, hy, hpl⟩ := DataW.trod_string Try.underlying9 h
  exact ⟨p, ⟨hp, hpl⟩, fun _ _ => trivial⟩
theorem open_names (m : Nat) {cs : List Value} {x : DataW H × List MemPlace} (h : DataW.trod enc Try.prog w base spare held m 22 cs = some x) :
    ∃ (A : Option Addr) (l : List ByteArray) (c : Nat), cs = [.slice A l.length c] ∧ l.length ≤ c ∧ SlG 1 RStr w (fun k => base ≤ k) A l := by
  cases m with
  | zero => simp [DataW.trod] at h
  | succ m =>
    obtain ⟨A, l, c, h1, h2, h3, _⟩ := open_sl RStr 1 (by omega) RStr_sized 9 22 Try.underlying22 cells_str bytes_str (fun _ _ => True) m (hop_str m) h
    exact ⟨A, l, c, h1, h2, h3⟩
theorem open_needs (m : Nat) {cs : List Value} {x : DataW H × List MemPlace} (h : DataW.trod enc Try.prog w base spare held m 23 cs = some x) :
    ∃ (A : Option Addr) (l : List (List ByteArray)) (c : Nat), cs = [.slice A l.length c] ∧ l.length ≤ c ∧ SlG 1 RNeed w (fun k => base ≤ k) A l := by
  cases m with
  | zero => simp [DataW.trod] at h
  | succ m =>
    obtain ⟨A, l, c, h1, h2, h3, _⟩ := open_sl RNeed 1 (by omega) RNeed_sized 22 23 Try.underlying23 cells_strs bytes_strs (fun _ _ => True) m (fun cs x hx => by
      obtain ⟨A', l', c', e1, _, e3⟩ := open_names m hx
      exact ⟨l', ⟨A', c', e1, e3⟩, fun _ _ => trivial⟩) h
    exact ⟨A, l, c, h1, h2, h3⟩
theorem open_namesv {r : Reach} {b0 : Nat} {v : Value} {d : DataW H} {p : List MemPlace} (hv : Value.okWide Try.prog w r b0 22 v) (h : DataW.Trod enc Try.prog w base spare held 22 v d p) :
    ∃ (A : Option Addr) (l : List ByteArray) (c : Nat), v = .slice A l.length c ∧ l.length ≤ c ∧ SlV w w.heap.size A (l.map Value.string) ∧ ∀ s ∈ l, s.size ≤ maxLen := by
  obtain ⟨a, len, cap, rfl⟩ := okWide_slice Try.underlying22 hv
  obtain ⟨fuel, hf⟩ := h
  obtain ⟨A, l, c, h1, h2, h3⟩ := open_names fuel hf
  exact ⟨A, l, c, by simpa [Value.cells] using h1, h2, slv_strs h3⟩
theorem open_needsv {r : Reach} {b0 : Nat} {v : Value} {d : DataW H} {p : List MemPlace} (hv : Value.okWide Try.prog w r b0 23 v) (h : DataW.Trod enc Try.prog w base spare held 23 v d p) :
    ∃ (A : Option Addr) (l : List (List ByteArray)) (c : Nat), v = .slice A l.length c ∧ l.length ≤ c ∧ SlN w w.heap.size A (l.map fun r => r.map Value.string) ∧ ∀ r ∈ l, ∀ s ∈ r, s.size ≤ maxLen := by
  obtain ⟨a, len, cap, rfl⟩ := okWide_slice Try.underlying23 hv
  obtain ⟨fuel, hf⟩ := h
  obtain ⟨A, l, c, h1, h2, h3⟩ := open_needs fuel hf
  exact ⟨A, l, c, by simpa [Value.cells] using h1, h2, sln_needs h3⟩
end
end Go.Proofs.Ytibfikadamfpdaa
