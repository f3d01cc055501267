/-
  The rows' common parts of stage 7.
-/
import Derived.Test.YtcfgjfahjaimiaaRows
import Derived.Test.YtcfgjfahjaimiaaTyW
import Derived.Test.YtcfgjfahjaimiaaTyWb
import Derived.SizedLaws
import Derived.ChangeSame
import Derived.ChangeVars
import Derived.JoinedOf
import Derived.RowKit
import Derived.RowKitTokens
import Derived.RowKit3
import Derived.LaidLaws
import Derived.Handed
import Derived.ProofKit
import Derived.OpenShut
import Derived.Lib.SmallJoins
import Derived.Lib.LaidTab
import Derived.SevenTiedAt
import Derived.Stop.Joined
import Derived.Stop.LaidErr
import Derived.Carry
import Derived.WalkKit
import Derived.JoinedCond
namespace Go.Proofs.Ytcfgjfahjaimiaa
open Go.ChangeShapes Go.WideShapes Go.ChangeAt Go.RowKit Go.Joins Go.Deep
set_option linter.unusedVariables false
set_option linter.unusedSimpArgs false

theorem own : ownKnob Try.prog.godebug = none := by kernel_rfl
theorem laidOut : laidOutB Try.prog = true := by kernel_rfl
mutual
theorem szD_le {H : Type} : ∀ d : DataW H, szD d ≤ Rows.uptoBulk d
  | .agg ds => by simp only [szD, Rows.uptoBulk]; have := szDs_le ds; omega
  | .slice ds sp => by simp only [szD, Rows.uptoBulk]; have := szDs_le ds; omega
  | .lit l => by cases l <;> simp [szD, Rows.uptoBulk]
  | .nil | .ptr _ | .iface _ _ | .map _ | .held _ => by simp [szD]
theorem szDs_le {H : Type} : ∀ l : List (DataW H), szDs l ≤ Rows.uptoBulkAll l
  | [] => by simp [szDs]
  | d :: r => by simp only [szDs, Rows.uptoBulkAll]; have := szD_le d; have := szDs_le r; omega
end
section
variable {H : Type} {enc : TypeId × Value → H} {P : Program} {w : World} {base : Nat} {spare : Nat → Bool} {held : Bool}
set_option maxRecDepth 100000 in
theorem open_tyv {r : Reach} {b0 : Nat} {v : Value} {d : DataW H} {p : List MemPlace} (hv : Value.okWide Try.prog w r b0 26 v) (h : DataW.Trod enc Try.prog w base spare held 26 v d p) :
    ∃ (t : Ty) (vs : List Value), v = .agg vs.toArray ∧ RT w (fun k => base ≤ k) t vs ∧ t.okN ∧ t.sz = szD d ∧ ∀ R, (∀ k ∈ d.weights Try.prog 26, k ≤ R) → t.mx ≤ R := by
  obtain ⟨cs, rfl, hsz⟩ := okWide_struct Try.underlying26 hv
  obtain ⟨l⟩ := cs
  have hl : l.length = 5 := by rw [← cells_type]; exact hsz
  obtain ⟨c0, c1, c2, c3, c4, rfl⟩ := five_gen hl
  obtain ⟨fuel, hf⟩ := h
  obtain ⟨t, ht, hok, hs, hm⟩ := open_type fuel _ _ hf
  exact ⟨t, _, rfl, by simpa [Value.cells] using ht, hok, hs, hm⟩
set_option maxRecDepth 100000 in
theorem open_tysv {r : Reach} {b0 : Nat} {v : Value} {d : DataW H} {p : List MemPlace} (hv : Value.okWide Try.prog w r b0 24 v) (h : DataW.Trod enc Try.prog w base spare held 24 v d p) :
    ∃ (A : Option Addr) (l : List Ty) (c : Nat), v = .slice A l.length c ∧ SlT w (fun k => base ≤ k) A l ∧ okNs l ∧ l.length ≤ maxLen ∧ szL l = szD d ∧ ∀ R, (∀ k ∈ d.weights Try.prog 24, k ≤ R) → mxL l ≤ R ∧ l.length ≤ R := by
  obtain ⟨a, len, cap, rfl⟩ := okWide_slice Try.underlying24 hv
  obtain ⟨fuel, hf⟩ := h
  cases fuel with
  | zero => simp [DataW.trod] at hf
  | succ n =>
    obtain ⟨A, l, c, h1, h2, h3, h4, h5, h6⟩ := open_types n (fun m _ cs x hx => open_type m cs x hx) hf
    refine ⟨A, l, c, by simpa [Value.cells] using h1, h2, h3, h4, h5, h6⟩
set_option maxRecDepth 100000 in
theorem open_strsv {r : Reach} {b0 : Nat} {v : Value} {d : DataW H} {p : List MemPlace} (hv : Value.okWide Try.prog w r b0 51 v) (h : DataW.Trod enc Try.prog w base spare held 51 v d p) :
    ∃ (A : Option Addr) (l : List ByteArray) (c : Nat), v = .slice A l.length c ∧ SlS w (fun k => base ≤ k) A l ∧ ∀ R, (∀ k ∈ d.weights Try.prog 51, k ≤ R) → l.length ≤ R := by
  obtain ⟨a, len, cap, rfl⟩ := okWide_slice Try.underlying51 hv
  obtain ⟨fuel, hf⟩ := h
  obtain ⟨A, l, c, h1, h2, h3⟩ := open_strs fuel hf
  exact ⟨A, l, c, by simpa [Value.cells] using h1, h2, h3⟩
set_option maxRecDepth 100000 in
theorem open_strv {r : Reach} {b0 : Nat} {v : Value} {d : DataW H} {p : List MemPlace} (hv : Value.okWide Try.prog w r b0 9 v) (h : DataW.Trod enc Try.prog w base spare held 9 v d p) :
    ∃ s : ByteArray, v = .string s ∧ ∀ R, (∀ k ∈ d.weights Try.prog 9, k ≤ R) → s.size ≤ R := by
  obtain ⟨s, rfl⟩ := okWide_string Try.underlying9 hv
  obtain ⟨fuel, hf⟩ := h
  obtain ⟨s', h, hx, hs⟩ := DataW.trod_string Try.underlying9 hf
  have e : s = s' := by simpa [Value.cells] using h
  subst e
  refine ⟨s, rfl, fun R hR => ?_⟩
  injection hx with h1 h2
  subst h1
  exact hR _ (by simp [DataW.weights])
theorem u8_of {n : Int} (h : (Lit.int .u8 n).wf = true) : 0 ≤ n ∧ n ≤ 255 := by
  have e1 : IntKind.u8.min = 0 := rfl
  have e2 : IntKind.u8.max = 255 := rfl
  simp [Lit.wf, e1, e2] at h
  exact ⟨by omega, by omega⟩
theorem sized_all {ts : List TypeId} {ds : List (DataW H)} (h : (DataW.weightsEach P ts ds).all (· ≤ reachBytes) = true) {j : Nat} {t : TypeId} {d : DataW H} (ht : ts[j]? = some t) (hd : ds[j]? = some d) : ∀ k ∈ d.weights P t, k ≤ 140737488355328 := by
  intro k hk
  have h1 := List.all_eq_true.1 h _ (DataW.weights_mem_each ht hd k hk)
  have h2 : k ≤ reachBytes := by simpa using h1
  have h3 := reachBytes_lt
  omega
theorem trodAll_below (hl : laidOutB P = true) {W W' : World} (hb : Below W.heap.size W W') : ∀ {ts : List TypeId} {vs : List Value} {ds : List (DataW H)} {ps : List MemPlace},
    (∀ t ∈ ts, P.readableRec t = true ∧ t < P.types.size) → DataW.TrodAll enc P W 0 (fun _ => true) true ts vs ds ps → (∀ x ∈ ps, x.block < W.heap.size) →
    DataW.TrodAll enc P W' 0 (fun b => decide (b < W.heap.size)) true ts vs ds ps
  | [], [], [], _, _, h, _ => h
  | _ :: _, _ :: _, _ :: _, _, hT, ⟨p, q, h1, h2, e⟩, hs =>
    ⟨p, q, Below.trod hl (hT _ (List.mem_cons.2 (Or.inl rfl))).1 (hT _ (List.mem_cons.2 (Or.inl rfl))).2 h1 hb (fun x hx => hs x (by rw [e]; exact List.mem_append_left _ hx)),
      trodAll_below hl hb (fun t ht => hT t (List.mem_cons.2 (Or.inr ht))) h2 (fun x hx => hs x (by rw [e]; exact List.mem_append_right _ hx)), e⟩
/-- The row's last step for a law: true, and of what was there nothing has turned. -/
theorem post_law {f : Func} {s : ChangeSpec} {W W' : World} {args : Array Value} {ds : List (DataW H)} {before : List MemPlace} {tb : TypeId}
    (hl : laidOutB P = true) (hR : ∀ t ∈ f.params.toList, P.readableRec t = true ∧ t < P.types.size) (hv : s.vars = []) (hr : f.resultTypes = #[tb]) (ht : P.underlying tb = some .bool)
    (hfn : s.fn H ds = { results := [.lit (.bool true)], args := ds })
    (hW : DataW.Whole enc P f.params.toList s.vars false W args.toList ds [] before) (hb : Below W.heap.size W W') :
    s.post enc P f false true false false W args (.bool true) W' := by
  have hlt : ∀ p ∈ before, p.block < W.heap.size := fun p hp => hW.lt p hp
  have hA : DataW.TrodAll enc P W 0 (fun _ => true) true f.params.toList args.toList ds before := by
    obtain ⟨p, q, hA, hV, rfl, _, _⟩ := hW
    rw [hv] at hV
    obtain ⟨_, rfl⟩ := trodVars_none hV
    simpa using hA
  refine ⟨ds, [], before, [], before, [], hW, ?_, ?_, ?_, hb.frame _, fun h => by cases h⟩
  · rw [List.append_nil, hfn, hr]
    exact trodAll_mk1 (shut_bool ht true)
  · rw [List.append_nil, hfn]
    exact trodAll_below hl hb hR hA hlt
  · rw [List.append_nil, hfn, hv]
    rfl
end

end Go.Proofs.Ytcfgjfahjaimiaa
