/-
  kinds' copiedDecl and Find: walks.
-/
import Derived.Test.YtcfgjfahjaimiaaUk
namespace Go.Proofs.Ytcfgjfahjaimiaa
open Go.RowKit
set_option linter.unusedVariables false
set_option linter.unusedSimpArgs false

def NewDP (d : Dl) (w : World) (e : Ending) (w' : World) : Prop := (∃ (k : Int) (p n : ByteArray) (A : Option Addr) (m c : Nat) (B : Option Addr) (m' c' : Nat) (D : Option Addr) (x : Nat), e = .returned (.agg #[.int .i64 d.kind, .string d.name, .string d.of, .int .i64 d.value, .int .i64 k, .string p, .string n, .slice A m c, .slice B m' c', .slice D d.fields.length x]) ∧ RDl w' (fun k => w.heap.size ≤ k) d [.int .i64 d.kind, .string d.name, .string d.of, .int .i64 d.value, .int .i64 k, .string p, .string n, .slice A m c, .slice B m' c', .slice D d.fields.length x]) ∧ Below w.heap.size w w'
theorem dl_good {us : List Un} (hok : ∀ u ∈ us, u.ok 140737488355328) (hcn : ∀ u ∈ us, u.cnt ≤ 2000) (p n : ByteArray) : ((fndP us p n).getD dlZ).ok 140737488355328 ∧ ((fndP us p n).getD dlZ).cnt ≤ 2000 := by
  have hz : dlZ.ok 140737488355328 ∧ dlZ.cnt ≤ 2000 := by
    constructor
    · refine ⟨by decide, by decide, by decide, by decide, fun f hf => ?_⟩
      cases hf
    · decide
  cases hf : fndP us p n with
  | none => exact hz
  | some d =>
    show d.ok 140737488355328 ∧ d.cnt ≤ 2000
    rw [fndP] at hf
    have hm := declP_mem hf
    cases hu : unitP us p with
    | none =>
      rw [hu] at hm
      cases hm
    | some u =>
      rw [hu] at hm
      have hm : d ∈ u.decls := hm
      have h1 := hok u (unitP_mem hu)
      have h2 := hcn u (unitP_mem hu)
      refine ⟨h1.2.2.1.2 d hm, ?_⟩
      have h3 := sumL_mem Dl.cnt u.decls d hm
      unfold Un.cnt at h2
      omega
end Go.Proofs.Ytcfgjfahjaimiaa
