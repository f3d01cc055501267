/-
  Code that was made of instructions, step by step.
-/
import Derived.Test.YtpokhdnfclmifaaLawD
import Derived.Test.YtpokhdnfclmifaaLawC
namespace Go.Proofs.Ytpokhdnfclmifaa
open Go.RowKit
set_option linter.unusedVariables false

theorem fetch_enc {l : List In} {k : Nat} {t : In} (h : l[k]? = some t) (hF : F t.o t.a t.b t.c t.n = true) : fetch (l.map encw) (k : Int) = some (t.o, t.a.toNat, t.b.toNat, t.c.toNat, t.n) := by
  have hw : encw t = W t.o t.a t.b t.c t.n := by simp [encw, hF]
  have hb := d_back (F_bd hF)
  have hG := G_of hF
  unfold fetch cellAt
  rw [if_pos (by omega), Int.toNat_natCast, List.getElem?_map, h]
  simp only [Option.map_some, hw, hG, if_true]
  obtain ⟨e1, e2, e3, e4, e5⟩ := hb
  rw [e1, e2, e3, e4, e5]
/-- A step of such code. -/
theorem step_enc {l : List In} {s : St} {k : Nat} {t : In} {s' : St} (hk : s.kind = 0) (hp : s.pc = (k : Int)) (h : l[k]? = some t) (hF : F t.o t.a t.b t.c t.n = true)
    (ha : act { s with steps := wrap64 (s.steps + 1), pc := s.pc + 1 } t.o t.a.toNat t.b.toNat t.c.toNat t.n = .did s') : step (l.map encw) s = s' := by
  unfold step
  rw [if_pos hk, hp, fetch_enc h hF]
  rw [hp] at ha
  simp only [ha]
theorem step_gave {l : List In} {s : St} {k : Nat} {t : In} {x y : Int} (hk : s.kind = 0) (hp : s.pc = (k : Int)) (h : l[k]? = some t) (hF : F t.o t.a t.b t.c t.n = true)
    (ha : act { s with steps := wrap64 (s.steps + 1), pc := s.pc + 1 } t.o t.a.toNat t.b.toNat t.c.toNat t.n = .gave x y) : step (l.map encw) s = { s with steps := wrap64 (s.steps + 1), pc := s.pc + 1, kind := x, code := y } := by
  unfold step
  rw [if_pos hk, hp, fetch_enc h hF]
  rw [hp] at ha
  simp only [ha]
end Go.Proofs.Ytpokhdnfclmifaa
