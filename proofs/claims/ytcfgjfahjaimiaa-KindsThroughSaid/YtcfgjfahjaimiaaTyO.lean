/-
  Slices of types that are made.
-/
import Derived.Test.YtcfgjfahjaimiaaTyN
import Derived.Test.YtcfgjfahjaimiaaShelf
namespace Go.Proofs.Ytcfgjfahjaimiaa
open Go.RowKit
set_option linter.unusedVariables false
set_option linter.unusedSimpArgs false

def tyZ : Ty := .mk 0 ⟨#[]⟩ ⟨#[]⟩ [] []
def z5 : Array Value := #[.int .i64 0, .string ⟨#[]⟩, .string ⟨#[]⟩, .slice none 0 0, .slice none 0 0]
theorem made5 (z : Array Value) (hz : z.size = 5) (m : Nat) : (madeCells z (5 + m)).toList = z.toList ++ (madeCells z m).toList := by
  have e : ∀ n, (madeCells z n).toList = (List.range n).map (fun i => z[i % z.size]!) := fun n => by simp [madeCells]
  rw [e, e, List.range_add, List.map_append]
  congr 1
  · obtain ⟨l⟩ := z
    obtain ⟨a, b, c, d, f, rfl⟩ := five_of (by simpa using hz)
    rfl
  · rw [List.map_map]
    apply List.map_congr_left
    intro i _
    simp [hz]
theorem SlT.none_ (w : World) (F : Nat → Prop) : SlT w F none [] := ⟨[], ⟨rfl, fun h => absurd h (by simp)⟩, by simp only [RTs]⟩
theorem RT.zero (w : World) (F : Nat → Prop) : RT w F tyZ z5.toList := RT.mk_ (A := none) (A' := none) (c := 0) (c' := 0) (SlT.none_ w F) (SlT.none_ w F)
theorem RTs.zeros (w : World) (F : Nat → Prop) : ∀ n : Nat, RTs w F (List.replicate n tyZ) (madeCells z5 (n * 5)).toList
  | 0 => by
    simp [List.replicate, RTs, madeCells]
  | n + 1 => by
    rw [show (n + 1) * 5 = 5 + n * 5 by omega, made5 _ rfl]
    simp only [List.replicate_succ, RTs]
    exact ⟨_, _, rfl, RT.zero w F, RTs.zeros w F n⟩
theorem info_type : (Try.prog.info? 26).map (fun i => (i.zero, i.size, i.bytes)) = some (some (.agg z5), 5, 88) := by kernel_rfl
theorem run_mk (n : Nat) (hn : n ≤ 2000000) (w : World) : (Instr.makeSlice 24 (.int .i64 n) (.int .i64 n)).run Try.prog w = .ok (.slice (some ⟨w.heap.size, 0, none⟩) n n) (w.alloc (.cells (madeCells z5 (n * 5)) 26)) := by
  obtain ⟨i, hi, hzz⟩ := Option.map_eq_some_iff.1 info_type
  simp only [Prod.mk.injEq] at hzz
  obtain ⟨hz, hs, hb⟩ := hzz
  have hr := run_make (P := Try.prog) w 24 26 i (.agg z5) Try.underlying24 hi hz .i64 .i64 n n (by omega) (Int.le_refl _) (by rw [hb]; omega) (by omega)
  simp only [Int.toNat_natCast, hs] at hr
  exact hr
theorem clone_any (s : ByteArray) (w : World) (hs : s.size ≤ 281474976710656) : Calls Try.prog 52 #[.string s] w fun e w' => e = .returned (.string s) ∧ Below w.heap.size w w' := by
  go_enter Try.func52, Try.ntmps52
  go_wp2_with (go_at_call 69; refine (Try.stringslite_Clone _ _ (by omega)).mono ?_; rintro e w1 ⟨rfl, hb⟩)
  go_ret
  exact ⟨rfl, hb⟩
/-- Made slices, as what is found. -/
theorem Fd.made (w : World) (F : Nat → Prop) (n : Nat) (hF : ¬ F w.heap.size) : Fd (w.alloc (.cells (madeCells z5 (n * 5)) 26)) F w.heap.size (List.replicate n tyZ) :=
  ⟨_, Blk.new _ _ _, hF, RTs.zeros _ _ _⟩
theorem RTs.len5 : ∀ {w : World} {F : Nat → Prop} {ts : List Ty} {xs : List Value}, RTs w F ts xs → xs.length = ts.length * 5
  | w, F, [], xs, h => by
    simp only [RTs] at h
    subst h; rfl
  | w, F, t :: r, xs, h => by
    simp only [RTs] at h
    obtain ⟨a, q, rfl, h2, h3⟩ := h
    have := h2.length
    have := RTs.len5 h3
    simp only [List.length_append, List.length_cons]
    omega
theorem Fd.slice {w : World} {F F' : Nat → Prop} {g : Nat} {fd : List Ty} (h : Fd w F g fd) (hF : ∀ k, F k → F' k) (hg : F' g) : SlT w F' (some ⟨g, 0, none⟩) fd := by
  obtain ⟨cs, h1, h2, h3⟩ := h
  refine ⟨cs.toList, ⟨RTs.len5 h3, fun _ => ⟨g, 0, rfl, hg, h1.lt, fun j u hu => ?_⟩⟩, RTs.keep (fun _ _ _ => rfl) (Nat.le_refl _) (fun k _ hk => hF k hk) _ _ h3⟩
  rw [Nat.zero_add, h1.cell, ← Array.getElem?_toList]
  exact hu
end Go.Proofs.Ytcfgjfahjaimiaa
