/-
  Short names of numbers; rings and chains, plainly.
-/
import Derived.Test.YtibfikadamfpdaaTr
import Derived.Test.YtibfikadamfpdaaAk
import Derived.Laws.IdiomStrings
namespace Go.Proofs.Ytibfikadamfpdaa
open Go.RowKit
set_option linter.unusedVariables false
set_option linter.unusedSimpArgs false

def wordB (i : Nat) : ByteArray := ⟨#[112, UInt8.ofNat (97 + i)]⟩
set_option maxRecDepth 100000 in
set_option maxHeartbeats 1000000 in
theorem word_any (w : World) (i : Nat) (hi : i ≤ 20) : Calls Try.prog 16 #[.int .i64 i] w fun e w' => e = .returned (.string (wordB i)) ∧ Below w.heap.size w w' := by
  have i0 : (0 : Int) ≤ (i : Int) := by omega
  have i1 : (i : Int) ≤ 20 := by omega
  obtain ⟨W1, hW1⟩ : ∃ W1, w.alloc (.cells #[.int .u8 112, .int .u8 (97 + (i : Int))] 5) = W1 := ⟨_, rfl⟩
  have hB : Below w.heap.size w W1 := by rw [← hW1]; exact (Below.refl _ w).alloc (Nat.le_refl _) _
  have hk : Blk W1 w.heap.size 5 #[.int .u8 112, .int .u8 (97 + (i : Int))] := by rw [← hW1]; exact Blk.new _ _ _
  have hu : ((UInt8.ofNat (97 + i)).toNat : Int) = 97 + (i : Int) := by
    rw [UInt8.toNat_ofNat']
    omega
  have hcv := run_convert_bytes_back (P := Try.prog) W1 47 9 5 ⟨w.heap.size, 0, none⟩ 2 [112, UInt8.ofNat (97 + i)] Try.underlying47 Try.underlying5 Try.underlying9 (fun j hj => by
    rw [add0, hk.cell]
    match j, hj with
    | 0, _ => rfl
    | 1, _ => show some (Value.int .u8 (97 + (i : Int))) = some (.int .u8 ((UInt8.ofNat (97 + i)).toNat : Int)); rw [hu]
    | j + 2, h => exact absurd h (by simp))
  rw [show ([112, UInt8.ofNat (97 + i)] : List UInt8).length = 2 from rfl] at hcv
  have hwb : (Value.string ⟨[112, UInt8.ofNat (97 + i)].toArray⟩) = .string (wordB i) := rfl
  rw [hwb] at hcv
  have ew : IntKind.u8.wrap (97 + (i : Int)) = 97 + (i : Int) := by
    have e : ∀ x : Int, IntKind.u8.wrap x = x % 256 := fun x => by simp [IntKind.wrap, IntKind.bits, IntKind.signed]
    rw [e]
    omega
  have HB := Lib.hid hB
  clear hB hk hu hwb
  go_enter Try.func16, Try.ntmps16
  go_wp2
  go_ret
  exact ⟨rfl, HB.out⟩
def namesK (k f : Nat) : List ByteArray := (List.range k).map fun i => wordB ((i + f) % k)
def ringK (k f : Nat) : List (List ByteArray) := (List.range k).map fun i => [wordB ((i + f + 1) % k)]
def chainK (k f : Nat) : List (List ByteArray) := (List.range k).map fun i => if (i + f) % k = k - 1 then [] else [wordB ((i + f + 1) % k)]
theorem namesK_mod (k f : Nat) : namesK k f = namesK k (f % k) := by
  unfold namesK
  apply List.map_congr_left
  intro i _
  rw [Nat.add_mod_mod]
theorem ringK_mod (k f : Nat) : ringK k f = ringK k (f % k) := by
  unfold ringK
  apply List.map_congr_left
  intro i _
  rw [show (i + f + 1) % k = (i + f % k + 1) % k from by
    rw [show i + f + 1 = (i + 1) + f by omega, show i + f % k + 1 = (i + 1) + f % k by omega, Nat.add_mod_mod]]
theorem chainK_mod (k f : Nat) : chainK k f = chainK k (f % k) := by
  unfold chainK
  apply List.map_congr_left
  intro i _
  rw [show (i + f + 1) % k = (i + f % k + 1) % k from by
    rw [show i + f + 1 = (i + 1) + f by omega, show i + f % k + 1 = (i + 1) + f % k by omega, Nat.add_mod_mod], Nat.add_mod_mod]
/-- What is answered, reckoned. -/
def resD (N : List ByteArray) (R : List (List ByteArray)) : List Nat × Nat × Nat :=
  if 8 < N.length then ([], 0, 12)
  else match twice9 N with
  | some i => ([], i, 7)
  | none => match bad9 N R with
    | some i => ([], i, 6)
    | none => match left9 (ordF N.length (lk N R) (nltD N) N.length []) N.length with
      | some i => ([], i, 9)
      | none => (ordF N.length (lk N R) (nltD N) N.length [], 0, 0)
theorem res_D (N : List ByteArray) (R : List (List ByteArray)) : resN N R = resD N R := by
  unfold resN resD ordN
  rw [nlt_D]
  rfl
def lastK (k r : Nat) : List Nat := (List.range k).map fun i => (k - 1 - i + k - r) % k
def okK (k r : Nat) : Bool := decide (resD (namesK k r) (ringK k r) = ([], 0, 9)) && decide (resD (namesK k r) (chainK k r) = (lastK k r, 0, 0)) && (List.range k).all fun i => decide (txt9 (namesK k r) (fl (lastK k r) i) = wordB (k - 1 - i))
theorem okK_all : (List.range 9).all (fun k => (List.range k).all fun r => okK k r) = true := by decide +kernel
theorem okK_of {k f : Nat} (h0 : 0 < k) (h8 : k ≤ 8) : okK k (f % k) = true := by
  have h := okK_all
  rw [List.all_eq_true] at h
  have h1 := h k (by simp; omega)
  rw [List.all_eq_true] at h1
  exact h1 (f % k) (by have := Nat.mod_lt f h0; simpa using this)
theorem ring_res {k f : Nat} (h0 : 0 < k) (h8 : k ≤ 8) : resN (namesK k f) (ringK k f) = ([], 0, 9) := by
  have h := okK_of (f := f) h0 h8
  unfold okK at h
  simp only [Bool.and_eq_true, decide_eq_true_eq] at h
  rw [res_D, namesK_mod, ringK_mod]
  exact h.1.1
theorem chain_res {k f : Nat} (h0 : 0 < k) (h8 : k ≤ 8) : ∃ L, resN (namesK k f) (chainK k f) = (L, 0, 0) ∧ L.length = k ∧ ∀ i, i < k → fl L i < k ∧ txt9 (namesK k f) (fl L i) = wordB (k - 1 - i) := by
  have h := okK_of (f := f) h0 h8
  unfold okK at h
  simp only [Bool.and_eq_true, decide_eq_true_eq, List.all_eq_true] at h
  refine ⟨lastK k (f % k), by rw [res_D, namesK_mod, chainK_mod]; exact h.1.2, by simp [lastK], fun i hi => ⟨?_, ?_⟩⟩
  · have : fl (lastK k (f % k)) i = (k - 1 - i + k - f % k) % k := by simp [fl, lastK, hi]
    rw [this]
    exact Nat.mod_lt _ h0
  · rw [namesK_mod]
    exact h.2 i (by simpa using hi)
end Go.Proofs.Ytibfikadamfpdaa
