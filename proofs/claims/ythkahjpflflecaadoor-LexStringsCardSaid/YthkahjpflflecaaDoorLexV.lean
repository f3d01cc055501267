/-
  Bytes as an argument; strings as they are written: plainly.
-/
import Derived.Test.YthkahjpflflecaaDoorLexR
namespace Go.Proofs.YthkahjpflflecaaDoor
open Go.ChangeShapes Go.WideShapes Go.ChangeAt Go.RowKit Go.Joins Go.Deep
set_option linter.unusedVariables false

section
variable {H : Type} {enc : TypeId × Value → H} {w : World} {held : Bool}
theorem open_row {t e : TypeId} {k : IntKind} {fuel : Nat} {v : Value} {x : DataW H × List MemPlace} (ht : Tryd.prog.underlying t = some (.slice e)) (he : Tryd.prog.underlying e = some (.int k)) (hc : Tryd.prog.cellsOf e = 1)
    (h : DataW.trod enc Tryd.prog w 0 (fun _ => true) held fuel t [v] = some x) : ∃ (A : Option Addr) (zs : List Int) (c : Nat), v = .slice A zs.length c ∧ Reads w w.heap.size 1 A zs.length (zs.map (Value.int k)) ∧ ∀ n ∈ zs, (Lit.int k n).wf = true := by
  rcases open_ints ht he hc h with ⟨e1, _⟩ | ⟨a, len, cap, zs, e1, _, hl, _, hz, _, hcell, hwf⟩
  · simp only [List.cons.injEq, and_true] at e1
    subst e1
    exact ⟨none, [], 0, rfl, Reads.none_, by simp⟩
  · simp only [List.cons.injEq, and_true] at e1
    simp only [if_true] at hz
    have hlen : (zs.take len).length = len := by simp; omega
    refine ⟨some a, zs.take len, cap, by rw [hlen]; exact e1, ⟨by simp, fun hp => ⟨a, rfl, ?_, fun j u hu => ?_⟩⟩, fun n hn => hwf n (List.mem_of_mem_take hn)⟩
    · have h0 := hcell 0 (by omega)
      have := World.block_lt_of_cell? w _ h0
      rwa [block_of_add] at this
    · simp only [List.getElem?_map, Option.map_eq_some_iff] at hu
      obtain ⟨z, hz1, rfl⟩ := hu
      have hj : j < (zs.take len).length := by
        rcases Nat.lt_or_ge j (zs.take len).length with h | h
        · exact h
        · rw [List.getElem?_eq_none h] at hz1; cases hz1
      rw [List.getElem?_take] at hz1
      split at hz1
      · have := hcell j (by omega)
        rw [List.getD, hz1] at this
        exact this
      · cases hz1
theorem open_input {r : Reach} {b0 : Nat} {v : Value} {d : DataW H} {p : List MemPlace} (hv : Value.okWide Tryd.prog w r b0 36 v) (h : DataW.Trod enc Tryd.prog w 0 (fun _ => true) held 36 v d p) :
    ∃ (IA : Option Addr) (bl : List UInt8) (c2 : Nat), v = .slice IA bl.length c2 ∧ Reads w w.heap.size 1 IA bl.length (bl.map byteV) := by
  obtain ⟨a, len, cap, rfl⟩ := okWide_slice Tryd.underlying36 hv
  obtain ⟨fuel, hf⟩ := h
  obtain ⟨IA, zs, c2, e, r0, f0⟩ := open_row Tryd.underlying36 Tryd.underlying5 (by kernel_rfl) hf
  refine ⟨IA, zs.map (fun n => UInt8.ofNat n.toNat), c2, by rw [e]; simp, ?_⟩
  have hm : (zs.map (fun n => UInt8.ofNat n.toNat)).map byteV = zs.map (Value.int .u8) := by
    rw [List.map_map]
    refine List.map_congr_left fun n hn => ?_
    obtain ⟨n0, n1⟩ := u8_of (f0 n hn)
    show Value.int .u8 ((UInt8.ofNat n.toNat).toNat : Int) = _
    have : (UInt8.ofNat n.toNat).toNat = n.toNat := by simp; omega
    rw [this]
    congr 1; omega
  rw [hm]
  simpa using r0
end

/-! A string as it is written, and what is read of it. -/
def enc1 (c : UInt8) : List UInt8 := if c = 10 then [92, 110] else if c = 34 ∨ c = 92 then [92, c] else if c < 32 ∨ 126 < c then [120] else [c]
def mean1 (c : UInt8) : UInt8 := if c = 10 ∨ c = 34 ∨ c = 92 then c else if c < 32 ∨ 126 < c then 120 else c
theorem q_enc1 (c : UInt8) (acc : List UInt8) (i : Nat) (r : List UInt8) : qL false acc i (enc1 c ++ r) = qL false (acc ++ [mean1 c]) (i + (enc1 c).length) r := by
  unfold enc1 mean1
  by_cases h1 : c = 10
  · subst h1; rfl
  · rw [if_neg h1]
    by_cases h2 : c = 34 ∨ c = 92
    · rw [if_pos h2, if_pos (.inr h2)]
      rcases h2 with rfl | rfl <;> rfl
    · have h3 : ¬ (c = 10 ∨ c = 34 ∨ c = 92) := fun h => h.elim h1 h2
      rw [if_neg h2, if_neg h3]
      by_cases h4 : c < 32 ∨ 126 < c
      · rw [if_pos h4, if_pos h4]; rfl
      · rw [if_neg h4, if_neg h4]
        have a1 : ¬ c = 92 := fun h => h2 (.inr h)
        have a2 : ¬ c = 34 := fun h => h2 (.inl h)
        rw [List.singleton_append, qL, if_neg a1, if_neg a2, if_neg h4]
        rfl
theorem q_enc : ∀ (l : List UInt8) (acc : List UInt8) (i : Nat) (r : List UInt8), qL false acc i (l.flatMap enc1 ++ r) = qL false (acc ++ l.map mean1) (i + (l.flatMap enc1).length) r
  | [], acc, i, r => by simp
  | c :: t, acc, i, r => by
    rw [List.flatMap_cons, List.append_assoc, q_enc1, q_enc t]
    simp [Nat.add_assoc]
theorem enc1_len (c : UInt8) : (enc1 c).length ≤ 2 := by
  unfold enc1; split
  · simp
  · split
    · simp
    · split <;> simp
theorem enc_len : ∀ l : List UInt8, (l.flatMap enc1).length ≤ 2 * l.length
  | [] => by simp
  | c :: t => by have := enc_len t; have := enc1_len c; rw [List.flatMap_cons, List.length_append, List.length_cons]; omega
theorem gap_34 (r : List UInt8) : gapL false (34 :: r) = 0 := by
  have : pre2 (34 :: r) = false := by cases r <;> rfl
  rw [gapL, this]; rfl
theorem first_34 (r : List UInt8) : firstL (34 :: r) = (qL false [] 0 r).map fun x => (⟨4, x.1, 0⟩, x.2) := rfl
theorem lexD_quoted (l : List UInt8) (hl : l.length ≤ 200) : lexD (34 :: (l.flatMap enc1 ++ [34])) = if 100 < l.length then ([], 0, 5) else ([(⟨4, l.map mean1, 0⟩, 0), (⟨0, [], 0⟩, (l.flatMap enc1).length + 2)], 0, 0) := by
  have hen := enc_len l
  have hq : qL false [] 0 (l.flatMap enc1 ++ [34]) = if 100 < l.length then none else some (l.map mean1, (l.flatMap enc1).length + 2) := by
    rw [q_enc, qL]
    simp
  unfold lexD lexG
  rw [if_neg (by simp only [List.length_cons, List.length_append, List.length_nil]; omega), gap_34, List.drop_zero]
  by_cases h : 100 < l.length
  · rw [if_pos h] at hq ⊢
    rw [lexL_none (by simp) (by rw [first_34, hq]; rfl)]
    rfl
  · rw [if_neg h] at hq ⊢
    have hf : firstL (34 :: (l.flatMap enc1 ++ [34])) = some (⟨4, l.map mean1, 0⟩, (l.flatMap enc1).length + 2) := by rw [first_34, hq]; rfl
    rw [lexL_some (by simp) hf]
    have hd : (34 :: (l.flatMap enc1 ++ [34])).drop ((l.flatMap enc1).length + 2) = [] := List.drop_eq_nil_of_le (by simp)
    rw [hd]
    have e : (34 :: (l.flatMap enc1 ++ [34])).length = ((l.flatMap enc1).length + 1) + 1 := by simp
    rw [e, show gapL false [] = 0 from rfl, List.drop_nil, lexL_end]
    simp [joinL, lexO]
theorem lexD_open (l : List UInt8) (hl : l.length ≤ 200) : lexD (34 :: l.flatMap enc1) = ([], 0, 5) := by
  have hen := enc_len l
  have hq : qL false [] 0 (l.flatMap enc1) = none := by
    have := q_enc l [] 0 []
    rw [List.append_nil] at this
    rw [this]; rfl
  unfold lexD lexG
  rw [if_neg (by simp only [List.length_cons]; omega), gap_34, List.drop_zero, lexL_none (by simp) (by rw [first_34, hq]; rfl)]
  rfl
end Go.Proofs.YthkahjpflflecaaDoor
