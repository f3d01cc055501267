/-
  Names in their order: any two stand one below the other, or are the same.
-/
import Derived.Test.YtibfikadamfpdaaQu
namespace Go.Proofs.Ytibfikadamfpdaa
open Go.RowKit
set_option linter.unusedVariables false
set_option linter.unusedSimpArgs false

theorem bless_asym : ∀ (a b : List UInt8), Op.bytesLess a b = true → Op.bytesLess b a = false
  | _, [], h => by simp [Op.bytesLess] at h
  | [], _ :: _, h => by simp [Op.bytesLess]
  | x :: a, y :: b, h => by
    have ih := bless_asym a b
    simp only [Op.bytesLess, Bool.or_eq_true, Bool.and_eq_true, decide_eq_true_eq, beq_iff_eq, Bool.or_eq_false_iff, Bool.and_eq_false_iff, decide_eq_false_iff_not, UInt8.lt_iff_toNat_lt] at h ⊢
    rcases h with h | ⟨rfl, h⟩
    · exact ⟨by omega, .inl (by simp; rintro rfl; omega)⟩
    · exact ⟨by omega, .inr (ih h)⟩
theorem bless_tr : ∀ (a b c : List UInt8), Op.bytesLess a b = false → Op.bytesLess b c = false → Op.bytesLess a c = false
  | _, _, [], _, _ => by simp [Op.bytesLess]
  | [], [], z :: c, _, h => by simp [Op.bytesLess] at h
  | [], y :: b, z :: c, h, _ => by simp [Op.bytesLess] at h
  | x :: a, [], z :: c, _, h => by simp [Op.bytesLess] at h
  | x :: a, y :: b, z :: c, h, k => by
    have ih := bless_tr a b c
    simp only [Op.bytesLess, Bool.or_eq_false_iff, Bool.and_eq_false_iff, decide_eq_false_iff_not, UInt8.lt_iff_toNat_lt, beq_eq_false_iff_ne, ne_eq] at h k ⊢
    obtain ⟨h1, h2⟩ := h
    obtain ⟨k1, k2⟩ := k
    refine ⟨by omega, ?_⟩
    by_cases e : x = z
    · subst e
      have exy : x = y := by
        apply UInt8.toNat_inj.1; omega
      subst exy
      refine .inr (ih ?_ ?_)
      · rcases h2 with h2 | h2
        · exact absurd rfl h2
        · exact h2
      · rcases k2 with k2 | k2
        · exact absurd rfl k2
        · exact k2
    · exact .inl e
theorem bless_irr : ∀ a : List UInt8, Op.bytesLess a a = false
  | [] => rfl
  | x :: a => by simp [Op.bytesLess, bless_irr a]
theorem bless_total : ∀ (a b : List UInt8), Op.bytesLess a b = false → Op.bytesLess b a = false → a = b
  | [], [], _, _ => rfl
  | [], y :: b, h, _ => by simp [Op.bytesLess] at h
  | x :: a, [], _, h => by simp [Op.bytesLess] at h
  | x :: a, y :: b, h, k => by
    simp only [Op.bytesLess, Bool.or_eq_false_iff, Bool.and_eq_false_iff, decide_eq_false_iff_not, UInt8.lt_iff_toNat_lt, beq_eq_false_iff_ne, ne_eq] at h k
    have exy : x = y := by apply UInt8.toNat_inj.1; omega
    subst exy
    rw [bless_total a b (by rcases h.2 with h | h; exact absurd rfl h; exact h) (by rcases k.2 with h | h; exact absurd rfl h; exact h)]
theorem nlt_ord (N : List ByteArray) : Ord9 (nlt N) := ⟨fun a b => bless_asym _ _, fun a b c => bless_tr _ _ _⟩
theorem nlt_irr (N : List ByteArray) (a : Nat) : nlt N a a = false := bless_irr _
theorem nlt_total (N : List ByteArray) {a b : Nat} (h : nlt N a b = false) (k : nlt N b a = false) : txt9 N a = txt9 N b := toList_inj.1 (bless_total _ _ h k)
end Go.Proofs.Ytibfikadamfpdaa
