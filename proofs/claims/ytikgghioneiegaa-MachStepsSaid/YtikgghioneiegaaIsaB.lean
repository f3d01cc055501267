/-
  Words, numerals and texts of instructions: plain facts.
-/
import Derived.Test.YtikgghioneiegaaIsaA
import Derived.Laws.BitsLemmas
import Derived.Lib.ItoaMem
namespace Go.Proofs.Ytikgghioneiegaa
open Go.RowKit
set_option linter.unusedVariables false

def hA (op : Int) : Bool := decide (U op % 2 = 1)
def hB (op : Int) : Bool := decide (U op / 2 % 2 = 1)
def hC (op : Int) : Bool := decide (4 ≤ U op)
/-- May a register be? -/
def rg (has : Bool) (r : Int) : Bool := if has then decide (0 ≤ r ∧ r ≤ 15) else decide (r = 0)
/-- May a number be? -/
def ni (has : Bool) (n : Int) : Bool := if has then decide (-2147483648 ≤ n ∧ n ≤ 2147483647) else decide (n = 0)
/-- Has the instruction a word? -/
def F (op a b c n : Int) : Bool := K op && rg (hA op) a && rg (hB op) b && rg (hC op) c && ni (I op) n
/-- Its word. -/
def W (op a b c n : Int) : Int := op * 72057594037927936 + a * 4503599627370496 + b * 281474976710656 + c * 17592186044416 + n % 4294967296

theorem rg_bd {h : Bool} {r : Int} (e : rg h r = true) : 0 ≤ r ∧ r ≤ 15 := by
  cases h <;> simp [rg] at e <;> omega
theorem ni_bd {h : Bool} {n : Int} (e : ni h n = true) : -2147483648 ≤ n ∧ n ≤ 2147483647 := by
  cases h <;> simp [ni] at e <;> omega
theorem K_bd {op : Int} (e : K op = true) : 0 ≤ op ∧ op ≤ 43 := by
  simp only [K, decide_eq_true_eq] at e; omega
structure Bd (op a b c n : Int) : Prop where
  o0 : 0 ≤ op
  o1 : op ≤ 43
  a0 : 0 ≤ a
  a1 : a ≤ 15
  b0 : 0 ≤ b
  b1 : b ≤ 15
  c0 : 0 ≤ c
  c1 : c ≤ 15
  n0 : -2147483648 ≤ n
  n1 : n ≤ 2147483647
theorem F_parts {op a b c n : Int} (e : F op a b c n = true) : K op = true ∧ rg (hA op) a = true ∧ rg (hB op) b = true ∧ rg (hC op) c = true ∧ ni (I op) n = true := by
  simp only [F, Bool.and_eq_true] at e
  exact ⟨e.1.1.1.1, e.1.1.1.2, e.1.1.2, e.1.2, e.2⟩
theorem F_bd {op a b c n : Int} (e : F op a b c n = true) : Bd op a b c n := by
  obtain ⟨k, a, b, c, n⟩ := F_parts e
  exact ⟨(K_bd k).1, (K_bd k).2, (rg_bd a).1, (rg_bd a).2, (rg_bd b).1, (rg_bd b).2, (rg_bd c).1, (rg_bd c).2, (ni_bd n).1, (ni_bd n).2⟩

theorem W_bd {op a b c n : Int} (h : Bd op a b c n) : 0 ≤ W op a b c n ∧ W op a b c n < 9223372036854775808 := by
  obtain ⟨_, _, _, _, _, _, _, _, _, _⟩ := h
  unfold W; omega

/-! ### Packing -/
theorem wraps_i64 (n : Int) (h₀ : 0 ≤ n) (h₁ : n < 2 ^ 63) : IntKind.i64.wrap n = n := by rw [IntKind.wrap_i64]; omega
theorem join (i : Nat) (x y : Int) (hx₀ : 0 ≤ x) (hx : x % 2 ^ i = 0) (hx₁ : x < 2 ^ 63) (hy₀ : 0 ≤ y) (hy : y < 2 ^ i) (hy₁ : y < 2 ^ 63) : bits .or .i64 x y = x + y :=
  bits_join .i64 63 (by decide) wraps_i64 i x y hx₀ hx hx₁ hy₀ hy hy₁
theorem i64_and32 (n : Int) : bits .and .i64 n 4294967295 = n % 4294967296 := by
  have h63 : (BitVec.ofInt 64 4294967295).toNat = 2 ^ 32 - 1 := by decide
  have key : (BitVec.ofInt 64 n &&& BitVec.ofInt 64 4294967295).toNat = (n % ((2 ^ 64 : Nat) : Int)).toNat % 2 ^ 32 := by
    rw [BitVec.toNat_and, BitVec.toNat_ofInt, h63, Nat.and_two_pow_sub_one_eq_mod]
  show IntKind.i64.wrap ((BitVec.ofInt 64 n &&& BitVec.ofInt 64 4294967295).toNat : Nat) = n % 4294967296
  rw [key, IntKind.wrap_i64]
  omega
theorem u64_and32 (n : Int) : bits .and .u64 n 4294967295 = n % 4294967296 := by
  have h63 : (BitVec.ofInt 64 4294967295).toNat = 2 ^ 32 - 1 := by decide
  have key : (BitVec.ofInt 64 n &&& BitVec.ofInt 64 4294967295).toNat = (n % ((2 ^ 64 : Nat) : Int)).toNat % 2 ^ 32 := by
    rw [BitVec.toNat_and, BitVec.toNat_ofInt, h63, Nat.and_two_pow_sub_one_eq_mod]
  show IntKind.u64.wrap ((BitVec.ofInt 64 n &&& BitVec.ofInt 64 4294967295).toNat : Nat) = n % 4294967296
  rw [key, IntKind.wrap_u64]
  omega
theorem u64_and15 (n : Int) : bits .and .u64 n 15 = n % 16 := by
  have h63 : (BitVec.ofInt 64 15).toNat = 2 ^ 4 - 1 := by decide
  have key : (BitVec.ofInt 64 n &&& BitVec.ofInt 64 15).toNat = (n % ((2 ^ 64 : Nat) : Int)).toNat % 2 ^ 4 := by
    rw [BitVec.toNat_and, BitVec.toNat_ofInt, h63, Nat.and_two_pow_sub_one_eq_mod]
  show IntKind.u64.wrap ((BitVec.ofInt 64 n &&& BitVec.ofInt 64 15).toNat : Nat) = n % 16
  rw [key, IntKind.wrap_u64]
  omega
theorem pack {op a b c n : Int} (h : Bd op a b c n) :
    bits .or .i64 (bits .or .i64 (bits .or .i64 (bits .or .i64 (op * 72057594037927936) (a * 4503599627370496)) (b * 281474976710656)) (c * 17592186044416)) (n % 4294967296) = W op a b c n := by
  obtain ⟨_, _, _, _, _, _, _, _, _, _⟩ := h
  rw [join 56 (op * 72057594037927936) (a * 4503599627370496) (by omega) (by omega) (by omega) (by omega) (by omega) (by omega)]
  rw [join 52 _ (b * 281474976710656) (by omega) (by omega) (by omega) (by omega) (by omega) (by omega)]
  rw [join 48 _ (c * 17592186044416) (by omega) (by omega) (by omega) (by omega) (by omega) (by omega)]
  rw [join 44 _ (n % 4294967296) (by omega) (by omega) (by omega) (by omega) (by omega) (by omega)]
  rfl

/-! ### Taking a word apart -/
def dO (v : Int) : Int := v / 72057594037927936
def dA (v : Int) : Int := v / 4503599627370496 % 16
def dB (v : Int) : Int := v / 281474976710656 % 16
def dC (v : Int) : Int := v / 17592186044416 % 16
def dN (v : Int) : Int := (v + 2147483648) % 4294967296 - 2147483648
/-- Does the word say something? -/
def G (v : Int) : Bool := F (dO v) (dA v) (dB v) (dC v) (dN v) && decide (W (dO v) (dA v) (dB v) (dC v) (dN v) = v)
theorem d_back {op a b c n : Int} (h : Bd op a b c n) :
    dO (W op a b c n) = op ∧ dA (W op a b c n) = a ∧ dB (W op a b c n) = b ∧ dC (W op a b c n) = c ∧ dN (W op a b c n) = n := by
  obtain ⟨_, _, _, _, _, _, _, _, _, _⟩ := h
  unfold dO dA dB dC dN W
  refine ⟨?_, ?_, ?_, ?_, ?_⟩ <;> omega
theorem W_inj {op a b c n op' a' b' c' n' : Int} (h : Bd op a b c n) (h' : Bd op' a' b' c' n') (e : W op a b c n = W op' a' b' c' n') :
    op = op' ∧ a = a' ∧ b = b' ∧ c = c' ∧ n = n' := by
  have x := d_back h
  have y := d_back h'
  rw [e] at x
  exact ⟨x.1.symm.trans y.1, x.2.1.symm.trans y.2.1, x.2.2.1.symm.trans y.2.2.1, x.2.2.2.1.symm.trans y.2.2.2.1, x.2.2.2.2.symm.trans y.2.2.2.2⟩
theorem G_neg {v : Int} (h : v < 0) : G v = false := by
  cases e : G v
  · rfl
  · simp only [G, Bool.and_eq_true, decide_eq_true_eq] at e
    have := (W_bd (F_bd e.1)).1
    rw [e.2] at this
    omega
theorem G_of {op a b c n : Int} (h : F op a b c n = true) : G (W op a b c n) = true := by
  obtain ⟨e1, e2, e3, e4, e5⟩ := d_back (F_bd h)
  simp only [G, e1, e2, e3, e4, e5, h, Bool.true_and, decide_true]
/-- An op behind 63 is none. -/
theorem F_big {op a b c n : Int} (h : 43 < op) : F op a b c n = false := by
  cases e : F op a b c n
  · rfl
  · have := (F_bd e).o1; omega

/-! ### Numerals -/
theorem dec_ne (u : Nat) : Lib.decDigits u ≠ [] := by
  rw [Lib.decDigits]
  split <;> simp
theorem dec_val : ∀ (u : Nat), (Lib.decDigits u).foldl (fun (x : Nat) (c : UInt8) => x * 10 + (c.toNat - 48)) 0 = u := by
  intro u
  induction u using Nat.strongRecOn with
  | _ u ih =>
    rw [Lib.decDigits]
    split
    · rename_i h
      have : (48 + u) % 256 = 48 + u := by omega
      simp [UInt8.toNat_ofNat, this]
    · rename_i h
      have : (48 + u % 10) % 256 = 48 + u % 10 := by omega
      rw [List.foldl_append, ih (u / 10) (by omega)]
      simp [UInt8.toNat_ofNat, this]
      omega
theorem dec_bd : ∀ (u : Nat), ∀ c ∈ Lib.decDigits u, 48 ≤ c.toNat ∧ c.toNat ≤ 57 := by
  intro u
  induction u using Nat.strongRecOn with
  | _ u ih =>
    rw [Lib.decDigits]
    split
    · rename_i h
      have : (48 + u) % 256 = 48 + u := by omega
      intro c hc
      simp only [List.mem_singleton] at hc
      subst hc
      simp only [UInt8.toNat_ofNat', this]
      omega
    · rename_i h
      have : (48 + u % 10) % 256 = 48 + u % 10 := by omega
      intro c hc
      simp only [List.mem_append, List.mem_singleton] at hc
      rcases hc with hc | hc
      · exact ih _ (by omega) c hc
      · subst hc
        simp only [UInt8.toNat_ofNat', this]
        omega
theorem dec_inj {u v : Nat} (h : Lib.decDigits u = Lib.decDigits v) : u = v := by
  rw [← dec_val u, ← dec_val v, h]
theorem itoa_bd (n : Int) : ∀ c ∈ Lib.itoa n, c ≠ 32 := by
  intro c hc
  unfold Lib.itoa at hc
  split at hc
  · simp only [List.mem_cons] at hc
    rcases hc with rfl | hc
    · decide
    · rintro rfl; have := (dec_bd _ _ hc).1; revert this; decide
  · rintro rfl; have := (dec_bd _ _ hc).1; revert this; decide
theorem itoa_inj {m n : Int} (h : Lib.itoa m = Lib.itoa n) : m = n := by
  unfold Lib.itoa at h
  split at h <;> split at h
  · simp only [List.cons.injEq, true_and] at h
    have := dec_inj h
    omega
  · exfalso
    have := (dec_bd n.toNat 45 (by rw [← h]; simp)).1
    revert this; decide
  · exfalso
    have := (dec_bd m.toNat 45 (by rw [h]; simp)).1
    revert this; decide
  · have := dec_inj h
    omega

/-! ### Texts -/
def rt (has : Bool) (r : Int) : List UInt8 := if has then 32 :: 114 :: Lib.itoa r else []
def nt (has : Bool) (n : Int) : List UInt8 := if has then 32 :: Lib.itoa n else []
/-- The text of an instruction. -/
def T (op a b c n : Int) : List UInt8 := nm op ++ (rt (hA op) a ++ (rt (hB op) b ++ (rt (hC op) c ++ nt (I op) n)))
theorem take_until {x y : List UInt8} (hx : ∀ c ∈ x, c ≠ 32) (hy : y = [] ∨ ∃ z, y = 32 :: z) : (x ++ y).takeWhile (fun c => decide (c ≠ 32)) = x ∧ (x ++ y).dropWhile (fun c => decide (c ≠ 32)) = y := by
  induction x with
  | nil =>
    rcases hy with rfl | ⟨z, rfl⟩
    · simp
    · simp
  | cons c x ih =>
    have hc : c ≠ 32 := hx c (by simp)
    have := ih (fun d hd => hx d (by simp [hd]))
    simp [hc] at this ⊢
    exact this
theorem split_at {x y x' y' : List UInt8} (hx : ∀ c ∈ x, c ≠ 32) (hy : y = [] ∨ ∃ z, y = 32 :: z) (hx' : ∀ c ∈ x', c ≠ 32) (hy' : y' = [] ∨ ∃ z, y' = 32 :: z) (e : x ++ y = x' ++ y') : x = x' ∧ y = y' := by
  have p := take_until hx hy
  have q := take_until hx' hy'
  rw [e] at p
  exact ⟨p.1.symm.trans q.1, p.2.symm.trans q.2⟩
theorem rt_head (h : Bool) (r : Int) (y : List UInt8) (hy : y = [] ∨ ∃ z, y = 32 :: z) : rt h r ++ y = [] ∨ ∃ z, rt h r ++ y = 32 :: z := by
  cases h
  · simpa [rt] using hy
  · right; exact ⟨_, rfl⟩
theorem nt_head (h : Bool) (n : Int) : nt h n = [] ∨ ∃ z, nt h n = 32 :: z := by
  cases h
  · left; rfl
  · right; exact ⟨_, rfl⟩
theorem rt_cut {h : Bool} {r r' : Int} {y y' : List UInt8} (k : rg h r = true) (k' : rg h r' = true) (hy : y = [] ∨ ∃ z, y = 32 :: z) (hy' : y' = [] ∨ ∃ z, y' = 32 :: z) (e : rt h r ++ y = rt h r' ++ y') : r = r' ∧ y = y' := by
  cases h
  · simp [rg] at k k'
    exact ⟨by omega, by simpa [rt] using e⟩
  · simp only [rt, if_true, List.cons_append, List.cons.injEq, true_and] at e
    have := split_at (itoa_bd r) hy (itoa_bd r') hy' e
    exact ⟨itoa_inj this.1, this.2⟩
theorem nt_cut {h : Bool} {r r' : Int} (k : ni h r = true) (k' : ni h r' = true) (e : nt h r = nt h r') : r = r' := by
  cases h
  · simp [ni] at k k'
    omega
  · simp only [nt, if_true, List.cons.injEq, true_and] at e
    exact itoa_inj e
/-- What number a name stands for. -/
def opOf (l : List UInt8) : Int := ((List.range 44).find? fun (k : Nat) => K (k : Int) && nm (k : Int) == l).elim (0 : Int) (fun k => (k : Int))
theorem nm_ok {op : Int} (h : K op = true) : opOf (nm op) = op ∧ (∀ c ∈ nm op, c ≠ 32) ∧ 2 ≤ (nm op).length ∧ (nm op).length ≤ 5 := by
  rcases K_cases h with rfl | rfl | rfl | rfl | rfl | rfl | rfl | rfl | rfl | rfl | rfl | rfl | rfl | rfl | rfl | rfl | rfl | rfl | rfl | rfl | rfl | rfl | rfl | rfl | rfl | rfl | rfl | rfl | rfl | rfl | rfl | rfl | rfl | rfl | rfl <;> decide +kernel
theorem nm_inj {op op' : Int} (h : K op = true) (h' : K op' = true) (e : nm op = nm op') : op = op' := by
  rw [← (nm_ok h).1, ← (nm_ok h').1, e]
theorem T_inj {op a b c n op' a' b' c' n' : Int} (h : F op a b c n = true) (h' : F op' a' b' c' n' = true) (e : T op a b c n = T op' a' b' c' n') :
    op = op' ∧ a = a' ∧ b = b' ∧ c = c' ∧ n = n' := by
  obtain ⟨k, ka, kb, kc, kn⟩ := F_parts h
  obtain ⟨k', ka', kb', kc', kn'⟩ := F_parts h'
  have s := split_at (nm_ok k).2.1 (rt_head _ a _ (rt_head _ b _ (rt_head _ c _ (nt_head _ n)))) (nm_ok k').2.1 (rt_head _ a' _ (rt_head _ b' _ (rt_head _ c' _ (nt_head _ n')))) e
  have eo := nm_inj k k' s.1
  subst eo
  have sa := rt_cut ka ka' (rt_head _ b _ (rt_head _ c _ (nt_head _ n))) (rt_head _ b' _ (rt_head _ c' _ (nt_head _ n'))) s.2
  have sb := rt_cut kb kb' (rt_head _ c _ (nt_head _ n)) (rt_head _ c' _ (nt_head _ n')) sa.2
  have sc := rt_cut kc kc' (nt_head _ n) (nt_head _ n') sb.2
  exact ⟨rfl, sa.1, sb.1, sc.1, nt_cut kn kn' sc.2⟩
theorem T_ne {op a b c n : Int} (h : F op a b c n = true) : T op a b c n ≠ [] := by
  have := (nm_ok (F_parts h).1).2.2.1
  intro e
  have := congrArg List.length e
  simp only [T, List.length_append, List.length_nil] at this
  omega
end Go.Proofs.Ytikgghioneiegaa
