/-
  Bytes read, all cases; what was written is read.
-/
import Derived.Test.YtnkojjkijkhlbaaRk
import Derived.Test.YtnkojjkijkhlbaaEu
namespace Go.Proofs.Ytnkojjkijkhlbaa
open Go.RowKit
set_option linter.unusedVariables false
set_option linter.unusedSimpArgs false

theorem dec_any (w : World) (B : Nat) (A : Option Addr) (c : Nat) (l : List Int) (hs : SlB w B A l) (hB : B ≤ w.heap.size) (hc : l.length ≤ c) (hA : A = none → c = 0) (hl : l.length ≤ 9000000000000000000) :
    Calls Try.prog 18 #[.slice A l.length c] w (DecP (decP l) w) := by
  by_cases h0 : 262144 < l.length
  · exact dec_long w A c l h0 hl
  · have h0 : l.length ≤ 262144 := by omega
    cases h1 : unsP l with
    | none => exact dec_uns w B A c l hs hB hc hA h0 h1
    | some a =>
      cases h2 : wantR ⟨#[77, 85, 49, 10]⟩ a with
      | none => exact dec_want w B A c l hs hB hc hA h0 h1 h2
      | some p =>
        obtain ⟨⟨⟩, r⟩ := p
        cases h3 : unR 262145 r with
        | none => exact dec_unit w B A c l hs hB hc hA h0 h1 h2 h3
        | some q =>
          obtain ⟨u, rest⟩ := q
          by_cases h4 : rest.length = 0
          · cases h5 : deepU u with
            | true => exact dec_deep w B A c l hs hB hc hA h0 h1 h2 h3 h4 h5
            | false => exact dec_ok w B A c l hs hB hc hA h0 h1 h2 h3 h4 h5
          · exact dec_end w B A c l hs hB hc hA h0 h1 h2 h3 h4
theorem sumP_i64 (l : List Int) : I64 (sumP l) := by
  unfold sumP wrap64
  exact ⟨by omega, by omega⟩
theorem unsP_enc (m : List Int) : unsP (m ++ le8 (sumP m)) = some m := by
  unfold unsP
  have e : (m ++ le8 (sumP m)).length - 8 = m.length := by rw [List.length_append, le8_len]; omega
  rw [if_neg (by rw [List.length_append, le8_len]; omega), e, List.drop_left, List.take_left, word_le8 (sumP_i64 m), if_pos rfl]
theorem wantR_enc (r : List Int) : wantR ⟨#[77, 85, 49, 10]⟩ (markB ++ r) = some ((), r) := by
  unfold wantR
  have e : (⟨#[77, 85, 49, 10]⟩ : ByteArray).size = markB.length := rfl
  rw [e, List.take_left, List.drop_left]
  exact if_pos mark_sB.symm
theorem dec_enc {u : Un} {l : List Int} (hok : u.ok 140737488355328) (hr : u.rng) (hc : u.cnt ≤ 262145) (h : encR u = (l, 0)) : decP l = some u := by
  obtain ⟨e, hd, hf⟩ := encR_ok h
  have h1 : unsP l = some (encM u) := by rw [e]; exact unsP_enc _
  have h2 : wantR ⟨#[77, 85, 49, 10]⟩ (encM u) = some ((), encU u) := wantR_enc _
  have h3 := unR_fwd 262145 u [] ⟨hok, hr, hc, by omega⟩
  rw [List.append_nil] at h3
  unfold decP
  rw [if_neg (by rw [e, List.length_append, le8_len]; omega), h1]
  simp only [h2, h3, hd]
  simp
/-- What was read was written. -/
theorem dec_back {u : Un} {l : List Int} (hb : Byt l) (h : decP l = some u) : encR u = (l, 0) ∧ u.rng ∧ u.cnt ≤ 262144 ∧ u.ok 140737488355328 := by
  unfold decP at h
  split at h
  · cases h
  rename_i h0
  split at h
  · cases h
  rename_i a h1
  split at h
  · cases h
  rename_i x r h2
  split at h
  · cases h
  rename_i v rest h3
  split at h
  · rename_i h4
    split at h
    · cases h
    · rename_i h5
      cases h
      have h1' := h1
      unfold unsP at h1
      split at h1
      · cases h1
      · split at h1
        · cases h1
          rename_i h8 h6
          obtain ⟨h7, rfl⟩ := want_rest h2
          have hbr : Byt ((l.take (l.length - 8)).drop (ByteArray.size ⟨#[77, 85, 49, 10]⟩)) := Byt.drop (Byt.take hb _) _
          obtain ⟨e1, e2⟩ := unR_bwd 262145 _ _ _ hbr h3
          obtain rfl : rest = [] := List.eq_nil_of_length_eq_zero h4
          rw [List.append_nil] at e1
          have hm : encM u = l.take (l.length - 8) := by
            have e3 := List.take_append_drop (ByteArray.size ⟨#[77, 85, 49, 10]⟩) (l.take (l.length - 8))
            rw [h7, e1, mark_sB] at e3
            exact e3
          have hl8 : (l.drop (l.length - 8)).length = 8 := by rw [List.length_drop]; omega
          have hw := (le8_word hl8 (Byt.drop hb _)).1
          have hle : (encM u).length = l.length - 8 := by rw [hm, List.length_take]; omega
          have hul : (encU u).length ≤ 262144 := by
            have : (encM u).length = 4 + (encU u).length := by unfold encM; rw [List.length_append]; rfl
            omega
          refine ⟨?_, e2, by have := (szU 262144 u hul).1; omega, (szU 140737488355328 u (by omega)).2⟩
          unfold encR
          rw [if_neg h5, if_pos (by omega), hm, ← h6, hw, List.take_append_drop]
        · cases h1
  · cases h
end Go.Proofs.Ytnkojjkijkhlbaa

namespace Go.Proofs.Ytnkojjkijkhlbaa
open Go.RowKit
set_option linter.unusedVariables false
set_option linter.unusedSimpArgs false

def U64 (x : Int) : Prop := 0 ≤ x ∧ x < 18446744073709551616
theorem stepS_u64 (h c : Int) : U64 (stepS h c) := by
  unfold stepS U64
  rw [IntKind.wrap_u64]
  omega
theorem mul_inj0 (M P Q K a b : Int) (hq : P * Q = 1 + M * K) (ha : 0 ≤ a ∧ a < M) (hb : 0 ≤ b ∧ b < M) (h : (a * P) % M = (b * P) % M) : a = b := by
  have h2 : (a * P * Q) % M = (b * P * Q) % M := by rw [Int.mul_emod (a * P) Q M, h, ← Int.mul_emod]
  have e : ∀ x : Int, x * P * Q = x + M * (x * K) := fun x => by
    rw [Int.mul_assoc, hq, Int.mul_add, Int.mul_one, ← Int.mul_assoc, Int.mul_comm x M, Int.mul_assoc]
  rw [e a, e b, Int.add_mul_emod_self_left, Int.add_mul_emod_self_left, Int.emod_eq_of_lt ha.1 ha.2, Int.emod_eq_of_lt hb.1 hb.2] at h2
  exact h2
theorem mul_inj (a b : Int) (ha : U64 a) (hb : U64 b) (h : (a * 1099511628211) % 18446744073709551616 = (b * 1099511628211) % 18446744073709551616) : a = b :=
  mul_inj0 18446744073709551616 1099511628211 14886173955864302971 887285111055 a b (by decide) ha hb h
theorem xor_of (a b : Nat) (ha : a < 18446744073709551616) (hb : b < 18446744073709551616) : U64 ((a ^^^ b : Nat) : Int) := by
  have hx : a ^^^ b < 2 ^ 64 := Nat.xor_lt_two_pow (by omega) (by omega)
  unfold U64
  omega
theorem xor_cancel {a b c : Nat} (h : a ^^^ c = b ^^^ c) : a = b := by
  have h2 := congrArg (fun x => x ^^^ c) h
  simpa [Nat.xor_assoc] using h2
theorem stepS_inj {h h' c c' : Int} (h1 : U64 h) (h2 : U64 h') (h3 : U64 c) (h4 : U64 c') (e : stepS h c = stepS h' c') : bits BinOp.xor IntKind.u64 h c = bits BinOp.xor IntKind.u64 h' c' := by
  unfold stepS at e
  rw [IntKind.wrap_u64, IntKind.wrap_u64] at e
  obtain ⟨a, rfl⟩ : ∃ a : Nat, h = (a : Int) := ⟨h.toNat, by have := h1.1; omega⟩
  obtain ⟨b, rfl⟩ : ∃ b : Nat, h' = (b : Int) := ⟨h'.toNat, by have := h2.1; omega⟩
  obtain ⟨x, rfl⟩ : ∃ x : Nat, c = (x : Int) := ⟨c.toNat, by have := h3.1; omega⟩
  obtain ⟨y, rfl⟩ : ∃ y : Nat, c' = (y : Int) := ⟨c'.toNat, by have := h4.1; omega⟩
  have l1 := h1.2
  have l2 := h2.2
  have l3 := h3.2
  have l4 := h4.2
  rw [bits_xor_u64_nat a x (by omega) (by omega), bits_xor_u64_nat b y (by omega) (by omega)] at e ⊢
  exact mul_inj _ _ (xor_of a x (by omega) (by omega)) (xor_of b y (by omega) (by omega)) e
theorem stepS_injl {h h' c : Int} (h1 : U64 h) (h2 : U64 h') (h3 : U64 c) (e : stepS h c = stepS h' c) : h = h' := by
  have e2 := stepS_inj h1 h2 h3 h3 e
  obtain ⟨a, rfl⟩ : ∃ a : Nat, h = (a : Int) := ⟨h.toNat, by have := h1.1; omega⟩
  obtain ⟨b, rfl⟩ : ∃ b : Nat, h' = (b : Int) := ⟨h'.toNat, by have := h2.1; omega⟩
  obtain ⟨x, rfl⟩ : ∃ x : Nat, c = (x : Int) := ⟨c.toNat, by have := h3.1; omega⟩
  have l1 := h1.2
  have l2 := h2.2
  have l3 := h3.2
  rw [bits_xor_u64_nat a x (by omega) (by omega), bits_xor_u64_nat b x (by omega) (by omega)] at e2
  have := xor_cancel (Int.ofNat.inj e2)
  omega
theorem stepS_injr {h c c' : Int} (h1 : U64 h) (h3 : U64 c) (h4 : U64 c') (e : stepS h c = stepS h c') : c = c' := by
  have e2 := stepS_inj h1 h1 h3 h4 e
  obtain ⟨a, rfl⟩ : ∃ a : Nat, h = (a : Int) := ⟨h.toNat, by have := h1.1; omega⟩
  obtain ⟨x, rfl⟩ : ∃ x : Nat, c = (x : Int) := ⟨c.toNat, by have := h3.1; omega⟩
  obtain ⟨y, rfl⟩ : ∃ y : Nat, c' = (y : Int) := ⟨c'.toNat, by have := h4.1; omega⟩
  have l1 := h1.2
  have l3 := h3.2
  have l4 := h4.2
  rw [bits_xor_u64_nat a x (by omega) (by omega), bits_xor_u64_nat a y (by omega) (by omega)] at e2
  have e3 := Int.ofNat.inj e2
  rw [Nat.xor_comm a x, Nat.xor_comm a y] at e3
  have := xor_cancel e3
  omega
theorem fold_inj : ∀ (t : List Int) (h h' : Int), Byt t → U64 h → U64 h' → t.foldl stepS h = t.foldl stepS h' → h = h'
  | [], h, h', _, _, _, e => e
  | c :: t, h, h', hb, h1, h2, e => by
    have hc := hb c (by simp)
    have e2 := fold_inj t _ _ (fun x hx => hb x (by simp [hx])) (stepS_u64 h c) (stepS_u64 h' c) e
    exact stepS_injl h1 h2 ⟨hc.1, by omega⟩ e2
theorem fold_u64 : ∀ (t : List Int) (h : Int), U64 h → U64 (t.foldl stepS h)
  | [], h, h1 => h1
  | c :: t, h, _ => fold_u64 t _ (stepS_u64 h c)
theorem sumP_turn {p t : List Int} {a b : Int} (ht : Byt t) (ha : 0 ≤ a ∧ a ≤ 255) (hb : 0 ≤ b ∧ b ≤ 255) (e : sumP (p ++ a :: t) = sumP (p ++ b :: t)) : a = b := by
  unfold sumP at e
  have s0 : U64 14695981039346656037 := ⟨by decide, by decide⟩
  have u1 := fold_u64 (p ++ a :: t) _ s0
  have u2 := fold_u64 (p ++ b :: t) _ s0
  have e2 : (p ++ a :: t).foldl stepS 14695981039346656037 = (p ++ b :: t).foldl stepS 14695981039346656037 := by
    unfold wrap64 U64 at *
    omega
  rw [List.foldl_append, List.foldl_append, List.foldl_cons, List.foldl_cons] at e2
  have hp := fold_u64 p _ s0
  have e3 := fold_inj t _ _ ht (stepS_u64 _ _) (stepS_u64 _ _) e2
  exact stepS_injr hp ⟨ha.1, by omega⟩ ⟨hb.1, by omega⟩ e3
theorem le8_inj {a b : Int} (ha : I64 a) (hb : I64 b) (h : le8 a = le8 b) : a = b := by
  rw [← word_le8 ha, h, word_le8 hb]
/-- A turned byte. -/
theorem dec_turn {u : Un} {l : List Int} {k : Nat} {a b : Int} (hl : Byt l) (h : encR u = (l, 0)) (hk : l[k]? = some a) (hb : 0 ≤ b ∧ b ≤ 255) (hne : b ≠ a) : decP (l.set k b) = none := by
  cases hd : decP (l.set k b) with
  | none => rfl
  | some v =>
    exfalso
    obtain ⟨hkl, hka⟩ := List.getElem?_eq_some_iff.1 hk
    have ha := hl a (List.mem_of_getElem? hk)
    have hbs : Byt (l.set k b) := fun x hx => by
      rcases List.mem_or_eq_of_mem_set hx with hx | rfl
      · exact hl x hx
      · exact hb
    obtain ⟨e1, hd1, hf1⟩ := encR_ok h
    obtain ⟨e2, hd2, hf2⟩ := encR_ok (dec_back hbs hd).1
    have hlen : (l.set k b).length = l.length := List.length_set
    have hn1 := congrArg List.length e1
    have hn2 := congrArg List.length e2
    rw [List.length_append, le8_len] at hn1 hn2
    have hml : (encM v).length = (encM u).length := by omega
    obtain ⟨mu, hmu⟩ : ∃ m, encM u = m := ⟨_, rfl⟩
    obtain ⟨mv, hmv⟩ : ∃ m, encM v = m := ⟨_, rfl⟩
    rw [hmu] at e1 hn1 hml
    rw [hmv] at e2 hn2 hml
    by_cases hkn : k < mu.length
    · have hset : l.set k b = mu.set k b ++ le8 (sumP mu) := by
        rw [e1, List.set_append_left _ _ hkn]
      rw [hset] at e2
      obtain ⟨e3, e4⟩ := List.append_inj e2 (by rw [List.length_set]; omega)
      have hs := le8_inj (sumP_i64 _) (sumP_i64 _) e4
      have hka2 : mu[k]? = some a := by
        rw [e1, List.getElem?_append_left hkn] at hk
        exact hk
      obtain ⟨_, hka3⟩ := List.getElem?_eq_some_iff.1 hka2
      have s1 : mu = mu.take k ++ a :: mu.drop (k + 1) := by
        rw [← hka3, List.getElem_cons_drop, List.take_append_drop]
      have s2 : mu.set k b = mu.take k ++ b :: mu.drop (k + 1) := List.set_eq_take_append_cons_drop.trans (if_pos hkn)
      rw [← e3, s2] at hs
      rw [show sumP mu = sumP (mu.take k ++ a :: mu.drop (k + 1)) from congrArg sumP s1] at hs
      have hbt : Byt mu := by rw [e1] at hl; exact hl.left
      exact hne (sumP_turn (Byt.drop hbt _) ha hb hs).symm
    · have hset : l.set k b = mu ++ (le8 (sumP mu)).set (k - mu.length) b := by
        rw [e1, List.set_append_right _ _ (by omega)]
      rw [hset] at e2
      obtain ⟨e3, e4⟩ := List.append_inj e2 (by omega)
      rw [← e3] at e4
      have hx : l.set k b = l := by rw [hset, e4, ← e1]
      have h8 : (l.set k b)[k]? = some b := by rw [List.getElem?_set_self hkl]
      rw [hx, hk] at h8
      injection h8 with h8
      exact hne h8.symm
theorem pre_free {u v : Un} (hu : u.ok 140737488355328 ∧ u.rng ∧ u.cnt ≤ 262145) (hv : v.ok 140737488355328 ∧ v.rng ∧ v.cnt ≤ 262145) {t : List Int} (h : encM v = encM u ++ t) : t = [] := by
  have h2 : encU v = encU u ++ t := by
    unfold encM at h
    rw [List.append_assoc] at h
    exact List.append_cancel_left h
  have h3 := unR_fwd 262145 u t ⟨hu.1, hu.2.1, hu.2.2, by omega⟩
  have h4 := unR_fwd 262145 v [] ⟨hv.1, hv.2.1, hv.2.2, by omega⟩
  rw [List.append_nil, h2, h3] at h4
  injection h4 with h4
  injection h4
/-- A proper beginning. -/
theorem dec_cut {u : Un} {l : List Int} {k : Nat} (hu : u.ok 140737488355328 ∧ u.rng ∧ u.cnt ≤ 262145) (hl : Byt l) (h : encR u = (l, 0)) (hk : k < l.length) : decP (l.take k) = none := by
  cases hd : decP (l.take k) with
  | none => rfl
  | some v =>
    exfalso
    obtain ⟨q1, q2, q3, q4⟩ := dec_back (Byt.take hl k) hd
    obtain ⟨e1, _, _⟩ := encR_ok h
    obtain ⟨e2, _, _⟩ := encR_ok q1
    have hn1 := congrArg List.length e1
    have hn2 := congrArg List.length e2
    rw [List.length_append, le8_len] at hn1 hn2
    rw [List.length_take] at hn2
    have hle : (encM v).length ≤ (encM u).length := by omega
    have hm : encM v = (encM u).take (encM v).length := by
      have s1 : (l.take k).take (encM v).length = encM v := by rw [e2, List.take_left]
      have s2 : (l.take k).take (encM v).length = l.take (encM v).length := by rw [List.take_take]; congr 1; omega
      have s3 : l.take (encM v).length = (encM u).take (encM v).length := by rw [e1, List.take_append_of_le_length hle]
      rw [← s3, ← s2, s1]
    have hx := pre_free (t := (encM u).drop (encM v).length) ⟨q4, q2, by omega⟩ hu (by
      have := List.take_append_drop (encM v).length (encM u)
      rw [← hm] at this
      exact this.symm)
    have := congrArg List.length hx
    rw [List.length_drop] at this
    simp at this
    omega
/-- More behind. -/
theorem dec_more {u : Un} {l t : List Int} (hu : u.ok 140737488355328 ∧ u.rng ∧ u.cnt ≤ 262145) (hl : Byt (l ++ t)) (h : encR u = (l, 0)) (ht : 0 < t.length) : decP (l ++ t) = none := by
  cases hd : decP (l ++ t) with
  | none => rfl
  | some v =>
    exfalso
    obtain ⟨q1, q2, q3, q4⟩ := dec_back hl hd
    obtain ⟨e1, _, _⟩ := encR_ok h
    obtain ⟨e2, _, _⟩ := encR_ok q1
    have hn1 := congrArg List.length e1
    have hn2 := congrArg List.length e2
    rw [List.length_append, le8_len] at hn1
    rw [List.length_append, List.length_append, le8_len] at hn2
    have hle : (encM u).length ≤ (encM v).length := by omega
    have hm : (encM v).take (encM u).length = encM u := by
      have s1 : (l ++ t).take (encM u).length = encM u := by
        rw [e1, List.append_assoc, List.take_left]
      have s2 : (l ++ t).take (encM u).length = (encM v).take (encM u).length := by rw [e2, List.take_append_of_le_length hle]
      rw [← s2, s1]
    have hx := pre_free (t := (encM v).drop (encM u).length) hu ⟨q4, q2, by omega⟩ (by
      have := List.take_append_drop (encM u).length (encM v)
      rw [hm] at this
      exact this.symm)
    have := congrArg List.length hx
    rw [List.length_drop] at this
    simp at this
    omega
end Go.Proofs.Ytnkojjkijkhlbaa
