/-
  Sums over bytes: walks.
-/
import Derived.Test.YtnkojjkijkhlbaaOps
namespace Go.Proofs.Ytnkojjkijkhlbaa
open Go.RowKit
set_option linter.unusedVariables false
set_option linter.unusedSimpArgs false

/-- Bytes, in memory. -/
def SlB (w : World) (B : Nat) (A : Option Addr) (l : List Int) : Prop := (∀ c ∈ l, 0 ≤ c ∧ c ≤ 255) ∧ Reads w B 1 A l.length (l.map (Value.int .u8))
def stepS (h c : Int) : Int := IntKind.u64.wrap (bits BinOp.xor IntKind.u64 h c * 1099511628211)
def sumP (l : List Int) : Int := wrap64 (l.foldl stepS 14695981039346656037)
theorem sum_take {l : List Int} {j : Nat} {a : Int} (h : l[j]? = some a) (x : Int) : (l.take (j + 1)).foldl stepS x = stepS ((l.take j).foldl stepS x) a := by
  rw [List.take_add_one, h, Option.toList_some, List.foldl_append]; rfl
set_option maxRecDepth 100000 in
set_option maxHeartbeats 2000000 in
theorem sum_any (w : World) (B : Nat) (A : Option Addr) (c : Nat) (l : List Int) (hs : SlB w B A l) (hl : l.length ≤ 9000000000000000000) :
    Calls Try.prog 16 #[.slice A l.length c] w fun e w' => e = .returned (.int .i64 (sumP l)) ∧ w = w' := by
  have n0 : (0 : Int) ≤ (l.length : Int) := by omega
  have n1 : (l.length : Int) ≤ 9000000000000000000 := by omega
  have HS := Lib.hid hs
  obtain ⟨res, hres⟩ : ∃ r, sumP l = r := ⟨_, rfl⟩
  have HR := Lib.hid hres
  rw [hres]
  clear hs hres
  go_enter Try.func16, Try.ntmps16
  go_wp2
  go_loopg [3, 8] l.length (fun gk v3 v8 wr => ∃ (j : Nat) (h : Int), j + gk = l.length ∧ v8 = .int .i64 j ∧ v3 = .int .u64 h ∧ (l.take j).foldl stepS 14695981039346656037 = h ∧ wr = w)
  case atStart => exact ⟨0, _, by simp, rfl, rfl, by simp, rfl⟩
  case round =>
    obtain ⟨j, h, hj, rfl, rfl, hh, rfl⟩ := hrel
    have HH := Lib.hid hh
    clear hh
    cases gk with
    | zero =>
      obtain rfl : j = l.length := by omega
      have HE := Lib.hid (show wrap64 h = res by rw [← HR.out, ← HH.out, List.take_length]; rfl)
      clear hj
      go_wp2
      go_ret
      exact ⟨by rw [← HE.out]; rfl, rfl⟩
    | succ f =>
      have hjl : j < l.length := by omega
      obtain ⟨a, ha⟩ : ∃ a, l[j]? = some a := ⟨_, List.getElem?_eq_getElem hjl⟩
      have hab := HS.out.1 a (List.mem_of_getElem? ha)
      obtain ⟨ad, hA, hbl, hat⟩ := HS.out.2.2 (by omega)
      have q0 := hat j (.int .u8 a) (by rw [List.getElem?_map, ha]; rfl)
      have j1 : (j : Int) < (l.length : Int) := by omega
      obtain ⟨ha0, ha1⟩ := hab
      have HT := Lib.hid (sum_take ha 14695981039346656037)
      subst hA
      clear hat ha
      go_wp2
      go_roundg f
      case measure => omega
      case rel => exact ⟨j + 1, _, by omega, by go_num, rfl, by rw [HT.out, HH.out]; rfl, rfl⟩
set_option maxRecDepth 100000 in
set_option maxHeartbeats 2000000 in
theorem rsum_any (w : World) (B : Nat) (A : Option Addr) (c : Nat) (l : List Int) (hs : SlB w B A l) (hl : l.length ≤ 9000000000000000000) :
    Calls Try.prog 17 #[.slice A l.length c] w fun e w' => e = .returned (.int .i64 (sumP l)) ∧ w = w' := by
  have n0 : (0 : Int) ≤ (l.length : Int) := by omega
  have n1 : (l.length : Int) ≤ 9000000000000000000 := by omega
  have HS := Lib.hid hs
  obtain ⟨res, hres⟩ : ∃ r, sumP l = r := ⟨_, rfl⟩
  have HR := Lib.hid hres
  rw [hres]
  clear hs hres
  go_enter Try.func17, Try.ntmps17
  go_wp2
  go_loopg [3, 4] l.length (fun gk v3 v8 wr => ∃ (j : Nat) (h : Int), j + gk = l.length ∧ v8 = .int .i64 j ∧ v3 = .int .u64 h ∧ (l.take j).foldl stepS 14695981039346656037 = h ∧ wr = w)
  case atStart => exact ⟨0, _, by simp, rfl, rfl, by simp, rfl⟩
  case round =>
    obtain ⟨j, h, hj, rfl, rfl, hh, rfl⟩ := hrel
    have HH := Lib.hid hh
    clear hh
    cases gk with
    | zero =>
      obtain rfl : j = l.length := by omega
      have HE := Lib.hid (show wrap64 h = res by rw [← HR.out, ← HH.out, List.take_length]; rfl)
      clear hj
      go_wp2
      go_ret
      exact ⟨by rw [← HE.out]; rfl, rfl⟩
    | succ f =>
      have hjl : j < l.length := by omega
      obtain ⟨a, ha⟩ : ∃ a, l[j]? = some a := ⟨_, List.getElem?_eq_getElem hjl⟩
      have hab := HS.out.1 a (List.mem_of_getElem? ha)
      obtain ⟨ad, hA, hbl, hat⟩ := HS.out.2.2 (by omega)
      have q0 := hat j (.int .u8 a) (by rw [List.getElem?_map, ha]; rfl)
      have j1 : (j : Int) < (l.length : Int) := by omega
      obtain ⟨ha0, ha1⟩ := hab
      have HT := Lib.hid (sum_take ha 14695981039346656037)
      subst hA
      clear hat ha
      go_wp2
      go_roundg f
      case measure => omega
      case rel => exact ⟨j + 1, _, by omega, by go_num, rfl, by rw [HT.out, HH.out]; rfl, rfl⟩
end Go.Proofs.Ytnkojjkijkhlbaa
