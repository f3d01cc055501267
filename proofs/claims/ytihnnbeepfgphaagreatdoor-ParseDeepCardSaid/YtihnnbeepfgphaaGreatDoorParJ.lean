/-
  Many braces, plainly: the tokens of such a text, and what they are read as.
-/
import Derived.Test.YtihnnbeepfgphaaGreatDoorParH
import Derived.Test.YtihnnbeepfgphaaGreatDoorLexQ
namespace Go.Proofs.YtihnnbeepfgphaaGreatDoor
open Go.RowKit
set_option linter.unusedVariables false
set_option linter.unusedSimpArgs false
set_option maxRecDepth 100000

def brs : Nat → List UInt8
  | 0 => [125]
  | k + 1 => 123 :: 125 :: 123 :: 125 :: brs k
def brT (a : Nat) : Nat → List T
  | 0 => [(⟨5, [125], 0⟩, a), (⟨0, [], 0⟩, a + 1)]
  | k + 1 => (⟨5, [123], 0⟩, a) :: (⟨5, [125], 0⟩, a + 1) :: (⟨5, [123], 0⟩, a + 2) :: (⟨5, [125], 0⟩, a + 3) :: brT (a + 4) k
theorem brs_len (k : Nat) : (brs k).length = 4 * k + 1 := by
  induction k with
  | zero => rfl
  | succ k ih => simp only [brs, List.length_cons, ih]; omega
theorem brT_len (a k : Nat) : (brT a k).length = 4 * k + 2 := by
  induction k generalizing a with
  | zero => rfl
  | succ k ih => simp only [brT, List.length_cons, ih]; omega
theorem brs_cons (k : Nat) : ∃ c r, brs k = c :: r ∧ (c = 123 ∨ c = 125) := by
  cases k with
  | zero => exact ⟨125, [], rfl, .inr rfl⟩
  | succ k => exact ⟨123, _, rfl, .inl rfl⟩
theorem first_br {c : UInt8} (hc : c = 123 ∨ c = 125) (r : List UInt8) : firstL (c :: r) = some (⟨5, [c], 0⟩, 1) := by
  have hd : ∀ c2 : UInt8, doubles.contains [c, c2] = false := by
    intro c2
    rcases hc with rfl | rfl <;> simp [doubles]
  have hd1 : doubles.contains [c] = false := by rcases hc with rfl | rfl <;> rfl
  have hs : singles.contains c = true := by rcases hc with rfl | rfl <;> rfl
  have h1 : isL c = false := by rcases hc with rfl | rfl <;> rfl
  have h2 : isD c = false := by rcases hc with rfl | rfl <;> rfl
  have h3 : (c == 34) = false := by rcases hc with rfl | rfl <;> rfl
  have hn : signN (c :: r) = 1 := by
    unfold signN
    cases r with
    | nil => simp only [List.take_succ_cons, List.take_nil, hd1, headL, hs]; rfl
    | cons c2 r => simp only [List.take_succ_cons, List.take_zero, hd c2, headL, hs]; rfl
  unfold firstL
  simp only [headL, h1, h2, h3]
  unfold signL
  rw [hn]
  rfl
theorem gap_br {c : UInt8} (hc : c = 123 ∨ c = 125) (r : List UInt8) : gapL false (c :: r) = 0 := by
  rcases hc with rfl | rfl <;> cases r <;> rfl
theorem lex_br1 {f a : Nat} {c : UInt8} (hc : c = 123 ∨ c = 125) {d : UInt8} (hd : d = 123 ∨ d = 125) (r : List UInt8) : lexL (f + 1) a (c :: d :: r) = joinL [(⟨5, [c], 0⟩, a)] (lexL f (a + 1) (d :: r)) := by
  rw [lexL_some (by simp) (first_br hc _)]
  simp only [List.drop_succ_cons, List.drop_zero, gap_br hd, Nat.add_zero]
theorem lex_br0 {f a : Nat} {c : UInt8} (hc : c = 123 ∨ c = 125) : lexL (f + 2) a [c] = .inr [(⟨5, [c], 0⟩, a), (⟨0, [], 0⟩, a + 1)] := by
  rw [lexL_some (by simp) (first_br hc _)]
  rfl
theorem lex_brs : ∀ (k f a : Nat), 4 * k + 1 < f → lexL f a (brs k) = .inr (brT a k)
  | 0, f, a, h => by
    obtain ⟨g, rfl⟩ : ∃ g, f = g + 2 := ⟨f - 2, by omega⟩
    exact lex_br0 (.inr rfl)
  | k + 1, f, a, h => by
    obtain ⟨g, rfl⟩ : ∃ g, f = g + 4 := ⟨f - 4, by omega⟩
    obtain ⟨c, r, hb, hc⟩ := brs_cons k
    have ih := lex_brs k g (a + 4) (by omega)
    simp only [brs, brT]
    rw [hb] at ih ⊢
    rw [lex_br1 (f := g + 3) (.inl rfl) (.inr rfl), lex_br1 (f := g + 2) (.inr rfl) (.inl rfl), lex_br1 (f := g + 1) (.inl rfl) (.inr rfl), lex_br1 (f := g) (.inr rfl) hc]
    rw [show a + 1 + 1 + 1 + 1 = a + 4 by omega, ih]
    simp only [joinL, List.cons_append, List.nil_append, show a + 1 + 1 = a + 2 by omega, show a + 2 + 1 = a + 3 by omega]
abbrev manyP : List UInt8 := [112, 97, 99, 107, 97, 103, 101, 32, 97, 59, 118, 97, 114, 32, 120, 32, 105, 110, 116, 59, 102, 117, 110, 99, 32, 102, 40, 41, 123]
def manyT : List T := [((⟨2, [112, 97, 99, 107, 97, 103, 101], 0⟩, 0) : T), ((⟨1, [97], 0⟩, 8) : T), ((⟨5, [59], 0⟩, 9) : T), ((⟨2, [118, 97, 114], 0⟩, 10) : T), ((⟨1, [120], 0⟩, 14) : T), ((⟨2, [105, 110, 116], 0⟩, 16) : T), ((⟨5, [59], 0⟩, 19) : T), ((⟨2, [102, 117, 110, 99], 0⟩, 20) : T), ((⟨1, [102], 0⟩, 25) : T), ((⟨5, [40], 0⟩, 26) : T), ((⟨5, [41], 0⟩, 27) : T), ((⟨5, [123], 0⟩, 28) : T)]
theorem lex_many (k : Nat) (hk : k < 1600) : lexD (manyP ++ brs k) = (manyT ++ brT 29 k, 0, 0) := by
  obtain ⟨c, r, hb, hc⟩ := brs_cons k
  have hlen : (manyP ++ brs k).length = 4 * k + 30 := by rw [List.length_append, brs_len]; show 29 + _ = _; omega
  have hl := lex_brs k (4 * k + 19) 29 (by omega)
  have h0 : gapL false (manyP ++ brs k) = 0 := rfl
  unfold lexD
  rw [if_neg (by omega)]
  unfold lexG
  rw [h0, hlen, List.drop_zero]
  rw [hb] at hl ⊢
  have e0 : lexL (4 * k + 31) 0 ([112, 97, 99, 107, 97, 103, 101, 32, 97, 59, 118, 97, 114, 32, 120, 32, 105, 110, 116, 59, 102, 117, 110, 99, 32, 102, 40, 41, 123] ++ c :: r) = joinL [((⟨2, [112, 97, 99, 107, 97, 103, 101], 0⟩, 0) : T)] (lexL (4 * k + 30) 8 ([97, 59, 118, 97, 114, 32, 120, 32, 105, 110, 116, 59, 102, 117, 110, 99, 32, 102, 40, 41, 123] ++ c :: r)) := lexL_some (f := 4 * k + 30) (k := 0) (n := 7) (t := ⟨2, [112, 97, 99, 107, 97, 103, 101], 0⟩) (l := ([112, 97, 99, 107, 97, 103, 101, 32, 97, 59, 118, 97, 114, 32, 120, 32, 105, 110, 116, 59, 102, 117, 110, 99, 32, 102, 40, 41, 123] ++ c :: r)) (by simp) rfl
  have e1 : lexL (4 * k + 30) 8 ([97, 59, 118, 97, 114, 32, 120, 32, 105, 110, 116, 59, 102, 117, 110, 99, 32, 102, 40, 41, 123] ++ c :: r) = joinL [((⟨1, [97], 0⟩, 8) : T)] (lexL (4 * k + 29) 9 ([59, 118, 97, 114, 32, 120, 32, 105, 110, 116, 59, 102, 117, 110, 99, 32, 102, 40, 41, 123] ++ c :: r)) := lexL_some (f := 4 * k + 29) (k := 8) (n := 1) (t := ⟨1, [97], 0⟩) (l := ([97, 59, 118, 97, 114, 32, 120, 32, 105, 110, 116, 59, 102, 117, 110, 99, 32, 102, 40, 41, 123] ++ c :: r)) (by simp) rfl
  have e2 : lexL (4 * k + 29) 9 ([59, 118, 97, 114, 32, 120, 32, 105, 110, 116, 59, 102, 117, 110, 99, 32, 102, 40, 41, 123] ++ c :: r) = joinL [((⟨5, [59], 0⟩, 9) : T)] (lexL (4 * k + 28) 10 ([118, 97, 114, 32, 120, 32, 105, 110, 116, 59, 102, 117, 110, 99, 32, 102, 40, 41, 123] ++ c :: r)) := lexL_some (f := 4 * k + 28) (k := 9) (n := 1) (t := ⟨5, [59], 0⟩) (l := ([59, 118, 97, 114, 32, 120, 32, 105, 110, 116, 59, 102, 117, 110, 99, 32, 102, 40, 41, 123] ++ c :: r)) (by simp) rfl
  have e3 : lexL (4 * k + 28) 10 ([118, 97, 114, 32, 120, 32, 105, 110, 116, 59, 102, 117, 110, 99, 32, 102, 40, 41, 123] ++ c :: r) = joinL [((⟨2, [118, 97, 114], 0⟩, 10) : T)] (lexL (4 * k + 27) 14 ([120, 32, 105, 110, 116, 59, 102, 117, 110, 99, 32, 102, 40, 41, 123] ++ c :: r)) := lexL_some (f := 4 * k + 27) (k := 10) (n := 3) (t := ⟨2, [118, 97, 114], 0⟩) (l := ([118, 97, 114, 32, 120, 32, 105, 110, 116, 59, 102, 117, 110, 99, 32, 102, 40, 41, 123] ++ c :: r)) (by simp) rfl
  have e4 : lexL (4 * k + 27) 14 ([120, 32, 105, 110, 116, 59, 102, 117, 110, 99, 32, 102, 40, 41, 123] ++ c :: r) = joinL [((⟨1, [120], 0⟩, 14) : T)] (lexL (4 * k + 26) 16 ([105, 110, 116, 59, 102, 117, 110, 99, 32, 102, 40, 41, 123] ++ c :: r)) := lexL_some (f := 4 * k + 26) (k := 14) (n := 1) (t := ⟨1, [120], 0⟩) (l := ([120, 32, 105, 110, 116, 59, 102, 117, 110, 99, 32, 102, 40, 41, 123] ++ c :: r)) (by simp) rfl
  have e5 : lexL (4 * k + 26) 16 ([105, 110, 116, 59, 102, 117, 110, 99, 32, 102, 40, 41, 123] ++ c :: r) = joinL [((⟨2, [105, 110, 116], 0⟩, 16) : T)] (lexL (4 * k + 25) 19 ([59, 102, 117, 110, 99, 32, 102, 40, 41, 123] ++ c :: r)) := lexL_some (f := 4 * k + 25) (k := 16) (n := 3) (t := ⟨2, [105, 110, 116], 0⟩) (l := ([105, 110, 116, 59, 102, 117, 110, 99, 32, 102, 40, 41, 123] ++ c :: r)) (by simp) rfl
  have e6 : lexL (4 * k + 25) 19 ([59, 102, 117, 110, 99, 32, 102, 40, 41, 123] ++ c :: r) = joinL [((⟨5, [59], 0⟩, 19) : T)] (lexL (4 * k + 24) 20 ([102, 117, 110, 99, 32, 102, 40, 41, 123] ++ c :: r)) := lexL_some (f := 4 * k + 24) (k := 19) (n := 1) (t := ⟨5, [59], 0⟩) (l := ([59, 102, 117, 110, 99, 32, 102, 40, 41, 123] ++ c :: r)) (by simp) rfl
  have e7 : lexL (4 * k + 24) 20 ([102, 117, 110, 99, 32, 102, 40, 41, 123] ++ c :: r) = joinL [((⟨2, [102, 117, 110, 99], 0⟩, 20) : T)] (lexL (4 * k + 23) 25 ([102, 40, 41, 123] ++ c :: r)) := lexL_some (f := 4 * k + 23) (k := 20) (n := 4) (t := ⟨2, [102, 117, 110, 99], 0⟩) (l := ([102, 117, 110, 99, 32, 102, 40, 41, 123] ++ c :: r)) (by simp) rfl
  have e8 : lexL (4 * k + 23) 25 ([102, 40, 41, 123] ++ c :: r) = joinL [((⟨1, [102], 0⟩, 25) : T)] (lexL (4 * k + 22) 26 ([40, 41, 123] ++ c :: r)) := lexL_some (f := 4 * k + 22) (k := 25) (n := 1) (t := ⟨1, [102], 0⟩) (l := ([102, 40, 41, 123] ++ c :: r)) (by simp) rfl
  have e9 : lexL (4 * k + 22) 26 ([40, 41, 123] ++ c :: r) = joinL [((⟨5, [40], 0⟩, 26) : T)] (lexL (4 * k + 21) 27 ([41, 123] ++ c :: r)) := lexL_some (f := 4 * k + 21) (k := 26) (n := 1) (t := ⟨5, [40], 0⟩) (l := ([40, 41, 123] ++ c :: r)) (by simp) rfl
  have e10 : lexL (4 * k + 21) 27 ([41, 123] ++ c :: r) = joinL [((⟨5, [41], 0⟩, 27) : T)] (lexL (4 * k + 20) 28 ([123] ++ c :: r)) := lexL_some (f := 4 * k + 20) (k := 27) (n := 1) (t := ⟨5, [41], 0⟩) (l := ([41, 123] ++ c :: r)) (by simp) rfl
  have e11 : lexL (4 * k + 20) 28 ([123] ++ c :: r) = joinL [((⟨5, [123], 0⟩, 28) : T)] (lexL (4 * k + 19) 29 (c :: r)) := lex_br1 (.inl rfl) hc r
  rw [show 4 * k + 30 + 1 = 4 * k + 31 from rfl, e0, e1, e2, e3, e4, e5, e6, e7, e8, e9, e10, e11, hl]
  rfl

def blk (a : Nat) : Tr := .mk 17 0 0 [] [] a []
def blks (a : Nat) : Nat → List Tr
  | 0 => []
  | k + 1 => blk a :: blk (a + 2) :: blks (a + 4) k
theorem bnd_ok0 (t : Tr) (l : List T) (f : Tr → List T → R) : bnd (.ok t l) f = f t l := rfl
theorem stat_br (n o a b : Nat) (l : List T) (ho : o < 40) : go (n + 4) .stat ((⟨5, [123], 0⟩, a) :: (⟨5, [125], 0⟩, b) :: l) o = .ok (blk a) l := by
  have h40 : o ≠ 40 := by omega
  have e1 : go (n + 4) .stat (((⟨5, [123], 0⟩, a) : T) :: (⟨5, [125], 0⟩, b) :: l) o = if o = 40 then R.bad a 3 else bnd (go (n + 2) (.stats []) (((⟨5, [125], 0⟩, b) : T) :: l) (o + 1)) (fun ks l => want [125] l fun _ l => .ok (nd 17 a ks.kids) l) := rfl
  rw [e1, if_neg h40]
  rfl
theorem stats_br : ∀ (k n a : Nat) (acc : List Tr) (o : Nat), o < 40 → go (n + 2 * k + 6) (.stats acc) (brT a k) o = .ok (lst (acc ++ blks a k)) [(⟨5, [125], 0⟩, a + 4 * k), (⟨0, [], 0⟩, a + 4 * k + 1)]
  | 0, n, a, acc, o, ho => by
    show R.ok (lst acc) _ = _
    simp [brT, blks]
  | k + 1, n, a, acc, o, ho => by
    have s1 := stat_br (n + 2 * k + 3) o a (a + 1) ((⟨5, [123], 0⟩, a + 2) :: (⟨5, [125], 0⟩, a + 3) :: brT (a + 4) k) ho
    have s2 := stat_br (n + 2 * k + 2) o (a + 2) (a + 3) (brT (a + 4) k) ho
    have ih := stats_br k n (a + 4) (acc ++ [blk a] ++ [blk (a + 2)]) o ho
    rw [show n + 2 * (k + 1) + 6 = n + 2 * k + 7 + 1 by omega]
    simp only [brT]
    have e1 : ∀ (m : Nat) (acc : List Tr) (q : List T) (c : Nat), go (m + 1) (.stats acc) (((⟨5, [123], 0⟩, c) : T) :: q) o = bnd (go m .stat (((⟨5, [123], 0⟩, c) : T) :: q) o) (fun t l => go m (.stats (acc ++ [t])) l o) := fun _ _ _ _ => rfl
    rw [e1, show n + 2 * k + 7 = n + 2 * k + 3 + 4 by omega, s1, bnd_ok0]
    rw [show n + 2 * k + 3 + 4 = n + 2 * k + 6 + 1 by omega, e1]
    rw [show n + 2 * k + 6 = n + 2 * k + 2 + 4 by omega, s2, bnd_ok0]
    rw [show n + 2 * k + 2 + 4 = n + 2 * k + 6 by omega, ih]
    simp only [blks, List.append_assoc, List.cons_append, List.nil_append, show a + 4 + 4 * k = a + 4 * (k + 1) by omega]

def manyTree (k : Nat) : Tr := .mk 1 0 0 [] [97] 0 [.mk 4 0 0 [] [120] 14 [.mk 13 0 0 [] [105, 110, 116] 16 []], .mk 9 0 0 [] [102] 25 [.mk 17 0 0 [] [] 28 (blks 29 k)]]
theorem block_many (k n : Nat) : go (n + 2 * k + 7) .block (((⟨5, [123], 0⟩, 28) : T) :: brT 29 k) 0 = .ok (.mk 17 0 0 [] [] 28 (blks 29 k)) [(⟨0, [], 0⟩, 29 + 4 * k + 1)] := by
  have e1 : go (n + 2 * k + 7) .block (((⟨5, [123], 0⟩, 28) : T) :: brT 29 k) 0 = bnd (go (n + 2 * k + 6) (.stats []) (brT 29 k) 1) (fun ks l => want [125] l fun _ l => .ok (nd 17 28 ks.kids) l) := rfl
  rw [e1, stats_br k n 29 [] 1 (by omega)]
  rfl
theorem func_many (k n : Nat) : go (n + 2 * k + 9) .decl (((⟨2, [102, 117, 110, 99], 0⟩, 20) : T) :: ((⟨1, [102], 0⟩, 25) : T) :: ((⟨5, [40], 0⟩, 26) : T) :: ((⟨5, [41], 0⟩, 27) : T) :: ((⟨5, [123], 0⟩, 28) : T) :: brT 29 k) 0 = .ok (.mk 9 0 0 [] [102] 25 [.mk 17 0 0 [] [] 28 (blks 29 k)]) [(⟨0, [], 0⟩, 29 + 4 * k + 1)] := by
  have hh : go (n + 2 * k + 7) (.head .param) (((⟨5, [40], 0⟩, 26) : T) :: ((⟨5, [41], 0⟩, 27) : T) :: ((⟨5, [123], 0⟩, 28) : T) :: brT 29 k) 0 = .ok (lst []) (((⟨5, [123], 0⟩, 28) : T) :: brT 29 k) := rfl
  have e1 : go (n + 2 * k + 9) .decl (((⟨2, [102, 117, 110, 99], 0⟩, 20) : T) :: ((⟨1, [102], 0⟩, 25) : T) :: ((⟨5, [40], 0⟩, 26) : T) :: ((⟨5, [41], 0⟩, 27) : T) :: ((⟨5, [123], 0⟩, 28) : T) :: brT 29 k) 0 = go (n + 2 * k + 8) .declaredFunc (((⟨2, [102, 117, 110, 99], 0⟩, 20) : T) :: ((⟨1, [102], 0⟩, 25) : T) :: ((⟨5, [40], 0⟩, 26) : T) :: ((⟨5, [41], 0⟩, 27) : T) :: ((⟨5, [123], 0⟩, 28) : T) :: brT 29 k) 0 := rfl
  have e2 : go (n + 2 * k + 8) .declaredFunc (((⟨2, [102, 117, 110, 99], 0⟩, 20) : T) :: ((⟨1, [102], 0⟩, 25) : T) :: ((⟨5, [40], 0⟩, 26) : T) :: ((⟨5, [41], 0⟩, 27) : T) :: ((⟨5, [123], 0⟩, 28) : T) :: brT 29 k) 0 = bnd (go (n + 2 * k + 7) (.head .param) (((⟨5, [40], 0⟩, 26) : T) :: ((⟨5, [41], 0⟩, 27) : T) :: ((⟨5, [123], 0⟩, 28) : T) :: brT 29 k) 0) (fun h l => bnd (go (n + 2 * k + 7) .block l 0) fun u l => .ok (.mk 9 0 h.num [] [102] 25 (h.kids ++ [u])) l) := rfl
  rw [e1, e2, hh, bnd_ok0, block_many]
  rfl
theorem var_many (n : Nat) (l : List T) : go (n + 6) .decl (((⟨2, [118, 97, 114], 0⟩, 10) : T) :: ((⟨1, [120], 0⟩, 14) : T) :: ((⟨2, [105, 110, 116], 0⟩, 16) : T) :: ((⟨5, [59], 0⟩, 19) : T) :: l) 0 = .ok (.mk 4 0 0 [] [120] 14 [.mk 13 0 0 [] [105, 110, 116] 16 []]) l := rfl
theorem file_many (k n : Nat) : go (n + 2 * k + 12) .file (manyT ++ brT 29 k) 0 = .ok (manyTree k) [(⟨0, [], 0⟩, 29 + 4 * k + 1)] := by
  have ed : ∀ (m : Nat) (acc : List Tr) (x : T) (q : List T), x.1.k = 2 → go (m + 1) (.decls acc) (x :: q) 0 = bnd (go m .decl (x :: q) 0) (fun t l => go m (.decls (acc ++ [t])) l 0) := by
    intro m acc x q hx
    simp only [go]
    rw [if_neg (show ¬ kind (x :: q) = 0 by show ¬ x.1.k = 0; rw [hx]; decide)]
  have hd : go (n + 2 * k + 11) (.decls []) (((⟨2, [118, 97, 114], 0⟩, 10) : T) :: ((⟨1, [120], 0⟩, 14) : T) :: ((⟨2, [105, 110, 116], 0⟩, 16) : T) :: ((⟨5, [59], 0⟩, 19) : T) :: (((⟨2, [102, 117, 110, 99], 0⟩, 20) : T) :: ((⟨1, [102], 0⟩, 25) : T) :: ((⟨5, [40], 0⟩, 26) : T) :: ((⟨5, [41], 0⟩, 27) : T) :: ((⟨5, [123], 0⟩, 28) : T) :: brT 29 k)) 0 = .ok (lst [.mk 4 0 0 [] [120] 14 [.mk 13 0 0 [] [105, 110, 116] 16 []], .mk 9 0 0 [] [102] 25 [.mk 17 0 0 [] [] 28 (blks 29 k)]]) [(⟨0, [], 0⟩, 29 + 4 * k + 1)] := by
    rw [ed _ _ _ _ rfl, show n + 2 * k + 10 = n + 2 * k + 4 + 6 by omega, var_many, bnd_ok0]
    rw [show n + 2 * k + 4 + 6 = n + 2 * k + 9 + 1 by omega, ed _ _ _ _ rfl, func_many]
    rfl
  have e1 : go (n + 2 * k + 12) .file (manyT ++ brT 29 k) 0 = bnd (go (n + 2 * k + 11) (.imports []) (((⟨2, [118, 97, 114], 0⟩, 10) : T) :: ((⟨1, [120], 0⟩, 14) : T) :: ((⟨2, [105, 110, 116], 0⟩, 16) : T) :: ((⟨5, [59], 0⟩, 19) : T) :: (((⟨2, [102, 117, 110, 99], 0⟩, 20) : T) :: ((⟨1, [102], 0⟩, 25) : T) :: ((⟨5, [40], 0⟩, 26) : T) :: ((⟨5, [41], 0⟩, 27) : T) :: ((⟨5, [123], 0⟩, 28) : T) :: brT 29 k)) 0) (fun ks l => bnd (go (n + 2 * k + 11) (.decls ks.kids) l 0) fun ks l => .ok (tnd 1 [97] 0 ks.kids) l) := rfl
  have e2 : go (n + 2 * k + 11) (.imports []) (((⟨2, [118, 97, 114], 0⟩, 10) : T) :: ((⟨1, [120], 0⟩, 14) : T) :: ((⟨2, [105, 110, 116], 0⟩, 16) : T) :: ((⟨5, [59], 0⟩, 19) : T) :: (((⟨2, [102, 117, 110, 99], 0⟩, 20) : T) :: ((⟨1, [102], 0⟩, 25) : T) :: ((⟨5, [40], 0⟩, 26) : T) :: ((⟨5, [41], 0⟩, 27) : T) :: ((⟨5, [123], 0⟩, 28) : T) :: brT 29 k)) 0 = .ok (lst []) (((⟨2, [118, 97, 114], 0⟩, 10) : T) :: ((⟨1, [120], 0⟩, 14) : T) :: ((⟨2, [105, 110, 116], 0⟩, 16) : T) :: ((⟨5, [59], 0⟩, 19) : T) :: (((⟨2, [102, 117, 110, 99], 0⟩, 20) : T) :: ((⟨1, [102], 0⟩, 25) : T) :: ((⟨5, [40], 0⟩, 26) : T) :: ((⟨5, [41], 0⟩, 27) : T) :: ((⟨5, [123], 0⟩, 28) : T) :: brT 29 k)) := rfl
  rw [e1, e2, bnd_ok0]
  show bnd (go (n + 2 * k + 11) (.decls []) (((⟨2, [118, 97, 114], 0⟩, 10) : T) :: ((⟨1, [120], 0⟩, 14) : T) :: ((⟨2, [105, 110, 116], 0⟩, 16) : T) :: ((⟨5, [59], 0⟩, 19) : T) :: (((⟨2, [102, 117, 110, 99], 0⟩, 20) : T) :: ((⟨1, [102], 0⟩, 25) : T) :: ((⟨5, [40], 0⟩, 26) : T) :: ((⟨5, [41], 0⟩, 27) : T) :: ((⟨5, [123], 0⟩, 28) : T) :: brT 29 k)) 0) _ = _
  rw [hd]
  rfl
theorem nodes_blks : ∀ (k a : Nat), nodesL (blks a k) = 2 * k
  | 0, a => rfl
  | k + 1, a => by
    simp only [blks, nodesL, blk, Tr.nodes, nodes_blks k]
    omega
theorem deep_blks : ∀ (k a : Nat), deepL (blks a k) ≤ 1
  | 0, a => by simp [blks, deepL]
  | k + 1, a => by
    have := deep_blks k (a + 4)
    simp only [blks, deepL, blk, Tr.deep]
    omega
theorem many_nodes (k : Nat) : (manyTree k).nodes = 2 * k + 5 := by
  simp only [manyTree, Tr.nodes, nodesL, nodes_blks]; omega
theorem many_deep (k : Nat) : (manyTree k).deep ≤ 4 := by
  have := deep_blks k 29
  simp only [manyTree, Tr.deep, deepL]; omega
theorem parse_many (k : Nat) (hk : k < 1600) : parseD (manyP ++ brs k) = if 3000 < 2 * k + 5 then .fault 0 2 else .tree (manyTree k) := by
  have hl := lex_many k hk
  have hg := lexD_good hl
  have hp := lexD_places hl
  have hf := parseT_of (P := (manyP ++ brs k).length) ⟨hg.1, hp⟩ (file_many k 0) (by simp)
  unfold parseD
  rw [hl]
  show (if (0 : Int) = 0 then parseT _ else _) = _
  rw [if_pos rfl]
  unfold parseT
  rw [hf]
  have hn := many_nodes k
  have hd := many_deep k
  simp only [hn]
  split
  · rfl
  · rw [if_neg (by omega)]
end Go.Proofs.YtihnnbeepfgphaaGreatDoor
