/-
  A reader's numbers, texts, flags: walks.
-/
import Derived.Test.YtnkojjkijkhlbaaRa
namespace Go.Proofs.Ytnkojjkijkhlbaa
open Go.RowKit
set_option linter.unusedVariables false
set_option linter.unusedSimpArgs false

theorem RdP.cases {β : Type} {lo g : Nat} {V : World → World → β → Value → Prop} {w w' : World} {e : Ending} {o : Option (β × List Int)} (h : RdP lo g o V w e w') :
    (o = none ∧ e = (Ending.panicked [{ v := .iface 30 (.int .i64 4), recovered := false }]) ∧ Gr (fun x => x = g) w w') ∨ (∃ x rest v A c, o = some (x, rest) ∧ e = .returned v ∧ V w w' x v ∧ Rdr w' lo g A c rest ∧ Gr (fun x => x = g) w w') := by
  cases ho : o with
  | none => exact .inl ⟨rfl, (RdP.bad ho).1 h⟩
  | some p =>
    obtain ⟨x, rest⟩ := p
    obtain ⟨v, A, c, h1⟩ := (RdP.good ho).1 h
    exact .inr ⟨x, rest, v, A, c, rfl, h1⟩
theorem bindR_none {α β : Type} {p : Rd α} {f : α → Rd β} {bs : List Int} (h : p bs = none) : bindR p f bs = none := by unfold bindR; rw [h]
def VInt (w w' : World) (x : Int) (v : Value) : Prop := v = .int .i64 x ∧ I64 x
def VStr (w w' : World) (x : ByteArray) (v : Value) : Prop := v = .string x
def VBool (w w' : World) (x : Bool) (v : Value) : Prop := v = .bool x
/-! ## Numbers. -/
theorem pow_8 (j : Nat) : (2 : Int) ^ (8 * (j : Int)).toNat = 256 ^ j := by
  rw [show (8 * (j : Int)).toNat = 8 * j by omega, Int.pow_mul]
  rfl
theorem unb_append (l : List Int) (c : Int) : unb (l ++ [c]) = unb l + c * 256 ^ l.length := by
  induction l with
  | nil => simp [unb]
  | cons a r ih =>
    have e : unb (a :: (r ++ [c])) = a + 256 * unb (r ++ [c]) := rfl
    have e2 : unb (a :: r) = a + 256 * unb r := rfl
    rw [List.cons_append, e, ih, e2, List.length_cons, Int.pow_succ, Int.mul_add, Int.add_assoc]
    congr 2
    rw [← Int.mul_assoc, Int.mul_comm 256 c, Int.mul_assoc, Int.mul_comm (256 ^ r.length) 256]
theorem unb_bd (l : List Int) (hb : Byt l) : 0 ≤ unb l ∧ unb l < 256 ^ l.length := by
  induction l with
  | nil => simp [unb]
  | cons a r ih =>
    have h1 := hb a (by simp)
    have h2 := ih (fun c hc => hb c (by simp [hc]))
    have e : unb (a :: r) = a + 256 * unb r := rfl
    rw [e, List.length_cons, Int.pow_succ]
    omega
theorem or_step (x c : Int) (j : Nat) (hj : j < 8) (hx0 : 0 ≤ x) (hx : x < 256 ^ j) (hc0 : 0 ≤ c) (hc : c ≤ 255) : bits BinOp.or IntKind.u64 x (IntKind.u64.wrap (c * 2 ^ (8 * (j : Int)).toNat)) = x + c * 256 ^ j := by
  have hj2 : j = 0 ∨ j = 1 ∨ j = 2 ∨ j = 3 ∨ j = 4 ∨ j = 5 ∨ j = 6 ∨ j = 7 := by omega
  rw [pow_8]
  have hb : 0 ≤ c * 256 ^ j ∧ c * 256 ^ j < 18446744073709551616 := by
    rcases hj2 with rfl | rfl | rfl | rfl | rfl | rfl | rfl | rfl <;> (simp only [Int.reducePow]; omega)
  have hw : IntKind.u64.wrap (c * 256 ^ j) = c * 256 ^ j := by rw [IntKind.wrap_u64]; omega
  rw [hw]
  obtain ⟨a, rfl⟩ : ∃ a : Nat, x = (a : Int) := ⟨x.toNat, by omega⟩
  obtain ⟨d, rfl⟩ : ∃ d : Nat, c = (d : Int) := ⟨c.toNat, by omega⟩
  have ha : a < 2 ^ (8 * j) := by
    rcases hj2 with rfl | rfl | rfl | rfl | rfl | rfl | rfl | rfl <;> (simp only [Int.reducePow] at hx; simp only [Nat.reduceMul, Nat.reducePow]; omega)
  have e1 : (d : Int) * 256 ^ j = ((d <<< (8 * j) : Nat) : Int) := by
    rcases hj2 with rfl | rfl | rfl | rfl | rfl | rfl | rfl | rfl <;> (simp only [Nat.shiftLeft_eq, Nat.reduceMul, Nat.reducePow, Int.reducePow]; omega)
  rw [e1] at hb ⊢
  have ha2 : a < 18446744073709551616 := by
    have : (2 : Nat) ^ (8 * j) ≤ 2 ^ 64 := Nat.pow_le_pow_right (by omega) (by omega)
    omega
  rw [bits_or_u64_nat a (d <<< (8 * j)) ha2 (by omega), Nat.or_comm, ← Nat.shiftLeft_add_eq_or_of_lt ha]
  omega
set_option maxRecDepth 100000 in
set_option maxHeartbeats 2000000 in
theorem rword_any (w : World) (lo g : Nat) (A : Option Addr) (c : Nat) (bs : List Int) (h : Rdr w lo g A c bs) :
    Calls Try.prog 56 #[.pointer (some ⟨g, 0, none⟩)] w (RdP lo g (wordR bs) VInt w) := by
  by_cases h8 : bs.length < 8
  · have ho : wordR bs = none := by unfold wordR; rw [if_pos h8]
    have HT := Lib.hid (take_bad 8 w lo g A c bs h (Or.inr (by omega)))
    rw [ho]
    clear h h8 ho
    go_enter Try.func56, Try.ntmps56
    go_wp2_with (go_at_call 55; ((with_reducible refine HT.out.mono ?_); rintro e w1 ⟨rfl, rfl⟩))
    exact post_bad rfl ⟨rfl, Gr.refl _⟩
  · have ho : wordR bs = some (word8 (bs.take 8), bs.drop 8) := by unfold wordR; rw [if_neg h8]
    have hl8 : (bs.take 8).length = 8 := by rw [List.length_take]; omega
    have hby : Byt (bs.take 8) := fun x hx => h.sl.1 x (List.mem_of_mem_take hx)
    have HI := Lib.hid (le8_word hl8 hby).2
    have HT := Lib.hid (take_ok 8 w lo g A c bs h (by omega))
    rw [show ((8 : Nat) : Int) = 8 from rfl] at HT
    have hsl := h.sl.take_ 8 (by omega)
    have hlow : lo ≤ w.heap.size := by have := h.log; have := h.blk.lt; omega
    have hlg := h.log
    have HSL := Lib.hid (fun w1 (hg : Gr (fun x => x = g) w w1) => hsl.keep1 hg hlg hlow)
    rw [ho]
    obtain ⟨l, hl⟩ : ∃ l, bs.take 8 = l := ⟨_, rfl⟩
    obtain ⟨rest, hrest⟩ : ∃ l, bs.drop 8 = l := ⟨_, rfl⟩
    rw [hl] at hl8 hby HI HSL ⊢
    rw [hrest] at HT ⊢
    have HL8 := Lib.hid hl8
    have HBY := Lib.hid hby
    clear h h8 ho hl hrest hsl hlow hlg hl8 hby
    go_enter Try.func56, Try.ntmps56
    go_wp2_with (go_at_call 55; ((with_reducible refine HT.out.mono ?_); rintro e w1 ⟨rfl, A1, c1, hr1, hg1⟩); have HR1 := Lib.hid hr1; have HG1 := Lib.hid hg1; have HS1 := Lib.hid (HSL.out _ hg1); clear hr1 hg1)
    go_loopg [9, 3] 8 (fun gk v9 v3 wr => ∃ (j : Nat) (x : Int), j + gk = 8 ∧ v9 = .int .i64 j ∧ v3 = .int .u64 x ∧ x = unb (l.take j) ∧ wr = w1)
    case atStart => exact ⟨0, 0, by simp, rfl, rfl, by simp [unb], rfl⟩
    case round =>
      obtain ⟨j, x, hj, rfl, rfl, hx, rfl⟩ := hrel
      have HX := Lib.hid hx
      clear hx
      cases gk with
      | zero =>
        obtain rfl : j = 8 := by omega
        have HW := Lib.hid (show wrap64 x = word8 l by
          rw [HX.out, List.take_of_length_le (by rw [HL8.out]; exact Nat.le_refl _)]
          unfold word8
          first | rfl | (rw [IntKind.wrap_i64]; rfl) | simp [IntKind.wrap_i64, wrap64])
        clear hj
        go_wp2
        go_ret
        exact ⟨_, A1, c1, by rw [← HW.out]; rfl, ⟨rfl, HI.out⟩, HR1.out, HG1.out⟩
      | succ f =>
        have hjl : j < l.length := by rw [HL8.out]; omega
        obtain ⟨a, ha⟩ : ∃ a, l[j]? = some a := ⟨_, List.getElem?_eq_getElem hjl⟩
        have hab := HS1.out.1 a (List.mem_of_getElem? ha)
        obtain ⟨ad, hA, hbl, hat⟩ := HS1.out.2.2 (by omega)
        have q0 := hat j (.int .u8 a) (by rw [List.getElem?_map, ha]; rfl)
        have j1 : (j : Int) < 8 := by omega
        have j0 : (0 : Int) ≤ (j : Int) := by omega
        obtain ⟨ha0, ha1⟩ := hab
        have hlj : (l.take j).length = j := by rw [List.length_take]; omega
        have hbd := unb_bd (l.take j) (fun c hc => HBY.out c (List.mem_of_mem_take hc))
        rw [hlj, ← HX.out] at hbd
        have HO := Lib.hid (or_step x a j (by omega) hbd.1 hbd.2 ha0 ha1)
        have HN := Lib.hid (show x + a * 256 ^ j = unb (l.take (j + 1)) by
          rw [List.take_add_one, ha, Option.toList_some, unb_append, hlj, HX.out])
        have e8 : IntKind.i64.wrap (8 * (j : Int)) = 8 * (j : Int) := IntWalk.i64_in _ (by omega)
        subst hA
        have HO2 := Lib.hid (show bits BinOp.or IntKind.u64 x (IntKind.u64.wrap (a * 2 ^ (8 * j))) = unb (l.take (j + 1)) by
          rw [← HN.out, ← HO.out, show (8 * (j : Int)).toNat = 8 * j by omega])
        clear hat ha hbd hlj
        go_wp2
        go_roundg f
        case measure => omega
        case rel => exact ⟨j + 1, _, by omega, by go_num, rfl, HO2.out, rfl⟩
set_option maxRecDepth 100000 in
set_option maxHeartbeats 2000000 in
theorem rnumber_any (w : World) (lo g : Nat) (A : Option Addr) (c : Nat) (bs : List Int) (h : Rdr w lo g A c bs) :
    Calls Try.prog 84 #[.pointer (some ⟨g, 0, none⟩)] w (RdP lo g (wordR bs) VInt w) := by
  have HM := Lib.hid (rword_any w lo g A c bs h)
  clear h
  go_enter Try.func84, Try.ntmps84
  go_wp2_with (go_at_call 56; ((with_reducible refine HM.out.mono ?_); rintro e w1 h1); rcases h1.cases with ⟨ho, rfl, hg⟩ | ⟨x, rest, v, A1, c1, ho, rfl, ⟨rfl, hx0, hx1⟩, hr, hg⟩; (· exact post_bad rfl ((RdP.bad ho).2 ⟨rfl, hg⟩)); have HR := Lib.hid hr; have HG := Lib.hid hg; have HO := Lib.hid ho; clear h1 ho hr hg)
  go_ret
  exact (RdP.good HO.out).2 ⟨_, A1, c1, rfl, ⟨rfl, hx0, hx1⟩, HR.out, HG.out⟩
set_option maxRecDepth 100000 in
set_option maxHeartbeats 2000000 in
theorem rtext_any (w : World) (lo g : Nat) (A : Option Addr) (c : Nat) (bs : List Int) (h : Rdr w lo g A c bs) :
    Calls Try.prog 57 #[.pointer (some ⟨g, 0, none⟩)] w (RdP lo g (textR bs) VStr w) := by
  have HM := Lib.hid (rnumber_any w lo g A c bs h)
  clear h
  go_enter Try.func57, Try.ntmps57
  go_wp2_with (go_at_call 84; ((with_reducible refine HM.out.mono ?_); rintro e w1 h1); rcases h1.cases with ⟨ho, rfl, hg⟩ | ⟨x, rest, v, A1, c1, ho, rfl, ⟨rfl, hx0, hx1⟩, hr, hg⟩; (· exact post_bad rfl ((RdP.bad (bindR_none ho)).2 ⟨rfl, hg⟩)); have HR := Lib.hid hr; have HG := Lib.hid hg; have HO := Lib.hid (show textR bs = bindR (takeR x) (fun l => retR (strOf l)) rest from bindR_of ho); clear h1 ho hr hg)
  by_cases hn : x < 0
  · have HT := Lib.hid (take_bad x w1 lo g A1 c1 rest HR.out (Or.inl hn))
    have ho : textR bs = none := by rw [HO.out]; exact bindR_none (by unfold takeR; rw [if_pos (Or.inl hn)])
    have HO4 := Lib.hid ho
    clear ho hn hx0 hx1
    go_wp2_with (go_at_call 55; ((with_reducible refine HT.out.mono ?_); rintro e w2 ⟨rfl, rfl⟩))
    exact post_bad rfl ((RdP.bad HO4.out).2 ⟨rfl, HG.out⟩)
  · by_cases hk : (rest.length : Int) < x
    · have HT := Lib.hid (take_bad x w1 lo g A1 c1 rest HR.out (Or.inr hk))
      have ho : textR bs = none := by rw [HO.out]; exact bindR_none (by unfold takeR; rw [if_pos (Or.inr hk)])
      have HO4 := Lib.hid ho
      clear ho hn hx0 hx1 hk
      go_wp2_with (go_at_call 55; ((with_reducible refine HT.out.mono ?_); rintro e w2 ⟨rfl, rfl⟩))
      exact post_bad rfl ((RdP.bad HO4.out).2 ⟨rfl, HG.out⟩)
    · obtain ⟨k, rfl⟩ : ∃ k : Nat, x = (k : Int) := ⟨x.toNat, by omega⟩
      have hk2 : k ≤ rest.length := by omega
      have HT := Lib.hid (take_ok k w1 lo g A1 c1 rest HR.out hk2)
      have ho : textR bs = some (strOf (rest.take k), rest.drop k) := by
        rw [HO.out]
        have ht : takeR (k : Int) rest = some (rest.take k, rest.drop k) := by
          unfold takeR; rw [if_neg (by omega)]; simp
        rw [bindR_of ht]; rfl
      have hsl := HR.out.sl.take_ k hk2
      have hlow : lo ≤ w1.heap.size := by have := HR.out.log; have := HR.out.blk.lt; omega
      have hlk : (rest.take k).length = k := by rw [List.length_take]; omega
      have HCV := Lib.hid (fun w2 (hg : Gr (fun x => x = g) w1 w2) => (show (convert 29 9 (.slice A1 k c1)).run Try.prog w2 = .ok (.string (strOf (rest.take k))) w2 from by
        have := conv_any (hsl.keep1 hg HR.out.log hlow) c1
        rw [hlk] at this
        exact this))
      have HO4 := Lib.hid ho
      clear ho hn hx0 hx1 hk hk2 hsl hlow hlk
      go_wp2_with (go_at_call 55; ((with_reducible refine HT.out.mono ?_); rintro e w2 ⟨rfl, A2, c2, hr2, hg2⟩); have HR2 := Lib.hid hr2; have HG2 := Lib.hid (HG.out.trans hg2); have hcv := HCV.out _ hg2; clear hr2 hg2)
      go_ret
      exact (RdP.good HO4.out).2 ⟨_, A2, c2, rfl, rfl, HR2.out, HG2.out⟩
set_option maxRecDepth 100000 in
set_option maxHeartbeats 2000000 in
theorem rflag_any (w : World) (lo g : Nat) (A : Option Addr) (c : Nat) (bs : List Int) (h : Rdr w lo g A c bs) :
    Calls Try.prog 88 #[.pointer (some ⟨g, 0, none⟩)] w (RdP lo g (flagR bs) VBool w) := by
  have HM := Lib.hid (rword_any w lo g A c bs h)
  clear h
  go_enter Try.func88, Try.ntmps88
  go_wp2_with (first
    | (go_at_call 35; ((with_reducible refine (refuse_any _).mono ?_); rintro e w2 ⟨rfl, rfl⟩))
    | (go_at_call 56; ((with_reducible refine HM.out.mono ?_); rintro e w1 h1); rcases h1.cases with ⟨ho, rfl, hg⟩ | ⟨x, rest, v, A1, c1, ho, rfl, ⟨rfl, hx0, hx1⟩, hr, hg⟩; (· exact post_bad rfl ((RdP.bad (bindR_none ho)).2 ⟨rfl, hg⟩)); have HR := Lib.hid hr; have HG := Lib.hid hg; have HO := Lib.hid (show flagR bs = (if x = 0 then some (false, rest) else if x = 1 then some (true, rest) else none) from bindR_of ho); clear h1 ho hr hg))
  · have ho : flagR bs = some (false, rest) := by rw [HO.out, if_pos (by assumption)]
    go_ret
    exact (RdP.good ho).2 ⟨_, A1, c1, rfl, rfl, HR.out, HG.out⟩
  · have h1 : ¬ x = 0 := by assumption
    have h2 : (x != 0) = true ∧ (x != 1) = true := by assumption
    have ho : flagR bs = none := by rw [HO.out, if_neg (by first | assumption | omega), if_neg (by intro e; subst e; simp at h2)]
    exact post_bad rfl ((RdP.bad ho).2 ⟨rfl, HG.out⟩)
  · have h1 : ¬ x = 0 := by assumption
    have h2 : (x != 0) = false ∨ (x != 1) = false := by assumption
    have e1 : x = 1 := by rcases h2 with h | h <;> simp at h <;> omega
    have ho : flagR bs = some (true, rest) := by rw [HO.out, if_neg (by omega), if_pos e1]
    subst e1
    go_ret
    exact (RdP.good ho).2 ⟨_, A1, c1, rfl, rfl, HR.out, HG.out⟩
end Go.Proofs.Ytnkojjkijkhlbaa
