/-
  A reader's mark, its end, the sum of the bytes ahead: walks.
-/
import Derived.Test.YtcjnpaihbebboaaRg
namespace Go.Proofs.Ytcjnpaihbebboaa
open Go.RowKit
set_option linter.unusedVariables false
set_option linter.unusedSimpArgs false

def wantR (T : ByteArray) : Rd Unit := fun bs => if bs.take T.size = sB T then some ((), bs.drop T.size) else none
def VNo (w w' : World) (x : Unit) (v : Value) : Prop := v = .tuple #[]
set_option maxRecDepth 100000 in
set_option maxHeartbeats 2000000 in
theorem want_any (T : ByteArray) (w : World) (lo g : Nat) (A : Option Addr) (c : Nat) (bs : List Int) (h : Rdr w lo g A c bs) (hT0 : 0 < T.size) :
    Calls Try.prog 32 #[.pointer (some ⟨g, 0, none⟩), .string T] w (RdP lo g (wantR T bs) VNo w) := by
  have hlT : (sB T).length = T.size := sB_len T
  by_cases hk : bs.length < T.size
  · have HT := Lib.hid (take_bad (T.size : Int) w lo g A c bs h (Or.inr (by omega)))
    have HO := Lib.hid (show wantR T bs = none by
      unfold wantR
      rw [if_neg (fun e => by have := congrArg List.length e; rw [hlT, List.length_take] at this; omega)])
    clear h hk hT0 hlT
    go_enter Try.func32, Try.ntmps32
    go_wp2_with (go_at_call 55; ((with_reducible refine HT.out.mono ?_); rintro e w2 ⟨rfl, rfl⟩))
    exact post_bad rfl ((RdP.bad HO.out).2 ⟨rfl, Gr.refl _⟩)
  · have hk2 : T.size ≤ bs.length := by omega
    have HT := Lib.hid (take_ok T.size w lo g A c bs h hk2)
    have hsl := h.sl.take_ T.size hk2
    have hlow : lo ≤ w.heap.size := by have := h.log; have := h.blk.lt; omega
    have hlk : (bs.take T.size).length = T.size := by rw [List.length_take]; omega
    have HLG := Lib.hid h.log
    have hcv0 := fun w2 (hg : Gr (fun x => x = g) w w2) => (show (convert 29 9 (.slice A T.size c)).run Try.prog w2 = .ok (.string (strOf (bs.take T.size))) w2 from by
      have := conv_any (hsl.keep1 hg HLG.out hlow) c
      rw [hlk] at this
      exact this)
    by_cases hm : bs.take T.size = sB T
    · have HO := Lib.hid (show wantR T bs = some ((), bs.drop T.size) by unfold wantR; rw [if_pos hm])
      rw [hm, strOf_sB] at hcv0
      have HCV := Lib.hid hcv0
      clear h hk hk2 hm hcv0 hsl hlow hlk hT0 hlT
      go_enter Try.func32, Try.ntmps32
      go_wp2_with (first | (go_at_call 35; ((with_reducible refine (refuse_any _).mono ?_); rintro e w3 ⟨rfl, rfl⟩)) | (go_at_call 55; ((with_reducible refine HT.out.mono ?_); rintro e w2 ⟨rfl, A2, c2, hr2, hg2⟩); have HR2 := Lib.hid hr2; have HG2 := Lib.hid hg2; have hcv := HCV.out _ hg2; clear hr2 hg2))
      refine bodyPost_end (results_none rfl _ _ _) rfl ?_
      exact (RdP.good HO.out).2 ⟨_, A2, c2, rfl, rfl, HR2.out, HG2.out⟩
    · have HO := Lib.hid (show wantR T bs = none by unfold wantR; rw [if_neg hm])
      have hst : strOf (bs.take T.size) ≠ T := fun e => hm (by
        have h1 := sB_strOf hsl.1
        rw [e] at h1
        exact h1.symm)
      obtain ⟨st, hs⟩ : ∃ st, strOf (bs.take T.size) = st := ⟨_, rfl⟩
      rw [hs] at hst
      have hcv1 := fun w2 (hg : Gr (fun x => x = g) w w2) => (hcv0 w2 hg).trans (by rw [hs])
      have HCV := Lib.hid hcv1
      have e1 : (st.toList == T.toList) = false := by simpa [toList_inj] using hst
      clear h hk hk2 hm hcv0 hcv1 hsl hlow hlk hs hT0 hlT hst
      go_enter Try.func32, Try.ntmps32
      go_wp2_with (first | (go_at_call 35; ((with_reducible refine (refuse_any _).mono ?_); rintro e w3 ⟨rfl, rfl⟩)) | (go_at_call 55; ((with_reducible refine HT.out.mono ?_); rintro e w2 ⟨rfl, A2, c2, hr2, hg2⟩); have HR2 := Lib.hid hr2; have HG2 := Lib.hid hg2; have hcv := HCV.out _ hg2; clear hr2 hg2))
      exact post_bad rfl ((RdP.bad HO.out).2 ⟨rfl, HG2.out⟩)
set_option maxRecDepth 100000 in
set_option maxHeartbeats 2000000 in
theorem end_any (w : World) (g : Nat) (A : Option Addr) (c n : Nat) (hk : Blk w g 69 #[.slice A n c]) (hn : n ≤ 262144) :
    Calls Try.prog 34 #[.pointer (some ⟨g, 0, none⟩)] w fun e w' => w = w' ∧ e = if n = 0 then .returned (.tuple #[]) else (Ending.panicked [{ v := .iface 30 (.int .i64 4), recovered := false }]) := by
  have b0 := hk.cell 0
  have bl := hk.lt
  have n1 : (n : Int) ≤ 262144 := by omega
  clear hk hn
  by_cases hl : n = 0
  · rw [if_pos hl]
    rw [hl] at b0
    clear hl n1
    go_enter Try.func34, Try.ntmps34
    go_wp2_with (go_at_call 35; ((with_reducible refine (refuse_any _).mono ?_); rintro e w3 ⟨rfl, rfl⟩))
    refine bodyPost_end (results_none rfl _ _ _) rfl ?_
    exact ⟨rfl, rfl⟩
  · rw [if_neg hl]
    have n0 : (0 : Int) < (n : Int) := by omega
    clear hl
    go_enter Try.func34, Try.ntmps34
    go_wp2_with (go_at_call 35; ((with_reducible refine (refuse_any _).mono ?_); rintro e w3 ⟨rfl, rfl⟩))
    exact post_bad rfl ⟨rfl, rfl⟩
/-- The bytes ahead of their sum. -/
def unsP (l : List Int) : Option (List Int) := if l.length < 8 then none else if word8 (l.drop (l.length - 8)) = sumP (l.take (l.length - 8)) then some (l.take (l.length - 8)) else none
def UnsP (A : Option Addr) (c : Nat) (o : Option (List Int)) (w : World) (e : Ending) (w' : World) : Prop :=
  Below w.heap.size w w' ∧ e = match o with
    | none => (Ending.panicked [{ v := .iface 30 (.int .i64 4), recovered := false }])
    | some a => .returned (.slice A a.length c)
theorem Gr.belowG {w w1 w2 : World} {g : Nat} (hb : Below w.heap.size w w1) (hg : Gr (fun x => x = g) w1 w2) (h : g = w.heap.size) : Below w.heap.size w w2 :=
  hb.trans ⟨hg.os, hg.tape, hg.output, hg.size, fun k hk => hg.block k (by have := hb.size; omega) (by intro e; have e : k = g := e; omega)⟩
set_option maxRecDepth 100000 in
set_option maxHeartbeats 2000000 in
theorem uns_any (w : World) (B : Nat) (A : Option Addr) (c : Nat) (l : List Int) (hs : SlB w B A l) (hB : B ≤ w.heap.size) (hc : l.length ≤ c) (hA : A = none → c = 0) (hl : l.length ≤ 262144) :
    Calls Try.prog 31 #[.slice A l.length c] w (UnsP A c (unsP l) w) := by
  have hb0 : Below w.heap.size w (w.alloc (.cells #[.slice A l.length c] 69)) := (Below.refl _ w).alloc (Nat.le_refl _) _
  have h0 : Rdr (w.alloc (.cells #[.slice A l.length c] 69)) B w.heap.size A c l := ⟨Blk.new _ _ _, ⟨hs.1, hs.2.below (hb0.mono hB)⟩, hc, hA, hl, hB⟩
  have HB0 := Lib.hid hb0
  by_cases h8 : l.length < 8
  · have HO := Lib.hid (show unsP l = none by unfold unsP; rw [if_pos h8])
    have e8 : IntKind.i64.wrap ((l.length : Int) - 8) = (l.length : Int) - 8 := IntWalk.i64_in _ (by omega)
    have HT := Lib.hid (take_bad ((l.length : Int) - 8) _ B w.heap.size A c l h0 (Or.inl (by omega)))
    clear hs hb0 h0 hB hc hA hl h8
    go_enter Try.func31, Try.ntmps31
    go_wp2_with (go_at_call 55; ((with_reducible refine HT.out.mono ?_); rintro e w2 ⟨rfl, rfl⟩))
    refine post_bad rfl ?_
    rw [HO.out]
    exact ⟨HB0.out, rfl⟩
  · obtain ⟨k, hk⟩ : ∃ k, l.length - 8 = k := ⟨_, rfl⟩
    have hk2 : k ≤ l.length := by omega
    have e8 : IntKind.i64.wrap ((l.length : Int) - 8) = (k : Int) := by rw [← hk]; rw [IntWalk.i64_in _ (by omega)]; omega
    have HT := Lib.hid (take_ok k _ B w.heap.size A c l h0 hk2)
    have hlt : (l.take k).length = k := by rw [List.length_take]; omega
    have hld : (l.drop k).length = 8 := by rw [List.length_drop]; omega
    have HSM := Lib.hid (fun w2 (hb : Below w.heap.size w w2) => (show Calls Try.prog 16 #[.slice A k c] w2 (fun e w' => e = .returned (.int .i64 (sumP (l.take k))) ∧ w2 = w') from by
      have h1 := sum_any w2 B A c (l.take k) (SlB.take_ ⟨hs.1, hs.2.below (hb.mono hB)⟩ k hk2) (by omega)
      rw [hlt] at h1
      exact h1))
    have HWR := Lib.hid (show wordR (l.drop k) = some (word8 (l.drop k), []) by
      unfold wordR
      rw [if_neg (by omega), List.take_of_length_le (l := l.drop k) (by omega), List.drop_of_length_le (l := l.drop k) (i := 8) (by omega)])
    have HU : unsP l = if word8 (l.drop k) = sumP (l.take k) then some (l.take k) else none := by unfold unsP; rw [if_neg h8, hk]
    have HLT := Lib.hid hlt
    obtain ⟨x, hx⟩ : ∃ x, word8 (l.drop k) = x := ⟨_, rfl⟩
    obtain ⟨y, hy⟩ : ∃ y, sumP (l.take k) = y := ⟨_, rfl⟩
    rw [hx] at HWR HU
    rw [hy] at HSM HU
    have HSZ := Lib.hid (show w.heap.size ≤ w.heap.size from Nat.le_refl _)
    clear hs hb0 h0 hB hc hA hl h8 hk hk2 hld hlt hx hy
    by_cases hxy : x = y
    · subst hxy
      rw [if_pos rfl] at HU
      have HU2 := Lib.hid HU
      clear HU
      go_enter Try.func31, Try.ntmps31
      go_wp2_with (first
        | (go_at_call 35; ((with_reducible refine (refuse_any _).mono ?_); rintro e w3 ⟨rfl, rfl⟩))
        | (go_at_call 16; ((with_reducible refine (HSM.out _ HB2.out).mono ?_); rintro e w3 ⟨rfl, rfl⟩))
        | (go_at_call 56; ((with_reducible refine (rword_any _ B w.heap.size A1 c1 _ HR1.out).mono ?_); rintro e w2 h2); obtain ⟨v, A2, c2, rfl, ⟨rfl, hx0⟩, hr2, hg2⟩ := (RdP.good HWR.out).1 h2; have HB2 := Lib.hid (Gr.belowG HB1.out hg2 rfl); clear h2 hr2 hg2 hx0)
        | (go_at_call 55; ((with_reducible refine HT.out.mono ?_); rintro e w1 ⟨rfl, A1, c1, hr1, hg1⟩); have HR1 := Lib.hid hr1; have HB1 := Lib.hid (Gr.belowG HB0.out hg1 rfl); clear hr1 hg1))
      go_ret
      exact ⟨HB2.out, by rw [HU2.out]; show _ = Ending.returned (.slice A (l.take k).length c); rw [HLT.out]; rfl⟩
    · rw [if_neg hxy] at HU
      have HU2 := Lib.hid HU
      clear HU
      go_enter Try.func31, Try.ntmps31
      go_wp2_with (first
        | (go_at_call 35; ((with_reducible refine (refuse_any _).mono ?_); rintro e w3 ⟨rfl, rfl⟩))
        | (go_at_call 16; ((with_reducible refine (HSM.out _ HB2.out).mono ?_); rintro e w3 ⟨rfl, rfl⟩))
        | (go_at_call 56; ((with_reducible refine (rword_any _ B w.heap.size A1 c1 _ HR1.out).mono ?_); rintro e w2 h2); obtain ⟨v, A2, c2, rfl, ⟨rfl, hx0⟩, hr2, hg2⟩ := (RdP.good HWR.out).1 h2; have HB2 := Lib.hid (Gr.belowG HB1.out hg2 rfl); clear h2 hr2 hg2 hx0)
        | (go_at_call 55; ((with_reducible refine HT.out.mono ?_); rintro e w1 ⟨rfl, A1, c1, hr1, hg1⟩); have HR1 := Lib.hid hr1; have HB1 := Lib.hid (Gr.belowG HB0.out hg1 rfl); clear hr1 hg1))
      refine post_bad rfl ?_
      rw [HU2.out]
      exact ⟨HB2.out, rfl⟩
end Go.Proofs.Ytcjnpaihbebboaa
