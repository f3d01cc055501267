/-
  Tokens stand in order, plainly; what is between them: a walk.
-/
import Derived.Test.YthkahjpflflecaaDoorLexK
namespace Go.Proofs.YthkahjpflflecaaDoor
open Go.RowKit
set_option linter.unusedVariables false

theorem gap_take : ∀ (b : Bool) (l : List UInt8), gapL b (l.take (gapL b l)) = gapL b l
  | true, [] => rfl
  | false, [] => rfl
  | true, c :: r => by
    have ih := gap_take (c != 10) r
    show gapL true ((c :: r).take (1 + gapL (c != 10) r)) = 1 + gapL (c != 10) r
    rw [Nat.add_comm, List.take_succ_cons]
    show 1 + gapL (c != 10) (r.take _) = _
    rw [ih]; omega
  | false, c :: r => by
    cases hp : pre2 (c :: r) with
    | true =>
      have ih := gap_take true r
      have e : gapL false (c :: r) = gapL true r + 1 := by rw [gapL, hp]; simp; omega
      rw [e, List.take_succ_cons]
      have hp2 : pre2 (c :: r.take (gapL true r)) = true := by
        match r with
        | [] => cases hp
        | d :: t =>
          have e2 : gapL true (d :: t) = gapL (d != 10) t + 1 := by rw [gapL]; omega
          rw [e2, List.take_succ_cons]
          exact hp
      rw [gapL, hp2, ih]; simp; omega
    | false =>
      cases hb : isB c with
      | true =>
        have ih := gap_take false r
        have e : gapL false (c :: r) = gapL false r + 1 := by rw [gapL, hp, hb]; simp; omega
        rw [e, List.take_succ_cons]
        have hp2 : pre2 (c :: r.take (gapL false r)) = false := by
          match r with
          | [] => rfl
          | d :: t =>
            cases hx : gapL false (d :: t) with
            | zero => rfl
            | succ n =>
              rw [List.take_succ_cons]
              exact hp
        rw [gapL, hp2, hb, ih]; simp; omega
      | false =>
        have e : gapL false (c :: r) = 0 := by rw [gapL, hp, hb]; simp
        rw [e]; rfl
/-- The tokens from a place on, each where the one before ends and blanks and remarks are over. -/
def cov (L : List UInt8) : Nat → List (Tk × Nat) → Prop
  | _, [] => False
  | e, [x] => x.1.k = 0 ∧ x.1.t = [] ∧ x.2 = L.length ∧ x.2 = e + gapL false (L.drop e)
  | e, x :: y :: r => ∃ n, x.2 = e + gapL false (L.drop e) ∧ firstL (L.drop x.2) = some (x.1, n) ∧ cov L (x.2 + n) (y :: r)
theorem cov_lexL (L : List UInt8) : ∀ (f e : Nat) (ts : List (Tk × Nat)), e ≤ L.length → L.length < e + gapL false (L.drop e) + f → lexL f (e + gapL false (L.drop e)) (L.drop (e + gapL false (L.drop e))) = .inr ts → cov L e ts
  | 0, e, ts, he, hf, h => by cases h
  | f + 1, e, ts, he, hf, h => by
    have hg := gapL_le false (L.drop e)
    simp only [List.length_drop] at hg
    generalize hk : e + gapL false (L.drop e) = k at h hf
    by_cases hl : L.drop k = []
    · rw [hl, lexL_end] at h
      injection h with h
      subst h
      have : L.length ≤ k := by (have := congrArg List.length hl; simp at this; omega)
      exact ⟨rfl, rfl, by show k = L.length; omega, hk.symm⟩
    · cases ho : firstL (L.drop k) with
      | none => rw [lexL_none hl ho] at h; cases h
      | some x =>
        obtain ⟨t, n⟩ := x
        obtain ⟨n0, n1⟩ := first_size ho
        simp only [List.length_drop] at n1
        have ih := cov_lexL L f (k + n)
        rw [lexL_some hl ho, List.drop_drop, List.drop_drop] at h
        have ih := fun us => ih us (by omega) (by omega)
        have hne := fun us => lexL_ne f (k + n + gapL false (L.drop (k + n))) (L.drop (k + n + gapL false (L.drop (k + n)))) (by simp; omega) us
        generalize lexL f (k + n + gapL false (L.drop (k + n))) (L.drop (k + n + gapL false (L.drop (k + n)))) = y at h ih hne
        cases y with
        | inl p => cases h
        | inr us =>
          simp only [joinL] at h
          injection h with h
          subst h
          have h1 := ih us rfl
          match us, hne us rfl, h1 with
          | u :: r, _, h1 => exact ⟨n, hk.symm, ho, h1⟩
theorem cov_lexD {l : List UInt8} {ts : List (Tk × Nat)} (h : lexD l = (ts, 0, 0)) : cov l 0 ts := by
  unfold lexD at h
  split at h
  · simp at h
  · unfold lexG at h
    have hb := cov_lexL l (l.length + 1) 0
    rw [List.drop_zero, Nat.zero_add] at hb
    have hb := fun ts => hb ts (by omega) (by omega)
    generalize lexL (l.length + 1) (gapL false l) (l.drop (gapL false l)) = y at h hb
    cases y with
    | inl q => simp [lexO] at h
    | inr us =>
      simp only [lexO, Prod.mk.injEq] at h
      rw [← h.1]
      exact hb us rfl
/-- What a first token is. -/
theorem first_kind {l : List UInt8} {t : Tk} {n : Nat} (h : firstL l = some (t, n)) :
    (t.k = 4 ∧ (∃ r x, l = 34 :: r ∧ qL false [] 0 r = some (x, n))) ∨ (t.k ≠ 4 ∧ t.k ≠ 0 ∧ t.t = l.take n) := by
  unfold firstL at h
  split at h
  · unfold namedL at h
    split at h
    · simp only [Option.some.injEq, Prod.mk.injEq] at h; obtain ⟨rfl, rfl⟩ := h; exact .inr ⟨by simp, by simp, rfl⟩
    · split at h
      · cases h
      · simp only [Option.some.injEq, Prod.mk.injEq] at h; obtain ⟨rfl, rfl⟩ := h; exact .inr ⟨by simp, by simp, rfl⟩
  · split at h
    · unfold numberL at h
      split at h
      · cases h
      · split at h
        · cases h
        · split at h
          · simp only [Option.some.injEq, Prod.mk.injEq] at h; obtain ⟨rfl, rfl⟩ := h; exact .inr ⟨by simp, by simp, rfl⟩
          · cases h
    · split at h
      · rename_i hq
        unfold quotedL at h
        simp only [Option.map_eq_some_iff] at h
        obtain ⟨⟨x, m⟩, hx, he⟩ := h
        simp only [Prod.mk.injEq] at he
        obtain ⟨rfl, rfl⟩ := he
        match l with
        | [] => cases hq
        | c :: r =>
          have : c = 34 := by simpa [headL] using hq
          subst this
          exact .inl ⟨rfl, r, x, rfl, hx⟩
      · unfold signL at h
        split at h
        · cases h
        · simp only [Option.some.injEq, Prod.mk.injEq] at h; obtain ⟨rfl, rfl⟩ := h; exact .inr ⟨by simp, by simp, rfl⟩

/-! Between. -/
def btw (l : List UInt8) : Bool := decide (gapL false l = l.length)
set_option maxHeartbeats 1000000 in
theorem between_any (s : ByteArray) (w : World) (hs : s.size ≤ maxLen) (hb : btw s.data.toList = true) : Calls Tryd.prog 18 #[.string s] w fun e w' => e = .returned (.bool true) ∧ w = w' := by
  unfold maxLen at hs
  have hb' : gapL false s.data.toList = s.size := by simpa [btw] using hb
  have HB := Lib.hid hb'
  clear hb hb'
  go_enter Tryd.func18, Tryd.ntmps18
  go_wp2
  go_loop [3] (fun i => ∃ k : Nat, k ≤ s.size ∧ i = .int .i64 k ∧ gapL false (s.data.toList.drop k) + k = s.size) (fun i => s.size - (intOf i).toNat)
  case atStart => exact ⟨0, Nat.zero_le _, rfl, by have := HB.out; simpa using this⟩
  case round =>
    obtain ⟨k, hk, rfl, hr⟩ := hrel
    by_cases hlt : k < s.size
    · have hg := gap_plain hlt
      have hb0 : 0 ≤ (s[k].toNat : Int) ∧ (s[k].toNat : Int) ≤ 255 := by have := s[k].toNat_lt; omega
      cases hB : isB s[k] with
      | true =>
        have hp : pre2 (s.data.toList.drop k) = false := by
          rw [drop_at hlt]
          cases hd : s.data.toList.drop (k + 1) with
          | nil => rfl
          | cons a r =>
            have : s[k] ≠ 47 := by rintro e; rw [e] at hB; revert hB; decide
            simp [pre2, this]
        rw [hp, hB] at hg
        have hR : gapL false (s.data.toList.drop (k + 1)) + (k + 1) = s.size := by simp at hg; omega
        have HR := Lib.hid hR
        have hB' : (s[k].toNat : Int) = 32 ∨ (s[k].toNat : Int) = 9 ∨ (s[k].toNat : Int) = 10 ∨ (s[k].toNat : Int) = 13 := by simpa [isB] using hB
        clear hr hg hB hp hR hb0
        rcases hB' with h | h | h | h
        all_goals
          go_wp2
          go_round
          case rel => exact ⟨k + 1, by omega, by go_num, HR.out⟩
          case measure => simp [intOf]; omega
      | false =>
        cases hp : pre2 (s.data.toList.drop k) with
        | false => rw [hp, hB] at hg; simp at hg; omega
        | true =>
          have hl1 : k + 1 < s.size := by
            rw [drop_at hlt] at hp
            rcases Nat.lt_or_ge (k + 1) s.size with h | h
            · exact h
            · rw [List.drop_eq_nil_of_le (by simpa using h)] at hp; cases hp
          have h47 : s[k] = 47 ∧ s[k + 1] = 47 := by
            rw [drop_at hlt, drop_at hl1] at hp
            simpa [pre2] using hp
          obtain ⟨e1, e2⟩ := h47
          have hk1 : gapL true (s.data.toList.drop k) + k = s.size := by
            rw [hp] at hg
            rw [gap_remark hlt, e1]
            simp at hg
            have : ((47 : UInt8) != 10) = true := by decide
            rw [this]; omega
          have n32 : ((s[k].toNat : Int) == 32) = false := by rw [e1]; rfl
          have n9 : ((s[k].toNat : Int) == 9) = false := by rw [e1]; rfl
          have n10 : ((s[k].toNat : Int) == 10) = false := by rw [e1]; rfl
          have n13 : ((s[k].toNat : Int) == 13) = false := by rw [e1]; rfl
          have y1 : ((s[k].toNat : Int) != 47) = false := by rw [e1]; rfl
          have y2 : ((s[k + 1].toNat : Int) != 47) = false := by rw [e2]; rfl
          have HK := Lib.hid hk1
          have E1 := Lib.hid e1
          clear hr hg hB hp hb0 e1 e2 hk1
          have dl : decide ((s.size : Int) ≤ (k : Int) + 1) = false := by simp; omega
          go_wp2
          go_loop [3] (fun i => ∃ j : Nat, k ≤ j ∧ j ≤ s.size ∧ i = .int .i64 j ∧ gapL true (s.data.toList.drop j) + j = s.size) (fun i => s.size - (intOf i).toNat)
          case atStart => exact ⟨k, Nat.le_refl _, by omega, rfl, HK.out⟩
          case round =>
            obtain ⟨j, hkj, hj, rfl, hr⟩ := hrel
            by_cases hjl : j < s.size
            · have hc0 : 0 ≤ (s[j].toNat : Int) ∧ (s[j].toNat : Int) ≤ 255 := by have := s[j].toNat_lt; omega
              by_cases h10 : s[j] = 10
              · have hne : k < j := by
                  rcases Nat.lt_or_ge k j with h | h
                  · exact h
                  · obtain rfl : j = k := by omega
                    have := E1.out
                    rw [this] at h10; exact absurd h10 (by decide)
                have y10 : ((s[j].toNat : Int) != 10) = false := by rw [h10]; rfl
                have hG : gapL false (s.data.toList.drop j) + j = s.size := by
                  rw [gap_remark hjl, h10] at hr
                  rw [gap_plain hjl, h10]
                  have : pre2 (s.data.toList.drop j) = false := by
                    rw [drop_at hjl, h10]
                    cases s.data.toList.drop (j + 1) <;> rfl
                  rw [this]
                  simp [isB] at hr ⊢
                  omega
                have HG := Lib.hid hG
                clear hr h10 hc0 hG HK
                go_wp2
                go_round
                case rel => exact ⟨j, by omega, rfl, HG.out⟩
                case measure => simp [intOf]; omega
              · have y10 : ((s[j].toNat : Int) != 10) = true := by simp; intro e; exact h10 (UInt8.toNat_inj.1 (by simpa using (by omega : s[j].toNat = 10)))
                have hG : gapL true (s.data.toList.drop (j + 1)) + (j + 1) = s.size := by
                  rw [gap_remark hjl] at hr
                  have : (s[j] != 10) = true := by simpa using h10
                  rw [this] at hr
                  omega
                have HG := Lib.hid hG
                clear hr h10 hc0 hG HK
                go_wp2
                go_round
                case rel => exact ⟨j + 1, by omega, by omega, by go_num, HG.out⟩
                case measure => simp [intOf]; omega
            · obtain rfl : j = s.size := by omega
              clear hr HK
              go_wp2
              go_round
              case rel => exact ⟨s.size, Nat.le_refl _, rfl, by rw [gap_end]; omega⟩
              case measure => simp [intOf]; omega
    · obtain rfl : k = s.size := by omega
      go_wp2
      go_ret
      exact ⟨rfl, rfl⟩
end Go.Proofs.YthkahjpflflecaaDoor
