/-
  Bytes read, all cases; what was written is read.
-/
import Derived.Test.YtcjnpaihbebboaaRk
import Derived.Test.YtcjnpaihbebboaaEu
namespace Go.Proofs.Ytcjnpaihbebboaa
open Go.RowKit
set_option linter.unusedVariables false
set_option linter.unusedSimpArgs false

theorem dec_any (w : World) (B : Nat) (A : Option Addr) (c : Nat) (l : List Int) (hs : SlB w B A l) (hB : B ≤ w.heap.size) (hc : l.length ≤ c) (hA : A = none → c = 0) (hl : l.length ≤ 9000000000000000000) :
    Calls Try.prog 18 #[.slice A l.length c] w (DecP (decP l) w) := by
  by_cases h0 : 262144 < l.length
  · exact dec_long w A c l h0 hl
  · have h0 : l.length ≤ 262144 := by omega
    cases h1 : unsP l with
    | none => exact dec_uns w B A c l hs hB hc hA h0 h1
    | some a =>
      cases h2 : wantR ⟨#[77, 85, 49, 10]⟩ a with
      | none => exact dec_want w B A c l hs hB hc hA h0 h1 h2
      | some p =>
        obtain ⟨⟨⟩, r⟩ := p
        cases h3 : unR 262145 r with
        | none => exact dec_unit w B A c l hs hB hc hA h0 h1 h2 h3
        | some q =>
          obtain ⟨u, rest⟩ := q
          by_cases h4 : rest.length = 0
          · cases h5 : deepU u with
            | true => exact dec_deep w B A c l hs hB hc hA h0 h1 h2 h3 h4 h5
            | false => exact dec_ok w B A c l hs hB hc hA h0 h1 h2 h3 h4 h5
          · exact dec_end w B A c l hs hB hc hA h0 h1 h2 h3 h4
theorem sumP_i64 (l : List Int) : I64 (sumP l) := by
  unfold sumP wrap64
  exact ⟨by omega, by omega⟩
theorem unsP_enc (m : List Int) : unsP (m ++ le8 (sumP m)) = some m := by
  unfold unsP
  have e : (m ++ le8 (sumP m)).length - 8 = m.length := by rw [List.length_append, le8_len]; omega
  rw [if_neg (by rw [List.length_append, le8_len]; omega), e, List.drop_left, List.take_left, word_le8 (sumP_i64 m), if_pos rfl]
theorem wantR_enc (r : List Int) : wantR ⟨#[77, 85, 49, 10]⟩ (markB ++ r) = some ((), r) := by
  unfold wantR
  have e : (⟨#[77, 85, 49, 10]⟩ : ByteArray).size = markB.length := rfl
  rw [e, List.take_left, List.drop_left]
  exact if_pos mark_sB.symm
theorem dec_enc {u : Un} {l : List Int} (hok : u.ok 140737488355328) (hr : u.rng) (hc : u.cnt ≤ 262145) (h : encR u = (l, 0)) : decP l = some u := by
  obtain ⟨e, hd, hf⟩ := encR_ok h
  have h1 : unsP l = some (encM u) := by rw [e]; exact unsP_enc _
  have h2 : wantR ⟨#[77, 85, 49, 10]⟩ (encM u) = some ((), encU u) := wantR_enc _
  have h3 := unR_fwd 262145 u [] ⟨hok, hr, hc, by omega⟩
  rw [List.append_nil] at h3
  unfold decP
  rw [if_neg (by rw [e, List.length_append, le8_len]; omega), h1]
  simp only [h2, h3, hd]
  simp
/-- What was read was written. -/
theorem dec_back {u : Un} {l : List Int} (hb : Byt l) (h : decP l = some u) : encR u = (l, 0) ∧ u.rng ∧ u.cnt ≤ 262144 ∧ u.ok 140737488355328 := by
  unfold decP at h
  split at h
  · cases h
  rename_i h0
  split at h
  · cases h
  rename_i a h1
  split at h
  · cases h
  rename_i x r h2
  split at h
  · cases h
  rename_i v rest h3
  split at h
  · rename_i h4
    split at h
    · cases h
    · rename_i h5
      cases h
      have h1' := h1
      unfold unsP at h1
      split at h1
      · cases h1
      · split at h1
        · cases h1
          rename_i h8 h6
          obtain ⟨h7, rfl⟩ := want_rest h2
          have hbr : Byt ((l.take (l.length - 8)).drop (ByteArray.size ⟨#[77, 85, 49, 10]⟩)) := Byt.drop (Byt.take hb _) _
          obtain ⟨e1, e2⟩ := unR_bwd 262145 _ _ _ hbr h3
          obtain rfl : rest = [] := List.eq_nil_of_length_eq_zero h4
          rw [List.append_nil] at e1
          have hm : encM u = l.take (l.length - 8) := by
            have e3 := List.take_append_drop (ByteArray.size ⟨#[77, 85, 49, 10]⟩) (l.take (l.length - 8))
            rw [h7, e1, mark_sB] at e3
            exact e3
          have hl8 : (l.drop (l.length - 8)).length = 8 := by rw [List.length_drop]; omega
          have hw := (le8_word hl8 (Byt.drop hb _)).1
          have hle : (encM u).length = l.length - 8 := by rw [hm, List.length_take]; omega
          have hul : (encU u).length ≤ 262144 := by
            have : (encM u).length = 4 + (encU u).length := by unfold encM; rw [List.length_append]; rfl
            omega
          refine ⟨?_, e2, by have := (szU 262144 u hul).1; omega, (szU 140737488355328 u (by omega)).2⟩
          unfold encR
          rw [if_neg h5, if_pos (by omega), hm, ← h6, hw, List.take_append_drop]
        · cases h1
  · cases h
end Go.Proofs.Ytcjnpaihbebboaa
