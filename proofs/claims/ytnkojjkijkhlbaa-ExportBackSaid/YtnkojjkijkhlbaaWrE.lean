/-
  The writer's parts, whether there is room or not: walks.
-/
import Derived.Test.YtnkojjkijkhlbaaWrC
namespace Go.Proofs.Ytnkojjkijkhlbaa
open Go.RowKit
set_option linter.unusedVariables false
set_option linter.unusedSimpArgs false

/-- So much was put, or there was no room. -/
def PutP (lo wb : Nat) (o : Option Nat) (bs : List Int) (lg : Bool) (out : List Int) (w : World) (e : Ending) (w' : World) : Prop :=
  (∃ x, e = .returned x) ∧ ∃ A c bs' lg', Wr w' lo wb A c bs' lg' ∧ WrN w w' wb o (Value.slice A bs'.length c).ownBlock ∧
    ((lg = false ∧ bs.length + out.length ≤ 262144) → bs' = bs ++ out ∧ lg' = false) ∧ (¬ (lg = false ∧ bs.length + out.length ≤ 262144) → lg' = true)
/-- One part behind another. -/
theorem PutP.rule {bs bs1 bs2 o1 o2 : List Int} {lg lg1 lg2 : Bool}
    (h1 : (lg = false ∧ bs.length + o1.length ≤ 262144) → bs1 = bs ++ o1 ∧ lg1 = false) (h1' : ¬ (lg = false ∧ bs.length + o1.length ≤ 262144) → lg1 = true)
    (h2 : (lg1 = false ∧ bs1.length + o2.length ≤ 262144) → bs2 = bs1 ++ o2 ∧ lg2 = false) (h2' : ¬ (lg1 = false ∧ bs1.length + o2.length ≤ 262144) → lg2 = true) :
    ((lg = false ∧ bs.length + (o1 ++ o2).length ≤ 262144) → bs2 = bs ++ (o1 ++ o2) ∧ lg2 = false) ∧ (¬ (lg = false ∧ bs.length + (o1 ++ o2).length ≤ 262144) → lg2 = true) := by
  rw [List.length_append]
  constructor
  · rintro ⟨e, h⟩
    obtain ⟨rfl, e1⟩ := h1 ⟨e, by omega⟩
    obtain ⟨rfl, e2⟩ := h2 ⟨e1, by rw [List.length_append]; omega⟩
    exact ⟨by rw [List.append_assoc], e2⟩
  · intro h
    by_cases k : lg = false ∧ bs.length + o1.length ≤ 262144
    · obtain ⟨rfl, e1⟩ := h1 k
      refine h2' (fun ⟨_, q⟩ => h ⟨k.1, ?_⟩)
      rw [List.length_append] at q
      omega
    · have := h1' k
      exact h2' (fun ⟨q, _⟩ => by rw [this] at q; cases q)
theorem le8_len (v : Int) : (le8 v).length = 8 := by unfold le8; rw [bytesTo_len]
set_option maxRecDepth 100000 in
set_option maxHeartbeats 2000000 in
theorem word_long (v : Int) (w : World) (lo wb : Nat) (A : Option Addr) (c : Nat) (bs : List Int) (lg : Bool) (h : Wr w lo wb A c bs lg) (hrm : roomP 8 bs lg = true) :
    Calls Try.prog 23 #[.pointer (some ⟨wb, 0, none⟩), .int .i64 v] w fun e w' => (∃ x, e = .returned x) ∧ Wr w' lo wb A c bs true ∧ WrN w w' wb (Value.slice A bs.length c).ownBlock (Value.slice A bs.length c).ownBlock := by
  have HR := Lib.hid (room_any 8 w lo wb A c bs lg h)
  rw [hrm] at HR
  clear hrm h
  go_enter Try.func23, Try.ntmps23
  go_wp2_with (go_at_call 51; ((with_reducible refine HR.out.mono ?_); rintro e w1 ⟨rfl, hw1, hn1⟩); have HW1 := Lib.hid hw1; have HN1 := Lib.hid hn1; clear hw1 hn1)
  refine bodyPost_ret (results_none rfl _ _ _) rfl ?_
  exact ⟨⟨_, rfl⟩, HW1.out, HN1.out⟩
theorem word_any (v : Int) (w : World) (lo wb : Nat) (A : Option Addr) (c : Nat) (bs : List Int) (lg : Bool) (h : Wr w lo wb A c bs lg) :
    Calls Try.prog 23 #[.pointer (some ⟨wb, 0, none⟩), .int .i64 v] w (PutP lo wb (Value.slice A bs.length c).ownBlock bs lg (le8 v) w) := by
  by_cases k : lg = false ∧ bs.length + 8 ≤ 262144
  · obtain ⟨rfl, k⟩ := k
    refine (word_some v w lo wb A c bs h k).mono ?_
    rintro e w' ⟨he, A', c', h1, h2⟩
    exact ⟨he, A', c', _, _, h1, h2, fun _ => ⟨rfl, rfl⟩, fun q => absurd ⟨rfl, by rw [le8_len]; exact k⟩ q⟩
  · have hrm : roomP 8 bs lg = true := by
      unfold roomP
      cases lg with
      | true => simp
      | false =>
        have : ¬ bs.length + 8 ≤ 262144 := fun q => k ⟨rfl, q⟩
        rw [Bool.or_false]
        exact decide_eq_true (by omega)
    refine (word_long v w lo wb A c bs lg h hrm).mono ?_
    rintro e w' ⟨he, h1, h2⟩
    exact ⟨he, A, c, _, _, h1, h2, fun q => absurd ⟨q.1, by have := q.2; rw [le8_len] at this; exact this⟩ k, fun _ => rfl⟩
set_option maxRecDepth 100000 in
set_option maxHeartbeats 2000000 in
theorem number_any (v : Int) (w : World) (lo wb : Nat) (A : Option Addr) (c : Nat) (bs : List Int) (lg : Bool) (h : Wr w lo wb A c bs lg) :
    Calls Try.prog 74 #[.pointer (some ⟨wb, 0, none⟩), .int .i64 v] w (PutP lo wb (Value.slice A bs.length c).ownBlock bs lg (le8 v) w) := by
  have HR := Lib.hid (word_any v w lo wb A c bs lg h)
  clear h
  go_enter Try.func74, Try.ntmps74
  go_wp2_with (go_at_call 23; ((with_reducible refine HR.out.mono ?_); rintro e w1 ⟨⟨x, rfl⟩, hw1⟩); have HW1 := Lib.hid hw1; clear hw1)
  refine bodyPost_end (results_none rfl _ _ _) rfl ?_
  exact ⟨⟨_, rfl⟩, HW1.out⟩
set_option maxRecDepth 100000 in
set_option maxHeartbeats 2000000 in
theorem flag_any (v : Bool) (w : World) (lo wb : Nat) (A : Option Addr) (c : Nat) (bs : List Int) (lg : Bool) (h : Wr w lo wb A c bs lg) :
    Calls Try.prog 78 #[.pointer (some ⟨wb, 0, none⟩), .bool v] w (PutP lo wb (Value.slice A bs.length c).ownBlock bs lg (le8 (if v then 1 else 0)) w) := by
  cases v with
  | true =>
    have HR := Lib.hid (word_any 1 w lo wb A c bs lg h)
    clear h
    go_enter Try.func78, Try.ntmps78
    go_wp2_with (go_at_call 23; ((with_reducible refine HR.out.mono ?_); rintro e w1 ⟨⟨x, rfl⟩, hw1⟩); have HW1 := Lib.hid hw1; clear hw1)
    refine bodyPost_end (results_none rfl _ _ _) rfl ?_
    exact ⟨⟨_, rfl⟩, HW1.out⟩
  | false =>
    have HR := Lib.hid (word_any 0 w lo wb A c bs lg h)
    clear h
    go_enter Try.func78, Try.ntmps78
    go_wp2_with (go_at_call 23; ((with_reducible refine HR.out.mono ?_); rintro e w1 ⟨⟨x, rfl⟩, hw1⟩); have HW1 := Lib.hid hw1; clear hw1)
    refine bodyPost_end (results_none rfl _ _ _) rfl ?_
    exact ⟨⟨_, rfl⟩, HW1.out⟩
set_option maxRecDepth 100000 in
set_option maxHeartbeats 2000000 in
theorem text_long (s : ByteArray) (hs : s.size ≤ 140737488355328) (w : World) (lo wb : Nat) (A : Option Addr) (c : Nat) (bs : List Int) (lg : Bool) (h : Wr w lo wb A c bs lg) (hno : ¬ (lg = false ∧ bs.length + (8 + s.size) ≤ 262144)) :
    Calls Try.prog 44 #[.pointer (some ⟨wb, 0, none⟩), .string s] w fun e w' => (∃ x, e = .returned x) ∧ ∃ A' c' bs', Wr w' lo wb A' c' bs' true ∧ WrN w w' wb (Value.slice A bs.length c).ownBlock (Value.slice A' bs'.length c').ownBlock := by
  have HR := Lib.hid (number_any s.size w lo wb A c bs lg h)
  have hrm : ∀ bs1 lg1, ((lg = false ∧ bs.length + (le8 (s.size : Int)).length ≤ 262144) → bs1 = bs ++ le8 (s.size : Int) ∧ lg1 = false) → (¬ (lg = false ∧ bs.length + (le8 (s.size : Int)).length ≤ 262144) → lg1 = true) → roomP s.size bs1 lg1 = true := by
    intro bs1 lg1 h1 h2
    rw [le8_len] at h1 h2
    by_cases k : lg = false ∧ bs.length + 8 ≤ 262144
    · obtain ⟨rfl, rfl⟩ := h1 k
      have : ¬ bs.length + (8 + s.size) ≤ 262144 := fun q => hno ⟨k.1, q⟩
      unfold roomP
      rw [Bool.or_false, List.length_append, le8_len]
      exact decide_eq_true (by omega)
    · rw [h2 k]; simp [roomP]
  have HQ := Lib.hid hrm
  have s0 : (0 : Int) ≤ (s.size : Int) := by omega
  have s1 : (s.size : Int) ≤ 140737488355328 := by omega
  clear h hno hrm
  go_enter Try.func44, Try.ntmps44
  go_wp2_with (first
    | (go_at_call 74; ((with_reducible refine HR.out.mono ?_); rintro e w1 ⟨⟨x, rfl⟩, A1, c1, b1, l1, hw1, hn1, hf1, hl1⟩); have HM := Lib.hid (room_any s.size w1 lo wb A1 c1 b1 l1 hw1); rw [HQ.out _ _ hf1 hl1] at HM; have HN1 := Lib.hid hn1; clear hw1 hn1 hf1 hl1)
    | (go_at_call 51; ((with_reducible refine HM.out.mono ?_); rintro e w2 ⟨rfl, hw2, hn2⟩); have HW2 := Lib.hid hw2; have HN2 := Lib.hid (HN1.out.trans hn2); clear hw2 hn2))
  refine bodyPost_end (results_none rfl _ _ _) rfl ?_
  exact ⟨⟨_, rfl⟩, A1, c1, b1, HW2.out, HN2.out⟩
theorem Bys.cap {w : World} {lo : Nat} {A : Option Addr} {n c : Nat} {xs : List Value} (h : Bys w lo (.slice A n c) n xs) : n ≤ c := by
  rcases h with h | ⟨g, cs, fr, e, _⟩
  · rcases h.2 with ⟨e, _⟩ | ⟨g, cap, cur, e, _, _, hnc, _⟩
    · injection e with _ e1 e2; omega
    · injection e with _ e1 e2; omega
  · injection e with _ e1 e2; omega
theorem app_empty (w : World) (A : Option Addr) (n c : Nat) (hc : n ≤ c) (ty : TypeId) (s : ByteArray) (hs : s.size = 0) :
    ∃ v' w', (Builtin.append_ #[29, 9] ty #[.slice A n c, .string s]).run Try.prog w = .ok v' w' ∧ (v' = .slice A n c ∧ w' = w) := by
  refine ⟨_, _, ?_, rfl, rfl⟩
  have hz : (Try.prog.info? 5).map (fun i => i.size) = some 1 := by kernel_rfl
  obtain ⟨i, hi, hsize⟩ := Option.map_eq_some_iff.1 hz
  have hf := Lib.run_firstCells_string (P := Try.prog) w 1 s
  have hn : Lib.strCells s = [] := List.eq_nil_of_length_eq_zero (by rw [Lib.strCells_length]; exact hs)
  rw [hs, hn] at hf
  cases A <;> simp [Builtin.append_, run_underlying Try.underlying29, run_underlying Try.underlying9, sizeOf, typeInfo, hi, hsize, Builtin.lenOf, hs, hf, hc, storeCells]
theorem Wr.same {w : World} {lo wb : Nat} {A : Option Addr} {c : Nat} {bs : List Int} {lg : Bool} (h : Wr w lo wb A c bs lg) : Wr (w.setCell ⟨wb, 0, none⟩ (.slice A bs.length c)) lo wb A c bs lg := by
  refine ⟨h.blk.set_ 0 (.slice A bs.length c), ?_, by simpa using h.lob, h.by_, h.few⟩
  have hg : w.grownBy (w.setCell ⟨wb, 0, none⟩ (.slice A bs.length c)) (some wb) := ⟨rfl, rfl, rfl, by simp, fun k hk hn => Below.heap_setCell w ⟨wb, 0, none⟩ _ k (fun e => hn (by rw [e]))⟩
  exact h.own.kept hg (Or.inr h.ne)
set_option maxRecDepth 100000 in
set_option maxHeartbeats 2000000 in
theorem text_empty (s : ByteArray) (hs0 : s.size = 0) (w : World) (lo wb : Nat) (A : Option Addr) (c : Nat) (bs : List Int) (h : Wr w lo wb A c bs false) (hroom : bs.length + 8 ≤ 262144) :
    Calls Try.prog 44 #[.pointer (some ⟨wb, 0, none⟩), .string s] w (WP lo wb (Value.slice A bs.length c).ownBlock (bs ++ le8 0) w) := by
  have HR := Lib.hid (number_some 0 w lo wb A c bs h hroom)
  have hlen : (bs ++ le8 0).length = bs.length + 8 := by rw [List.length_append, le8_len]
  have HRM := Lib.hid (fun w' A' c' (h' : Wr w' lo wb A' c' (bs ++ le8 0) false) => room_any 0 w' lo wb A' c' (bs ++ le8 0) false h')
  have hrm : roomP 0 (bs ++ le8 0) false = false := by simp [roomP, hlen]; omega
  rw [hrm] at HRM
  obtain ⟨b8, hb8⟩ : ∃ b, bs ++ le8 0 = b := ⟨_, rfl⟩
  rw [hb8] at HR HRM hlen ⊢
  obtain rfl : s = ⟨#[]⟩ := by
    obtain ⟨d⟩ := s
    have : d.size = 0 := hs0
    rw [Array.eq_empty_of_size_eq_zero this]
  clear h hrm hlen hb8
  go_enter Try.func44, Try.ntmps44
  go_wp2_with (first
    | (at_builtin; refine wpList_app rfl _ _ _ _ rfl _ _ rfl rfl _ (app_empty w2 A1 b8.length c1 HW2.out.own.cap 29 ⟨#[]⟩ rfl) ?_; rintro v3 w3 ⟨rfl, rfl⟩)
    | (go_at_call 74; ((with_reducible refine HR.out.mono ?_); rintro e w1 ⟨⟨x, rfl⟩, A1, c1, hw1, hn1⟩); have HW1 := Lib.hid hw1; have HN1 := Lib.hid hn1; clear hw1 hn1)
    | (go_at_call 51; ((with_reducible refine (HRM.out _ _ _ HW1.out).mono ?_); rintro e w2 ⟨rfl, hw2, hn2⟩); have HW2 := Lib.hid hw2; have HN2 := Lib.hid (HN1.out.trans hn2); have y0 := hw2.blk.cell 0; have yf := hw2.blk.frozen 0; have yl := hw2.blk.lt; clear hw2 hn2))
  refine bodyPost_end (results_none rfl _ _ _) rfl ?_
  exact ⟨⟨_, rfl⟩, A1, c1, HW2.out.same, HN2.out.trans ⟨(Gr.refl _).setCell (p := ⟨wb, 0, none⟩) (Or.inr (Or.inl (show wb = wb from rfl))) _, fun _ h => .inl h⟩⟩
theorem text_any (s : ByteArray) (hs : s.size ≤ 140737488355328) (w : World) (lo wb : Nat) (A : Option Addr) (c : Nat) (bs : List Int) (lg : Bool) (h : Wr w lo wb A c bs lg) :
    Calls Try.prog 44 #[.pointer (some ⟨wb, 0, none⟩), .string s] w (PutP lo wb (Value.slice A bs.length c).ownBlock bs lg (le8 s.size ++ sB s) w) := by
  have hl : (le8 (s.size : Int) ++ sB s).length = 8 + s.size := by rw [List.length_append, le8_len, sB_len]
  by_cases k : lg = false ∧ bs.length + (8 + s.size) ≤ 262144
  · obtain ⟨rfl, k⟩ := k
    by_cases h0 : s.size = 0
    · have es0 : sB s = [] := List.eq_nil_of_length_eq_zero (by rw [sB_len]; exact h0)
      refine (text_empty s h0 w lo wb A c bs h (by omega)).mono ?_
      rintro e w' ⟨he, A', c', h1, h2⟩
      refine ⟨he, A', c', _, _, h1, h2, fun _ => ⟨?_, rfl⟩, fun q => absurd ⟨rfl, by rw [hl]; exact k⟩ q⟩
      rw [es0, List.append_nil, h0]; rfl
    · refine (text_some s (by omega) w lo wb A c bs h (by omega)).mono ?_
      rintro e w' ⟨he, A', c', h1, h2⟩
      exact ⟨he, A', c', _, _, h1, h2, fun _ => ⟨by rw [List.append_assoc], rfl⟩, fun q => absurd ⟨rfl, by rw [hl]; exact k⟩ q⟩
  · refine (text_long s hs w lo wb A c bs lg h k).mono ?_
    rintro e w' ⟨he, A', c', bs', h1, h2⟩
    exact ⟨he, A', c', bs', _, h1, h2, fun q => absurd ⟨q.1, by have := q.2; rw [hl] at this; exact this⟩ k, fun _ => rfl⟩
end Go.Proofs.Ytnkojjkijkhlbaa
