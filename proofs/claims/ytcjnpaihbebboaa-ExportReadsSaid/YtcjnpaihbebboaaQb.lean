/-
  The document's writer: texts, bools, depth: walks.
-/
import Derived.Test.YtcjnpaihbebboaaQa
namespace Go.Proofs.Ytcjnpaihbebboaa
open Go.RowKit
set_option linter.unusedVariables false
set_option linter.unusedSimpArgs false

set_option maxRecDepth 100000 in
theorem app_big {w : World} {lo : Nat} {v : Value} {bs : List Int} (hown : w.ownsRow lo 5 1 v bs.length (bs.map (Value.int .u8))) (ty : TypeId) (hn : bs.length ≤ 90000000000000) (hbase : lo ≤ w.heap.size) :
    ∃ v' w', (Builtin.append_ #[29, 3] ty #[v, .int .i64 262145]).run Try.prog w = .ok v' w' ∧ ∃ news : List Int, news.length = 262145 ∧ (∀ x ∈ news, 0 ≤ x ∧ x ≤ 255) ∧ w'.ownsRow lo 5 1 v' (bs.length + news.length) ((bs ++ news).map (Value.int .u8)) ∧ w.grownBy w' v.ownBlock ∧ ∀ q, v'.ownBlock = some q → v.ownBlock = some q ∨ w.heap.size ≤ q := by
  obtain ⟨k, hk⟩ : ∃ k : Nat, k = 262145 := ⟨_, rfl⟩
  obtain ⟨v', w', h1, h2, h3, h4⟩ := app_zeros hown ty k (by omega) (by omega) hbase
  have e : (k : Int) = 262145 := by omega
  rw [e] at h1
  exact ⟨v', w', h1, List.replicate k 0, by rw [List.length_replicate]; exact hk, fun x hx => by rw [List.eq_of_mem_replicate hx]; omega, by rw [List.length_replicate]; exact h2, h3, h4⟩
theorem Wq.cap {w : World} {lo wb : Nat} {A : Option Addr} {c : Nat} {bs : List Int} {dl : Bool} {at_ : Nat} (h : Wq w lo wb A c bs dl at_) : bs.length ≤ c := Bys.cap (.inl h.own)
set_option maxRecDepth 100000 in
set_option maxHeartbeats 4000000 in
theorem text_huge (s : ByteArray) (h0 : 262144 < s.size) (hs : s.size ≤ 140737488355328) (w : World) (lo wb : Nat) (A : Option Addr) (c : Nat) (bs : List Int) (dl : Bool) (at_ : Nat) (h : Wq w lo wb A c bs dl at_) (hf : bs.length ≤ 80000000000000) :
    Calls Try.prog 24 #[.pointer (some ⟨wb, 0, none⟩), .string s] w (PutQ lo wb (Value.slice A bs.length c).ownBlock bs dl at_ (le8 s.size ++ sB s) 2 false w) := by
  have HM := Lib.hid (num_anyQ s.size w lo wb A c bs dl at_ h)
  have s0 : (262144 : Int) < (s.size : Int) := by omega
  have s1 : (s.size : Int) ≤ 140737488355328 := by omega
  have HF := Lib.hid hf
  have HS0 := Lib.hid h0
  clear h hf h0
  go_enter Try.func24, Try.ntmps24
  go_wp2_with (first
    | (at_builtin; refine wpList_app rfl _ _ _ _ rfl _ _ rfl rfl _ (app_big HW1.out.own 29 (by have := HF.out; have := HQ1.out.2.1; omega) HW1.out.lob) ?_; rintro v3 w3 ⟨nw, hnw1, hnw2, ho3, hg3, hn3⟩; obtain ⟨A3, c3, rfl⟩ := own_shape ho3; have hb3 : Blk w3 wb 57 #[.slice A1 b1.length c1, .bool dl1, .int .i64 at_] := HW1.out.blk.grown hg3 (fun e => HW1.out.ne e.symm); have v0 := hb3.cell 0; have vl := hb3.lt; have vf := hb3.frozen 0; have HNW1 := Lib.hid hnw1; have HNW2 := Lib.hid hnw2; have HO3 := Lib.hid ho3; have HG3 := Lib.hid hg3; have HN3 := Lib.hid hn3; clear hnw1 hnw2 ho3 hg3 hn3 hb3)
    | (go_at_call 26; ((with_reducible refine HM.out.mono ?_); rintro e w1 ⟨⟨x, rfl⟩, A1, c1, b1, dl1, hw1, hd1, hn1, hq1⟩); have HW1 := Lib.hid hw1; have HN1 := Lib.hid hn1; have HQ1 := Lib.hid hq1; have HD1 := Lib.hid hd1; have y0 := hw1.blk.cell 0; have yf := hw1.blk.frozen 0; have yl := hw1.blk.lt; clear hw1 hn1 hq1 hd1))
  refine bodyPost_ret (results_none rfl _ _ _) rfl ?_
  have hq := HQ1.out
  have hl := HNW1.out
  have e8 := HS0.out
  refine ⟨⟨_, rfl⟩, A3, c3, b1 ++ nw, dl1, HW1.out.grow HG3.out HO3.out HNW2.out, HD1.out, by rw [List.length_append]; exact HN1.out.trans ⟨(Gr.of_grown (S := fun x => x = wb ∨ (Value.slice A1 b1.length c1).ownBlock = some x) HG3.out (fun k e _ => Or.inr e)).setCell (p := ⟨wb, 0, none⟩) (Or.inr (Or.inl (show wb = wb from rfl))) _, HN3.out⟩, ?_, ?_, fun _ => ⟨fun hk => ?_, fun _ => ?_⟩⟩
  · rw [List.length_append]; have := hq.1; omega
  · rw [List.length_append]; have := hq.2.1; omega
  · rw [List.length_append, sB_len] at hk; omega
  · rw [List.length_append]; omega
set_option maxRecDepth 100000 in
set_option maxHeartbeats 4000000 in
theorem text_room (s : ByteArray) (h0 : s.size ≤ 262144) (w : World) (lo wb : Nat) (A : Option Addr) (c : Nat) (bs : List Int) (dl : Bool) (at_ : Nat) (h : Wq w lo wb A c bs dl at_) (hf : bs.length + 8 ≤ 262144) :
    Calls Try.prog 24 #[.pointer (some ⟨wb, 0, none⟩), .string s] w (PutQ lo wb (Value.slice A bs.length c).ownBlock bs dl at_ (le8 s.size ++ sB s) 2 false w) := by
  have HM := Lib.hid (num_go s.size w lo wb A c bs dl at_ h (by omega))
  have s0 : (s.size : Int) ≤ 262144 := by omega
  have hl8 : (bs ++ le8 (s.size : Int)).length = bs.length + 8 := by rw [List.length_append, le8_len]
  obtain ⟨b1, hb1⟩ : ∃ b, bs ++ le8 (s.size : Int) = b := ⟨_, rfl⟩
  rw [hb1] at HM hl8
  obtain ⟨dl1, hdl1⟩ : ∃ b, dl = b := ⟨_, rfl⟩
  rw [hdl1] at HM
  have HFU := Lib.hid (fun w' A' c' (h' : Wq w' lo wb A' c' b1 dl1 at_) => full_any w' lo wb A' c' b1 dl1 at_ h' false (decide_eq_false (by omega)))
  have HB1 := Lib.hid hb1
  have HL8 := Lib.hid hl8
  have HS0 := Lib.hid h0
  have HF := Lib.hid hf
  have HDL := Lib.hid hdl1
  clear h hf h0 hb1 hl8 hdl1
  go_enter Try.func24, Try.ntmps24
  go_wp2_with (first
    | (at_builtin; refine wpList_app rfl _ _ _ _ rfl _ _ rfl rfl _ (app_text HW1.out.own 29 s (by have := HL8.out; have := HS0.out; have := HF.out; omega) HW1.out.lob) ?_; rintro v3 w3 ⟨ho3, hg3, hn3⟩; obtain ⟨A3, c3, rfl⟩ := own_shape ho3; have hb3 : Blk w3 wb 57 #[.slice A1 b1.length c1, .bool dl1, .int .i64 at_] := HW1.out.blk.grown hg3 (fun e => HW1.out.ne e.symm); have v0 := hb3.cell 0; have vl := hb3.lt; have vf := hb3.frozen 0; have HO3 := Lib.hid ho3; have HG3 := Lib.hid hg3; have HN3 := Lib.hid hn3; clear ho3 hg3 hn3 hb3)
    | (go_at_call 26; ((with_reducible refine HM.out.mono ?_); rintro e w1 ⟨⟨x, rfl⟩, A1, c1, hw1, hn1⟩); have HW1 := Lib.hid hw1; have HN1 := Lib.hid hn1; have y0 := hw1.blk.cell 0; have yf := hw1.blk.frozen 0; have yl := hw1.blk.lt; clear hw1 hn1)
    | (go_at_call 29; ((with_reducible refine (HFU.out _ _ _ HW1.out).mono ?_); rintro e w2 ⟨rfl, rfl⟩)))
  refine bodyPost_end (results_none rfl _ _ _) rfl ?_
  have hb := HB1.out
  have hl := HL8.out
  have hsz := HS0.out
  have hf := HF.out
  have e1 : b1 ++ sB s = bs ++ (le8 (s.size : Int) ++ sB s) := by rw [← hb, List.append_assoc]
  refine ⟨⟨_, rfl⟩, A3, c3, b1 ++ sB s, dl1, HW1.out.grow HG3.out HO3.out (sB_ok s), by rw [HDL.out]; simp, by rw [List.length_append]; exact HN1.out.trans ⟨(Gr.of_grown (S := fun x => x = wb ∨ (Value.slice A1 b1.length c1).ownBlock = some x) HG3.out (fun k e _ => Or.inr e)).setCell (p := ⟨wb, 0, none⟩) (Or.inr (Or.inl (show wb = wb from rfl))) _, HN3.out⟩, ?_, ?_, fun _ => ⟨fun hk => e1, fun hk => ?_⟩⟩
  · rw [List.length_append]; omega
  · rw [List.length_append, sB_len]; omega
  · rw [e1, List.length_append]; omega
set_option maxRecDepth 100000 in
set_option maxHeartbeats 4000000 in
theorem text_stop (s : ByteArray) (h0 : s.size ≤ 262144) (w : World) (lo wb : Nat) (A : Option Addr) (c : Nat) (bs : List Int) (dl : Bool) (at_ : Nat) (h : Wq w lo wb A c bs dl at_) (h1 : bs.length ≤ 262144) (hf : 262144 < bs.length + 8) :
    Calls Try.prog 24 #[.pointer (some ⟨wb, 0, none⟩), .string s] w (PutQ lo wb (Value.slice A bs.length c).ownBlock bs dl at_ (le8 s.size ++ sB s) 2 false w) := by
  have HM := Lib.hid (num_go s.size w lo wb A c bs dl at_ h h1)
  have hl8 : (bs ++ le8 (s.size : Int)).length = bs.length + 8 := by rw [List.length_append, le8_len]
  obtain ⟨b1, hb1⟩ : ∃ b, bs ++ le8 (s.size : Int) = b := ⟨_, rfl⟩
  rw [hb1] at HM hl8
  have HFU := Lib.hid (fun w' A' c' (h' : Wq w' lo wb A' c' b1 dl at_) => full_any w' lo wb A' c' b1 dl at_ h' true (decide_eq_true (by omega)))
  have s0 : (s.size : Int) ≤ 262144 := by omega
  have HL8 := Lib.hid hl8
  have HF := Lib.hid hf
  have HH1 := Lib.hid h1
  clear h hf h0 hb1 hl8 h1
  go_enter Try.func24, Try.ntmps24
  go_wp2_with (first
    | (go_at_call 26; ((with_reducible refine HM.out.mono ?_); rintro e w1 ⟨⟨x, rfl⟩, A1, c1, hw1, hn1⟩); have HW1 := Lib.hid hw1; have HN1 := Lib.hid hn1; clear hw1 hn1)
    | (go_at_call 29; ((with_reducible refine (HFU.out _ _ _ HW1.out).mono ?_); rintro e w2 ⟨rfl, rfl⟩)))
  refine bodyPost_end (results_none rfl _ _ _) rfl ?_
  have hl := HL8.out
  have hf := HF.out
  refine ⟨⟨_, rfl⟩, A1, c1, b1, dl, HW1.out, by simp, HN1.out, by omega, by omega, fun _ => ⟨fun hk => ?_, fun hk => by omega⟩⟩
  rw [List.length_append, le8_len] at hk
  omega
set_option maxRecDepth 100000 in
set_option maxHeartbeats 4000000 in
theorem text_full (s : ByteArray) (h0 : s.size ≤ 262144) (w : World) (lo wb : Nat) (A : Option Addr) (c : Nat) (bs : List Int) (dl : Bool) (at_ : Nat) (h : Wq w lo wb A c bs dl at_) (hf : 262144 < bs.length) :
    Calls Try.prog 24 #[.pointer (some ⟨wb, 0, none⟩), .string s] w (PutQ lo wb (Value.slice A bs.length c).ownBlock bs dl at_ (le8 s.size ++ sB s) 2 false w) := by
  have HM := Lib.hid (num_full s.size w lo wb A c bs dl at_ h hf)
  have hl8 : bs.length = bs.length := rfl
  have HW1 := Lib.hid h
  obtain ⟨b1, hb1⟩ : ∃ b, b = bs := ⟨_, rfl⟩
  rw [← hb1] at hl8
  have HFU := Lib.hid (fun w' A' c' (h' : Wq w' lo wb A' c' bs dl at_) => full_any w' lo wb A' c' bs dl at_ h' true (decide_eq_true (by omega)))
  have s0 : (s.size : Int) ≤ 262144 := by omega
  have HL8 := Lib.hid hl8
  have HF := Lib.hid hf
  have HH1 := Lib.hid hb1
  clear h hf h0 hb1 hl8 
  go_enter Try.func24, Try.ntmps24
  go_wp2_with (first
    | (go_at_call 26; ((with_reducible refine HM.out.mono ?_); rintro e w1 ⟨⟨x, rfl⟩, rfl⟩))
    | (go_at_call 29; ((with_reducible refine (HFU.out _ _ _ HW1.out).mono ?_); rintro e w2 ⟨rfl, rfl⟩)))
  refine bodyPost_end (results_none rfl _ _ _) rfl ?_
  have hf := HF.out
  exact ⟨⟨_, rfl⟩, A, c, bs, dl, HW1.out, by simp, WrN.refl _ _ _, by omega, by omega, fun _ => ⟨fun hk => by omega, fun hk => hf⟩⟩
theorem text_anyQ (s : ByteArray) (hs : s.size ≤ 140737488355328) (w : World) (lo wb : Nat) (A : Option Addr) (c : Nat) (bs : List Int) (dl : Bool) (at_ : Nat) (h : Wq w lo wb A c bs dl at_) (hf : bs.length ≤ 80000000000000) :
    Calls Try.prog 24 #[.pointer (some ⟨wb, 0, none⟩), .string s] w (PutQ lo wb (Value.slice A bs.length c).ownBlock bs dl at_ (le8 s.size ++ sB s) 2 false w) := by
  by_cases h0 : 262144 < s.size
  · exact text_huge s h0 hs w lo wb A c bs dl at_ h hf
  · by_cases h1 : bs.length ≤ 262144
    · by_cases h2 : bs.length + 8 ≤ 262144
      · exact text_room s (by omega) w lo wb A c bs dl at_ h h2
      · exact text_stop s (by omega) w lo wb A c bs dl at_ h h1 (by omega)
    · exact text_full s (by omega) w lo wb A c bs dl at_ h (by omega)
set_option maxRecDepth 100000 in
set_option maxHeartbeats 4000000 in
theorem bool_trueQ (w : World) (lo wb : Nat) (A : Option Addr) (c : Nat) (bs : List Int) (dl : Bool) (at_ : Nat) (h : Wq w lo wb A c bs dl at_) :
    Calls Try.prog 53 #[.pointer (some ⟨wb, 0, none⟩), .bool true] w (PutQ lo wb (Value.slice A bs.length c).ownBlock bs dl at_ (le8 1) 1 false w) := by
  have HM := Lib.hid (num_anyQ 1 w lo wb A c bs dl at_ h)
  clear h
  go_enter Try.func53, Try.ntmps53
  go_wp2_with (go_at_call 26; ((with_reducible refine HM.out.mono ?_); rintro e w1 ⟨⟨x, rfl⟩, hw1⟩); have HW1 := Lib.hid hw1; clear hw1)
  refine bodyPost_end (results_none rfl _ _ _) rfl ?_
  exact ⟨⟨_, rfl⟩, HW1.out⟩
set_option maxRecDepth 100000 in
set_option maxHeartbeats 4000000 in
theorem bool_falseQ (w : World) (lo wb : Nat) (A : Option Addr) (c : Nat) (bs : List Int) (dl : Bool) (at_ : Nat) (h : Wq w lo wb A c bs dl at_) :
    Calls Try.prog 53 #[.pointer (some ⟨wb, 0, none⟩), .bool false] w (PutQ lo wb (Value.slice A bs.length c).ownBlock bs dl at_ (le8 0) 1 false w) := by
  have HM := Lib.hid (num_anyQ 0 w lo wb A c bs dl at_ h)
  clear h
  go_enter Try.func53, Try.ntmps53
  go_wp2_with (go_at_call 26; ((with_reducible refine HM.out.mono ?_); rintro e w1 ⟨⟨x, rfl⟩, hw1⟩); have HW1 := Lib.hid hw1; clear hw1)
  refine bodyPost_end (results_none rfl _ _ _) rfl ?_
  exact ⟨⟨_, rfl⟩, HW1.out⟩
theorem bool_anyQ (b : Bool) (w : World) (lo wb : Nat) (A : Option Addr) (c : Nat) (bs : List Int) (dl : Bool) (at_ : Nat) (h : Wq w lo wb A c bs dl at_) :
    Calls Try.prog 53 #[.pointer (some ⟨wb, 0, none⟩), .bool b] w (PutQ lo wb (Value.slice A bs.length c).ownBlock bs dl at_ (le8 (flagN b)) 1 false w) := by
  cases b with
  | true => exact bool_trueQ w lo wb A c bs dl at_ h
  | false => exact bool_falseQ w lo wb A c bs dl at_ h
set_option maxRecDepth 100000 in
set_option maxHeartbeats 4000000 in
theorem in_ok (w : World) (lo wb : Nat) (A : Option Addr) (c : Nat) (bs : List Int) (dl : Bool) (at_ : Nat) (h : Wq w lo wb A c bs dl at_) (ha : at_ ≤ 100) :
    Calls Try.prog 81 #[.pointer (some ⟨wb, 0, none⟩)] w fun e w' => e = .returned (.bool true) ∧ Wq w' lo wb A c bs dl (at_ + 1) ∧ WrN w w' wb (Value.slice A bs.length c).ownBlock (Value.slice A bs.length c).ownBlock := by
  have b2 := h.blk.cell 2
  have b1' := h.blk.cell 1
  have bl := h.blk.lt
  have bf := h.blk.frozen 2
  have a0 : (0 : Int) ≤ (at_ : Int) := by omega
  have a1 : (at_ : Int) ≤ 100 := by omega
  have HH := Lib.hid h
  clear h ha
  go_enter Try.func81, Try.ntmps81
  go_wp2
  go_ret
  exact ⟨rfl, by simpa using HH.out.goto (at_ + 1), WrN.set_ _ _ _ _ _⟩
set_option maxRecDepth 100000 in
set_option maxHeartbeats 4000000 in
theorem in_deep (w : World) (lo wb : Nat) (A : Option Addr) (c : Nat) (bs : List Int) (dl : Bool) (at_ : Nat) (h : Wq w lo wb A c bs dl at_) (ha : at_ = 101) :
    Calls Try.prog 81 #[.pointer (some ⟨wb, 0, none⟩)] w fun e w' => e = .returned (.bool false) ∧ Wq w' lo wb A c bs true (at_ + 1) ∧ WrN w w' wb (Value.slice A bs.length c).ownBlock (Value.slice A bs.length c).ownBlock := by
  subst ha
  have b2 := h.blk.cell 2
  have b1' := h.blk.cell 1
  have bl := h.blk.lt
  have bf := h.blk.frozen 2
  have bf1 := h.blk.frozen 1
  have HH := Lib.hid h
  clear h
  go_enter Try.func81, Try.ntmps81
  go_wp2
  go_ret
  exact ⟨rfl, by simpa using (HH.out.goto 102).flag true, (WrN.set_ _ _ _ _ _).trans (WrN.set_ _ _ _ _ _)⟩
end Go.Proofs.Ytcjnpaihbebboaa
