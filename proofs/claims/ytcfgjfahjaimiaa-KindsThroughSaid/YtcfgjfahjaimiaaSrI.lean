/-
  The stable sort: what it makes of a row.
-/
import Derived.Test.YtcfgjfahjaimiaaSrG
import Derived.Test.YtcfgjfahjaimiaaSrH
import Derived.Test.YtcfgjfahjaimiaaUl
namespace Go.Proofs.Ytcfgjfahjaimiaa
open Go.RowKit
set_option linter.unusedVariables false
set_option linter.unusedSimpArgs false

theorem sym_all : ∀ N : Nat, SymC N
  | 0 => fun x y u v w F g n cap hn hn2 h hu0 hv0 su sv hap a m b ha hm hb hN => by omega
  | N + 1 => fun x y u v w F g n cap hn hn2 h hu0 hv0 su sv hap a m b ha hm hb hN => by
    rcases Nat.lt_or_ge 1 u.length with h1 | h1
    · rcases Nat.lt_or_ge 1 v.length with h2 | h2
      · obtain ⟨md, hmd⟩ : ∃ k, (a + b) / 2 = k := ⟨_, rfl⟩
        rcases Nat.lt_or_ge md m with h3 | h3
        · exact sym3a_any N (sym_all N) x y u v w F g n cap hn hn2 h hu0 hv0 su sv hap a m b ha hm hb h1 h2 hN md (by omega) h3
        · exact sym3b_any N (sym_all N) x y u v w F g n cap hn hn2 h hu0 hv0 su sv hap a m b ha hm hb h1 h2 hN md (by omega) h3
      · obtain ⟨e, rfl⟩ : ∃ e, v = [e] := by
          cases v with
          | nil => simp at hv0
          | cons e v => cases v with
            | nil => exact ⟨e, rfl⟩
            | cons z v => simp at h2
        exact sym2_any x y u e w F g n cap hn hn2 h hu0 su hap a m b ha hm hb h1
    · obtain ⟨e, rfl⟩ : ∃ e, u = [e] := by
        cases u with
        | nil => simp at hu0
        | cons e u => cases u with
          | nil => exact ⟨e, rfl⟩
          | cons z u => simp at h1
      exact sym1_any x y e v w F g n cap hn hn2 h hv0 sv hap a m b ha hm hb

def fl (bl : List TF) : TF := bl.flatten
theorem fl_app (a b : List TF) : fl (a ++ b) = fl a ++ fl b := List.flatten_append
theorem fl_cons (a : TF) (b : List TF) : fl (a :: b) = a ++ fl b := rfl
theorem fl_nil : fl [] = [] := rfl
theorem szs_two {k : Nat} {t : List TF} (h : Srt.Szs k t) (hl : 2 * k ≤ (fl t).length) (hk : 0 < k) : ∃ u v r, t = u :: v :: r ∧ u.length = k ∧ v.length = k ∧ Srt.Szs k r := by
  match t, h with
  | [], _ => simp [fl] at hl; omega
  | [u], h => have := h.2; simp [fl] at hl; omega
  | [u, v], h =>
    have h1 := h.1
    have h2 := h.2.2
    simp [fl] at hl
    exact ⟨u, v, [], rfl, h1, by omega, trivial⟩
  | u :: v :: z :: r, h => exact ⟨u, v, z :: r, rfl, h.1, h.2.1, h.2.2⟩
theorem szs_rest {k : Nat} {t : List TF} (h : Srt.Szs k t) (hl : (fl t).length < 2 * k) (hk : 0 < k) : t = [] ∨ (∃ u, t = [u] ∧ 0 < u.length ∧ u.length ≤ k) ∨ ∃ u v, t = [u, v] ∧ u.length = k ∧ 0 < v.length := by
  match t, h with
  | [], _ => exact .inl rfl
  | [u], h => exact .inr (.inl ⟨u, rfl, h.1, h.2⟩)
  | [u, v], h => exact .inr (.inr ⟨u, v, rfl, h.1, h.2.1⟩)
  | u :: v :: z :: r, h =>
    have h1 := h.1
    have h2 := h.2.1
    simp [fl] at hl
    omega
theorem szs_end {k : Nat} {t : List TF} (h : Srt.Szs k t) (hl : (fl t).length ≤ k) (hk : 0 < k) : t = [] ∨ ∃ u, t = [u] := by
  rcases szs_rest h (by omega) hk with h | ⟨u, h, _⟩ | ⟨u, v, rfl, h1, h2⟩
  · exact .inl h
  · exact .inr ⟨u, h⟩
  · simp [fl] at hl; omega
theorem szs_all {k : Nat} : ∀ {d : List TF}, (∀ b ∈ d, b.length = k) → 0 < k → Srt.Szs k d
  | [], _, _ => trivial
  | [b], h, hk => by have := h b (by simp); exact ⟨by omega, by omega⟩
  | b :: c :: r, h, hk => ⟨h b (by simp), szs_all (fun x hx => h x (by simp [hx])) hk⟩
theorem szs_snoc {k : Nat} {s : TF} (h1 : 0 < s.length) (h2 : s.length ≤ k) : ∀ {d : List TF}, (∀ b ∈ d, b.length = k) → Srt.Szs k (d ++ [s])
  | [], _ => ⟨h1, h2⟩
  | [b], h => ⟨h b (by simp), h1, h2⟩
  | b :: c :: r, h => ⟨h b (by simp), szs_snoc h1 h2 (d := c :: r) (fun x hx => h x (by simp [hx]))⟩
theorem bks_snoc {bl : List TF} {s t1 r1 r2 : TF} (h : Srt.Bks ltF bl) (hp : (fl bl).Perm t1) (hs : s.Perm r1) (hd : Srt.Sd ltF s) (ht : (t1 ++ (r1 ++ r2)).Pairwise (fun a b => a.1 < b.1)) : Srt.Bks ltF (bl ++ [s]) := by
  refine ⟨fun b hb => ?_, List.pairwise_append.2 ⟨h.ap, List.pairwise_singleton _ _, fun b hb c hc => ?_⟩⟩
  · rcases List.mem_append.1 hb with hb | hb
    · exact h.sd b hb
    · rw [List.mem_singleton.1 hb]; exact hd
  · rw [List.mem_singleton.1 hc]
    intro x hx y hy
    have hx1 : x ∈ t1 := hp.mem_iff.1 (List.mem_flatten.2 ⟨b, hb, hx⟩)
    exact (List.pairwise_append.1 ht).2.2 x hx1 y (List.mem_append.2 (.inl (hs.mem_iff.1 hy)))
theorem fl_len {k : Nat} : ∀ {d : List TF}, (∀ b ∈ d, b.length = k) → (fl d).length = d.length * k
  | [], _ => by simp [fl]
  | b :: r, h => by
    rw [fl_cons, List.length_append, h b (by simp), fl_len (fun x hx => h x (by simp [hx])), List.length_cons, Nat.add_mul]
    omega
/-- The rows of a pass. -/
structure PassP (F : Nat → Prop) (g : Nat) (T : TF) (bl : List TF) (w w' : World) : Prop where
  bks : Srt.Bks ltF bl
  perm : (fl bl).Perm T
  gr : Gr (fun x => x = g) w w'
  fd : FdT w' F g (sn (fl bl))
set_option maxRecDepth 100000 in
set_option maxHeartbeats 8000000 in
theorem stable_any (l : List Fi) (w : World) (F : Nat → Prop) (g n cap : Nat) (hn : l.length = n) (hn0 : 0 < n) (hn2 : n ≤ 100000) (h : FdT w F g l) :
    Calls Try.prog 67 #[.slice (some ⟨g, 0, none⟩) n cap, .int .i64 n, .func (Fn.func 50) #[] #[]] w fun e w' => e = .returned (.tuple #[]) ∧ SrtP F g (Srt.isort ltF l) w w' := by
  obtain ⟨T, hT⟩ : ∃ T : TF, Srt.tag 0 l = T := ⟨_, rfl⟩
  have hTs : sn T = l := by rw [← hT]; exact Srt.tag_snd 0 l
  have hTr : T.Pairwise (fun a b => a.1 < b.1) := by rw [← hT]; exact Srt.tag_rise 0 l
  have hTl : T.length = n := by rw [← hT, Srt.tag_len]; exact hn
  have HFIN := Lib.hid (fun (t : TF) (hp : t.Perm T) (hd : Srt.Sd ltF t) => (show sn t = Srt.isort ltF l from Srt.is_isort weakF (by rw [hT]; exact hp) hd))
  have HT := Lib.hid (And.intro hTr hTl)
  have HF0 := Lib.hid (show FdT w F g (sn (fl []) ++ sn T) by rw [hTs]; exact h)
  have HN := Lib.hid (And.intro hn0 hn2)
  have n2 : (n : Int) ≤ 100000 := by omega
  clear hT hTs hTr hTl hn hn0 hn2 h
  go_enter Try.func67, Try.ntmps67
  go_wp2
  go_loopg [7, 8] n (fun gk v7 v8 wr => ∃ (a b : Nat) (bl : List TF) (t1 r : TF), gk = r.length ∧ v7 = .int .i64 a ∧ v8 = .int .i64 b ∧ b = a + 20 ∧ (∀ b ∈ bl, b.length = 20) ∧ (fl bl).length = a ∧ t1.length = a ∧ T = t1 ++ r ∧ (fl bl).Perm t1 ∧ Srt.Bks ltF bl ∧ Gr (fun x => x = g) w wr ∧ FdT wr F g (sn (fl bl) ++ sn r))
  case atStart => exact ⟨0, 20, [], [], T, HT.out.2.symm, rfl, rfl, rfl, (fun b hb => by cases hb), rfl, rfl, rfl, .refl _, ⟨(fun b hb => by cases hb), .nil⟩, Gr.refl w, HF0.out⟩
  case round =>
    obtain ⟨a, b, bl, t1, r, rfl, rfl, rfl, hb20, hbl, hfl, ht1, hTe, hperm, hbks, hgr, hfd⟩ := hrel
    obtain ⟨tr, tl⟩ := HT.out
    obtain ⟨n0, nn2⟩ := HN.out
    have tl2 := tl
    rw [hTe, List.length_append] at tl2
    have HG := Lib.hid hgr
    have wb : IntKind.i64.wrap (b : Int) = (b : Int) := wrap_nat (by omega)
    rcases Nat.lt_or_ge n b with hlt | hge
    · -- the last block
      have f1 : ¬ (b : Int) ≤ (n : Int) := by omega
      have f2 : decide (b ≤ n) = false := decide_eq_false (by omega)
      have hI : Calls Try.prog 77 #[.slice (some ⟨g, 0, none⟩) n cap, .int .i64 a, .int .i64 n, .func (Fn.func 50) #[] #[]] wr (fun e w' => e = .returned (.tuple #[]) ∧ ∃ bl', Srt.Szs 20 bl' ∧ PassP F g T bl' w w') := by
        rcases Nat.eq_zero_or_pos r.length with h0 | h0
        · obtain rfl : r = [] := List.length_eq_zero_iff.1 h0
          have e : n = a := by simp at tl2; omega
          rw [e]
          refine (ins_none [] [] wr F g a cap (some ⟨g, 0, none⟩) a (by omega)).mono ?_
          rintro x w' ⟨rfl, rfl⟩
          exact ⟨rfl, bl, szs_all hbl (by omega), ⟨hbks, by rw [hTe, List.append_nil]; exact hperm, hgr, by simpa [sn] using hfd⟩⟩
        · refine (ins_any (sn (fl bl)) [] r wr F g n cap (by simp only [List.length_append, sn_len, List.length_nil]; omega) nn2 (by simpa using hfd) h0 (by rw [hTe] at tr; exact (List.pairwise_append.1 tr).2.1) a n (by rw [sn_len]; omega) (by rw [sn_len]; omega)).mono ?_
          rintro x w' ⟨rfl, s, hp, hd, hs⟩
          have hsl := hp.length_eq
          refine ⟨rfl, bl ++ [s], szs_snoc (by omega) (by omega) hbl, ⟨bks_snoc (r2 := []) hbks hperm hp hd (by rw [hTe] at tr; simpa using tr), by rw [fl_app, hTe]; exact hperm.append (by simpa [fl] using hp), hgr.trans hs.1, by rw [fl_app, sn_app]; simpa [fl] using hs.2⟩⟩
      have HI := Lib.hid hI
      clear hlt hbl hfl ht1 hTe hperm hbks hgr hfd tr tl tl2 n0 nn2 hI hb20
      go_wp2_with (go_at_call 77; (with_reducible refine HI.out.mono ?_); rintro e w5 ⟨rfl, bl5, hz5, hp5⟩; have HP5 := Lib.hid (And.intro hz5 hp5); clear hz5 hp5)
      go_loopg [6, 7, 8, 9] (n - 20) (fun gk v6 v7 v8 v9 wr => ∃ (k : Nat) (bl : List TF), gk = n - k ∧ v6 = .int .i64 k ∧ 0 < k ∧ k ≤ 200000 ∧ Srt.Szs k bl ∧ PassP F g T bl w wr)
      case atStart => exact ⟨20, bl5, rfl, rfl, by omega, by omega, HP5.out.1, HP5.out.2⟩
      case round =>
        obtain ⟨k, bl6, rfl, rfl, hk, hk2, hz6, hp6⟩ := hrel
        obtain ⟨tr, tl⟩ := HT.out
        obtain ⟨n0, nn2⟩ := HN.out
        have hln := hp6.perm.length_eq
        rcases Nat.lt_or_ge k n with hkn | hkn
        · have f1 : (k : Int) < (n : Int) := by omega
          have f2 : decide (k < n) = true := decide_eq_true hkn
          obtain ⟨d, hd⟩ : ∃ d, 2 * k = d := ⟨_, rfl⟩
          have e1 : 2 * (k : Int) = (d : Int) := by omega
          have e2 : (k : Int) * 2 = (d : Int) := by omega
          have wd : IntKind.i64.wrap (d : Int) = (d : Int) := wrap_nat (by omega)
          have HK := Lib.hid (show 2 * k = d ∧ 0 < k ∧ k < n ∧ 0 < n ∧ n ≤ 100000 from ⟨hd, hk, hkn, n0, nn2⟩)
          have HP6 := Lib.hid (And.intro hz6 hp6)
          have HLN := Lib.hid (show (fl bl6).length = n by omega)
          clear hd hk hk2 hz6 hp6 tr tl n0 nn2 hln hkn wb
          go_wp2
          go_loopg [7, 8] n (fun gk v7 v8 wr => ∃ (a b : Nat) (dn td : List TF), gk = (fl td).length ∧ v7 = .int .i64 a ∧ v8 = .int .i64 b ∧ b = a + d ∧ (∀ b ∈ dn, b.length = d) ∧ (fl dn).length = a ∧ a + (fl td).length = n ∧ Srt.Szs k td ∧ PassP F g T (dn ++ td) w wr)
          case atStart => exact ⟨0, d, [], bl6, HLN.out.symm, rfl, rfl, by omega, (fun b hb => by cases hb), rfl, by have := HLN.out; omega, HP6.out.1, HP6.out.2⟩
          case round =>
            obtain ⟨a, b, dn, td, rfl, rfl, rfl, hb, hdn, hfl, hln, hz, hp⟩ := hrel
            obtain ⟨k1, k2, k3, k4, k5⟩ := HK.out
            have wb2 : IntKind.i64.wrap (b : Int) = (b : Int) := wrap_nat (by omega)
            obtain ⟨m, hm⟩ : ∃ m, a + k = m := ⟨_, rfl⟩
            have em : (a : Int) + (k : Int) = (m : Int) := by omega
            have wm : IntKind.i64.wrap (m : Int) = (m : Int) := wrap_nat (by omega)
            rcases Nat.lt_or_ge n b with hlt | hge
            · have f3 : ¬ (b : Int) ≤ (n : Int) := by omega
              have f4 : decide (b ≤ n) = false := decide_eq_false (by omega)
              rcases szs_rest hz (by omega) k2 with rfl | ⟨u, rfl, hu1, hu2⟩ | ⟨u, v, rfl, hu, hv⟩
              · have f5 : ¬ (m : Int) < (n : Int) := by simp [fl] at hln; omega
                have f6 : decide (m < n) = false := decide_eq_false (by simp [fl] at hln; omega)
                have HE := Lib.hid (show Srt.Szs d dn ∧ PassP F g T dn w wr from ⟨szs_all hdn (by omega), by simpa using hp⟩)
                clear hb hdn hfl hln hz hp k1 k2 k3 k4 k5 hm hlt e1
                go_wp2
                go_roundg (n - d)
                case measure => have := HK.out; omega
                case rel => exact ⟨d, dn, rfl, rfl, by have := HK.out; omega, by have := HK.out; omega, HE.out.1, HE.out.2⟩
              · have f5 : ¬ (m : Int) < (n : Int) := by simp [fl] at hln; omega
                have f6 : decide (m < n) = false := decide_eq_false (by simp [fl] at hln; omega)
                have HE := Lib.hid (show Srt.Szs d (dn ++ [u]) ∧ PassP F g T (dn ++ [u]) w wr from ⟨szs_snoc hu1 (by omega) hdn, hp⟩)
                clear hb hdn hfl hln hz hp k1 k2 k3 k4 k5 hm hlt hu1 hu2 e1
                go_wp2
                go_roundg (n - d)
                case measure => have := HK.out; omega
                case rel => exact ⟨d, dn ++ [u], rfl, rfl, by have := HK.out; omega, by have := HK.out; omega, HE.out.1, HE.out.2⟩
              · have hvl : a + (k + v.length) = n := by simp [fl] at hln; omega
                have f5 : (m : Int) < (n : Int) := by omega
                have f6 : decide (m < n) = true := decide_eq_true (by omega)
                obtain ⟨t1, t2, t3⟩ := hp.bks.two (r := [])
                have hf := hp.fd
                rw [fl_app, sn_app, fl_cons, fl_cons, fl_nil, sn_app] at hf
                have HC := Lib.hid (sym_all (u.length + v.length) (sn (fl dn)) [] u v wr F g n cap (by simp only [List.length_append, sn_len, List.length_nil]; omega) k5 (by simpa using hf) (by omega) hv t1 t2 t3 a m n (by rw [sn_len]; omega) (by rw [sn_len]; omega) (by rw [sn_len]; omega) (Nat.le_refl _))
                have HQ := Lib.hid (show ∀ s w', s.Perm (u ++ v) → Srt.Sd ltF s → SrtP F g (sn (fl dn) ++ (sn s ++ [])) wr w' → Srt.Szs d (dn ++ [s]) ∧ PassP F g T (dn ++ [s]) w w' from fun s w' hp1 hd1 hs1 => by
                  have hsl := hp1.length_eq
                  rw [List.length_append] at hsl
                  refine ⟨szs_snoc (by omega) (by omega) hdn, ⟨(hp.bks.merge (r := []) hp1 hd1), ?_, hp.gr.trans hs1.1, by rw [fl_app, sn_app]; simpa [fl] using hs1.2⟩⟩
                  refine List.Perm.trans ?_ hp.perm
                  rw [fl_app, fl_app]
                  exact List.Perm.append_left _ (by simpa [fl] using hp1))
                clear hb hdn hfl hln hz hp k1 k2 k3 k4 k5 hm hlt hu hv hvl t1 t2 t3 hf e1
                go_wp2_with (go_at_call 78; (with_reducible refine HC.out.mono ?_); rintro e w7 ⟨rfl, s, hs1, hs2, hs3⟩; have HS := Lib.hid (HQ.out s _ hs1 hs2 hs3); clear hs1 hs2 hs3)
                go_roundg (n - d)
                case measure => have := HK.out; omega
                case rel => exact ⟨d, dn ++ [s], rfl, rfl, by have := HK.out; omega, by have := HK.out; omega, HS.out.1, HS.out.2⟩
            · have f3 : (b : Int) ≤ (n : Int) := by omega
              have f4 : decide (b ≤ n) = true := decide_eq_true (by omega)
              obtain ⟨u, v, r7, rfl, hu, hv, hz7⟩ := szs_two hz (by omega) k2
              obtain ⟨t1, t2, t3⟩ := hp.bks.two
              have hf := hp.fd
              rw [fl_app, sn_app, fl_cons, fl_cons, sn_app, sn_app] at hf
              have hll := hln
              rw [fl_cons, fl_cons, List.length_append, List.length_append] at hll
              have HC := Lib.hid (sym_all (u.length + v.length) (sn (fl dn)) (sn (fl r7)) u v wr F g n cap (by simp only [List.length_append, sn_len]; omega) k5 hf (by omega) (by omega) t1 t2 t3 a m b (by rw [sn_len]; omega) (by rw [sn_len]; omega) (by rw [sn_len]; omega) (Nat.le_refl _))
              obtain ⟨b', hb'⟩ : ∃ k, b + d = k := ⟨_, rfl⟩
              have eb' : (b : Int) + (d : Int) = (b' : Int) := by omega
              have wb' : IntKind.i64.wrap (b' : Int) = (b' : Int) := wrap_nat (by omega)
              have HQ := Lib.hid (show ∀ s w', s.Perm (u ++ v) → Srt.Sd ltF s → SrtP F g (sn (fl dn) ++ (sn s ++ sn (fl r7))) wr w' → b' = b + d ∧ (∀ x ∈ dn ++ [s], x.length = d) ∧ (fl (dn ++ [s])).length = b ∧ b + (fl r7).length = n ∧ Srt.Szs k r7 ∧ PassP F g T (dn ++ [s] ++ r7) w w' from fun s w' hp1 hd1 hs1 => by
                have hsl := hp1.length_eq
                rw [List.length_append] at hsl
                refine ⟨hb'.symm, fun x hx => ?_, ?_, by omega, hz7, ⟨by rw [List.append_assoc]; exact hp.bks.merge hp1 hd1, ?_, hp.gr.trans hs1.1, by rw [fl_app, fl_app, sn_app, sn_app]; simpa [fl] using hs1.2⟩⟩
                · rcases List.mem_append.1 hx with hx | hx
                  · exact hdn x hx
                  · rw [List.mem_singleton.1 hx]; omega
                · rw [fl_app, List.length_append]; simp [fl] at hfl ⊢; omega
                · refine List.Perm.trans ?_ hp.perm
                  rw [List.append_assoc, fl_app dn, fl_app dn]
                  refine List.Perm.append_left _ ?_
                  rw [List.singleton_append, fl_cons, fl_cons, fl_cons, ← List.append_assoc]
                  exact hp1.append_right _)
              have HM := Lib.hid (show (fl r7).length < (fl (u :: v :: r7)).length by rw [fl_cons, fl_cons, List.length_append, List.length_append]; omega)
              clear hb hdn hfl hln hz hp k1 k2 k3 k4 k5 hm hge hu hv hz7 t1 t2 t3 hf hll hb'
              go_wp2_with (go_at_call 78; (with_reducible refine HC.out.mono ?_); rintro e w7 ⟨rfl, s, hs1, hs2, hs3⟩; have HS := Lib.hid (HQ.out s _ hs1 hs2 hs3); clear hs1 hs2 hs3)
              go_roundg (fl r7).length
              case measure => exact HM.out
              case rel => exact ⟨b, b', dn ++ [s], r7, rfl, rfl, rfl, HS.out.1, HS.out.2.1, HS.out.2.2.1, HS.out.2.2.2.1, HS.out.2.2.2.2.1, HS.out.2.2.2.2.2⟩
        · have f1 : ¬ (k : Int) < (n : Int) := by omega
          have f2 : decide (k < n) = false := decide_eq_false (by omega)
          have HE := Lib.hid (show SrtP F g (Srt.isort ltF l) w wr from ⟨hp6.gr, by
            have hsd : Srt.Sd ltF (fl bl6) := by
              rcases szs_end hz6 (by omega) hk with rfl | ⟨u, rfl⟩
              · exact .nil
              · rw [fl_cons, fl_nil, List.append_nil]; exact hp6.bks.sd u (by simp)
            rw [← HFIN.out _ hp6.perm hsd]
            exact hp6.fd⟩)
          clear hk hk2 hz6 hp6 tr tl n0 nn2 hln hkn
          go_wp2
          refine bodyPost_end (results_none rfl _ _ _) rfl ?_
          exact ⟨rfl, HE.out⟩
    · have f1 : (b : Int) ≤ (n : Int) := by omega
      have f2 : decide (b ≤ n) = true := decide_eq_true (by omega)
      obtain ⟨r1, r2, rfl, hr1⟩ : ∃ r1 r2, r = r1 ++ r2 ∧ r1.length = 20 := ⟨r.take 20, r.drop 20, (List.take_append_drop _ _).symm, by rw [List.length_take]; omega⟩
      rw [List.length_append] at tl2
      rw [sn_app] at hfd
      have hT2 := tr
      rw [hTe] at hT2
      have HC := Lib.hid (ins_any (sn (fl bl)) (sn r2) r1 wr F g n cap (by simp only [List.length_append, sn_len]; omega) nn2 hfd (by omega) (List.pairwise_append.1 (List.pairwise_append.1 hT2).2.1).1 a b (by rw [sn_len]; omega) (by rw [sn_len]; omega))
      obtain ⟨b', hb'⟩ : ∃ k, b + 20 = k := ⟨_, rfl⟩
      have eb' : (b : Int) + 20 = (b' : Int) := by omega
      have wb' : IntKind.i64.wrap (b' : Int) = (b' : Int) := wrap_nat (by omega)
      have HQ := Lib.hid (show ∀ s w', s.Perm r1 → Srt.Sd ltF s → SrtP F g (sn (fl bl) ++ (sn s ++ sn r2)) wr w' → b' = b + 20 ∧ (∀ x ∈ bl ++ [s], x.length = 20) ∧ (fl (bl ++ [s])).length = b ∧ (t1 ++ r1).length = b ∧ T = t1 ++ r1 ++ r2 ∧ (fl (bl ++ [s])).Perm (t1 ++ r1) ∧ Srt.Bks ltF (bl ++ [s]) ∧ FdT w' F g (sn (fl (bl ++ [s])) ++ sn r2) from fun s w' hp1 hd1 hs1 => by
        have hsl := hp1.length_eq
        refine ⟨hb'.symm, fun x hx => ?_, by rw [fl_app, List.length_append]; simp [fl] at hfl ⊢; omega, by rw [List.length_append]; omega, by rw [hTe, List.append_assoc], by rw [fl_app]; exact hperm.append (by simpa [fl] using hp1), bks_snoc hbks hperm hp1 hd1 hT2, by rw [fl_app, sn_app]; simpa [fl] using hs1.2⟩
        rcases List.mem_append.1 hx with hx | hx
        · exact hbl x hx
        · rw [List.mem_singleton.1 hx]; omega)
      have HM := Lib.hid (show r2.length < (r1 ++ r2).length by rw [List.length_append]; omega)
      clear hge hbl hfl ht1 hTe hperm hbks hgr hfd tr tl tl2 n0 nn2 hb20 hr1 hT2 hb'
      go_wp2_with (go_at_call 77; (with_reducible refine HC.out.mono ?_); rintro e w5 ⟨rfl, s, hp1, hd1, hs1⟩; have HS := Lib.hid (HQ.out s _ hp1 hd1 hs1); have HG5 := Lib.hid (HG.out.trans hs1.1); clear hp1 hd1 hs1)
      go_roundg r2.length
      case measure => exact HM.out
      case rel =>
        obtain ⟨z1, z2, z3, z4, z5, z6, z7, z8⟩ := HS.out
        exact ⟨b, b', bl ++ [s], t1 ++ r1, r2, rfl, rfl, rfl, z1, z2, z3, z4, z5, z6, z7, HG5.out, z8⟩
end Go.Proofs.Ytcfgjfahjaimiaa

namespace Go.Proofs.Ytcfgjfahjaimiaa
open Go.RowKit
set_option linter.unusedVariables false
set_option linter.unusedSimpArgs false

theorem add0 (g j : Nat) : (⟨g, 0, none⟩ : Addr).add j = ⟨g, j, none⟩ := by
  unfold Addr.add
  by_cases hj : j = 0 <;> simp [hj]
theorem addo (g o j : Nat) : (⟨g, o, none⟩ : Addr).add j = ⟨g, o + j, none⟩ := by
  unfold Addr.add
  by_cases hj : j = 0 <;> simp [hj]
theorem own_sh {w : World} {lo n m : Nat} {T : TypeId} {v : Value} {xs : List Value} (h : w.ownsRow lo T m v n xs) : ∃ A c, v = .slice A n c ∧ n ≤ c ∧ (0 < n → ∃ g, A = some ⟨g, 0, none⟩ ∧ lo ≤ g) ∧ (∀ a, A = some a → ∃ g, a = ⟨g, 0, none⟩ ∧ lo ≤ g ∧ g < w.heap.size) := by
  rcases h.2 with ⟨rfl, rfl⟩ | ⟨g, cap, cur, rfl, h1, h2, h3, _⟩
  · exact ⟨none, 0, rfl, Nat.le_refl _, fun h => absurd h (by omega), fun a h => by cases h⟩
  · exact ⟨_, cap, rfl, h3, fun _ => ⟨g, rfl, h1⟩, fun a h => by cases h; exact ⟨g, rfl, h1, Blk.lt (t := T) (cs := cur) h2⟩⟩
/-- A row of fields of one's own; what its types hold lies in F. -/
def FrP (F : Nat → Prop) (base : Nat) (w : World) (A : Option Addr) (c : Nat) (l : List Fi) : Prop := ∃ xs, w.ownsRow base 40 6 (.slice A l.length c) l.length xs ∧ RowsOf RFi w F l xs
section
variable {F : Nat → Prop} {base : Nat} {w w' : World} {A : Option Addr} {c : Nat} {l : List Fi}
theorem FrP.bel (h : FrP F base w A c l) (hb : Below w.heap.size w w') : FrP F base w' A c l := by
  obtain ⟨xs, h1, h2⟩ := h
  exact ⟨xs, h1.kept (row := none) ⟨hb.os, hb.tape, hb.output, hb.size, fun k hk _ => hb.block k hk⟩ (by cases h : (Value.slice A l.length c).ownBlock <;> simp), RowsOf.keep RFi_keeps (fun k _ hl => hb.block k hl) hb.size (fun _ _ h => h) _ _ h2⟩
theorem FrP.cap (h : FrP F base w A c l) : l.length ≤ c := by
  obtain ⟨xs, h1, _⟩ := h
  obtain ⟨A', c', e, h2, _⟩ := own_sh h1
  injection e with _ _ e3
  omega
theorem FrP.fd (h : FrP F base w A c l) (hF : ∀ k, F k → k < base) (h0 : 0 < l.length) : ∃ g, A = some ⟨g, 0, none⟩ ∧ base ≤ g ∧ FdT w F g l := by
  obtain ⟨xs, h1, h2⟩ := h
  rcases h1.2 with ⟨_, h3⟩ | ⟨g, cap, cur, e, h3, h4, h5, h6, h7, h8⟩
  · omega
  · injection e with e1 e2 e3
    exact ⟨g, e1, h3, cur, h4, fun h => by have := hF g h; omega, by rw [h7]; exact Nat.mul_le_mul_right 6 h5, by rw [h8]; exact h2⟩
theorem FrP.sl (h : FrP F base w A c l) (hF : ∀ k, F k → k < base) : SlG 6 RFi w (fun _ => True) A l := by
  rcases Nat.eq_zero_or_pos l.length with h0 | h0
  · obtain rfl := List.length_eq_zero_iff.1 h0
    exact ⟨[], ⟨by simp, fun h => absurd h (by simp)⟩, rfl⟩
  · obtain ⟨g, rfl, _, h1⟩ := h.fd hF h0
    exact h1.slice (fun _ _ => trivial) trivial
end
theorem rows_one {w : World} {F : Nat → Prop} : ∀ {l : List Fi} {xs : List Value}, RowsOf RFi w F l xs → ∀ u ∈ xs, u.oneCell' = true
  | [], xs, h, u, hu => by
    have h : xs = [] := h
    subst h; cases hu
  | a :: r, xs, h, u, hu => by
    obtain ⟨h1, q, rfl, ⟨tv, rfl, hrt⟩, h3⟩ := h
    obtain ⟨k, p, n, A, m, c, B, m', d, rfl⟩ := hrt.shape
    rcases List.mem_append.1 hu with hu | hu
    · simp [tyC] at hu
      rcases hu with rfl | rfl | rfl | rfl | rfl | rfl <;> rfl
    · exact rows_one h3 u hu
theorem frp_app {F : Nat → Prop} {base : Nat} {w1 : World} {A : Option Addr} {c : Nat} {l : List Fi} (h : FrP F base w1 A c l) (hF : ∀ k, F k → k < base) (hbase : base ≤ w1.heap.size) {a : Fi} {vs : List Value} (ha : RFi w1 F a vs) (hl : l.length ≤ 262144) (ty : TypeId) :
    ∃ v' w', (Builtin.append_ #[23, 23] ty #[.slice A l.length c, .slice (some ⟨w1.heap.size, 0, none⟩) 1 1]).run Try.prog (w1.alloc (.cells vs.toArray 40)) = .ok v' w' ∧ (∃ B d, v' = .slice B (l.length + 1) d ∧ FrP F base w' B d (l ++ [a])) ∧ Below base w1 w' := by
  obtain ⟨xs, h1, h2⟩ := h
  have hv := RFi_sized _ _ _ _ ha
  have hb0 : Below w1.heap.size w1 (w1.alloc (.cells vs.toArray 40)) := (Below.refl _ _).alloc (Nat.le_refl _) _
  have hb : Blk (w1.alloc (.cells vs.toArray 40)) w1.heap.size 40 vs.toArray := Blk.new _ _ _
  obtain ⟨i, hi, hzz⟩ := Option.map_eq_some_iff.1 info_field
  simp only [Prod.mk.injEq] at hzz
  obtain ⟨hz, hs, hby⟩ := hzz
  have hown : (w1.alloc (.cells vs.toArray 40)).ownsRow base 40 6 (.slice A l.length c) l.length xs := h1.kept (row := none) ⟨hb0.os, hb0.tape, hb0.output, hb0.size, fun k hk _ => hb0.block k hk⟩ (by cases h : (Value.slice A l.length c).ownBlock <;> simp)
  have hrd : Reads (w1.alloc (.cells vs.toArray 40)) (w1.heap.size + 1) 6 (some ⟨w1.heap.size, 0, none⟩) 1 vs := ⟨by rw [hv], fun _ => ⟨_, rfl, by show w1.heap.size < w1.heap.size + 1; omega, fun j u hu => by rw [add0, hb.cell, ← Array.getElem?_toList]; exact hu⟩⟩
  have hone : ∀ u ∈ vs, u.oneCell' = true := rows_one (l := [a]) (xs := vs) ⟨vs, [], by simp, ha, rfl⟩
  obtain ⟨v', w', k1, k2, k3, k4⟩ := run_append_any (P := Try.prog) (w := w1.alloc (.cells vs.toArray 40)) base 23 ty 40 i (.agg z6) 6 104 Try.underlying23 hi hz hs hby rfl (by omega) _ _ _ hown (w1.heap.size + 1) (some ⟨w1.heap.size, 0, none⟩) 1 1 vs hrd hone (by unfold maxLen; omega) (by omega) (by simp; omega)
  obtain ⟨B, d, rfl, _, _, _⟩ := own_sh k2
  have hsz : w1.heap.size ≤ w'.heap.size := Nat.le_trans hb0.size k3.size
  have hown2 : ∀ k, (Value.slice A l.length c).ownBlock = some k → base ≤ k := fun k hk => (h1.lt k hk).1
  have hB : Below base w1 w' := ⟨k3.os.trans hb0.os, k3.tape.trans hb0.tape, k3.output.trans hb0.output, hsz, fun k hk => (k3.block k (by simp; omega) (fun e => by have := hown2 k e.symm; omega)).trans (hb0.block k (by omega))⟩
  have hkeep : ∀ k, F k → k < w1.heap.size → w'.heap[k]? = w1.heap[k]? := fun k hk hl => hB.block k (hF k hk)
  refine ⟨_, w', k1, ⟨B, d, rfl, xs ++ vs, by rw [List.length_append]; exact k2, ?_⟩, hB⟩
  refine RowsOf.snoc ?_ (RowsOf.keep RFi_keeps hkeep hsz (fun _ _ h => h) _ _ h2)
  exact RFi_keeps _ _ _ _ _ _ hkeep hsz (fun _ _ h => h) ha
theorem frp_none (F : Nat → Prop) (base : Nat) (w : World) : FrP F base w none 0 [] := ⟨[], World.ownsRow_nil _ _ _ _, rfl⟩
theorem run_clone {F : Nat → Prop} {w : World} {a : Addr} {c : Nat} {l : List Fi} (h : SlG 6 RFi w F (some a) l) (hF : ∀ k, F k → k < w.heap.size) (hl : l.length ≤ 262144) (ty : TypeId) :
    ∃ v' w', (Builtin.append_ #[23, 23] ty #[.slice (some ⟨w.heap.size, 0, none⟩) 0 0, .slice (some a) l.length c]).run Try.prog (w.alloc (.cells #[] 40)) = .ok v' w' ∧ (∃ B d, v' = .slice B l.length d ∧ FrP F w.heap.size w' B d l) ∧ Below w.heap.size w w' := by
  obtain ⟨xs, h1, h2⟩ := h
  have hb0 : Below w.heap.size w (w.alloc (.cells #[] 40)) := (Below.refl _ _).alloc (Nat.le_refl _) _
  obtain ⟨i, hi, hzz⟩ := Option.map_eq_some_iff.1 info_field
  simp only [Prod.mk.injEq] at hzz
  obtain ⟨hz, hs, hby⟩ := hzz
  have hown : (w.alloc (.cells #[] 40)).ownsRow w.heap.size 40 6 (.slice (some ⟨w.heap.size, 0, none⟩) 0 0) 0 [] :=
    ⟨rfl, .inr ⟨w.heap.size, 0, #[], rfl, Nat.le_refl _, Blk.new w 40 #[], Nat.le_refl _, by unfold maxLen; omega, rfl, rfl⟩⟩
  have hrd : Reads (w.alloc (.cells #[] 40)) w.heap.size 6 (some a) l.length xs := ⟨h1.1, fun h0 => by
    obtain ⟨g, o, e, h3, h4, h5⟩ := h1.2 h0
    injection e with e
    subst e
    exact ⟨_, rfl, h4, fun j u hu => by rw [addo]; exact (World.cell?_of_block (hb0.block g h4)).trans (h5 j u hu)⟩⟩
  obtain ⟨v', w', k1, k2, k3, k4⟩ := run_append_any (P := Try.prog) (w := w.alloc (.cells #[] 40)) w.heap.size 23 ty 40 i (.agg z6) 6 104 Try.underlying23 hi hz hs hby rfl (by omega) _ _ _ hown w.heap.size (some a) l.length c xs hrd (rows_one h2) (by unfold maxLen; omega) (by omega) (by simp)
  rw [Nat.zero_add, List.nil_append] at k2
  obtain ⟨B, d, rfl, _, _, _⟩ := own_sh k2
  have hsz : w.heap.size ≤ w'.heap.size := Nat.le_trans hb0.size k3.size
  have hB : Below w.heap.size w w' := ⟨k3.os.trans hb0.os, k3.tape.trans hb0.tape, k3.output.trans hb0.output, hsz, fun k hk => (k3.block k (by simp; omega) (fun e => by
    have e2 : k = w.heap.size := Option.some.inj e
    omega)).trans (hb0.block k hk)⟩
  exact ⟨_, w', k1, ⟨B, d, rfl, xs, k2, RowsOf.keep RFi_keeps (fun k _ hl => hB.block k hl) hsz (fun _ _ h => h) _ _ h2⟩, hB⟩
/-- A row of one's own is told. -/
def MeP (F : Nat → Prop) (l : List Fi) (w : World) (e : Ending) (w' : World) : Prop := (∃ A c, e = .returned (.slice A l.length c) ∧ FrP F w.heap.size w' A c l) ∧ Below w.heap.size w w'
set_option maxRecDepth 100000 in
set_option maxHeartbeats 4000000 in
theorem clone_fi (l : List Fi) (hl : l.length ≤ 262144) (w : World) (F : Nat → Prop) (hF : ∀ k, F k → k < w.heap.size) (A : Option Addr) (c : Nat) (h : SlG 6 RFi w F A l) :
    Calls Try.prog 76 #[.slice A l.length c] w (MeP F l w) := by
  cases A with
  | none =>
    have h0 : l.length = 0 := by
      rcases Nat.eq_zero_or_pos l.length with h0 | h0
      · exact h0
      · obtain ⟨xs, h1, _⟩ := h
        obtain ⟨g, o, e, _⟩ := h1.2 h0
        cases e
    obtain rfl := List.length_eq_zero_iff.1 h0
    have hn : ∀ W, (binOp .eql 23 (.slice none 0 c) (.slice none 0 0)).run Try.prog W = .ok (.bool true) W := fun _ => by kernel_rfl
    clear h h0 hl
    go_enter Try.func76, Try.ntmps76
    go_wp2
    go_ret
    exact ⟨⟨none, 0, rfl, frp_none _ _ _⟩, Below.refl _ _⟩
  | some a =>
    have HR := Lib.hid (run_clone (c := c) h hF hl 23)
    have hn : ∀ W, (binOp .eql 23 (.slice (some a) l.length c) (.slice none 0 0)).run Try.prog W = .ok (.bool false) W := fun _ => by kernel_rfl
    clear h hl
    go_enter Try.func76, Try.ntmps76
    go_wp2_with (at_builtin; refine wpList_app rfl _ _ _ _ rfl _ _ rfl rfl _ HR.out ?_; rintro v3 w3 ⟨⟨B, d, rfl, hfr⟩, hb3⟩; have HFR := Lib.hid hfr; have HB3 := Lib.hid hb3; clear hfr hb3)
    go_ret
    exact ⟨⟨B, d, rfl, HFR.out⟩, HB3.out⟩
set_option maxRecDepth 100000 in
set_option maxHeartbeats 4000000 in
theorem sort_any (l : List Fi) (hl : l.length ≤ 100000) (w : World) (base : Nat) (F : Nat → Prop) (hF : ∀ k, F k → k < base) (A : Option Addr) (c : Nat) (h : FrP F base w A c l) (hbase : base ≤ w.heap.size) :
    Calls Try.prog 49 #[.slice A l.length c, .func (Fn.func 50) #[] #[]] w fun e w' => e = .returned (.tuple #[]) ∧ Below base w w' ∧ SlG 6 RFi w' (fun _ => True) A (Srt.isort ltF l) := by
  rcases Nat.eq_zero_or_pos l.length with h0 | h0
  · obtain rfl := List.length_eq_zero_iff.1 h0
    have hs : Calls Try.prog 67 #[.slice A 0 c, .int .i64 0, .func (Fn.func 50) #[] #[]] w fun e w' => e = .returned (.tuple #[]) ∧ w' = w := by
      have HI := Lib.hid (ins_none [] [] w (fun _ => True) 0 0 c A 0 (by omega))
      have HI := Lib.hid (show Calls Try.prog 77 #[.slice A 0 c, .int .i64 0, .int .i64 0, .func (Fn.func 50) #[] #[]] w _ from HI.out)
      clear h h0 hl
      go_enter Try.func67, Try.ntmps67
      go_wp2
      go_loopg [7, 8] 0 (fun gk v7 v8 wr => v7 = .int .i64 0 ∧ v8 = .int .i64 20 ∧ w = wr)
      case atStart => exact ⟨rfl, rfl, rfl⟩
      case round =>
        obtain ⟨rfl, rfl, rfl⟩ := hrel
        go_wp2_with (go_at_call 77; (refine HI.out.mono ?_); rintro e w5 ⟨rfl, hw5⟩)
        go_loopg [6, 7, 8, 9] 0 (fun gk v6 v7 v8 v9 wr => v6 = .int .i64 20 ∧ wr = w)
        case atStart => exact ⟨rfl, rfl⟩
        case round =>
          obtain ⟨rfl, hwr⟩ := hrel
          go_wp2
          refine bodyPost_end (results_none rfl _ _ _) rfl ?_
          first | exact ⟨rfl, rfl⟩ | exact ⟨rfl, hwr⟩
    have HS := Lib.hid hs
    have HH := Lib.hid h
    clear h h0 hl hs
    show Calls Try.prog 49 #[.slice A 0 c, .func (Fn.func 50) #[] #[]] w _
    go_enter Try.func49, Try.ntmps49
    go_wp2_with (go_at_call 67; (refine HS.out.mono ?_); rintro e w5 ⟨rfl, rfl⟩)
    refine bodyPost_end (results_none rfl _ _ _) rfl ?_
    exact ⟨rfl, Below.refl _ _, HH.out.sl hF⟩
  · obtain ⟨g, rfl, hg, hfd⟩ := h.fd hF h0
    have HS := Lib.hid (stable_any l w F g l.length c rfl h0 hl hfd)
    clear hfd hl h0 h
    go_enter Try.func49, Try.ntmps49
    go_wp2_with (go_at_call 67; (with_reducible refine HS.out.mono ?_); rintro e w5 ⟨rfl, hs5⟩; have HS5 := Lib.hid hs5; clear hs5)
    refine bodyPost_end (results_none rfl _ _ _) rfl ?_
    exact ⟨rfl, HS5.out.1.belowN hbase (fun k hk e => by have e2 : k = g := e; omega), HS5.out.2.slice (fun _ _ => trivial) trivial⟩
end Go.Proofs.Ytcfgjfahjaimiaa

namespace Go.Proofs.Ytcfgjfahjaimiaa
open Go.RowKit
set_option linter.unusedVariables false
set_option linter.unusedSimpArgs false

def structP (ds : List Dl) (n : ByteArray) : List Fi := (ds.filter (fun d => decide (d.kind = 6 ∧ d.of = n))).map (fun d => ⟨d.name, d.ty⟩)
theorem structP_yes {ds : List Dl} {n : ByteArray} {j : Nat} {d : Dl} (h : ds[j]? = some d) (hk : d.kind = 6 ∧ d.of = n) : structP (ds.take (j + 1)) n = structP (ds.take j) n ++ [⟨d.name, d.ty⟩] := by
  rw [List.take_add_one, h, Option.toList_some]
  unfold structP
  rw [List.filter_append, List.map_append]
  congr 1
  simp [hk]
theorem structP_no {ds : List Dl} {n : ByteArray} {j : Nat} {d : Dl} (h : ds[j]? = some d) (hk : ¬ (d.kind = 6 ∧ d.of = n)) : structP (ds.take (j + 1)) n = structP (ds.take j) n := by
  rw [List.take_add_one, h, Option.toList_some]
  unfold structP
  rw [List.filter_append, List.map_append]
  have : List.filter (fun d => decide (d.kind = 6 ∧ d.of = n)) [d] = [] := by simp only [List.filter_cons, List.filter_nil]; rw [if_neg (by simpa using hk)]
  rw [this]
  simp
theorem structP_len (ds : List Dl) (n : ByteArray) : (structP ds n).length ≤ ds.length := by
  unfold structP
  rw [List.length_map]
  exact List.length_filter_le _ _
theorem FrP.mono {F : Nat → Prop} {b b' : Nat} {w : World} {A : Option Addr} {c : Nat} {l : List Fi} (h : FrP F b w A c l) (hb : b' ≤ b) : FrP F b' w A c l := by
  obtain ⟨xs, h1, h2⟩ := h
  refine ⟨xs, ⟨h1.1, ?_⟩, h2⟩
  rcases h1.2 with k | ⟨g, cap, cur, e, k1, k2⟩
  · exact .inl k
  · exact .inr ⟨g, cap, cur, e, Nat.le_trans hb k1, k2⟩
set_option maxRecDepth 100000 in
set_option maxHeartbeats 4000000 in
theorem structm_any (us : List Un) (hlen : us.length ≤ 140737488355328) (hcn : ∀ u ∈ us, u.cnt ≤ 2000) (k0 : Int) (p0 n0 : ByteArray) (A0 B0 : Option Addr) (m0 c0 l0 d0 : Nat) (w : World) (F : Nat → Prop) (A : Option Addr) (c : Nat) (hr : SlG 4 RUn w F A us) (hF : ∀ k, F k → k < w.heap.size) :
    Calls Try.prog 65 #[.slice A us.length c, .agg #[.int .i64 k0, .string p0, .string n0, .slice A0 m0 c0, .slice B0 l0 d0]] w (MeP F (structP ((unitP us p0).getD unZ).decls n0) w) := by
  have hb1 := ((Below.refl _ w).alloc (Nat.le_refl _) (.cells #[.int .i64 k0, .string p0, .string n0, .slice A0 m0 c0, .slice B0 l0 d0] 26))
  have hs1 : (w.alloc (.cells #[.int .i64 k0, .string p0, .string n0, .slice A0 m0 c0, .slice B0 l0 d0] 26)).heap.size = w.heap.size + 1 := by simp
  have hk1 := Blk.new w 26 #[.int .i64 k0, .string p0, .string n0, .slice A0 m0 c0, .slice B0 l0 d0]
  have HC := Lib.hid (unitOf_any us p0 hlen (w.alloc (.cells #[.int .i64 k0, .string p0, .string n0, .slice A0 m0 c0, .slice B0 l0 d0] 26)) F A c (hr.bel RUn_keeps hb1) (fun k h => Nat.lt_of_lt_of_le (hF k h) hb1.size))
  have hdl : ((unitP us p0).getD unZ).decls.length ≤ 2000 := by
    cases h : unitP us p0 with
    | none => simp [unZ]
    | some u =>
      have := hcn u (unitP_mem h)
      unfold Un.cnt at this
      show u.decls.length ≤ 2000
      omega
  generalize (unitP us p0).getD unZ = u at HC hdl ⊢
  have hfd : ∀ (q : ByteArray) (A1 B1 C1 : Option Addr) (i a1 j b1 k c1 : Nat) (W : World), (Instr.field 47 (.agg #[.string q, .slice A1 i a1, .slice B1 j b1, .slice C1 k c1]) 2).run Try.prog W = .ok (.slice B1 j b1) W := fun _ _ _ _ _ _ _ _ _ _ _ => by kernel_rfl
  have HB1 := Lib.hid hb1
  have HS1 := Lib.hid hs1
  have HK1 := Lib.hid hk1
  have HDL := Lib.hid hdl
  have HFF := Lib.hid hF
  have n0' : (0 : Int) ≤ (u.decls.length : Int) := by omega
  have n1' : (u.decls.length : Int) ≤ 2000 := by omega
  clear hb1 hs1 hk1 hr hF hdl hcn
  go_enter Try.func65, Try.ntmps65
  go_wp2_with (go_at_call 72; refine HC.out.mono ?_; rintro e w5 ⟨⟨vs, rfl, hv⟩, hb5⟩; obtain ⟨A1, a1, B1, b1, C1, c1, rfl, hs⟩ := hv; have HS := Lib.hid hs; have HB5 := Lib.hid hb5; have hw5 := HB1.out.trans (hb5.mono HB1.out.size); have HW5 := Lib.hid hw5; have HZ5 := Lib.hid (show w.heap.size + 1 ≤ w5.heap.size by have := hb5.size; have := HS1.out; omega); have HK5 := Lib.hid (HK1.out.bel2 hb5); clear hb5 hs hw5)
  go_loopg [14, 5] u.decls.length (fun gk v14 v5 wr => ∃ (j : Nat) (B : Option Addr) (d : Nat) (l : List Fi), j + gk = u.decls.length ∧ v14 = .int .i64 j ∧ v5 = .slice B l.length d ∧ l = structP (u.decls.take j) n0 ∧ FrP F w5.heap.size wr B d l ∧ Below w5.heap.size w5 wr)
  case atStart => exact ⟨0, none, 0, [], by omega, rfl, rfl, rfl, frp_none _ _ _, Below.refl _ _⟩
  case round =>
    obtain ⟨j, B', d', l, hj, rfl, rfl, hl, hfr, hb6⟩ := hrel
    have HFR := Lib.hid hfr
    have HB6 := Lib.hid hb6
    cases gk with
    | zero =>
      obtain rfl : j = u.decls.length := by omega
      rw [List.take_length] at hl
      subst hl
      clear hj hfr hb6
      go_wp2
      go_ret
      exact ⟨⟨B', d', rfl, HFR.out.mono HW5.out.size⟩, HW5.out.trans (HB6.out.mono HW5.out.size)⟩
    | succ f =>
      have hjl : j < u.decls.length := by omega
      obtain ⟨de, hu⟩ : ∃ x, u.decls[j]? = some x := ⟨_, List.getElem?_eq_getElem hjl⟩
      obtain ⟨q, o, us', rfl, hFq, hgl, hrep, hat⟩ := (HS.out.bel RDl_keeps hb6).at_ RDl_sized hu
      obtain ⟨dk, dn, dof, dv, dt, fs⟩ := de
      obtain ⟨tv, Af, cf, rfl, hrt, hfs⟩ := hrep
      dsimp only at hrt hfs hat
      obtain ⟨tk, tp, tn, A3, a3', a3, B3, b3', b3, rfl⟩ := hrt.shape
      obtain ⟨afl, hafl⟩ : ∃ z, fs.length = z := ⟨_, rfl⟩
      simp only [tyC, List.cons_append, List.nil_append, hafl] at hat hrt
      have q0 := hat 0 _ rfl
      have q1 := hat 1 _ rfl
      have q2 := hat 2 _ rfl
      have q3 := hat 3 _ rfl
      have q4 := hat 4 _ rfl
      have q5 := hat 5 _ rfl
      have q6 := hat 6 _ rfl
      have q7 := hat 7 _ rfl
      have q8 := hat 8 _ rfl
      have q9 := hat 9 _ rfl
      simp only [Nat.add_zero] at q0
      have hkb := HK5.out.bel2 hb6
      have t0 := hkb.cell 0
      have t1 := hkb.cell 1
      have t2 := hkb.cell 2
      have t3 := hkb.cell 3
      have t4 := hkb.cell 4
      have tl := hkb.lt
      have j1 : (j : Int) < (u.decls.length : Int) := by omega
      have HU := Lib.hid hu
      have HL := Lib.hid hl
      have HJ := Lib.hid hj
      have hll : l.length ≤ 2000 := by
        have h1 := structP_len (u.decls.take j) n0
        have h2 := HDL.out
        rw [← hl, List.length_take] at h1
        omega
      have hbw : w5.heap.size ≤ wr.heap.size := hb6.size
      have HWB := Lib.hid hbw
      have hbx : Below wr.heap.size wr (wr.alloc (.cells #[.int .i64 dk, .string dn, .string dof, .int .i64 dv, .int .i64 tk, .string tp, .string tn, .slice A3 a3' a3, .slice B3 b3' b3, .slice Af afl cf] 57)) := (Below.refl _ _).alloc (Nat.le_refl _) _
      have HBX := Lib.hid hbx
      have hsx : (wr.alloc (.cells #[.int .i64 dk, .string dn, .string dof, .int .i64 dv, .int .i64 tk, .string tp, .string tn, .slice A3 a3' a3, .slice B3 b3' b3, .slice Af afl cf] 57)).heap.size = wr.heap.size + 1 := by simp
      by_cases hm : dk = 6 ∧ dof = n0
      · obtain ⟨rfl, rfl⟩ := hm
        have happ := frp_app (hfr.bel hbx) (fun k h => Nat.lt_of_lt_of_le (HFF.out k h) HW5.out.size) (Nat.le_trans hbw hbx.size) (a := ⟨dn, dt⟩) (vs := [.string dn, .int .i64 tk, .string tp, .string tn, .slice A3 a3' a3, .slice B3 b3' b3]) ⟨_, rfl, RT_keeps _ _ _ _ _ _ (fun k _ hl => hbx.block k hl) hbx.size (fun _ _ h => h) hrt⟩ (by omega) 23
        rw [hsx] at happ
        have HAP := Lib.hid happ
        have e1 : ((6 : Int) == 6) = true := by decide
        have e2 : (dof.toList == dof.toList) = true := by simp
        clear hj hfr hb6 hat hrt hfs hu hl hll hbw hbx hsx hkb happ hafl
        go_wp2_with (at_builtin; refine wpList_app rfl _ _ _ _ rfl _ _ rfl rfl _ HAP.out ?_; rintro v3 w3 ⟨⟨B4, d4, rfl, hfr4⟩, hb4⟩; have HFR4 := Lib.hid hfr4; have HB4 := Lib.hid hb4; clear hfr4 hb4)
        go_roundg f
        case measure => omega
        case rel =>
          have h4 := HB4.out
          have hbb := (HBX.out.mono HWB.out).trans h4
          exact ⟨j + 1, B4, d4, l ++ [⟨dn, dt⟩], by have := HJ.out; omega, by go_num, by rw [List.length_append]; rfl, by rw [HL.out]; exact (structP_yes HU.out ⟨rfl, rfl⟩).symm, HFR4.out, HB6.out.trans hbb⟩
      · have HM := Lib.hid hm
        have hend : ∀ wz, Below wr.heap.size wr wz → ∃ (j' : Nat) (B : Option Addr) (d : Nat) (l' : List Fi), j' + f = u.decls.length ∧ (j' = j + 1) ∧ B = B' ∧ d = d' ∧ l' = l ∧ l' = structP (u.decls.take j') n0 ∧ FrP F w5.heap.size wz B d l' ∧ Below w5.heap.size w5 wz := fun wz hz => ⟨j + 1, B', d', l, by have := HJ.out; omega, rfl, rfl, rfl, rfl, by rw [HL.out]; exact (structP_no HU.out HM.out).symm, HFR.out.bel hz, HB6.out.trans (hz.mono HWB.out)⟩
        have HE := Lib.hid hend
        clear hj hfr hb6 hat hrt hfs hu hl hll hbw hbx hsx hkb hafl hend
        by_cases h6 : dk = 6
        · subst h6
          have e1 : ((6 : Int) == 6) = true := by decide
          have e2 : (dof.toList == n0.toList) = false := by
            have : ¬ dof = n0 := fun e => hm ⟨rfl, e⟩
            simpa [toList_inj] using this
          clear hm
          go_wp2
          go_roundg f
          case measure => omega
          case rel =>
            obtain ⟨j', B9, d9, l', z1, rfl, rfl, rfl, rfl, z2, z3, z4⟩ := HE.out _ HBX.out
            exact ⟨j + 1, _, _, _, z1, by go_num, rfl, z2, z3, z4⟩
        · have e1 : (dk == 6) = false := by simpa using h6
          clear hm
          go_wp2
          go_roundg f
          case measure => omega
          case rel =>
            obtain ⟨j', B9, d9, l', z1, rfl, rfl, rfl, rfl, z2, z3, z4⟩ := HE.out _ HBX.out
            exact ⟨j + 1, _, _, _, z1, by go_num, rfl, z2, z3, z4⟩
end Go.Proofs.Ytcfgjfahjaimiaa
