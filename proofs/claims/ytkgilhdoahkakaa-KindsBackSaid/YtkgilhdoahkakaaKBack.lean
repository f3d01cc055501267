/-
  KindsBack: the walk.
-/
import Derived.Test.YtkgilhdoahkakaaKInf
import Derived.Test.YtkgilhdoahkakaaKPut
namespace Go.Proofs.Ytkgilhdoahkakaa
open Go.RowKit
set_option linter.unusedVariables false
set_option linter.unusedSimpArgs false

/-- So many slices of a type. -/
def wrapT : Nat → Ty → Ty
  | 0, t => t
  | n + 1, t => .mk 6 ⟨#[]⟩ ⟨#[]⟩ [wrapT n t] []
def varT (s : ByteArray) : Ty := .mk 9 ⟨#[]⟩ s [] []
theorem wrap_count (t : Ty) : ∀ n, (wrapT n t).count = t.count + n
  | 0 => rfl
  | n + 1 => by rw [wrapT, count_mk, countL_cons, countL_nil, wrap_count t n]; omega
theorem wrap_mx (t : Ty) : ∀ n, (wrapT n t).mx = t.mx
  | 0 => rfl
  | n + 1 => by
    rw [wrapT, mx_mk, mxL_cons, mxL_nil, wrap_mx t n]
    show max (max 0 0) (max (max t.mx 0) 0) = t.mx
    omega
theorem pair_one (l : List ByteArray) (a b : Ty) (fd : List Ty) : pairL l [a] [b] fd = pairT l a b fd := by
  rw [pairL_cons]
  unfold thenP
  simp only [pairL_nil]
  split
  · rename_i h
    exact Prod.ext h.symm rfl
  · rfl
theorem pair_wrap (l : List ByteArray) (s : ByteArray) (t : Ty) (fd : List Ty) : ∀ n, pairT l (wrapT n (varT s)) (wrapT n t) fd = takeP l fd s t
  | 0 => by
    obtain ⟨k, p, m, la, lr⟩ := t
    show pairT l (.mk 9 ⟨#[]⟩ s [] []) (.mk k p m la lr) fd = _
    rw [pairT_mk, if_pos rfl]
  | n + 1 => by
    rw [wrapT, wrapT, pairT_mk, if_neg (by decide), if_pos ⟨rfl, Or.inl rfl⟩, pair_one, pair_wrap l s t fd n]
    unfold thenP
    simp only [pairL_nil]
    split
    · rename_i h
      exact Prod.ext h.symm rfl
    · rfl
theorem place_self (s : ByteArray) : place [s] s = some 0 := by simp [place]
theorem back_bad (s : ByteArray) (t : Ty) (n : Nat) (h : t.kind = 0 ∨ t.kind = 4) : inferT [s] [wrapT n (varT s)] [wrapT n t] = none := by
  unfold inferT
  rw [pair_one, pair_wrap]
  have e : (takeP [s] (List.replicate [s].length tyZ) s t).1 = false := by
    unfold takeP
    rw [place_self]
    rcases h with h | h <;> simp [tyZ, Ty.kind] at * <;> simp [h]
  rw [e]
  rfl
theorem back_good (s : ByteArray) (t : Ty) (n : Nat) (h0 : t.kind ≠ 0) (h4 : t.kind ≠ 4) : inferT [s] [wrapT n (varT s)] [wrapT n t] = some [t] := by
  unfold inferT
  rw [pair_one, pair_wrap]
  have e : takeP [s] (List.replicate [s].length tyZ) s t = (true, [t]) := by
    unfold takeP
    rw [place_self]
    have hz : (List.replicate [s].length tyZ) = [tyZ] := rfl
    have hk : tyZ.kind = 0 := rfl
    simp [hz, hk, h0, h4]
  rw [e]
  have hf : foundOf [s] [t] s = t := foundOf_eq (place_self s) rfl
  simp [hf, h0]
theorem putT_wrap (s : ByteArray) (t : Ty) : ∀ n, putT [s] [t] (wrapT n (varT s)) = wrapT n t
  | 0 => by
    show putT [s] [t] (.mk 9 ⟨#[]⟩ s [] []) = t
    have e : hitT [s] [t] 9 s = some t := by simp [hitT, place_self]
    rw [putT_mk, e, Option.getD_some]
  | n + 1 => by
    have e : hitT [s] [t] 6 ⟨#[]⟩ = none := by simp [hitT]
    rw [wrapT, putT_mk, e, Option.getD_none, wrapT]
    simp only [putL, putT_wrap s t n]
theorem kind_of {k : Int} {p n : ByteArray} {la lr : List Ty} : (Ty.mk k p n la lr).kind = k := rfl
theorem put5_any {w : World} {g : Nat} {u0 u1 u2 u3 u4 : Value} (h : Blk w g 24 #[u0, u1, u2, u3, u4]) (v0 v1 v2 v3 v4 : Value) : Blk (put5 w g v0 v1 v2 v3 v4) g 24 #[v0, v1, v2, v3, v4] := ((((h.set_ 0 _).set_ 1 _).set_ 2 _).set_ 3 _).set_ 4 _
theorem RT.one {w : World} {F : Nat → Prop} {g : Nat} {t : Ty} {v0 v1 v2 v3 v4 : Value} (h : Blk w g 24 #[v0, v1, v2, v3, v4]) (hF : F g) (hr : RT w F t [v0, v1, v2, v3, v4]) : RT w F (.mk 6 ⟨#[]⟩ ⟨#[]⟩ [t] []) [.int .i64 6, .string ⟨#[]⟩, .string ⟨#[]⟩, .slice (some ⟨g, 0, none⟩) 1 1, .slice none 0 0] :=
  RT.mk_ (A := some ⟨g, 0, none⟩) (A' := none) (c := 1) (c' := 0) (SlT.one h hF hr) (SlT.none_ w F)
/-- Two boxes, each with a type. -/
structure BK (w : World) (g h : Nat) (a b : Ty) (cs ds : List Value) : Prop where
  ba : Blk w g 24 cs.toArray
  bb : Blk w h 24 ds.toArray
  ra : RT w (Ng g h) a cs
  rb : RT w (Ng g h) b ds
  ne : g ≠ h
/-- A round: both boxes' types go into slices. -/
def roundW (w : World) (g h : Nat) (v0 v1 v2 v3 v4 u0 u1 u2 u3 u4 : Value) : World :=
  ((put5 (put5 w g (.int .i64 6) (.string ⟨#[]⟩) (.string ⟨#[]⟩) (.slice (some ⟨w.heap.size, 0, none⟩) 1 1) (.slice none 0 0)) h (.int .i64 6) (.string ⟨#[]⟩) (.string ⟨#[]⟩) (.slice (some ⟨w.heap.size + 1, 0, none⟩) 1 1) (.slice none 0 0)).alloc (.cells #[v0, v1, v2, v3, v4] 24)).alloc (.cells #[u0, u1, u2, u3, u4] 24)
theorem put5_size (w : World) (g : Nat) (v0 v1 v2 v3 v4 : Value) : (put5 w g v0 v1 v2 v3 v4).heap.size = w.heap.size := by unfold put5; simp
theorem roundW_gr (w : World) (g h : Nat) (v0 v1 v2 v3 v4 u0 u1 u2 u3 u4 : Value) : Gr (fun x => x = g ∨ x = h) w (roundW w g h v0 v1 v2 v3 v4 u0 u1 u2 u3 u4) :=
  ((((put5_gr w g _ _ _ _ _).mono (fun _ _ e => Or.inl e)).trans ((put5_gr _ h _ _ _ _ _).mono (fun _ _ e => Or.inr e))).alloc _).alloc _
theorem BK.both {w : World} {g h : Nat} {a b : Ty} {v0 v1 v2 v3 v4 u0 u1 u2 u3 u4 : Value} (k : BK w g h a b [v0, v1, v2, v3, v4] [u0, u1, u2, u3, u4]) :
    BK (roundW w g h v0 v1 v2 v3 v4 u0 u1 u2 u3 u4) g h (.mk 6 ⟨#[]⟩ ⟨#[]⟩ [a] []) (.mk 6 ⟨#[]⟩ ⟨#[]⟩ [b] []) [.int .i64 6, .string ⟨#[]⟩, .string ⟨#[]⟩, .slice (some ⟨w.heap.size, 0, none⟩) 1 1, .slice none 0 0] [.int .i64 6, .string ⟨#[]⟩, .string ⟨#[]⟩, .slice (some ⟨w.heap.size + 1, 0, none⟩) 1 1, .slice none 0 0] := by
  have hg := roundW_gr w g h v0 v1 v2 v3 v4 u0 u1 u2 u3 u4
  have hgl := k.ba.lt
  have hhl := k.bb.lt
  have hk : ∀ {t : Ty} {us : List Value}, RT w (Ng g h) t us → RT (roundW w g h v0 v1 v2 v3 v4 u0 u1 u2 u3 u4) (Ng g h) t us := fun hr => hr.grN hg
  have e1 : w.heap.size = (put5 (put5 w g (.int .i64 6) (.string ⟨#[]⟩) (.string ⟨#[]⟩) (.slice (some ⟨w.heap.size, 0, none⟩) 1 1) (.slice none 0 0)) h (.int .i64 6) (.string ⟨#[]⟩) (.string ⟨#[]⟩) (.slice (some ⟨w.heap.size + 1, 0, none⟩) 1 1) (.slice none 0 0)).heap.size := by rw [put5_size, put5_size]
  have e2 : ∀ (W : World) (o : Obj), (W.alloc o).heap.size = W.heap.size + 1 := fun W o => by simp
  have n1 : Blk (roundW w g h v0 v1 v2 v3 v4 u0 u1 u2 u3 u4) w.heap.size 24 #[v0, v1, v2, v3, v4] := (Blk.new_at e1).alloc _
  have n2 : Blk (roundW w g h v0 v1 v2 v3 v4 u0 u1 u2 u3 u4) (w.heap.size + 1) 24 #[u0, u1, u2, u3, u4] := Blk.new_at (by rw [e2, ← e1])
  refine ⟨?_, ?_, RT.one n1 ⟨by omega, by omega⟩ (hk k.ra), RT.one n2 ⟨by omega, by omega⟩ (hk k.rb), k.ne⟩
  · exact (((put5_gr _ h _ _ _ _ _).blk (put5_any k.ba _ _ _ _ _) (fun e => k.ne e)).alloc _).alloc _
  · exact ((put5_any ((put5_gr _ g _ _ _ _ _).blk k.bb (fun e => k.ne e.symm)) _ _ _ _ _).alloc _).alloc _
set_option maxRecDepth 100000 in
set_option maxHeartbeats 8000000 in
theorem kback_any (s : ByteArray) (hss : s.size ≤ 140737488355328) (t : Ty) (hz : t.mx ≤ 140737488355328) (deep : Int) (hd0 : 0 ≤ deep) (hd1 : deep ≤ 255) (w : World) (F : Nat → Prop) (vs : List Value) (hr : RT w F t vs) :
    Calls Try.prog 10 #[.string s, .agg vs.toArray, .int .u8 deep] w (TruthP w true) := by
  have HT := Lib.hid hr
  have hro : RT w (fun q => q < w.heap.size) t vs := RT.keep (fun _ _ _ => rfl) (Nat.le_refl _) (fun _ hg _ => hg) t vs hr
  have HTO := Lib.hid hro
  obtain ⟨k, p, n, A, m, c, B, l, d, rfl⟩ := hr.shape
  simp only [tyC] at HT HTO
  have hkd : t.kind = k := by
    obtain ⟨k2, p2, n2, la, lr⟩ := t
    obtain ⟨_, _, _, _, e, _⟩ := hr.openL
    simp only [tyC, List.cons.injEq, Value.int.injEq] at e
    exact e.1.2.symm
  show Calls Try.prog 10 #[.string s, .agg #[.int .i64 k, .string p, .string n, .slice A m c, .slice B l d], .int .u8 deep] w _
  have hB3 : Below w.heap.size w ((w.alloc (.cells #[.int .i64 k, .string p, .string n, .slice A m c, .slice B l d] 24)).alloc (.cells #[.int .i64 k, .string p, .string n, .slice A m c, .slice B l d] 24)) := ((Below.refl _ w).alloc (Nat.le_refl _) _).alloc (by simp) _
  have HB3 := Lib.hid hB3
  have HK3 := Lib.hid (show Blk ((w.alloc (.cells #[.int .i64 k, .string p, .string n, .slice A m c, .slice B l d] 24)).alloc (.cells #[.int .i64 k, .string p, .string n, .slice A m c, .slice B l d] 24)) w.heap.size 24 #[.int .i64 k, .string p, .string n, .slice A m c, .slice B l d] from (Blk.new w _ _).alloc _)
  have hsl : SlT ((w.alloc (.cells #[.int .i64 k, .string p, .string n, .slice A m c, .slice B l d] 24)).alloc (.cells #[.int .i64 k, .string p, .string n, .slice A m c, .slice B l d] 24)) (fun q => q ≤ w.heap.size + 1) (some ⟨w.heap.size + 1, 0, none⟩) [t] :=
    SlT.one (Blk.new_at (by simp)) (by simp) (RT.keep (fun g _ hg => hB3.block g hg) hB3.size (fun g hg _ => by show g ≤ w.heap.size + 1; omega) _ _ hr)
  have HG1 := Lib.hid (great_any [t] (by simp) _ _ _ 1 hsl)
  have hlen : [t].length = 1 := rfl
  rw [hlen] at HG1
  obtain ⟨g1, hg1⟩ : ∃ g, decide (400 < countL [t]) = g := ⟨_, rfl⟩
  rw [hg1] at HG1
  have HD1 := Lib.hid hg1
  have HKD := Lib.hid hkd
  clear hr hro hB3 hsl hlen hg1 hkd
  cases g1 with
  | true =>
    go_enter Try.func10, Try.ntmps10
    go_wp2_with (first | (go_at_call 12; ((with_reducible refine HG1.out.mono ?_); rintro e w1 ⟨rfl, hb1⟩); have HB1 := Lib.hid (HB3.out.trans (hb1.mono HB3.out.size)); clear hb1) | (go_at_call 13; ((with_reducible refine (awake_any _).mono ?_); rintro e w2 ⟨rfl, hb2⟩)))
    go_ret
    exact ⟨rfl, HB1.out.trans (hb2.mono HB1.out.size)⟩
  | false =>
    have hct : t.count ≤ 400 := by have := of_decide_eq_false HD1.out; rw [countL_cons, countL_nil] at this; omega
    have HCT := Lib.hid hct
    obtain ⟨N, hN⟩ : ∃ N : Nat, (N : Int) = deep % 20 := ⟨(deep % 20).toNat, by omega⟩
    have hN1 : N < 20 := by omega
    have hdm : deep.tmod 20 = (N : Int) := by rw [Int.tmod_eq_emod_of_nonneg hd0, hN]
    clear hct hN
    go_enter Try.func10, Try.ntmps10
    go_wp2_with (go_at_call 12; ((with_reducible refine HG1.out.mono ?_); rintro e w1 ⟨rfl, hb1⟩); have HB1 := Lib.hid (HB3.out.trans (hb1.mono HB3.out.size)); have hk1 := HK3.out.bel2 hb1; have HK1 := Lib.hid hk1; have x0 := hk1.cell 0; have x1 := hk1.cell 1; have x2 := hk1.cell 2; have x3 := hk1.cell 3; have x4 := hk1.cell 4; have xl := hk1.lt; have HL1 := Lib.hid hb1.size; clear hb1 hk1)
    have hrelS : ∀ v : World, v.heap.size = w1.heap.size → True := fun _ _ => trivial
    go_loopg [9] N (fun gk v9 wr => ∃ (j : Nat) (cs ds : List Value), j + gk = N ∧ v9 = .int .i64 j ∧ Below w.heap.size w wr ∧ Blk wr w.heap.size 24 #[.int .i64 k, .string p, .string n, .slice A m c, .slice B l d] ∧ BK wr w1.heap.size (w1.heap.size + 1) (wrapT j (varT s)) (wrapT j t) cs ds)
    case atStart =>
      have hw2 : Below w1.heap.size w1 ((w1.alloc (.cells #[.int .i64 9, .string ⟨#[]⟩, .string s, .slice none 0 0, .slice none 0 0] 24)).alloc (.cells #[.int .i64 k, .string p, .string n, .slice A m c, .slice B l d] 24)) := ((Below.refl _ _).alloc (Nat.le_refl _) _).alloc (by simp) _
      have hn : Ng w1.heap.size (w1.heap.size + 1) = Ng w1.heap.size (w1.heap.size + 1) := rfl
      refine ⟨0, [.int .i64 9, .string ⟨#[]⟩, .string s, .slice none 0 0, .slice none 0 0], [.int .i64 k, .string p, .string n, .slice A m c, .slice B l d], by simp, rfl, HB1.out.trans (hw2.mono HB1.out.size), HK1.out.bel2 hw2, (Blk.new w1 _ _).alloc _, Blk.new_at (by simp), RT.mk_ (A := none) (A' := none) (c := 0) (c' := 0) (SlT.none_ _ _) (SlT.none_ _ _), ?_, by omega⟩
      have h1 := HTO.out.bel (HB1.out.trans (hw2.mono HB1.out.size))
      have h2 := HB1.out.size
      exact h1.more (F' := Ng w1.heap.size (w1.heap.size + 1)) (fun q hq => by have hq2 : q < w.heap.size := hq; have h3 := HK1.out.lt; exact ⟨by omega, by omega⟩)
    case round =>
      obtain ⟨j, cs, ds, hj, rfl, hb, hk, hbk⟩ := hrel
      have HB := Lib.hid hb
      have HK := Lib.hid hk
      have HBK := Lib.hid hbk
      obtain ⟨k1, p1, n1, A1, m1, c1, B1, l1, d1, rfl⟩ := hbk.ra.shape
      obtain ⟨k2, p2, n2, A2, m2, c2, B2, l2, d2, rfl⟩ := hbk.rb.shape
      simp only [tyC] at HBK
      have q0 := hbk.ba.cell 0
      have q1 := hbk.ba.cell 1
      have q2 := hbk.ba.cell 2
      have q3 := hbk.ba.cell 3
      have q4 := hbk.ba.cell 4
      have ql := hbk.ba.lt
      have r0 := hbk.bb.cell 0
      have r1 := hbk.bb.cell 1
      have r2 := hbk.bb.cell 2
      have r3 := hbk.bb.cell 3
      have r4 := hbk.bb.cell 4
      have rl := hbk.bb.lt
      have f0 := hbk.ba.frozen 0
      have f1 := hbk.ba.frozen 1
      have f2 := hbk.ba.frozen 2
      have f3 := hbk.ba.frozen 3
      have f4 := hbk.ba.frozen 4
      have g0 := hbk.bb.frozen 0
      have g1 := hbk.bb.frozen 1
      have g2 := hbk.bb.frozen 2
      have g3 := hbk.bb.frozen 3
      have g4 := hbk.bb.frozen 4
      simp only [tyC] at q0 q1 q2 q3 q4 r0 r1 r2 r3 r4
      have x0 := hk.cell 0
      have x1 := hk.cell 1
      have x2 := hk.cell 2
      have x3 := hk.cell 3
      have x4 := hk.cell 4
      have xl := hk.lt
      have hdm2 : deep % 20 = (N : Int) := by rw [← hdm, Int.tmod_eq_emod_of_nonneg hd0]
      clear hb hk hbk
      cases gk with
      | succ gg =>
        have hjl : (j : Int) < (N : Int) := by omega
        have hjl2 : decide (j < N) = true := decide_eq_true (by omega)
        have hj19 : (j : Int) ≤ 20 := by omega
        go_wp2
        have HV := Lib.hid HBK.out.both
        have hgr := roundW_gr wr w1.heap.size (w1.heap.size + 1) (.int .i64 k1) (.string p1) (.string n1) (.slice A1 m1 c1) (.slice B1 l1 d1) (.int .i64 k2) (.string p2) (.string n2) (.slice A2 m2 c2) (.slice B2 l2 d2)
        have hs1 := HB1.out.size
        have hk1l := HK1.out.lt
        have HV2 := Lib.hid (show Below w.heap.size w (roundW wr w1.heap.size (w1.heap.size + 1) (.int .i64 k1) (.string p1) (.string n1) (.slice A1 m1 c1) (.slice B1 l1 d1) (.int .i64 k2) (.string p2) (.string n2) (.slice A2 m2 c2) (.slice B2 l2 d2)) from HB.out.trans (hgr.belowN HB.out.size (fun q hq e => by have e2 : q = w1.heap.size ∨ q = w1.heap.size + 1 := e; omega)))
        have HV3 := Lib.hid (hgr.blk HK.out (fun e => by have e2 : w.heap.size = w1.heap.size ∨ w.heap.size = w1.heap.size + 1 := e; omega))
        clear hgr q0 q1 q2 q3 q4 ql r0 r1 r2 r3 r4 rl f0 f1 f2 f3 f4 g0 g1 g2 g3 g4 x0 x1 x2 x3 x4 xl
        show Handed _ _ _ (roundW wr w1.heap.size (w1.heap.size + 1) (.int .i64 k1) (.string p1) (.string n1) (.slice A1 m1 c1) (.slice B1 l1 d1) (.int .i64 k2) (.string p2) (.string n2) (.slice A2 m2 c2) (.slice B2 l2 d2))
        generalize roundW wr w1.heap.size (w1.heap.size + 1) (.int .i64 k1) (.string p1) (.string n1) (.slice A1 m1 c1) (.slice B1 l1 d1) (.int .i64 k2) (.string p2) (.string n2) (.slice A2 m2 c2) (.slice B2 l2 d2) = V at HV HV2 HV3 ⊢
        go_roundg gg
        case measure => omega
        case rel => exact ⟨j + 1, _, _, by omega, by go_num, HV2.out, HV3.out, HV.out⟩
      | zero =>
        obtain rfl : j = N := by omega
        have hjl2 : decide (j < j) = false := decide_eq_false (by omega)
        have hv3 : Below wr.heap.size wr (((wr.alloc (.cells #[.string s] 9)).alloc (.cells #[.int .i64 k1, .string p1, .string n1, .slice A1 m1 c1, .slice B1 l1 d1] 24)).alloc (.cells #[.int .i64 k2, .string p2, .string n2, .slice A2 m2 c2, .slice B2 l2 d2] 24)) := (((Below.refl _ _).alloc (Nat.le_refl _) _).alloc (by simp) _).alloc (by simp; omega) _
        have HV3 := Lib.hid hv3
        have n1' : Blk (((wr.alloc (.cells #[.string s] 9)).alloc (.cells #[.int .i64 k1, .string p1, .string n1, .slice A1 m1 c1, .slice B1 l1 d1] 24)).alloc (.cells #[.int .i64 k2, .string p2, .string n2, .slice A2 m2 c2, .slice B2 l2 d2] 24)) (wr.heap.size + 1) 24 #[.int .i64 k1, .string p1, .string n1, .slice A1 m1 c1, .slice B1 l1 d1] := (Blk.new_at (by simp)).alloc _
        have n2' : Blk (((wr.alloc (.cells #[.string s] 9)).alloc (.cells #[.int .i64 k1, .string p1, .string n1, .slice A1 m1 c1, .slice B1 l1 d1] 24)).alloc (.cells #[.int .i64 k2, .string p2, .string n2, .slice A2 m2 c2, .slice B2 l2 d2] 24)) (wr.heap.size + 1 + 1) 24 #[.int .i64 k2, .string p2, .string n2, .slice A2 m2 c2, .slice B2 l2 d2] := Blk.new_at (by simp)
        have n0' : Blk (((wr.alloc (.cells #[.string s] 9)).alloc (.cells #[.int .i64 k1, .string p1, .string n1, .slice A1 m1 c1, .slice B1 l1 d1] 24)).alloc (.cells #[.int .i64 k2, .string p2, .string n2, .slice A2 m2 c2, .slice B2 l2 d2] 24)) wr.heap.size 9 #[.string s] := ((Blk.new _ _ _).alloc _).alloc _
        have hsS : SlS (((wr.alloc (.cells #[.string s] 9)).alloc (.cells #[.int .i64 k1, .string p1, .string n1, .slice A1 m1 c1, .slice B1 l1 d1] 24)).alloc (.cells #[.int .i64 k2, .string p2, .string n2, .slice A2 m2 c2, .slice B2 l2 d2] 24)) (fun _ => True) (some ⟨wr.heap.size, 0, none⟩) [s] := ⟨fun x hx => by (rw [List.mem_singleton.1 hx]; unfold maxLen; omega), fun _ => ⟨wr.heap.size, 0, rfl, trivial, n0'.lt, fun i x hx => by
          cases i with
          | zero =>
            simp at hx
            subst hx
            exact (n0'.cell 0).trans rfl
          | succ i => simp at hx⟩⟩
        have hwc := wrap_count (varT s) j
        have hwt := wrap_count t j
        have hvc : (varT s).count = 1 := by unfold varT; rw [count_mk, countL_nil]
        have hvm : (varT s).mx = s.size := by unfold varT; rw [mx_mk, mxL_nil]; show max (max 0 s.size) (max 0 0) = s.size; omega
        have hmw := wrap_mx (varT s) j
        have hmt := wrap_mx t j
        have hct := HCT.out
        have HI := Lib.hid (infer_any [s] [wrapT j (varT s)] [wrapT j t] (by simp) (by rw [countL_cons, countL_nil]; omega) (by rw [mxL_cons, mxL_nil]; omega) (by rw [countL_cons, countL_nil]; omega) (by rw [mxL_cons, mxL_nil]; omega) (((wr.alloc (.cells #[.string s] 9)).alloc (.cells #[.int .i64 k1, .string p1, .string n1, .slice A1 m1 c1, .slice B1 l1 d1] 24)).alloc (.cells #[.int .i64 k2, .string p2, .string n2, .slice A2 m2 c2, .slice B2 l2 d2] 24)) (fun _ => True) (fun _ => True) (fun _ => True) (some ⟨wr.heap.size, 0, none⟩) (some ⟨wr.heap.size + 1, 0, none⟩) (some ⟨wr.heap.size + 1 + 1, 0, none⟩) 1 1 1 hsS (SlT.one n1' trivial ((HBK.out.ra.bel hv3).more (fun _ _ => trivial))) (SlT.one n2' trivial ((HBK.out.rb.bel hv3).more (fun _ _ => trivial))))
        have e1 : [s].length = 1 := rfl
        have e2 : [wrapT j (varT s)].length = 1 := rfl
        have e3 : [wrapT j t].length = 1 := rfl
        rw [e1, e2, e3] at HI
        have HPT := Lib.hid (fun V g D f (hb : Below wr.heap.size wr V) (hs : SlS V (fun _ => True) (some ⟨g, 0, none⟩) [s]) (ht : SlT V (fun _ => True) D [t]) => put_any (wrapT j (varT s)) [s] [t] (by omega) (by omega) (by simp) (Small.of (by rw [countL_cons, countL_nil]; omega) (by rw [mxL_cons, mxL_nil]; omega)) V _ _ _ _ _ _ 1 f (HBK.out.ra.bel hb) hs ht)
        simp only [putT_wrap] at HPT
        have e4 : [t].length = 1 := rfl
        simp only [e1, e4] at HPT
        have HQ := Lib.hid (show (wrapT j t).count ≤ 2000000 by omega)
        clear hv3 n1' n2' n0' hsS hwc hwt hvc hvm hmw hmt e1 e2 e3 e4 hct hj
        by_cases hk0 : k = 0
        · subst hk0
          rw [back_bad s t j (Or.inl HKD.out)] at HI
          go_wp2_with (go_at_call 33; ((with_reducible refine HI.out.mono ?_); intro e w6 hI; obtain ⟨rfl, hb6⟩ := InferP.no hI); have hb7 := HV3.out.trans (hb6.mono HV3.out.size); have HB7 := Lib.hid (HB.out.trans (hb7.mono HB.out.size)); have hk7 := HK.out.bel2 hb7; have y0 := hk7.cell 0; have yl := hk7.lt; clear hb6 hb7 hk7 hI)
          go_ret
          exact ⟨rfl, HB7.out⟩
        · have hk0b : (k == 0) = false := by simpa using hk0
          by_cases hk4 : k = 4
          · subst hk4
            rw [back_bad s t j (Or.inr HKD.out)] at HI
            go_wp2_with (go_at_call 33; ((with_reducible refine HI.out.mono ?_); intro e w6 hI; obtain ⟨rfl, hb6⟩ := InferP.no hI); have hb7 := HV3.out.trans (hb6.mono HV3.out.size); have HB7 := Lib.hid (HB.out.trans (hb7.mono HB.out.size)); have hk7 := HK.out.bel2 hb7; have y0 := hk7.cell 0; have yl := hk7.lt; clear hb6 hb7 hk7 hI)
            go_ret
            exact ⟨rfl, HB7.out⟩
          · have hk4b : (k == 4) = false := by simpa using hk4
            rw [back_good s t j (by rw [HKD.out]; exact hk0) (by rw [HKD.out]; exact hk4)] at HI
            clear hk0 hk4
            go_wp2_with (go_at_call 33; ((with_reducible refine HI.out.mono ?_); intro e w6 hI; obtain ⟨A6, c6, rfl, hs6, hb6⟩ := InferP.yes hI); have hb7 := HV3.out.trans (hb6.mono HV3.out.size); have HW7 := Lib.hid hb7; have HB7 := Lib.hid (HB.out.trans (hb7.mono HB.out.size)); have hk7 := HK.out.bel2 hb7; have y0 := hk7.cell 0; have y1 := hk7.cell 1; have y2 := hk7.cell 2; have y3 := hk7.cell 3; have y4 := hk7.cell 4; have yl := hk7.lt; have HS6 := Lib.hid hs6; clear hb6 hb7 hk7 hI hs6)
            have HBA := Lib.hid (HBK.out.ba.bel2 HW7.out)
            have HBB := Lib.hid (HBK.out.bb.bel2 HW7.out)
            obtain ⟨q, o, us, hAq, _, hql, hru, hqt⟩ := HS6.out.at_ (i := 0) (u := t) rfl
            obtain ⟨k5, p5, n5, A5, m5, c5, B5, l5, d5, rfl⟩ := hru.shape
            have q0 := hqt 0 _ rfl
            have q1 := hqt 1 _ rfl
            have q2 := hqt 2 _ rfl
            have q3 := hqt 3 _ rfl
            have q4 := hqt 4 _ rfl
            simp only [Nat.zero_mul, Nat.add_zero] at q0 q1 q2 q3 q4
            subst hAq
            have a0 := HBA.out.cell 0
            have a1 := HBA.out.cell 1
            have a2 := HBA.out.cell 2
            have a3 := HBA.out.cell 3
            have a4 := HBA.out.cell 4
            have al := HBA.out.lt
            have b0 := HBB.out.cell 0
            have b1 := HBB.out.cell 1
            have b2 := HBB.out.cell 2
            have b3 := HBB.out.cell 3
            have b4 := HBB.out.cell 4
            have bl := HBB.out.lt
            have HRU := Lib.hid hru
            clear hqt hru HI
            refine wp_region_held_drew (S := fun V => Below w6.heap.size w6 V) (by kernel_rfl) (Below.refl _ w6).drew (fun hS0 => ?_)
            refine wpAnyH_take (i := 0) (v := .bool true) rfl (by kernel_rfl) (by kernel_rfl) (by kernel_rfl) (fun _ _ _ h => h) (Or.inl ⟨rfl, fun w' hS => by (unfold execOp; go_simp)⟩) hS0 ?_
            simp only [Act.put, List.getElem_toArray, List.getElem_cons_zero, List.getElem_cons_succ, List.setIfInBounds_toArray, List.set_cons_zero, List.set_cons_succ]
            refine wpAnyH_take (i := 1) (v := .bool true) rfl (by kernel_rfl) (by kernel_rfl) (by kernel_rfl) (fun _ _ _ h => h) (Or.inl ⟨rfl, fun w' hS => by (unfold execOp; go_simp)⟩) hS0 ?_
            simp only [Act.put, List.getElem_toArray, List.getElem_cons_zero, List.getElem_cons_succ, List.setIfInBounds_toArray, List.set_cons_zero, List.set_cons_succ]
            refine wpAnyH_take (i := 2) (v := .slice (some ⟨q, o, none⟩) 1 c6) rfl (by kernel_rfl) (by kernel_rfl) (by kernel_rfl) (fun _ _ _ h => h) (Or.inl ⟨by kernel_rfl, fun w' hS => by (unfold execOp; go_simp)⟩) hS0 ?_
            simp only [Act.put, List.getElem_toArray, List.getElem_cons_zero, List.getElem_cons_succ, List.setIfInBounds_toArray, List.set_cons_zero, List.set_cons_succ]
            refine wpAnyH_take (i := 3) (v := .int .i64 1) rfl (by kernel_rfl) (by kernel_rfl) (by kernel_rfl) (fun _ _ _ h => h) (Or.inl ⟨by kernel_rfl, fun w' hS => by (unfold execOp; go_simp)⟩) hS0 ?_
            simp only [Act.put, List.getElem_toArray, List.getElem_cons_zero, List.getElem_cons_succ, List.setIfInBounds_toArray, List.set_cons_zero, List.set_cons_succ]
            refine wpAnyH_take (i := 4) (v := .bool true) rfl (by kernel_rfl) (by kernel_rfl) (by kernel_rfl) (fun _ _ _ h => h) (Or.inl ⟨by kernel_rfl, fun w' hS => by (unfold execOp; go_simp)⟩) hS0 ?_
            simp only [Act.put, List.getElem_toArray, List.getElem_cons_zero, List.getElem_cons_succ, List.setIfInBounds_toArray, List.set_cons_zero, List.set_cons_succ]
            refine wpAnyH_take (i := 5) (v := .bool true) rfl (by kernel_rfl) (by kernel_rfl) (by kernel_rfl) (fun _ _ _ h => h) (Or.inl ⟨rfl, fun w' hS => by (unfold execOp; go_simp)⟩) hS0 ?_
            simp only [Act.put, List.getElem_toArray, List.getElem_cons_zero, List.getElem_cons_succ, List.setIfInBounds_toArray, List.set_cons_zero, List.set_cons_succ]
            refine wpAnyH_take (i := 6) (v := .bool true) rfl (by kernel_rfl) (by kernel_rfl) (by kernel_rfl) (fun _ _ _ h => h) (Or.inl ⟨rfl, fun w' hS => by (unfold execOp; go_simp)⟩) hS0 ?_
            simp only [Act.put, List.getElem_toArray, List.getElem_cons_zero, List.getElem_cons_succ, List.setIfInBounds_toArray, List.set_cons_zero, List.set_cons_succ]
            refine wpAnyH_take (i := 7) (v := .slice (some ⟨q, o, none⟩) 1 c6) rfl (by kernel_rfl) (by kernel_rfl) (by kernel_rfl) (fun _ _ _ h => h) (Or.inl ⟨by kernel_rfl, fun w' hS => by (unfold execOp; go_simp)⟩) hS0 ?_
            simp only [Act.put, List.getElem_toArray, List.getElem_cons_zero, List.getElem_cons_succ, List.setIfInBounds_toArray, List.set_cons_zero, List.set_cons_succ]
            refine wpAnyH_take (i := 8) (v := .pointer (some ⟨q, o, none⟩)) rfl (by kernel_rfl) (by kernel_rfl) (by kernel_rfl) (fun _ _ _ h => h) (Or.inl ⟨by kernel_rfl, fun w' hS => by (unfold execOp; go_simp)⟩) hS0 ?_
            simp only [Act.put, List.getElem_toArray, List.getElem_cons_zero, List.getElem_cons_succ, List.setIfInBounds_toArray, List.set_cons_zero, List.set_cons_succ]
            refine wpAnyH_take (i := 9) (v := .agg #[.int .i64 k5, .string p5, .string n5, .slice A5 m5 c5, .slice B5 l5 d5]) rfl (by kernel_rfl) (by kernel_rfl) (by kernel_rfl) (fun _ _ _ h => h) (Or.inl ⟨by kernel_rfl, fun w' hS => by (have z0 := (hS.cell (p := ⟨q, _, none⟩) hql).trans q0; have z1 := (hS.cell (p := ⟨q, _, none⟩) hql).trans q1; have z2 := (hS.cell (p := ⟨q, _, none⟩) hql).trans q2; have z3 := (hS.cell (p := ⟨q, _, none⟩) hql).trans q3; have z4 := (hS.cell (p := ⟨q, _, none⟩) hql).trans q4; unfold execOp; go_simp)⟩) hS0 ?_
            simp only [Act.put, List.getElem_toArray, List.getElem_cons_zero, List.getElem_cons_succ, List.setIfInBounds_toArray, List.set_cons_zero, List.set_cons_succ]
            refine wpAnyH_take (i := 10) (v := .agg #[.int .i64 k, .string p, .string n, .slice A m c, .slice B l d]) rfl (by kernel_rfl) (by kernel_rfl) (by kernel_rfl) (fun _ _ _ h => h) (Or.inl ⟨by kernel_rfl, fun w' hS => by (have z0 := (hS.cell (p := ⟨w.heap.size, _, none⟩) yl).trans y0; have z1 := (hS.cell (p := ⟨w.heap.size, _, none⟩) yl).trans y1; have z2 := (hS.cell (p := ⟨w.heap.size, _, none⟩) yl).trans y2; have z3 := (hS.cell (p := ⟨w.heap.size, _, none⟩) yl).trans y3; have z4 := (hS.cell (p := ⟨w.heap.size, _, none⟩) yl).trans y4; unfold execOp; go_simp)⟩) hS0 ?_
            simp only [Act.put, List.getElem_toArray, List.getElem_cons_zero, List.getElem_cons_succ, List.setIfInBounds_toArray, List.set_cons_zero, List.set_cons_succ]
            refine wpAnyH_oneG (i := 11) (by kernel_rfl) rfl (by kernel_rfl) (op_call (args := #[.agg #[.int .i64 k5, .string p5, .string n5, .slice A5 m5 c5, .slice B5 l5 d5], .agg #[.int .i64 k, .string p, .string n, .slice A m c, .slice B l d]]) (f := 14) (by unfold execOp; go_simp) ((same_all 2000000 (Nat.le_refl _) t t (by have := HCT.out; omega) _ _ _ _ _ (HRU.out.bel hS0) (HT.out.bel (HB7.out.trans (hS0.mono HB7.out.size)))).mono ?_))
            rintro e w11 ⟨he11, hb11⟩
            rw [same_refl] at he11
            subst he11
            have hS1 : Below w6.heap.size w6 w11 := hS0.trans (hb11.mono hS0.size)
            refine And.intro hS1 ?_
            simp only [Act.put, List.getElem_toArray, List.getElem_cons_zero, List.getElem_cons_succ, List.setIfInBounds_toArray, List.set_cons_zero, List.set_cons_succ]
            refine wpAnyH_take (i := 12) (v := .bool true) rfl (by kernel_rfl) (by kernel_rfl) (by kernel_rfl) (fun _ _ _ h => h) (Or.inl ⟨rfl, fun w' hS => by (unfold execOp; go_simp)⟩) hS1 ?_
            simp only [Act.put, List.getElem_toArray, List.getElem_cons_zero, List.getElem_cons_succ, List.setIfInBounds_toArray, List.set_cons_zero, List.set_cons_succ]
            refine wpAnyH_take (i := 13) (v := .bool true) rfl (by kernel_rfl) (by kernel_rfl) (by kernel_rfl) (fun _ _ _ h => h) (Or.inl ⟨rfl, fun w' hS => by (unfold execOp; go_simp)⟩) hS1 ?_
            simp only [Act.put, List.getElem_toArray, List.getElem_cons_zero, List.getElem_cons_succ, List.setIfInBounds_toArray, List.set_cons_zero, List.set_cons_succ]
            refine wpAnyH_take (i := 14) (v := .agg #[.int .i64 k1, .string p1, .string n1, .slice A1 m1 c1, .slice B1 l1 d1]) rfl (by kernel_rfl) (by kernel_rfl) (by kernel_rfl) (fun _ _ _ h => h) (Or.inl ⟨by kernel_rfl, fun w' hS => by (have z0 := (hS.cell (p := ⟨w1.heap.size, _, none⟩) al).trans a0; have z1 := (hS.cell (p := ⟨w1.heap.size, _, none⟩) al).trans a1; have z2 := (hS.cell (p := ⟨w1.heap.size, _, none⟩) al).trans a2; have z3 := (hS.cell (p := ⟨w1.heap.size, _, none⟩) al).trans a3; have z4 := (hS.cell (p := ⟨w1.heap.size, _, none⟩) al).trans a4; unfold execOp; go_simp)⟩) hS1 ?_
            simp only [Act.put, List.getElem_toArray, List.getElem_cons_zero, List.getElem_cons_succ, List.setIfInBounds_toArray, List.set_cons_zero, List.set_cons_succ]
            refine wpAnyH_take (i := 15) (v := .string s) rfl (by kernel_rfl) (by kernel_rfl) (by kernel_rfl) (fun _ _ _ h => h) (Or.inl ⟨by kernel_rfl, fun w' hS => by (unfold execOp; go_simp)⟩) hS1 ?_
            simp only [Act.put, List.getElem_toArray, List.getElem_cons_zero, List.getElem_cons_succ, List.setIfInBounds_toArray, List.set_cons_zero, List.set_cons_succ]
            refine wpAnyH_take (i := 17) (v := .slice (some ⟨q, o, none⟩) 1 c6) rfl (by kernel_rfl) (by kernel_rfl) (by kernel_rfl) (fun _ _ _ h => h) (Or.inl ⟨by kernel_rfl, fun w' hS => by (unfold execOp; go_simp)⟩) hS1 ?_
            simp only [Act.put, List.getElem_toArray, List.getElem_cons_zero, List.getElem_cons_succ, List.setIfInBounds_toArray, List.set_cons_zero, List.set_cons_succ]
            refine wpAnyH_take (i := 19) (v := .agg #[.int .i64 k2, .string p2, .string n2, .slice A2 m2 c2, .slice B2 l2 d2]) rfl (by kernel_rfl) (by kernel_rfl) (by kernel_rfl) (fun _ _ _ h => h) (Or.inl ⟨by kernel_rfl, fun w' hS => by (have z0 := (hS.cell (p := ⟨w1.heap.size + 1, _, none⟩) bl).trans b0; have z1 := (hS.cell (p := ⟨w1.heap.size + 1, _, none⟩) bl).trans b1; have z2 := (hS.cell (p := ⟨w1.heap.size + 1, _, none⟩) bl).trans b2; have z3 := (hS.cell (p := ⟨w1.heap.size + 1, _, none⟩) bl).trans b3; have z4 := (hS.cell (p := ⟨w1.heap.size + 1, _, none⟩) bl).trans b4; unfold execOp; go_simp)⟩) hS1 ?_
            simp only [Act.put, List.getElem_toArray, List.getElem_cons_zero, List.getElem_cons_succ, List.setIfInBounds_toArray, List.set_cons_zero, List.set_cons_succ]
            have hS2 : Below w6.heap.size w6 (w11.alloc (.cells #[.string s] 9)) := hS1.alloc hS1.size _
            refine wpAnyH_oneG (i := 16) (by kernel_rfl) rfl (by kernel_rfl) (op_val (v := .slice (some ⟨w11.heap.size, 0, none⟩) 1 1) (w' := w11.alloc (.cells #[.string s] 9)) (by unfold execOp; go_simp) (And.intro hS2 ?_))
            simp only [Act.put, List.getElem_toArray, List.getElem_cons_zero, List.getElem_cons_succ, List.setIfInBounds_toArray, List.set_cons_zero, List.set_cons_succ]
            have hn11 : Blk (w11.alloc (.cells #[.string s] 9)) w11.heap.size 9 #[.string s] := Blk.new _ _ _
            have hsS : SlS (w11.alloc (.cells #[.string s] 9)) (fun _ => True) (some ⟨w11.heap.size, 0, none⟩) [s] := ⟨fun x hx => by (rw [List.mem_singleton.1 hx]; unfold maxLen; omega), fun _ => ⟨w11.heap.size, 0, rfl, trivial, hn11.lt, fun i x hx => by
              cases i with
              | zero =>
                simp at hx
                subst hx
                exact (hn11.cell 0).trans rfl
              | succ i => simp at hx⟩⟩
            refine wpAnyH_oneG (i := 18) (by kernel_rfl) rfl (by kernel_rfl) (op_call (args := #[.agg #[.int .i64 k1, .string p1, .string n1, .slice A1 m1 c1, .slice B1 l1 d1], .slice (some ⟨w11.heap.size, 0, none⟩) 1 1, .slice (some ⟨q, o, none⟩) 1 c6]) (f := 31) (by unfold execOp; go_simp) ((HPT.out _ _ _ _ (HW7.out.trans (hS2.mono HW7.out.size)) hsS (HS6.out.bel hS2)).mono ?_))
            rintro e w12 ⟨k9, p9, n9, A9, m9, c9, B9, l9, d9, rfl, hr9, hb9⟩
            have hS3 : Below w6.heap.size w6 w12 := hS2.trans (hb9.mono hS2.size)
            refine And.intro hS3 ?_
            simp only [Act.put, List.getElem_toArray, List.getElem_cons_zero, List.getElem_cons_succ, List.setIfInBounds_toArray, List.set_cons_zero, List.set_cons_succ]
            refine wpAnyH_oneG (i := 20) (by kernel_rfl) rfl (by kernel_rfl) (op_call (args := #[.agg #[.int .i64 k9, .string p9, .string n9, .slice A9 m9 c9, .slice B9 l9 d9], .agg #[.int .i64 k2, .string p2, .string n2, .slice A2 m2 c2, .slice B2 l2 d2]]) (f := 14) (by unfold execOp; go_simp) ((same_all 2000000 (Nat.le_refl _) (wrapT j t) (wrapT j t) HQ.out _ _ _ _ _ hr9 (HBK.out.rb.bel (HW7.out.trans (hS3.mono HW7.out.size)))).mono ?_))
            rintro e w13 ⟨he13, hb13⟩
            rw [same_refl] at he13
            subst he13
            have hS4 : Below w6.heap.size w6 w13 := hS3.trans (hb13.mono hS3.size)
            refine And.intro hS4 ?_
            simp only [Act.put, List.getElem_toArray, List.getElem_cons_zero, List.getElem_cons_succ, List.setIfInBounds_toArray, List.set_cons_zero, List.set_cons_succ]
            refine wpAnyH_take (i := 21) (v := .bool true) rfl (by kernel_rfl) (by kernel_rfl) (by kernel_rfl) (fun _ _ _ h => h) (Or.inl ⟨rfl, fun w' hS => by (unfold execOp; go_simp)⟩) hS4 ?_
            simp only [Act.put, List.getElem_toArray, List.getElem_cons_zero, List.getElem_cons_succ, List.setIfInBounds_toArray, List.set_cons_zero, List.set_cons_succ]
            refine wpAnyH_take (i := 22) (v := .bool true) rfl (by kernel_rfl) (by kernel_rfl) (by kernel_rfl) (fun _ _ _ h => h) (Or.inl ⟨rfl, fun w' hS => by (unfold execOp; go_simp)⟩) hS4 ?_
            simp only [Act.put, List.getElem_toArray, List.getElem_cons_zero, List.getElem_cons_succ, List.setIfInBounds_toArray, List.set_cons_zero, List.set_cons_succ]
            refine wpAnyH_done (by kernel_rfl) ?_ _
            have HF := Lib.hid (HB7.out.trans (hS4.mono HB7.out.size))
            clear hS0 hS1 hS2 hS3 hS4 hb11 hb9 hb13 hr9 hn11 hsS
            go_wp2
            go_ret
            exact ⟨rfl, HF.out⟩
end Go.Proofs.Ytkgilhdoahkakaa
