/-
  The order, walked.
-/
import Derived.Test.YtibfikadamfpdaaOs
namespace Go.Proofs.Ytibfikadamfpdaa
open Go.RowKit
set_option linter.unusedVariables false
set_option linter.unusedSimpArgs false

/-- The order that there is of packages. -/
def ordN (N : List ByteArray) (tt : Nat → Nat → Bool) : List Nat := ordF N.length tt (nlt N) N.length []
def Apart (N : List ByteArray) : Prop := ∀ a b, a < N.length → b < N.length → txt9 N a = txt9 N b → a = b
theorem Apart.lt {N : List ByteArray} (h : Apart N) : ∀ a c, a < N.length → c < N.length → nlt N a c = false → nlt N c a = false → a = c := fun a c ha hc h1 h2 => h a c ha hc (nlt_total N h1 h2)
def OrdP (w : World) (L : List Nat) (e : Ending) (w' : World) : Prop := (∃ A c, e = .returned (.slice A L.length c) ∧ w'.ownsRow w.heap.size 3 1 (.slice A L.length c) L.length (ints L)) ∧ Below w.heap.size w w'
theorem len_le {q : List Nat} {k : Nat} (hn : q.Nodup) (h : ∀ x ∈ q, x < k) : q.length ≤ k := pigeon k q hn h
set_option maxRecDepth 100000 in
set_option maxHeartbeats 8000000 in
theorem order_any (w : World) (B : Nat) (A D : Option Addr) (c d : Nat) (N : List ByteArray) (tt : Nat → Nat → Bool) (hN : SlV w B A (N.map Value.string)) (hT : SlN w B D (tabL N.length tt)) (hB : B ≤ w.heap.size) (hn : N.length ≤ 8) (hd : Apart N) :
    Calls Try.prog 24 #[.slice D N.length d, .slice A N.length c] w (OrdP w (ordN N tt)) := by
  have HN := Lib.hid hN
  have HT := Lib.hid hT
  have HD := Lib.hid hd
  have HAS := Lib.hid assert_int
  have n1 : (N.length : Int) ≤ 8 := by omega
  obtain ⟨W0, hW0⟩ : ∃ W0, w.alloc (.cells #[.slice A N.length c, .slice none 0 0] 60) = W0 := ⟨_, rfl⟩
  have hZ0 : W0.heap.size = w.heap.size + 1 := by rw [← hW0]; simp
  have hmk := run_mki N.length (by omega) W0
  rw [hZ0] at hmk
  obtain ⟨W1, hW1⟩ : ∃ W1, W0.alloc (.cells (List.replicate N.length (Value.int .i64 0)).toArray 3) = W1 := ⟨_, rfl⟩
  rw [hW1] at hmk
  have hQ0 : QM w W1 A c N (.slice none 0 0) [] (fun x => if x < 0 then cntN N.length tt [] x else 0) (.slice none 0 0) [] := by
    have b0 : Below w.heap.size w W0 := by rw [← hW0]; exact (Below.refl _ w).alloc (Nat.le_refl _) _
    have k0 : Blk W0 w.heap.size 60 #[.slice A N.length c, .slice none 0 0] := by rw [← hW0]; exact Blk.new _ _ _
    have b1 : Below W0.heap.size W0 W1 := by rw [← hW1]; exact (Below.refl _ W0).alloc (Nat.le_refl _) _
    have k1 : Blk W1 W0.heap.size 3 (List.replicate N.length (Value.int .i64 0)).toArray := by rw [← hW1]; exact Blk.new _ _ _
    rw [hZ0, rowI_zero] at k1
    refine ⟨⟨k0.bel2 b1, World.ownsRow_nil _ _ _ _⟩, fun k h0 hk => absurd hk (by simp), ?_, by simp [Value.ownBlock], World.ownsRow_nil _ _ _ _, by simp [Value.ownBlock], by simp [Value.ownBlock], b0.trans (b1.mono (by omega))⟩
    rw [rowI_congr (g := fun _ => 0) (fun i _ => by simp)]
    exact k1
  have HQ0 := Lib.hid hQ0
  clear hN hT hd hQ0 hZ0
  go_enter Try.func24, Try.ntmps24
  go_wp2
  go_loopg [19] N.length (fun gk v19 wr => ∃ i v q, i + gk = N.length ∧ v19 = .int .i64 i ∧ QM w wr A c N v q (fun x => if x < i then cntN N.length tt [] x else 0) (.slice none 0 0) [] ∧ q.Nodup ∧ ∀ x, x ∈ q ↔ x < i ∧ cntN N.length tt [] x = 0)
  case atStart => exact ⟨0, _, [], by simp, rfl, HQ0.out, List.nodup_nil, fun x => by simp⟩
  case round =>
    obtain ⟨i, v, q, hi, rfl, hq, hqn, hqm⟩ := hrel
    have HM := Lib.hid (And.intro hqn hqm)
    cases gk with
    | zero =>
      obtain rfl : i = N.length := by omega
      have hki : KI N.length tt [] q := KI.start hqn hqm
      have HQ := Lib.hid (hq.congr (g := cntN N.length tt []) (fun i hi => if_pos hi))
      have HKI := Lib.hid hki
      clear hi hq hqn hqm hki HM HQ0 hmk
      go_wp2
      have HTW := Lib.hid (fun (Wr : World) (hb : Below w.heap.size w Wr) => (HT.out.more hB).below hb)
      have HNW := Lib.hid (fun (W : World) (v : Value) (q : List Nat) (f : Nat → Nat) (ov : Value) (o : List Nat) (h : QM w W A c N v q f ov o) => h.qn HN.out hB hn)
      clear hW0 hW1
      go_loopg [8] N.length (fun gk v8 wr => ∃ v q o, gk + o.length = N.length ∧ QM w wr A c N v q (cntN N.length tt o) v8 o ∧ KI N.length tt o q ∧ ordN N tt = ordF N.length tt (nlt N) gk o)
      case atStart => exact ⟨v, q, [], by simp, HQ.out, HKI.out, rfl⟩
      case round =>
        obtain ⟨v, q, o, ho, hq, hki, hrun⟩ := hrel
        have HRUN := Lib.hid hrun
        obtain ⟨oA, oc, rfl⟩ := own_shape hq.own
        have hlen := len_any _ _ _ _ _ _ _ _ hq.qr
        have hq8 : q.length ≤ 8 := Nat.le_trans (len_le hki.qnod hki.qlt) hn
        clear hrun
        by_cases hq0 : q.length = 0
        · obtain rfl := List.eq_nil_of_length_eq_zero hq0
          have HL := Lib.hid (show ordN N tt = o from HRUN.out.trans (ordF_none (hki.over (nlt_ord N) (nlt_irr N)) _))
          have HQ := Lib.hid hq
          rw [show ((([] : List Nat).length : Nat) : Int) = 0 from rfl] at hlen
          clear hq hki hq0 ho
          go_wp2_with (go_at_call 31; (with_reducible refine hlen.mono ?_); rintro e w2 ⟨rfl, rfl⟩)
          go_ret
          refine ⟨⟨oA, oc, ?_, ?_⟩, HQ.out.bel⟩
          · rw [HL.out]; rfl
          · rw [HL.out]; exact HQ.out.own
        · obtain ⟨b, hb⟩ : ∃ b, fl q 0 = b := ⟨_, rfl⟩
          have hbq : b ∈ q := mem_fl.2 ⟨0, by omega, hb⟩
          have hroom := hki.room hbq
          have hbn := hki.qlt b hbq
          have HP := hpop_any wr w.heap.size w.heap.size A c v N q hq.qr (HNW.out _ _ _ _ _ _ hq) hki.qlt (by omega) hq8 (by have := hq.size; omega) (Nat.le_refl _) hq.hp
          rw [hb] at HP
          obtain ⟨f, rfl⟩ : ∃ f, gk = f + 1 := ⟨gk - 1, by omega⟩
          have hbest : bestN N.length tt (nlt N) o = some b := hki.best (nlt_ord N) (nlt_irr N) HD.out.lt hbq fun x hx => by
            obtain ⟨k, hk, e⟩ := mem_fl.1 hx
            rw [← e, ← hb]
            exact hq.hp.min_ (nlt_ord N) (nlt_irr N) k hk
          have HR2 := Lib.hid (show ordN N tt = ordF N.length tt (nlt N) f (o ++ [b]) from by rw [HRUN.out]; simp only [ordF, hbest])
          have HQ := Lib.hid hq
          have HK := Lib.hid hki
          have HB := Lib.hid hb
          have HBQ := Lib.hid hbq
          have q1 : (0 : Int) < (q.length : Int) := by omega
          have q2 : (0 : Nat) < q.length := by omega
          have hol : o.length ≤ 1000 := by omega
          have b1 : (b : Int) < (N.length : Int) := by omega
          have b0 : (0 : Int) ≤ (b : Int) := by omega
          have has := HAS.out b
          clear hq hki hb hbq hbest hroom HRUN
          go_wp2_with (first
            | (go_at_call 32; (with_reducible refine HP.mono ?_); rintro e w1 ⟨rfl, hr1, hg1⟩; have HR1 := Lib.hid hr1; have HG1 := Lib.hid hg1; clear hr1 hg1)
            | (go_at_call 31; (with_reducible refine hlen.mono ?_); rintro e w2 ⟨rfl, rfl⟩)
            | (at_builtin; (obtain ⟨v1, q1, h1, h2, h3, h4, h5⟩ := HR1.out; have hq1 := HQ.out.turn h1 h3 HG1.out (.inl h5); have HS := Lib.hid (same_pop h2 h4 HK.out.qnod); clear h1 h2 h3 h4 h5; have HQ1 := Lib.hid hq1; clear hq1; refine app_int rfl (.tmp 46) (.tmp 48) rfl w.heap.size (.slice oA o.length oc) o b w1.heap.size rfl (HQ1.out.own.alloc _) rfl (Blk.new _ _ _) hol (by have := HQ1.out.size; simp; omega) ?_; intro A2 c2 w2 ho2 hg2 hv2; have HQ2 := Lib.hid ((HQ1.out.below ((Below.refl _ _).alloc (Nat.le_refl _) _)).app ho2 hg2 (by simpa using hv2)); clear ho2 hg2 hv2)))
          have HKM := Lib.hid (HK.out.pop (b := b) HBQ.out HS.out.1 (fun x => by rw [HS.out.2, HB.out]))
          clear HG1 HR1 HP hlen
          go_loopg [52] N.length (fun gk v52 wr => ∃ k v' q', k + gk = N.length ∧ v52 = .int .i64 k ∧ QM w wr A c N v' q' (fun x => if x < k then cntN N.length tt (o ++ [b]) x else cntN N.length tt o x) (.slice A2 (o.length + 1) c2) (o ++ [b]) ∧ KM N.length tt o b k q')
          case atStart => exact ⟨0, v1, q1, by simp, rfl, HQ2.out.congr (fun i hi => by simp), HKM.out⟩
          case round =>
            obtain ⟨k, v', q', hk, rfl, hq, hkm⟩ := hrel
            cases gk with
            | zero =>
              obtain rfl : k = N.length := by omega
              have HX := Lib.hid (And.intro (hq.congr (g := cntN N.length tt (o ++ [b])) (fun i hi => if_pos hi)) (HK.out.next HBQ.out hkm))
              clear hq hkm hk
              go_wp2
              go_roundg f
              case measure => omega
              case rel =>
                refine ⟨v', q', o ++ [b], by simp; omega, HX.out.1, HX.out.2, HR2.out⟩
            | succ gf =>
              have hkl : k < N.length := by omega
              have k1 : (k : Int) < (N.length : Int) := by omega
              have k0 : (0 : Int) ≤ (k : Int) := by omega
              obtain ⟨g, go, A', d', rfl, hg, hc, hr⟩ := (HTW.out wr hq.bel).at_ (tabL_get hkl)
              rw [rowB_length] at hc
              have hbn : b < N.length := by omega
              obtain ⟨g2, go2, rfl, _, hcb⟩ := hr.at_ (rowB_get (g := tt k) hbn)
              have HKM := Lib.hid hkm
              cases htk : tt k b with
              | false =>
                rw [htk] at hcb
                have hsp := HK.out.spare HBQ.out htk
                have HQ4 := Lib.hid (hq.congr (g := fun x => if x < k + 1 then cntN N.length tt (o ++ [b]) x else cntN N.length tt o x) (fun i hi => by
                  by_cases e : i = k
                  · rw [e, if_neg (by omega), if_pos (by omega), hsp]
                  · by_cases e2 : i < k
                    · rw [if_pos e2, if_pos (by omega)]
                    · rw [if_neg e2, if_neg (by omega)]))
                have HSP := Lib.hid hsp
                clear hq hkm htk hsp hr
                go_wp2
                go_roundg gf
                case measure => omega
                case rel => exact ⟨k + 1, v', q', by omega, by go_num, HQ4.out, HKM.out.skip (fun _ _ => by rw [HSP.out])⟩
              | true =>
                rw [htk] at hcb
                obtain ⟨hnd, hko⟩ := HK.out.needs HBQ.out htk
                obtain ⟨hmc, hmf⟩ := hq.mis_at hkl
                rw [if_neg (by omega), hnd] at hmc
                obtain ⟨y, hy⟩ : ∃ y, cntN N.length tt (o ++ [b]) k = y := ⟨_, rfl⟩
                rw [hy] at hnd hmc
                have hy8 : y ≤ 8 := by
                  rw [← hy]
                  unfold cntN
                  have := List.length_filter_le (fun j => tt k j && !(o ++ [b]).contains j) (List.range N.length)
                  rw [List.length_range] at this
                  omega
                have ey : ((y + 1 : Nat) : Int) = (y : Int) + 1 := by omega
                rw [ey] at hmc
                have y0 : (0 : Int) ≤ (y : Int) := by omega
                have y8 : (y : Int) ≤ 8 := by omega
                have hmb := hq.mis.lt
                obtain ⟨W2, hW2⟩ : ∃ W2, wr.setCell ⟨w.heap.size + 1, k, none⟩ (.int .i64 (y : Int)) = W2 := ⟨_, rfl⟩
                have hq2 : QM w W2 A c N v' q' (fun x => if x < k + 1 then cntN N.length tt (o ++ [b]) x else cntN N.length tt o x) (.slice A2 (o.length + 1) c2) (o ++ [b]) := by
                  rw [← hW2]
                  refine (hq.store hkl y).congr fun j hj => ?_
                  by_cases e : j = k
                  · subst e; rw [if_pos rfl, if_pos (by omega), hy]
                  · rw [if_neg e]
                    by_cases e2 : j < k
                    · rw [if_pos e2, if_pos (by omega)]
                    · rw [if_neg e2, if_neg (by omega)]
                obtain ⟨hmc2, hmf2⟩ := hq2.mis_at hkl
                rw [if_pos (by omega), hy] at hmc2
                have hkq : k ∉ q' := fun h => by
                  have := ((hkm.qmem k).1 h).2.2
                  rw [if_neg (by omega)] at this
                  omega
                have hql : q'.length < 8 := by
                  have := pigeon N.length (k :: q') (List.nodup_cons.2 ⟨hkq, hkm.qnod⟩) (fun x hx => by
                    rcases List.mem_cons.1 hx with e | e
                    · rw [e]; exact hkl
                    · exact ((hkm.qmem x).1 e).1)
                  simp at this
                  omega
                have hP := hpush_any W2 w.heap.size w.heap.size A c v' N q' k hq2.qr (HNW.out _ _ _ _ _ _ hq2) (fun x hx => ((hkm.qmem x).1 hx).1) hkl hql (by have := hq2.size; omega) (Nat.le_refl _) hq2.hp
                have HQ4 := Lib.hid hq2
                have HY := Lib.hid hy
                have HND := Lib.hid hnd
                have HKO := Lib.hid hko
                have HKQ := Lib.hid hkq
                clear hq hq2 hkm htk hr hnd hko hy hkq hql ey
                by_cases hy0 : y = 0
                · have hy1 : ((y : Int) == 0) = true := by
                    have : (y : Int) = 0 := by omega
                    simpa using this
                  have HY0 := Lib.hid hy0
                  clear hy0
                  go_wp2_with (go_at_call 30; (with_reducible refine hP.mono ?_); rintro e w3 ⟨rfl, hr2, hg2⟩; have HR4 := Lib.hid hr2; have HG4 := Lib.hid hg2; clear hr2 hg2)
                  go_roundg gf
                  case measure => omega
                  case rel =>
                    obtain ⟨v3, l3, h1, h2, h3, h4, h5⟩ := HR4.out
                    obtain ⟨s1, s2⟩ := same_push h2 h4 HKM.out.qnod HKQ.out
                    exact ⟨k + 1, v3, l3, by omega, by go_num, HQ4.out.turn h1 (by rw [h2]; exact h3) HG4.out h5, HKM.out.put hkl HKO.out (HY.out.trans HY0.out) s1 s2⟩
                · have hy1 : ((y : Int) == 0) = false := by
                    have : (y : Int) ≠ 0 := by omega
                    simpa using this
                  have HY0 := Lib.hid hy0
                  clear hy0
                  go_wp2
                  go_roundg gf
                  case measure => omega
                  case rel => exact ⟨k + 1, v', q', by omega, by go_num, HQ4.out, HKM.out.skip (fun _ _ => by rw [HND.out, HY.out]; have := HY0.out; omega)⟩
    | succ gf =>
      have hil : i < N.length := by omega
      have i1 : (i : Int) < (N.length : Int) := by omega
      have i0 : (0 : Int) ≤ (i : Int) := by omega
      have HI := imports_any wr w.heap.size D N.length d i tt ((HT.out.more hB).below hq.bel) (by omega) hil
      obtain ⟨hmc, hmf⟩ := hq.mis_at hil
      obtain ⟨k, hk⟩ : ∃ k, cntN N.length tt [] i = k := ⟨_, rfl⟩
      rw [hk] at HI
      have hmb := hq.mis.lt
      obtain ⟨W2, hW2⟩ : ∃ W2, wr.setCell ⟨w.heap.size + 1, i, none⟩ (.int .i64 (k : Int)) = W2 := ⟨_, rfl⟩
      have hq2 : QM w W2 A c N v q (fun x => if x < i + 1 then cntN N.length tt [] x else 0) (.slice none 0 0) [] := by
        rw [← hW2]
        refine (hq.store hil k).congr fun j hj => ?_
        by_cases e : j = i
        · subst e; rw [if_pos rfl, if_pos (by omega), hk]
        · rw [if_neg e]
          by_cases e2 : j < i
          · rw [if_pos e2, if_pos (by omega)]
          · rw [if_neg e2, if_neg (by omega)]
      obtain ⟨hmc2, hmf2⟩ := hq2.mis_at hil
      rw [if_pos (by omega), hk] at hmc2
      have hql : q.length ≤ i := len_le hqn fun x hx => ((hqm x).1 hx).1
      have hP := hpush_any W2 w.heap.size w.heap.size A c v N q i hq2.qr (hq2.qn HN.out hB hn) (fun y hy => by have := ((hqm y).1 hy).1; omega) hil (by omega) (by have := hq2.size; omega) (Nat.le_refl _) hq2.hp
      have HQ2 := Lib.hid hq2
      have HK := Lib.hid hk
      clear hq hq2 hqn hqm hk HQ0 hmk hql
      by_cases hk0 : k = 0
      · have hk1 : ((k : Int) == 0) = true := by
          have : (k : Int) = 0 := by omega
          simpa using this
        have HK0 := Lib.hid hk0
        clear hk0
        go_wp2_with (first
          | (go_at_call 30; (with_reducible refine hP.mono ?_); rintro e w2 ⟨rfl, hr2, hg2⟩; have HR2 := Lib.hid hr2; have HG2 := Lib.hid hg2; clear hr2 hg2)
          | (go_at_call 29; (with_reducible refine HI.mono ?_); rintro e w2 ⟨rfl, rfl⟩))
        go_roundg gf
        case measure => omega
        case rel =>
          obtain ⟨v', l', h1, h2, h3, h4, h5⟩ := HR2.out
          obtain ⟨m1, m2⟩ := HM.out
          have hx : i ∉ q := fun h => by have := ((m2 i).1 h).1; omega
          obtain ⟨s1, s2⟩ := same_push h2 h4 m1 hx
          refine ⟨i + 1, v', l', by omega, by go_num, HQ2.out.turn h1 (by rw [h2]; exact h3) HG2.out h5, s1, fun x => ?_⟩
          rw [s2, m2]
          constructor
          · rintro (⟨a1, a2⟩ | rfl)
            · exact ⟨by omega, a2⟩
            · exact ⟨by omega, HK.out.trans HK0.out⟩
          · rintro ⟨a1, a2⟩
            by_cases e : x = i
            · exact .inr e
            · exact .inl ⟨by omega, a2⟩
      · have hk1 : ((k : Int) == 0) = false := by
          have : (k : Int) ≠ 0 := by omega
          simpa using this
        have HK0 := Lib.hid hk0
        clear hk0
        go_wp2_with (go_at_call 29; (with_reducible refine HI.mono ?_); rintro e w2 ⟨rfl, rfl⟩)
        go_roundg gf
        case measure => omega
        case rel =>
          obtain ⟨m1, m2⟩ := HM.out
          refine ⟨i + 1, v, q, by omega, by go_num, HQ2.out, m1, fun x => ?_⟩
          rw [m2]
          constructor
          · rintro ⟨a1, a2⟩; exact ⟨by omega, a2⟩
          · rintro ⟨a1, a2⟩
            by_cases e : x = i
            · rw [e, HK.out] at a2; exact absurd a2 HK0.out
            · exact ⟨by omega, a2⟩
end Go.Proofs.Ytibfikadamfpdaa
