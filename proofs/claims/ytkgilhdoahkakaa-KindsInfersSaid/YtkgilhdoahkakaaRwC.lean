/-
  The document's Infer: a walk.
-/
import Derived.Test.YtkgilhdoahkakaaRwB
namespace Go.Proofs.Ytkgilhdoahkakaa
open Go.RowKit
set_option linter.unusedVariables false
set_option linter.unusedSimpArgs false

theorem info_bool : (Try.prog.info? 4).map (fun i => (i.zero, i.size, i.bytes)) = some (some (.bool false), 1, 1) := by kernel_rfl
theorem run_mkb (n : Nat) (hn : n ≤ 2000000) (w : World) : (Instr.makeSlice 88 (.int .i64 n) (.int .i64 n)).run Try.prog w = .ok (.slice (some ⟨w.heap.size, 0, none⟩) n n) (w.alloc (.cells (madeCells #[.bool false] n) 4)) := by
  obtain ⟨i, hi, hzz⟩ := Option.map_eq_some_iff.1 info_bool
  simp only [Prod.mk.injEq] at hzz
  obtain ⟨hz, hs, hb⟩ := hzz
  have hr := run_make (P := Try.prog) w 88 4 i (.bool false) Try.underlying88 hi hz .i64 .i64 n n (by omega) (Int.le_refl _) (by rw [hb]; omega) (by omega)
  simp only [Int.toNat_natCast, hs, Nat.mul_one] at hr
  exact hr
theorem made_bools (n : Nat) : madeCells #[.bool false] n = ((List.replicate n false).map Value.bool).toArray := by
  have e : ∀ x : Nat, [Value.bool false][x % 1]?.getD default = Value.bool false := fun x => by rw [Nat.mod_one]; rfl
  apply Array.toList_inj.1
  simp [madeCells, e, List.map_const']
def CountW (B : Nat) (fd : List Ty) : Prop := ∀ u ∈ fd, u.count ≤ B
theorem stepW_count {B : Nat} {l : List ByteArray} {st : WSt} (h : CountW B st.1) (s : ByteArray) {a : Ty} (ha : a.count ≤ B) : CountW B (stepW l st s a).1 := by
  unfold stepW
  cases place l s with
  | none => exact h
  | some i =>
    cases hb : st.2[i]? with
    | none => simp only [hb]; exact h
    | some b =>
      cases b with
      | true => simp only [hb]; exact h
      | false =>
        simp only [hb]
        intro x hx
        rcases List.mem_or_eq_of_mem_set hx with hx | hx
        · exact h x hx
        · rw [hx]; exact ha
mutual
theorem walkT_count (B : Nat) (l : List ByteArray) : ∀ (a b : Ty) (st : WSt), b.count ≤ B → CountW B st.1 → CountW B (walkT l a b st).1
  | .mk k p n la lr, .mk k' p' n' la' lr', st, hc, h => by
    rw [walkT_mk]
    by_cases h9 : k = 9
    · rw [if_pos h9]; exact stepW_count h _ hc
    · rw [if_neg h9]
      rw [count_mk] at hc
      by_cases h2 : k = k' ∧ (k = 6 ∨ k = 7)
      · rw [if_pos h2]
        exact walkL_count B l lr lr' _ (by omega) (walkL_count B l la la' st (by omega) h)
      · rw [if_neg h2]; exact h
theorem walkL_count (B : Nat) (l : List ByteArray) : ∀ (a b : List Ty) (st : WSt), countL b ≤ B → CountW B st.1 → CountW B (walkL l a b st).1
  | a :: r, b :: s, st, hc, h => by
    rw [walkL_cons]
    rw [countL_cons] at hc
    exact walkL_count B l r s _ (by omega) (walkT_count B l a b st (by omega) h)
  | [], s, st, hc, h => by rw [walkL_nil]; exact h
  | _ :: _, [], st, hc, h => by rw [walkL_nil2]; exact h
end
theorem found_count {B : Nat} (hB : 1 ≤ B) {fd : List Ty} (h : CountW B fd) (l : List ByteArray) (s : ByteArray) : (foundOf l fd s).count ≤ B := by
  unfold foundOf
  cases hu : fd[(place l s).getD 0]? with
  | none => rw [Option.getD_none, count_mk, countL_nil]; omega
  | some u => rw [Option.getD_some]; exact h u (List.mem_of_getElem? hu)
theorem map_count {B : Nat} (hB : 1 ≤ B) {fd : List Ty} (h : CountW B fd) (l : List ByteArray) : ∀ m : List ByteArray, countL (m.map (foundOf l fd)) ≤ m.length * B
  | [] => by simp [countL_nil]
  | s :: r => by
    rw [List.map_cons, countL_cons, List.length_cons, Nat.add_mul, Nat.one_mul]
    have := found_count hB h l s
    have := map_count hB h l r
    omega
theorem infer_count {B : Nat} (hB : 1 ≤ B) (l : List ByteArray) (ps ss ts : List Ty) (hss : countL ss ≤ B) (h : inferT l ps ss = some ts) : countL ts ≤ l.length * B ∧ ts.length = l.length := by
  rw [← infer_eq] at h
  unfold inferR at h
  split at h
  · cases h
  · injection h with h
    subst h
    refine ⟨map_count hB (walkL_count B l ps ss _ hss ?_) l l, by simp⟩
    intro u hu
    rw [List.eq_of_mem_replicate hu]
    unfold tyZ
    rw [count_mk, countL_nil]
    omega
/-- What stands in the list while it is turned round by names. -/
def curL (l : List ByteArray) (fd : List Ty) (j : Nat) : List Ty := (l.take j).map (foundOf l fd) ++ fd.drop j
theorem curL_zero (l : List ByteArray) (fd : List Ty) : curL l fd 0 = fd := by simp [curL]
theorem curL_end (l : List ByteArray) (fd : List Ty) (h : fd.length = l.length) : curL l fd l.length = l.map (foundOf l fd) := by
  unfold curL
  rw [List.take_length, List.drop_of_length_le (by omega), List.append_nil]
theorem curL_len (l : List ByteArray) (fd : List Ty) (h : fd.length = l.length) {j : Nat} (hj : j ≤ l.length) : (curL l fd j).length = l.length := by
  unfold curL
  simp; omega
theorem curL_at {l : List ByteArray} {fd : List Ty} (hl : fd.length = l.length) {j i : Nat} {s : ByteArray} (hs : l[j]? = some s) (hp : place l s = some i) (hij : i ≤ j) : (curL l fd j)[i]? = some (foundOf l fd s) := by
  have hjl := (List.getElem?_eq_some_iff.1 hs).1
  have hu : fd[i]? = some fd[i] := List.getElem?_eq_getElem (by omega)
  rw [foundOf_eq hp hu]
  unfold curL
  have hlen : ((l.take j).map (foundOf l fd)).length = j := by simp; omega
  by_cases h : i < j
  · rw [List.getElem?_append_left (by omega), List.getElem?_map, List.getElem?_take_of_lt h, place_get hp, Option.map_some, foundOf_eq hp hu]
  · obtain rfl : i = j := by omega
    rw [List.getElem?_append_right (by omega), hlen, Nat.sub_self, List.getElem?_drop, Nat.add_zero]
    exact hu
theorem curL_set {l : List ByteArray} {fd : List Ty} (hl : fd.length = l.length) {j : Nat} {s : ByteArray} (hs : l[j]? = some s) : (curL l fd j).set j (foundOf l fd s) = curL l fd (j + 1) := by
  have hjl := (List.getElem?_eq_some_iff.1 hs).1
  unfold curL
  have hlen : ((l.take j).map (foundOf l fd)).length = j := by simp; omega
  rw [List.set_append_right _ _ (by omega), hlen, Nat.sub_self, List.take_add_one, hs, Option.toList_some, List.map_append, List.append_assoc, List.drop_eq_getElem_cons (by omega)]
  rfl
theorem place_le {l : List ByteArray} {s : ByteArray} {j : Nat} (hs : l[j]? = some s) : ∃ i, place l s = some i ∧ i ≤ j := by
  induction l generalizing j with
  | nil => simp at hs
  | cons a r ih =>
    simp only [place]
    by_cases e : a = s
    · exact ⟨0, by rw [if_pos e], Nat.zero_le _⟩
    · cases j with
      | zero => simp at hs; exact absurd hs e
      | succ j =>
        obtain ⟨i, h1, h2⟩ := ih (by simpa using hs)
        exact ⟨i + 1, by rw [if_neg e, h1]; rfl, by omega⟩
def InferRP (r : Option (List Ty)) (w : World) (e : Ending) (w' : World) : Prop :=
  Below w.heap.size w w' ∧ match r with
  | none => e = .returned (.tuple #[.slice none 0 0, .bool false])
  | some ts => ∃ A c, e = .returned (.tuple #[.slice A ts.length c, .bool true]) ∧ SlT w' (fun _ => True) A ts
theorem any_take {l : List ByteArray} {p : ByteArray → Bool} {j : Nat} {s : ByteArray} (hs : l[j]? = some s) (h : (l.take j).any p = false) (hp : p s = false) : (l.take (j + 1)).any p = false := by
  rw [List.take_add_one, hs, Option.toList_some, List.any_append, h, Bool.false_or, List.any_cons, hp]; rfl
set_option maxRecDepth 100000 in
set_option maxHeartbeats 8000000 in
theorem rinfer_any (l : List ByteArray) (hll : l.length ≤ 100000) (ps ss : List Ty) (hps : countL ps ≤ 2000000) (hss : countL ss ≤ 2000000) (w : World) (F F' F'' : Nat → Prop) (C A D : Option Addr) (c0 a0 d0 : Nat) (hs : SlS w F C l) (ha : SlT w F' A ps) (hd : SlT w F'' D ss) :
    Calls Try.prog 34 #[.slice C l.length c0, .slice A ps.length a0, .slice D ss.length d0] w (InferRP (inferT l ps ss) w) := by
  rw [← infer_eq]
  obtain ⟨res, hres⟩ : ∃ r, inferR l (walkL l ps ss (zeroW l.length)) = r := ⟨_, rfl⟩
  have HRES := Lib.hid hres
  rw [hres]
  have hmk := fun W => run_mk l.length (by omega) W
  have hmkb := fun W => run_mkb l.length (by omega) W
  have hB0 : Below w.heap.size w ((w.alloc (.cells (madeCells z5 (l.length * 5)) 24)).alloc (.cells (madeCells #[.bool false] l.length) 4)) := ((Below.refl _ w).alloc (Nat.le_refl _) _).alloc (by simp) _
  have HB0 := Lib.hid hB0
  have hNg : ∀ q, q < w.heap.size → Ng w.heap.size (w.heap.size + 1) q := fun q hq => ⟨by omega, by omega⟩
  have HS0 := Lib.hid (show SlS ((w.alloc (.cells (madeCells z5 (l.length * 5)) 24)).alloc (.cells (madeCells #[.bool false] l.length) 4)) (Ng w.heap.size (w.heap.size + 1)) C l from (hs.old.bel hB0).keep (fun _ _ _ => rfl) (Nat.le_refl _) (fun k _ hk => hNg k hk))
  have HA0 := Lib.hid (show SlT ((w.alloc (.cells (madeCells z5 (l.length * 5)) 24)).alloc (.cells (madeCells #[.bool false] l.length) 4)) (Ng w.heap.size (w.heap.size + 1)) A ps from (ha.old.bel hB0).keep (fun _ _ _ => rfl) (Nat.le_refl _) (fun k _ hk => hNg k hk))
  have HD0 := Lib.hid (show SlT ((w.alloc (.cells (madeCells z5 (l.length * 5)) 24)).alloc (.cells (madeCells #[.bool false] l.length) 4)) (Ng w.heap.size (w.heap.size + 1)) D ss from (hd.old.bel hB0).keep (fun _ _ _ => rfl) (Nat.le_refl _) (fun k _ hk => hNg k hk))
  have HSD0 := Lib.hid (show Sd ((w.alloc (.cells (madeCells z5 (l.length * 5)) 24)).alloc (.cells (madeCells #[.bool false] l.length) 4)) w.heap.size (w.heap.size + 1) (zeroW l.length) from ⟨(Fd.made w (Ng w.heap.size (w.heap.size + 1)) l.length (fun h => h.1 rfl)).bel ((Below.refl _ _).alloc (Nat.le_refl _) _), by
    unfold Bl
    rw [made_bools]
    exact Blk.new_at (by simp), by omega⟩)
  have HWL := Lib.hid (walk_all l hll 2000000 (Nat.le_refl _))
  have HCS := Lib.hid hss
  have hlp := len_countL ps
  have hls := len_countL ss
  have n0 : (0 : Int) ≤ (l.length : Int) := by omega
  have n1 : (l.length : Int) ≤ 100000 := by omega
  have p0 : (0 : Int) ≤ (ps.length : Int) := by omega
  have p1 : (ps.length : Int) ≤ 2000000 := by omega
  have s0 : (0 : Int) ≤ (ss.length : Int) := by omega
  have s1 : (ss.length : Int) ≤ 2000000 := by omega
  clear hs ha hd hres hB0 hNg
  obtain ⟨M, hMe⟩ : ∃ M, min ps.length ss.length = M := ⟨_, rfl⟩
  have HME := Lib.hid hMe
  clear hMe
  go_enter Try.func34, Try.ntmps34
  go_wp2
  go_loopg [10] M (fun gk v10 wr => ∃ (j : Nat) (sj : WSt), j + gk = M ∧ v10 = .int .i64 j ∧ Gr (fun x => x = w.heap.size ∨ x = w.heap.size + 1) ((w.alloc (.cells (madeCells z5 (l.length * 5)) 24)).alloc (.cells (madeCells #[.bool false] l.length) 4)) wr ∧ Sd wr w.heap.size (w.heap.size + 1) sj ∧ sj.1.length = l.length ∧ sj.2.length = l.length ∧ walkL l ps ss (zeroW l.length) = walkL l (ps.drop j) (ss.drop j) sj)
  case atStart => exact ⟨0, zeroW l.length, by simp, rfl, Gr.refl _, HSD0.out, by simp [zeroW], by simp [zeroW], by simp⟩
  case round =>
    obtain ⟨j, sj, hj, rfl, hgr, hsd, hl1, hl2, heq⟩ := hrel
    have HEQ := Lib.hid heq
    have HGR := Lib.hid hgr
    have hM := HME.out
    clear heq
    cases gk with
    | zero =>
      obtain rfl : j = M := by omega
      have hE := HEQ.out
      rw [walkL_end (by omega)] at hE
      have HSD := Lib.hid (show Sd wr w.heap.size (w.heap.size + 1) (walkL l ps ss (zeroW l.length)) by rw [hE]; exact hsd)
      have hcase : ps.length ≤ j ∨ (j < ps.length ∧ ss.length ≤ j) := by omega
      clear hE hj hsd hl1 hl2 hgr hM HEQ HSD0
      rcases hcase with hc1 | ⟨hc1, hc2⟩
      · have e1 : ¬ ((j : Int) < (ps.length : Int)) := by omega
        have e2 : decide (j < ps.length) = false := decide_eq_false (by omega)
        have e3 : decide ((j : Int) < (ps.length : Int)) = false := decide_eq_false e1
        clear hc1
        go_wp2
        clear e1 e2 e3
        have hLc := walkL_len l ps ss (zeroW l.length)
        have hLw : (walkL l ps ss (zeroW l.length)).1.length = l.length ∧ (walkL l ps ss (zeroW l.length)).2.length = l.length := ⟨hLc.1.trans (by simp [zeroW]), hLc.2.trans (by simp [zeroW])⟩
        have hCw := walkL_count 2000000 l ps ss (zeroW l.length) HCS.out (by intro u hu; rw [List.eq_of_mem_replicate hu]; unfold tyZ; rw [count_mk, countL_nil]; omega)
        obtain ⟨st, hst⟩ : ∃ st, walkL l ps ss (zeroW l.length) = st := ⟨_, rfl⟩
        rw [hst] at HSD hLw hCw HRES
        have HLW := Lib.hid hLw
        have HCW := Lib.hid hCw
        clear hst hLw hCw hLc
        clear HWL
        go_loopg [11] l.length (fun gk v11 wr => ∃ j : Nat, j + gk = l.length ∧ v11 = .int .i64 j ∧ Gr (fun x => x = w.heap.size ∨ x = w.heap.size + 1) ((w.alloc (.cells (madeCells z5 (l.length * 5)) 24)).alloc (.cells (madeCells #[.bool false] l.length) 4)) wr ∧ Sd wr w.heap.size (w.heap.size + 1) (curL l st.1 j, st.2) ∧ (l.take j).any (badR l st) = false)
        case atStart => exact ⟨0, by simp, rfl, HGR.out, by rw [curL_zero]; exact HSD.out, by simp⟩
        case round =>
          obtain ⟨j, hj, rfl, hgr, hsd, hany⟩ := hrel
          have HGR2 := Lib.hid hgr
          have HSD2 := Lib.hid hsd
          have HANY := Lib.hid hany
          clear hany HGR HSD
          cases gk with
          | zero =>
            obtain rfl : j = l.length := by omega
            have hany1 := HANY.out
            rw [List.take_length] at hany1
            have HE := Lib.hid (show res = some (l.map (foundOf l st.1)) by rw [← HRES.out]; unfold inferR; rw [hany1]; rfl)
            clear hany1
            clear hj hgr hsd
            go_wp2
            go_ret2
            refine ⟨HB0.out.trans (HGR2.out.belowN (B := w.heap.size) (by simp; omega) (fun q hq e => by have e2 : q = w.heap.size ∨ q = w.heap.size + 1 := e; omega)), ?_⟩
            rw [HE.out]
            have hfd := HSD2.out.fd
            rw [curL_end l st.1 HLW.out.1] at hfd
            exact ⟨some ⟨w.heap.size, 0, none⟩, l.length, by rw [List.length_map]; rfl, hfd.slice (fun _ _ => trivial) trivial⟩
          | succ gg =>
            have hjl : j < l.length := by omega
            obtain ⟨s, hs⟩ : ∃ s, l[j]? = some s := ⟨_, List.getElem?_eq_getElem hjl⟩
            obtain ⟨i, hp, hij⟩ := place_le hs
            have hil := place_lt hp
            have hpi : plI l s = (i : Int) := by simp [plI, hp]
            have HPL := Lib.hid (rplace_any wr _ C c0 l s (HS0.out.grN hgr) hll)
            rw [hpi] at HPL
            obtain ⟨q, o, hCq, hFq, hgl, hat⟩ := (HS0.out.grN hgr).2 (by omega)
            have q0 := hat j s hs
            obtain ⟨b, hb⟩ : ∃ b, st.2[i]? = some b := ⟨_, List.getElem?_eq_getElem (by rw [HLW.out.2]; exact hil)⟩
            have hcb : wr.cell? ⟨w.heap.size + 1, i, none⟩ = some (.bool b) := by
              rw [Blk.cell hsd.hb]
              simp [hb]
            have hcu := curL_at HLW.out.1 hs hp hij
            have hcount : (foundOf l st.1 s).count ≤ 2000000 := by
              obtain ⟨fu, hu⟩ : ∃ u, st.1[i]? = some u := ⟨_, List.getElem?_eq_getElem (by rw [HLW.out.1]; exact hil)⟩
              rw [foundOf_eq hp hu]
              exact HCW.out _ (List.mem_of_getElem? hu)
            have hbad : badR l st s = (!b || ((foundOf l st.1 s).kind == 4 || (foundOf l st.1 s).kind == 0)) := by
              unfold badR
              rw [hp, Option.getD_some, hb, Option.getD_some]
            obtain ⟨zz, hzr, hzt⟩ := hsd.fd.at_ hcu
            obtain ⟨u, hu⟩ : ∃ u, foundOf l st.1 s = u := ⟨_, rfl⟩
            rw [hu] at hcount hbad hzr hcu
            have HU := Lib.hid hu
            obtain ⟨ku, pu, nu, lu, ru⟩ := u
            have HC := Lib.hid (copy_any (.mk ku pu nu lu ru) hcount wr _ zz hzr)
            obtain ⟨Au, cu, Bu, du, rfl, _, _⟩ := hzr.openL
            simp only [tyC] at HC
            have z0 := hzt 0 _ rfl
            have z1 := hzt 1 _ rfl
            have z2 := hzt 2 _ rfl
            have z3 := hzt 3 _ rfl
            have z4 := hzt 4 _ rfl
            have i0 : (0 : Int) ≤ (i : Int) := by omega
            have i1 : (i : Int) < (l.length : Int) := by omega
            have j1 : (j : Int) < (l.length : Int) := by omega
            have j0 : (0 : Int) ≤ (j : Int) := by omega
            rw [Nat.add_zero] at z0
            have hkk : (Ty.mk ku pu nu lu ru).kind = ku := rfl
            rw [hkk] at hbad
            have HSS := Lib.hid hs
            have HBAD := Lib.hid hbad
            have hgl2 := hsd.fd.lt
            have hhl2 := Blk.lt hsd.hb
            subst hCq
            have hnil : ∀ x : Bool, x = true → badR l st s = x → res = none := by
              intro x hx hb
              rw [← HRES.out]
              unfold inferR
              rw [if_pos (List.any_eq_true.2 ⟨s, List.mem_of_getElem? HSS.out, hb.trans hx⟩)]
            clear hu hzr hzt hat hs hp hij hil hpi hb hcu hcount hbad hkk hgr hsd
            cases b with
            | false =>
              have HN := Lib.hid (hnil _ rfl (by rw [HBAD.out]; rfl))
              clear hnil
              go_wp2_with (go_at_call 57; ((with_reducible refine HPL.out.mono ?_); rintro e w1 ⟨rfl, rfl⟩))
              go_ret2
              refine ⟨HB0.out.trans (HGR2.out.belowN (B := w.heap.size) (by simp; omega) (fun q hq e => by have e2 : q = w.heap.size ∨ q = w.heap.size + 1 := e; omega)), ?_⟩
              rw [HN.out]
              rfl
            | true =>
              by_cases h4 : ku = 4
              · subst h4
                have HN := Lib.hid (hnil _ rfl (by rw [HBAD.out]; rfl))
                clear hnil
                go_wp2_with (go_at_call 57; ((with_reducible refine HPL.out.mono ?_); rintro e w1 ⟨rfl, rfl⟩))
                go_ret2
                refine ⟨HB0.out.trans (HGR2.out.belowN (B := w.heap.size) (by simp; omega) (fun q hq e => by have e2 : q = w.heap.size ∨ q = w.heap.size + 1 := e; omega)), ?_⟩
                rw [HN.out]
                rfl
              · have h4b : (ku == 4) = false := by simpa using h4
                by_cases hk0 : ku = 0
                · subst hk0
                  have HN := Lib.hid (hnil _ rfl (by rw [HBAD.out]; rfl))
                  clear hnil h4
                  go_wp2_with (go_at_call 57; ((with_reducible refine HPL.out.mono ?_); rintro e w1 ⟨rfl, rfl⟩))
                  go_ret2
                  refine ⟨HB0.out.trans (HGR2.out.belowN (B := w.heap.size) (by simp; omega) (fun q hq e => by have e2 : q = w.heap.size ∨ q = w.heap.size + 1 := e; omega)), ?_⟩
                  rw [HN.out]
                  rfl
                · have h0b : (ku == 0) = false := by simpa using hk0
                  have HGOOD := Lib.hid (any_take HSS.out HANY.out (by rw [HBAD.out, h4b, h0b]; rfl))
                  have hcj : ∃ uj, (curL l st.1 j)[j]? = some uj := ⟨_, List.getElem?_eq_getElem (by rw [curL_len l st.1 HLW.out.1 (by omega)]; exact hjl)⟩
                  have HCJ := Lib.hid hcj
                  clear hnil h4 hk0 hcj
                  go_wp2_with (first | (go_at_call 57; ((with_reducible refine HPL.out.mono ?_); rintro e w1 ⟨rfl, rfl⟩)) | (go_at_call 30; ((with_reducible refine HC.out.mono ?_); rintro e w5 ⟨k2, p2, n2, A2, m2, c2, B2, l2, d2, rfl, hr5, hb5⟩); have hF5 := HSD2.out.fd.bel hb5; have hB5 := Blk.bel2 HSD2.out.hb hb5; have HG5 := Lib.hid (HGR2.out.trans (Gr.of_below hb5)); obtain ⟨uj, hcj⟩ := HCJ.out; obtain ⟨zz, hzr, hat5⟩ := hF5.at_ hcj; obtain ⟨k3, p3, n3, A3, m3, c3, B3, l3, d3, rfl⟩ := hzr.shape; have x0 := hat5 0 _ rfl; have x1 := hat5 1 _ rfl; have x2 := hat5 2 _ rfl; have x3 := hat5 3 _ rfl; have x4 := hat5 4 _ rfl; rw [Nat.add_zero] at x0; have f0 := hF5.thaw (j * 5); have f1 := hF5.thaw (j * 5 + 1); have f2 := hF5.thaw (j * 5 + 2); have f3 := hF5.thaw (j * 5 + 3); have f4 := hF5.thaw (j * 5 + 4); have HR5 := Lib.hid hr5; have HF5 := Lib.hid hF5; have HB5 := Lib.hid hB5; have HL5 := Lib.hid hgl2; clear hr5 hF5 hB5 hat5 hb5 hcj hzr))
                  have hP := HF5.out.put (i := j) (by rw [curL_len l st.1 HLW.out.1 (by omega)]; exact hjl) (HR5.out.more (F' := Ng w.heap.size (w.heap.size + 1)) (fun q hq => by have h2 := HL5.out; have h3 : wr.heap.size ≤ q := hq; show q ≠ w.heap.size ∧ q ≠ w.heap.size + 1; omega))
                  rw [← HU.out, curL_set HLW.out.1 HSS.out] at hP
                  have HP := Lib.hid hP
                  clear hP
                  go_roundg gg
                  case measure => omega
                  case rel => exact ⟨j + 1, by omega, by go_num, HG5.out.trans (HP.out.2.mono (fun q _ e => Or.inl e)), ⟨HP.out.1, HP.out.2.blk HB5.out (fun e => by have e2 : w.heap.size + 1 = w.heap.size := e; omega), HSD2.out.ne⟩, HGOOD.out⟩
      · have e1 : (j : Int) < (ps.length : Int) := by omega
        have e2 : decide (j < ps.length) = true := decide_eq_true (by omega)
        have e3 : decide ((j : Int) < (ps.length : Int)) = true := decide_eq_true e1
        have e4 : ¬ ((j : Int) < (ss.length : Int)) := by omega
        have e5 : decide (j < ss.length) = false := decide_eq_false (by omega)
        have e6 : decide ((j : Int) < (ss.length : Int)) = false := decide_eq_false e4
        clear hc1 hc2
        go_wp2
        clear e1 e2 e3 e4 e5 e6
        have hLc := walkL_len l ps ss (zeroW l.length)
        have hLw : (walkL l ps ss (zeroW l.length)).1.length = l.length ∧ (walkL l ps ss (zeroW l.length)).2.length = l.length := ⟨hLc.1.trans (by simp [zeroW]), hLc.2.trans (by simp [zeroW])⟩
        have hCw := walkL_count 2000000 l ps ss (zeroW l.length) HCS.out (by intro u hu; rw [List.eq_of_mem_replicate hu]; unfold tyZ; rw [count_mk, countL_nil]; omega)
        obtain ⟨st, hst⟩ : ∃ st, walkL l ps ss (zeroW l.length) = st := ⟨_, rfl⟩
        rw [hst] at HSD hLw hCw HRES
        have HLW := Lib.hid hLw
        have HCW := Lib.hid hCw
        clear hst hLw hCw hLc
        clear HWL
        go_loopg [11] l.length (fun gk v11 wr => ∃ j : Nat, j + gk = l.length ∧ v11 = .int .i64 j ∧ Gr (fun x => x = w.heap.size ∨ x = w.heap.size + 1) ((w.alloc (.cells (madeCells z5 (l.length * 5)) 24)).alloc (.cells (madeCells #[.bool false] l.length) 4)) wr ∧ Sd wr w.heap.size (w.heap.size + 1) (curL l st.1 j, st.2) ∧ (l.take j).any (badR l st) = false)
        case atStart => exact ⟨0, by simp, rfl, HGR.out, by rw [curL_zero]; exact HSD.out, by simp⟩
        case round =>
          obtain ⟨j, hj, rfl, hgr, hsd, hany⟩ := hrel
          have HGR2 := Lib.hid hgr
          have HSD2 := Lib.hid hsd
          have HANY := Lib.hid hany
          clear hany HGR HSD
          cases gk with
          | zero =>
            obtain rfl : j = l.length := by omega
            have hany1 := HANY.out
            rw [List.take_length] at hany1
            have HE := Lib.hid (show res = some (l.map (foundOf l st.1)) by rw [← HRES.out]; unfold inferR; rw [hany1]; rfl)
            clear hany1
            clear hj hgr hsd
            go_wp2
            go_ret2
            refine ⟨HB0.out.trans (HGR2.out.belowN (B := w.heap.size) (by simp; omega) (fun q hq e => by have e2 : q = w.heap.size ∨ q = w.heap.size + 1 := e; omega)), ?_⟩
            rw [HE.out]
            have hfd := HSD2.out.fd
            rw [curL_end l st.1 HLW.out.1] at hfd
            exact ⟨some ⟨w.heap.size, 0, none⟩, l.length, by rw [List.length_map]; rfl, hfd.slice (fun _ _ => trivial) trivial⟩
          | succ gg =>
            have hjl : j < l.length := by omega
            obtain ⟨s, hs⟩ : ∃ s, l[j]? = some s := ⟨_, List.getElem?_eq_getElem hjl⟩
            obtain ⟨i, hp, hij⟩ := place_le hs
            have hil := place_lt hp
            have hpi : plI l s = (i : Int) := by simp [plI, hp]
            have HPL := Lib.hid (rplace_any wr _ C c0 l s (HS0.out.grN hgr) hll)
            rw [hpi] at HPL
            obtain ⟨q, o, hCq, hFq, hgl, hat⟩ := (HS0.out.grN hgr).2 (by omega)
            have q0 := hat j s hs
            obtain ⟨b, hb⟩ : ∃ b, st.2[i]? = some b := ⟨_, List.getElem?_eq_getElem (by rw [HLW.out.2]; exact hil)⟩
            have hcb : wr.cell? ⟨w.heap.size + 1, i, none⟩ = some (.bool b) := by
              rw [Blk.cell hsd.hb]
              simp [hb]
            have hcu := curL_at HLW.out.1 hs hp hij
            have hcount : (foundOf l st.1 s).count ≤ 2000000 := by
              obtain ⟨fu, hu⟩ : ∃ u, st.1[i]? = some u := ⟨_, List.getElem?_eq_getElem (by rw [HLW.out.1]; exact hil)⟩
              rw [foundOf_eq hp hu]
              exact HCW.out _ (List.mem_of_getElem? hu)
            have hbad : badR l st s = (!b || ((foundOf l st.1 s).kind == 4 || (foundOf l st.1 s).kind == 0)) := by
              unfold badR
              rw [hp, Option.getD_some, hb, Option.getD_some]
            obtain ⟨zz, hzr, hzt⟩ := hsd.fd.at_ hcu
            obtain ⟨u, hu⟩ : ∃ u, foundOf l st.1 s = u := ⟨_, rfl⟩
            rw [hu] at hcount hbad hzr hcu
            have HU := Lib.hid hu
            obtain ⟨ku, pu, nu, lu, ru⟩ := u
            have HC := Lib.hid (copy_any (.mk ku pu nu lu ru) hcount wr _ zz hzr)
            obtain ⟨Au, cu, Bu, du, rfl, _, _⟩ := hzr.openL
            simp only [tyC] at HC
            have z0 := hzt 0 _ rfl
            have z1 := hzt 1 _ rfl
            have z2 := hzt 2 _ rfl
            have z3 := hzt 3 _ rfl
            have z4 := hzt 4 _ rfl
            have i0 : (0 : Int) ≤ (i : Int) := by omega
            have i1 : (i : Int) < (l.length : Int) := by omega
            have j1 : (j : Int) < (l.length : Int) := by omega
            have j0 : (0 : Int) ≤ (j : Int) := by omega
            rw [Nat.add_zero] at z0
            have hkk : (Ty.mk ku pu nu lu ru).kind = ku := rfl
            rw [hkk] at hbad
            have HSS := Lib.hid hs
            have HBAD := Lib.hid hbad
            have hgl2 := hsd.fd.lt
            have hhl2 := Blk.lt hsd.hb
            subst hCq
            have hnil : ∀ x : Bool, x = true → badR l st s = x → res = none := by
              intro x hx hb
              rw [← HRES.out]
              unfold inferR
              rw [if_pos (List.any_eq_true.2 ⟨s, List.mem_of_getElem? HSS.out, hb.trans hx⟩)]
            clear hu hzr hzt hat hs hp hij hil hpi hb hcu hcount hbad hkk hgr hsd
            cases b with
            | false =>
              have HN := Lib.hid (hnil _ rfl (by rw [HBAD.out]; rfl))
              clear hnil
              go_wp2_with (go_at_call 57; ((with_reducible refine HPL.out.mono ?_); rintro e w1 ⟨rfl, rfl⟩))
              go_ret2
              refine ⟨HB0.out.trans (HGR2.out.belowN (B := w.heap.size) (by simp; omega) (fun q hq e => by have e2 : q = w.heap.size ∨ q = w.heap.size + 1 := e; omega)), ?_⟩
              rw [HN.out]
              rfl
            | true =>
              by_cases h4 : ku = 4
              · subst h4
                have HN := Lib.hid (hnil _ rfl (by rw [HBAD.out]; rfl))
                clear hnil
                go_wp2_with (go_at_call 57; ((with_reducible refine HPL.out.mono ?_); rintro e w1 ⟨rfl, rfl⟩))
                go_ret2
                refine ⟨HB0.out.trans (HGR2.out.belowN (B := w.heap.size) (by simp; omega) (fun q hq e => by have e2 : q = w.heap.size ∨ q = w.heap.size + 1 := e; omega)), ?_⟩
                rw [HN.out]
                rfl
              · have h4b : (ku == 4) = false := by simpa using h4
                by_cases hk0 : ku = 0
                · subst hk0
                  have HN := Lib.hid (hnil _ rfl (by rw [HBAD.out]; rfl))
                  clear hnil h4
                  go_wp2_with (go_at_call 57; ((with_reducible refine HPL.out.mono ?_); rintro e w1 ⟨rfl, rfl⟩))
                  go_ret2
                  refine ⟨HB0.out.trans (HGR2.out.belowN (B := w.heap.size) (by simp; omega) (fun q hq e => by have e2 : q = w.heap.size ∨ q = w.heap.size + 1 := e; omega)), ?_⟩
                  rw [HN.out]
                  rfl
                · have h0b : (ku == 0) = false := by simpa using hk0
                  have HGOOD := Lib.hid (any_take HSS.out HANY.out (by rw [HBAD.out, h4b, h0b]; rfl))
                  have hcj : ∃ uj, (curL l st.1 j)[j]? = some uj := ⟨_, List.getElem?_eq_getElem (by rw [curL_len l st.1 HLW.out.1 (by omega)]; exact hjl)⟩
                  have HCJ := Lib.hid hcj
                  clear hnil h4 hk0 hcj
                  go_wp2_with (first | (go_at_call 57; ((with_reducible refine HPL.out.mono ?_); rintro e w1 ⟨rfl, rfl⟩)) | (go_at_call 30; ((with_reducible refine HC.out.mono ?_); rintro e w5 ⟨k2, p2, n2, A2, m2, c2, B2, l2, d2, rfl, hr5, hb5⟩); have hF5 := HSD2.out.fd.bel hb5; have hB5 := Blk.bel2 HSD2.out.hb hb5; have HG5 := Lib.hid (HGR2.out.trans (Gr.of_below hb5)); obtain ⟨uj, hcj⟩ := HCJ.out; obtain ⟨zz, hzr, hat5⟩ := hF5.at_ hcj; obtain ⟨k3, p3, n3, A3, m3, c3, B3, l3, d3, rfl⟩ := hzr.shape; have x0 := hat5 0 _ rfl; have x1 := hat5 1 _ rfl; have x2 := hat5 2 _ rfl; have x3 := hat5 3 _ rfl; have x4 := hat5 4 _ rfl; rw [Nat.add_zero] at x0; have f0 := hF5.thaw (j * 5); have f1 := hF5.thaw (j * 5 + 1); have f2 := hF5.thaw (j * 5 + 2); have f3 := hF5.thaw (j * 5 + 3); have f4 := hF5.thaw (j * 5 + 4); have HR5 := Lib.hid hr5; have HF5 := Lib.hid hF5; have HB5 := Lib.hid hB5; have HL5 := Lib.hid hgl2; clear hr5 hF5 hB5 hat5 hb5 hcj hzr))
                  have hP := HF5.out.put (i := j) (by rw [curL_len l st.1 HLW.out.1 (by omega)]; exact hjl) (HR5.out.more (F' := Ng w.heap.size (w.heap.size + 1)) (fun q hq => by have h2 := HL5.out; have h3 : wr.heap.size ≤ q := hq; show q ≠ w.heap.size ∧ q ≠ w.heap.size + 1; omega))
                  rw [← HU.out, curL_set HLW.out.1 HSS.out] at hP
                  have HP := Lib.hid hP
                  clear hP
                  go_roundg gg
                  case measure => omega
                  case rel => exact ⟨j + 1, by omega, by go_num, HG5.out.trans (HP.out.2.mono (fun q _ e => Or.inl e)), ⟨HP.out.1, HP.out.2.blk HB5.out (fun e => by have e2 : w.heap.size + 1 = w.heap.size := e; omega), HSD2.out.ne⟩, HGOOD.out⟩
    | succ gg =>
      have hjl : j < ps.length := by omega
      have hjl2 : j < ss.length := by omega
      obtain ⟨u, hu⟩ : ∃ u, ps[j]? = some u := ⟨_, List.getElem?_eq_getElem hjl⟩
      obtain ⟨v, hv⟩ : ∃ v, ss[j]? = some v := ⟨_, List.getElem?_eq_getElem hjl2⟩
      obtain ⟨q, o, vs, hAq, hFq, hgl, hrep, hat⟩ := (HA0.out.grN hgr).at_ hu
      obtain ⟨q', o', us, hAq', hFq', hgl', hrep', hat'⟩ := (HD0.out.grN hgr).at_ hv
      have hck := count_kid ps j u hu
      have hcv := count_kid ss j v hv
      have HEQ2 := Lib.hid (HEQ.out.trans (walkL_drop hu hv))
      have HI := Lib.hid (fun w' (hb' : Below wr.heap.size wr w') => HWL.out u v (by omega) (by omega) w' w.heap.size (w.heap.size + 1) l.length l.length C c0 sj vs us ((HS0.out.grN hgr).bel hb') (hsd.bel hb') hl1 hl2 (hrep.bel hb') (hrep'.bel hb'))
      have HLL := Lib.hid (walkT_len l u v sj)
      have HL1 := Lib.hid hl1
      have HL2 := Lib.hid hl2
      obtain ⟨k1, p1, n1, A1, m1, c1, B1, l1, d1, rfl⟩ := hrep.shape
      obtain ⟨k2, p2, n2, A2, m2, c2, B2, l2, d2, rfl⟩ := hrep'.shape
      have q0 := hat 0 _ rfl
      have q1 := hat 1 _ rfl
      have q2 := hat 2 _ rfl
      have q3 := hat 3 _ rfl
      have q4 := hat 4 _ rfl
      have r0 := hat' 0 _ rfl
      have r1 := hat' 1 _ rfl
      have r2 := hat' 2 _ rfl
      have r3 := hat' 3 _ rfl
      have r4 := hat' 4 _ rfl
      have e1 : (j : Int) < (ps.length : Int) := by omega
      have e2 : decide (j < ps.length) = true := decide_eq_true (by omega)
      have e3 : decide ((j : Int) < (ps.length : Int)) = true := decide_eq_true e1
      have e4 : (j : Int) < (ss.length : Int) := by omega
      have e5 : decide (j < ss.length) = true := decide_eq_true (by omega)
      have e6 : decide ((j : Int) < (ss.length : Int)) = true := decide_eq_true e4
      have j2 : (j : Int) ≤ 2000000 := by omega
      simp only [Nat.add_zero] at q0 r0
      have HAq := Lib.hid hAq
      have HAq' := Lib.hid hAq'
      clear hu hv hat hat' hrep hrep' HEQ hM hgr hsd hl1 hl2 hAq hAq'
      obtain ⟨ts, hts⟩ : ∃ ts, walkT l u v sj = ts := ⟨_, rfl⟩
      rw [hts] at HEQ2 HI HLL
      clear hts
      go_wp2
      refine wp_region_held_drew (S := fun W => Gr (fun x => x = w.heap.size ∨ x = w.heap.size + 1) wr W) (by kernel_rfl) (Gr.refl wr).drew (fun hS0 => ?_)
      refine wpAnyH_take (i := 0) (v := .slice C l.length c0) rfl (by kernel_rfl) (by kernel_rfl) (by kernel_rfl) (fun _ _ _ h => h) (Or.inl ⟨rfl, fun w' hS => by (unfold execOp; go_simp)⟩) hS0 ?_
      simp only [Act.put, List.getElem_toArray, List.getElem_cons_zero, List.getElem_cons_succ, List.setIfInBounds_toArray, List.set_cons_zero, List.set_cons_succ]
      refine wpAnyH_take (i := 1) (v := .slice (some ⟨w.heap.size, 0, none⟩) l.length l.length) rfl (by kernel_rfl) (by kernel_rfl) (by kernel_rfl) (fun _ _ _ h => h) (Or.inl ⟨rfl, fun w' hS => by (unfold execOp; go_simp)⟩) hS0 ?_
      simp only [Act.put, List.getElem_toArray, List.getElem_cons_zero, List.getElem_cons_succ, List.setIfInBounds_toArray, List.set_cons_zero, List.set_cons_succ]
      refine wpAnyH_take (i := 2) (v := .slice (some ⟨w.heap.size + 1, 0, none⟩) l.length l.length) rfl (by kernel_rfl) (by kernel_rfl) (by kernel_rfl) (fun _ _ _ h => h) (Or.inl ⟨rfl, fun w' hS => by (unfold execOp; go_simp)⟩) hS0 ?_
      simp only [Act.put, List.getElem_toArray, List.getElem_cons_zero, List.getElem_cons_succ, List.setIfInBounds_toArray, List.set_cons_zero, List.set_cons_succ]
      refine wpAnyH_take (i := 3) (v := .slice A ps.length a0) rfl (by kernel_rfl) (by kernel_rfl) (by kernel_rfl) (fun _ _ _ h => h) (Or.inl ⟨rfl, fun w' hS => by (unfold execOp; go_simp)⟩) hS0 ?_
      simp only [Act.put, List.getElem_toArray, List.getElem_cons_zero, List.getElem_cons_succ, List.setIfInBounds_toArray, List.set_cons_zero, List.set_cons_succ]
      refine wpAnyH_take (i := 4) (v := .int .i64 j) rfl (by kernel_rfl) (by kernel_rfl) (by kernel_rfl) (fun _ _ _ h => h) (Or.inl ⟨rfl, fun w' hS => by (unfold execOp; go_simp)⟩) hS0 ?_
      simp only [Act.put, List.getElem_toArray, List.getElem_cons_zero, List.getElem_cons_succ, List.setIfInBounds_toArray, List.set_cons_zero, List.set_cons_succ]
      refine wpAnyH_take (i := 5) (v := .pointer (some ⟨q, o + j * 5, none⟩)) rfl (by kernel_rfl) (by kernel_rfl) (by kernel_rfl) (fun _ _ _ h => h) (Or.inl ⟨rfl, fun w' hS => by (have za := HAq.out; unfold execOp; go_simp)⟩) hS0 ?_
      simp only [Act.put, List.getElem_toArray, List.getElem_cons_zero, List.getElem_cons_succ, List.setIfInBounds_toArray, List.set_cons_zero, List.set_cons_succ]
      refine wpAnyH_take (i := 6) (v := .agg #[.int .i64 k1, .string p1, .string n1, .slice A1 m1 c1, .slice B1 l1 d1]) rfl (by kernel_rfl) (by kernel_rfl) (by kernel_rfl) (fun _ _ _ h => h) (Or.inl ⟨rfl, fun w' hS => by (have y0 := (hS.oldN hFq hgl _).trans q0; have y1 := (hS.oldN hFq hgl _).trans q1; have y2 := (hS.oldN hFq hgl _).trans q2; have y3 := (hS.oldN hFq hgl _).trans q3; have y4 := (hS.oldN hFq hgl _).trans q4; unfold execOp; go_simp)⟩) hS0 ?_
      simp only [Act.put, List.getElem_toArray, List.getElem_cons_zero, List.getElem_cons_succ, List.setIfInBounds_toArray, List.set_cons_zero, List.set_cons_succ]
      refine wpAnyH_take (i := 7) (v := .slice D ss.length d0) rfl (by kernel_rfl) (by kernel_rfl) (by kernel_rfl) (fun _ _ _ h => h) (Or.inl ⟨rfl, fun w' hS => by (unfold execOp; go_simp)⟩) hS0 ?_
      simp only [Act.put, List.getElem_toArray, List.getElem_cons_zero, List.getElem_cons_succ, List.setIfInBounds_toArray, List.set_cons_zero, List.set_cons_succ]
      refine wpAnyH_take (i := 8) (v := .int .i64 j) rfl (by kernel_rfl) (by kernel_rfl) (by kernel_rfl) (fun _ _ _ h => h) (Or.inl ⟨rfl, fun w' hS => by (unfold execOp; go_simp)⟩) hS0 ?_
      simp only [Act.put, List.getElem_toArray, List.getElem_cons_zero, List.getElem_cons_succ, List.setIfInBounds_toArray, List.set_cons_zero, List.set_cons_succ]
      refine wpAnyH_take (i := 9) (v := .pointer (some ⟨q', o' + j * 5, none⟩)) rfl (by kernel_rfl) (by kernel_rfl) (by kernel_rfl) (fun _ _ _ h => h) (Or.inl ⟨rfl, fun w' hS => by (have za := HAq'.out; unfold execOp; go_simp)⟩) hS0 ?_
      simp only [Act.put, List.getElem_toArray, List.getElem_cons_zero, List.getElem_cons_succ, List.setIfInBounds_toArray, List.set_cons_zero, List.set_cons_succ]
      refine wpAnyH_take (i := 10) (v := .agg #[.int .i64 k2, .string p2, .string n2, .slice A2 m2 c2, .slice B2 l2 d2]) rfl (by kernel_rfl) (by kernel_rfl) (by kernel_rfl) (fun _ _ _ h => h) (Or.inl ⟨rfl, fun w' hS => by (have y0 := (hS.oldN hFq' hgl' _).trans r0; have y1 := (hS.oldN hFq' hgl' _).trans r1; have y2 := (hS.oldN hFq' hgl' _).trans r2; have y3 := (hS.oldN hFq' hgl' _).trans r3; have y4 := (hS.oldN hFq' hgl' _).trans r4; unfold execOp; go_simp)⟩) hS0 ?_
      simp only [Act.put, List.getElem_toArray, List.getElem_cons_zero, List.getElem_cons_succ, List.setIfInBounds_toArray, List.set_cons_zero, List.set_cons_succ]
      refine wpAnyH_one (i := 11) (by kernel_rfl) rfl rfl (op_call (args := #[.slice C l.length c0, .slice (some ⟨w.heap.size, 0, none⟩) l.length l.length, .slice (some ⟨w.heap.size + 1, 0, none⟩) l.length l.length, .agg #[.int .i64 k1, .string p1, .string n1, .slice A1 m1 c1, .slice B1 l1 d1], .agg #[.int .i64 k2, .string p2, .string n2, .slice A2 m2 c2, .slice B2 l2 d2]]) (f := 64) (by unfold execOp; go_simp) ((HI.out _ (Below.refl _ wr).drew).mono ?_))
      rintro e w5 ⟨⟨vv, rfl⟩, hs5, hg5⟩
      have hG5 : Gr (fun x => x = w.heap.size ∨ x = w.heap.size + 1) wr w5 := hS0.trans hg5
      refine And.intro hG5 ?_
      simp only [Act.put, List.getElem_toArray, List.getElem_cons_zero, List.getElem_cons_succ, List.setIfInBounds_toArray, List.set_cons_zero, List.set_cons_succ]
      refine wpAnyH_done (by kernel_rfl) ?_ _
      have HF := Lib.hid (show Gr (fun x => x = w.heap.size ∨ x = w.heap.size + 1) ((w.alloc (.cells (madeCells z5 (l.length * 5)) 24)).alloc (.cells (madeCells #[.bool false] l.length) 4)) w5 ∧ Sd w5 w.heap.size (w.heap.size + 1) ts ∧ ts.1.length = l.length ∧ ts.2.length = l.length from ⟨HGR.out.trans hG5, hs5, HLL.out.1.trans HL1.out, HLL.out.2.trans HL2.out⟩)
      clear hS0 hG5 hs5 hg5
      go_wp2
      go_roundg gg
      case measure => omega
      case rel => exact ⟨j + 1, ts, by omega, by go_num, HF.out.1, HF.out.2.1, HF.out.2.2.1, HF.out.2.2.2, HEQ2.out⟩
end Go.Proofs.Ytkgilhdoahkakaa
