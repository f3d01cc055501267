/-
  The first unit of a package, the first declaration of a name: walks.
-/
import Derived.Test.YtcfgjfahjaimiaaUe
import Derived.Test.YtcfgjfahjaimiaaOg
namespace Go.Proofs.Ytcfgjfahjaimiaa
open Go.RowKit
set_option linter.unusedVariables false
set_option linter.unusedSimpArgs false

/-- Cells written one behind the other. -/
def putCs (w : World) (g : Nat) : Nat → List Value → World
  | _, [] => w
  | i, v :: r => putCs (w.setCell ⟨g, i, none⟩ v) g (i + 1) r
theorem putCs_gr (g : Nat) : ∀ (vs : List Value) (i : Nat) (w : World), Gr (fun x => x = g) w (putCs w g i vs)
  | [], _, w => Gr.refl w
  | v :: r, i, w => ((Gr.refl w).in_ i v).trans (putCs_gr g r (i + 1) _)
theorem putCs_blk {g : Nat} {t : TypeId} : ∀ (vs : List Value) (i : Nat) (w : World) (cs : Array Value), Blk w g t cs → i + vs.length = cs.size → Blk (putCs w g i vs) g t (cs.toList.take i ++ vs).toArray
  | [], i, w, cs, h, hl => by
    have e : (cs.toList.take i ++ []).toArray = cs := by
      simp at hl
      rw [List.append_nil, List.take_of_length_le (by simp; omega)]
    rw [e]; exact h
  | v :: r, i, w, cs, h, hl => by
    have h2 := putCs_blk r (i + 1) (w.setCell ⟨g, i, none⟩ v) (cs.setIfInBounds i v) (h.set_ i v) (by simp at hl ⊢; omega)
    have hi : i < cs.toList.length := by simp at hl ⊢; omega
    have e : (cs.setIfInBounds i v).toList.take (i + 1) ++ r = cs.toList.take i ++ v :: r := by
      rw [Array.toList_setIfInBounds, List.take_add_one, List.take_set, List.getElem?_set_self hi, Option.toList_some, List.append_assoc]
      congr 1
      rw [List.set_eq_of_length_le (by simp; omega)]
    rw [e] at h2
    exact h2
theorem putCs_blk0 {g : Nat} {t : TypeId} {vs : List Value} {w : World} {cs : Array Value} (h : Blk w g t cs) (hl : vs.length = cs.size) : Blk (putCs w g 0 vs) g t vs.toArray := by
  have := putCs_blk vs 0 w cs h (by omega)
  simpa using this
theorem putCs_bel {w0 w : World} {g : Nat} (hb : Below w0.heap.size w0 w) (hg : w0.heap.size ≤ g) (vs : List Value) : Below w0.heap.size w0 (putCs w g 0 vs) :=
  hb.trans ((putCs_gr g vs 0 w).belowN hb.size (fun k hk e => by have e2 : k = g := e; omega))
theorem SlG.clear {α : Type} {R : Rel α} {n : Nat} (hR : Keeps R) {w w' : World} {F : Nat → Prop} {g : Nat} {A : Option Addr} {l : List α} (h : SlG n R w F A l) (hg : Gr (fun x => x = g) w w') (hB : ∀ k, F k → k < g) : SlG n R w' F A l :=
  h.keep hR (fun k hk hl => hg.block k hl (fun e => by have e2 : k = g := e; have := hB k hk; omega)) hg.size (fun _ _ h => h)
theorem RDl.clear {w w' : World} {F : Nat → Prop} {g : Nat} {d : Dl} {vs : List Value} (h : RDl w F d vs) (hg : Gr (fun x => x = g) w w') (hB : ∀ k, F k → k < g) : RDl w' F d vs :=
  RDl_keeps _ _ _ _ _ _ (fun k hk hl => hg.block k hl (fun e => by have e2 : k = g := e; have := hB k hk; omega)) hg.size (fun _ _ h => h) h
theorem RDl.bel {w w' : World} {F : Nat → Prop} {d : Dl} {vs : List Value} (h : RDl w F d vs) (hb : Below w.heap.size w w') : RDl w' F d vs :=
  RDl_keeps _ _ _ _ _ _ (fun k _ hl => hb.block k hl) hb.size (fun _ _ h => h) h
theorem SlG.low {α : Type} {R : Rel α} {n : Nat} (hR : Keeps R) {w : World} {F : Nat → Prop} {A : Option Addr} {l : List α} (h : SlG n R w F A l) : SlG n R w (fun k => k < w.heap.size) A l := h.keep hR (fun _ _ _ => rfl) (Nat.le_refl _) (fun k hk _ => hk)
theorem SlG.any {α : Type} {R : Rel α} {n : Nat} (hR : Keeps R) {w : World} {F : Nat → Prop} {A : Option Addr} {l : List α} (h : SlG n R w F A l) : SlG n R w (fun _ => True) A l := h.keep hR (fun _ _ _ => rfl) (Nat.le_refl _) (fun _ _ _ => trivial)
/-- The unit of a package, or one without anything: its cells. -/
def UnV (F : Nat → Prop) (u : Un) (w : World) (vs : List Value) : Prop := ∃ (A : Option Addr) (a : Nat) (B : Option Addr) (b : Nat) (C : Option Addr) (c : Nat), vs = [.string u.pkg, .slice A u.imps.length a, .slice B u.decls.length b, .slice C u.funs.length c] ∧ SlG 10 RDl w F B u.decls
/-- The first declaration of a name that is no method. -/
def declP : List Dl → ByteArray → Option Dl
  | [], _ => none
  | d :: r, s => if d.name = s ∧ d.kind ≠ 6 then some d else declP r s
theorem declP_drop {l : List Dl} {s : ByteArray} {j : Nat} {d : Dl} (h : l[j]? = some d) : declP (l.drop j) s = if d.name = s ∧ d.kind ≠ 6 then some d else declP (l.drop (j + 1)) s := by
  obtain ⟨h1, h2⟩ := List.getElem?_eq_some_iff.1 h
  rw [List.drop_eq_getElem_cons h1, h2, declP]
def dlZ : Dl := ⟨0, ⟨#[]⟩, ⟨#[]⟩, 0, tyZ, []⟩
def DlV (F : Nat → Prop) (d : Dl) (w : World) (vs : List Value) : Prop := RDl w F d vs
set_option maxRecDepth 100000 in
set_option maxHeartbeats 2000000 in
theorem unit1_any (x y : ByteArray) (A B C : Option Addr) (l a m b n c g : Nat) (w : World) (hg : w.cell? ⟨g, 0, none⟩ = some (.string y)) (hgl : g < w.heap.size) : Calls Try.prog 82 #[.agg #[.string x, .slice A l a, .slice B m b, .slice C n c], .pointer (some ⟨g, 0, none⟩)] w (TruthP w (decide (x = y))) := by
  by_cases e : x = y
  · subst e
    go_enter Try.func82, Try.ntmps82
    go_wp2
    go_ret
    exact ⟨by simp, (Below.refl _ _).alloc (Nat.le_refl _) _⟩
  · have eb : (x.toList == y.toList) = false := by simpa [toList_inj] using e
    have ed : decide (x = y) = false := decide_eq_false e
    rw [ed]
    clear e ed
    go_enter Try.func82, Try.ntmps82
    go_wp2
    go_ret
    exact ⟨rfl, (Below.refl _ _).alloc (Nat.le_refl _) _⟩
set_option maxRecDepth 100000 in
set_option maxHeartbeats 2000000 in
theorem decl1_any (k : Int) (x o : ByteArray) (v tk : Int) (tp tn y : ByteArray) (A B C : Option Addr) (l a m b n c g : Nat) (w : World) (hg : w.cell? ⟨g, 0, none⟩ = some (.string y)) (hgl : g < w.heap.size) : Calls Try.prog 73 #[.agg #[.int .i64 k, .string x, .string o, .int .i64 v, .int .i64 tk, .string tp, .string tn, .slice A l a, .slice B m b, .slice C n c], .pointer (some ⟨g, 0, none⟩)] w (TruthP w (decide (x = y ∧ k ≠ 6))) := by
  by_cases e : x = y
  · subst e
    by_cases e6 : k = 6
    · subst e6
      have ed : decide (x = x ∧ (6 : Int) ≠ 6) = false := by simp
      rw [ed]
      clear ed
      go_enter Try.func73, Try.ntmps73
      go_wp2
      go_ret
      exact ⟨by simp, (Below.refl _ _).alloc (Nat.le_refl _) _⟩
    · have ed : decide (x = x ∧ k ≠ 6) = true := by simp [e6]
      have eb : (k != 6) = true := by simpa using e6
      rw [ed]
      clear ed e6
      go_enter Try.func73, Try.ntmps73
      go_wp2
      go_ret
      exact ⟨by simp, (Below.refl _ _).alloc (Nat.le_refl _) _⟩
  · have eb : (x.toList == y.toList) = false := by simpa [toList_inj] using e
    have ed : decide (x = y ∧ k ≠ 6) = false := by simp [e]
    rw [ed]
    clear e ed
    go_enter Try.func73, Try.ntmps73
    go_wp2
    go_ret
    exact ⟨rfl, (Below.refl _ _).alloc (Nat.le_refl _) _⟩
set_option maxRecDepth 100000 in
set_option maxHeartbeats 4000000 in
theorem firstu_any (us : List Un) (p : ByteArray) (hlen : us.length ≤ 140737488355328) (w : World) (F : Nat → Prop) (A : Option Addr) (c g : Nat) (hr : SlG 4 RUn w F A us) (hg : w.cell? ⟨g, 0, none⟩ = some (.string p)) (hgl : g < w.heap.size) (hF : ∀ k, F k → k < w.heap.size) :
    Calls Try.prog 81 #[.slice A us.length c, .func (Fn.func 82) #[] #[.pointer (some ⟨g, 0, none⟩)]] w fun e w' => (∃ vs : List Value, e = .returned (.tuple #[.agg vs.toArray, .bool (unitP us p).isSome]) ∧ UnV F ((unitP us p).getD unZ) w' vs) ∧ Below w.heap.size w w' := by
  have HA := Lib.hid hr
  have HLT := Lib.hid hF
  have HG := Lib.hid hg
  have n0 : (0 : Int) ≤ (us.length : Int) := by omega
  have n1 : (us.length : Int) ≤ 140737488355328 := by omega
  obtain ⟨res, hres⟩ : ∃ r, unitP us p = r := ⟨_, rfl⟩
  have HR := Lib.hid hres
  rw [hres]
  have HGL := Lib.hid hgl
  clear hr hg hres hF
  go_enter Try.func81, Try.ntmps81
  go_wp2
  go_loopg [11] us.length (fun gk v11 wr => ∃ (j : Nat), j + gk = us.length ∧ v11 = .int .i64 j ∧ Below w.heap.size w wr ∧ Blk wr w.heap.size 47 #[.string ⟨#[]⟩, .slice none 0 0, .slice none 0 0, .slice none 0 0] ∧ res = unitP (us.drop j) p)
  case atStart => exact ⟨0, by simp, rfl, (Below.refl _ _).alloc (Nat.le_refl _) _, Blk.new _ _ _, by rw [← HR.out]; rfl⟩
  case round =>
    obtain ⟨j, hj, rfl, hb, hk, hsm⟩ := hrel
    have HB := Lib.hid hb
    have HK := Lib.hid hk
    cases gk with
    | zero =>
      obtain rfl : j = us.length := by omega
      rw [List.drop_length] at hsm
      subst hsm
      have z0 := hk.cell 0
      have f0 := hk.frozen 0
      have z1 := hk.cell 1
      have f1 := hk.frozen 1
      have z2 := hk.cell 2
      have f2 := hk.frozen 2
      have z3 := hk.cell 3
      have f3 := hk.frozen 3
      have zl := hk.lt
      clear hj hb hk
      go_wp2
      have hw6 := HB.out.alloc HB.out.size (.cells #[.string ⟨#[]⟩, .slice none 0 0, .slice none 0 0, .slice none 0 0] 47)
      have hk6 := HK.out.alloc (.cells #[.string ⟨#[]⟩, .slice none 0 0, .slice none 0 0, .slice none 0 0] 47)
      have e6 : (putCs wr w.heap.size 0 [.string ⟨#[]⟩, .slice none 0 0, .slice none 0 0, .slice none 0 0]).alloc (.cells #[.string ⟨#[]⟩, .slice none 0 0, .slice none 0 0, .slice none 0 0] 47) = (putCs wr w.heap.size 0 [.string ⟨#[]⟩, .slice none 0 0, .slice none 0 0, .slice none 0 0]).alloc (.cells #[.string ⟨#[]⟩, .slice none 0 0, .slice none 0 0, .slice none 0 0] 47) := rfl
      have hV := (putCs_blk0 (vs := [.string ⟨#[]⟩, .slice none 0 0, .slice none 0 0, .slice none 0 0]) HK.out rfl).alloc (.cells #[.string ⟨#[]⟩, .slice none 0 0, .slice none 0 0, .slice none 0 0] 47)
      have hVb := putCs_bel HB.out (Nat.le_refl _) [.string ⟨#[]⟩, .slice none 0 0, .slice none 0 0, .slice none 0 0]
      have HV := Lib.hid (hVb.alloc hVb.size (.cells #[.string ⟨#[]⟩, .slice none 0 0, .slice none 0 0, .slice none 0 0] 47))
      have y0 := hV.cell 0
      have y1 := hV.cell 1
      have y2 := hV.cell 2
      have y3 := hV.cell 3
      clear hV hw6 hk6 e6 hVb z0 f0 z1 f1 z2 f2 z3 f3
      show bodyPost _ _ _ _ _ ((putCs wr w.heap.size 0 [.string ⟨#[]⟩, .slice none 0 0, .slice none 0 0, .slice none 0 0]).alloc (.cells #[.string ⟨#[]⟩, .slice none 0 0, .slice none 0 0, .slice none 0 0] 47))
      generalize (putCs wr w.heap.size 0 [.string ⟨#[]⟩, .slice none 0 0, .slice none 0 0, .slice none 0 0]).alloc (.cells #[.string ⟨#[]⟩, .slice none 0 0, .slice none 0 0, .slice none 0 0] 47) = V at HV y0 y1 y2 y3 ⊢
      exact bodyPost_ret (v := .tuple #[.agg #[.string ⟨#[]⟩, .slice none 0 0, .slice none 0 0, .slice none 0 0], .bool false]) (by simp [results, Try.results81, go_sem, y0, y1, y2, y3]) rfl ⟨⟨[.string ⟨#[]⟩, .slice none 0 0, .slice none 0 0, .slice none 0 0], rfl, ⟨none, 0, none, 0, none, 0, rfl, SlG.none_ _ _⟩⟩, HV.out⟩
    | succ f =>
      have hjl : j < us.length := by omega
      obtain ⟨u, hu⟩ : ∃ u, us[j]? = some u := ⟨_, List.getElem?_eq_getElem hjl⟩
      have j1 : (j : Int) < (us.length : Int) := by omega
      have j0 : (0 : Int) ≤ (j : Int) := by omega
      have j2 : (j : Int) ≤ 140737488355328 := by omega
      obtain ⟨q, o, vs, rfl, hFq, hql, hrep, hat⟩ := (HA.out.bel RUn_keeps hb).at_ RUn_sized hu
      rw [unitP_drop hu] at hsm
      obtain ⟨pk, ims, dcs, fns⟩ := u
      obtain ⟨A1, a1, B1, b1, C1, c1, rfl, _, hds, _⟩ := hrep
      dsimp only at hds
      have HDS := Lib.hid hds
      dsimp only at hsm
      have q0 := hat 0 _ rfl
      have q1 := hat 1 _ rfl
      have q2 := hat 2 _ rfl
      have q3 := hat 3 _ rfl
      rw [Nat.add_zero] at q0
      have z0 := hk.cell 0
      have f0 := hk.frozen 0
      have z1 := hk.cell 1
      have f1 := hk.frozen 1
      have z2 := hk.cell 2
      have f2 := hk.frozen 2
      have z3 := hk.cell 3
      have f3 := hk.frozen 3
      have zl := hk.lt
      have HC := Lib.hid (fun w' (h' : Below wr.heap.size wr w') => unit1_any pk p A1 B1 C1 ims.length a1 dcs.length b1 fns.length c1 g w' ((h'.cell (p := ⟨g, 0, none⟩) (Nat.lt_of_lt_of_le HGL.out HB.out.size)).trans ((HB.out.cell (p := ⟨g, 0, none⟩) HGL.out).trans HG.out)) (Nat.lt_of_lt_of_le (Nat.lt_of_lt_of_le HGL.out HB.out.size) h'.size))
      by_cases e : pk = p
      · have ed : decide (pk = p) = true := decide_eq_true e
        rw [ed] at HC
        rw [if_pos e] at hsm
        subst hsm
        clear hat hu hb hk e ed
        go_wp2_with (go_at_call 82; refine (HC.out _ ((Below.refl _ _).alloc (Nat.le_refl _) _)).mono ?_; rintro e w5 ⟨rfl, hb5⟩; have hw5 := ((Below.refl _ wr).alloc (Nat.le_refl _) (.cells #[.string pk, .slice A1 ims.length a1, .slice B1 dcs.length b1, .slice C1 fns.length c1] 47)).trans (hb5.mono (by simp)); have hx5 := (Blk.new wr 47 #[.string pk, .slice A1 ims.length a1, .slice B1 dcs.length b1, .slice C1 fns.length c1]).bel2 hb5; have HW5 := Lib.hid hw5; have x0 := hx5.cell 0; have x1 := hx5.cell 1; have x2 := hx5.cell 2; have x3 := hx5.cell 3; have xl := hx5.lt; have hk5 := HK.out.bel2 hw5; have m0 := hk5.cell 0; have mf0 := hk5.frozen 0; have m1 := hk5.cell 1; have mf1 := hk5.frozen 1; have m2 := hk5.cell 2; have mf2 := hk5.frozen 2; have m3 := hk5.cell 3; have mf3 := hk5.frozen 3; have ml := hk5.lt; have HK5 := Lib.hid hk5; clear hb5 hw5 hx5 hk5)
        have hV := putCs_blk0 (vs := [.string pk, .slice A1 ims.length a1, .slice B1 dcs.length b1, .slice C1 fns.length c1]) HK5.out rfl
        have HV := Lib.hid (putCs_bel (HB.out.trans (HW5.out.mono HB.out.size)) (Nat.le_refl _) [.string pk, .slice A1 ims.length a1, .slice B1 dcs.length b1, .slice C1 fns.length c1])
        have HVR := Lib.hid (show UnV F ⟨pk, ims, dcs, fns⟩ (putCs w5 w.heap.size 0 [.string pk, .slice A1 ims.length a1, .slice B1 dcs.length b1, .slice C1 fns.length c1]) [.string pk, .slice A1 ims.length a1, .slice B1 dcs.length b1, .slice C1 fns.length c1] from ⟨A1, a1, B1, b1, C1, c1, rfl, (HDS.out.bel RDl_keeps HW5.out).clear RDl_keeps (putCs_gr _ _ 0 w5) HLT.out⟩)
        have y0 := hV.cell 0
        have y1 := hV.cell 1
        have y2 := hV.cell 2
        have y3 := hV.cell 3
        clear hV x0 m0 mf0 z0 f0 q0 x1 m1 mf1 z1 f1 q1 x2 m2 mf2 z2 f2 q2 x3 m3 mf3 z3 f3 q3
        show bodyPost _ _ _ _ _ (putCs w5 w.heap.size 0 [.string pk, .slice A1 ims.length a1, .slice B1 dcs.length b1, .slice C1 fns.length c1])
        generalize putCs w5 w.heap.size 0 [.string pk, .slice A1 ims.length a1, .slice B1 dcs.length b1, .slice C1 fns.length c1] = V at HV HVR y0 y1 y2 y3 ⊢
        exact bodyPost_ret (v := .tuple #[.agg #[.string pk, .slice A1 ims.length a1, .slice B1 dcs.length b1, .slice C1 fns.length c1], .bool true]) (by simp [results, Try.results81, go_sem, y0, y1, y2, y3]) rfl ⟨⟨_, rfl, HVR.out⟩, HV.out⟩
      · have ed : decide (pk = p) = false := decide_eq_false e
        rw [ed] at HC
        rw [if_neg e] at hsm
        have HSM := Lib.hid hsm
        clear hat hu hb hk hsm e ed hds
        go_wp2_with (go_at_call 82; refine (HC.out _ ((Below.refl _ _).alloc (Nat.le_refl _) _)).mono ?_; rintro e w5 ⟨rfl, hb5⟩; have HB5 := Lib.hid (((Below.refl _ wr).alloc (Nat.le_refl _) (.cells #[.string pk, .slice A1 ims.length a1, .slice B1 dcs.length b1, .slice C1 fns.length c1] 47)).trans (hb5.mono (by simp))); clear hb5)
        go_roundg f
        case measure => omega
        case rel => exact ⟨j + 1, by omega, by go_num, HB.out.trans (HB5.out.mono HB.out.size), HK.out.bel2 HB5.out, HSM.out⟩
set_option maxRecDepth 100000 in
set_option maxHeartbeats 4000000 in
theorem firstd_any (us : List Dl) (p : ByteArray) (hlen : us.length ≤ 140737488355328) (w : World) (F : Nat → Prop) (A : Option Addr) (c g : Nat) (hr : SlG 10 RDl w F A us) (hg : w.cell? ⟨g, 0, none⟩ = some (.string p)) (hgl : g < w.heap.size) (hF : ∀ k, F k → k < w.heap.size) :
    Calls Try.prog 71 #[.slice A us.length c, .func (Fn.func 73) #[] #[.pointer (some ⟨g, 0, none⟩)]] w fun e w' => (∃ vs : List Value, e = .returned (.tuple #[.agg vs.toArray, .bool (declP us p).isSome]) ∧ DlV F ((declP us p).getD dlZ) w' vs) ∧ Below w.heap.size w w' := by
  have HA := Lib.hid hr
  have HLT := Lib.hid hF
  have HG := Lib.hid hg
  have n0 : (0 : Int) ≤ (us.length : Int) := by omega
  have n1 : (us.length : Int) ≤ 140737488355328 := by omega
  obtain ⟨res, hres⟩ : ∃ r, declP us p = r := ⟨_, rfl⟩
  have HR := Lib.hid hres
  rw [hres]
  have HGL := Lib.hid hgl
  clear hr hg hres hF
  go_enter Try.func71, Try.ntmps71
  go_wp2
  go_loopg [11] us.length (fun gk v11 wr => ∃ (j : Nat), j + gk = us.length ∧ v11 = .int .i64 j ∧ Below w.heap.size w wr ∧ Blk wr w.heap.size 57 #[.int .i64 0, .string ⟨#[]⟩, .string ⟨#[]⟩, .int .i64 0, .int .i64 0, .string ⟨#[]⟩, .string ⟨#[]⟩, .slice none 0 0, .slice none 0 0, .slice none 0 0] ∧ res = declP (us.drop j) p)
  case atStart => exact ⟨0, by simp, rfl, (Below.refl _ _).alloc (Nat.le_refl _) _, Blk.new _ _ _, by rw [← HR.out]; rfl⟩
  case round =>
    obtain ⟨j, hj, rfl, hb, hk, hsm⟩ := hrel
    have HB := Lib.hid hb
    have HK := Lib.hid hk
    cases gk with
    | zero =>
      obtain rfl : j = us.length := by omega
      rw [List.drop_length] at hsm
      subst hsm
      have z0 := hk.cell 0
      have f0 := hk.frozen 0
      have z1 := hk.cell 1
      have f1 := hk.frozen 1
      have z2 := hk.cell 2
      have f2 := hk.frozen 2
      have z3 := hk.cell 3
      have f3 := hk.frozen 3
      have z4 := hk.cell 4
      have f4 := hk.frozen 4
      have z5 := hk.cell 5
      have f5 := hk.frozen 5
      have z6 := hk.cell 6
      have f6 := hk.frozen 6
      have z7 := hk.cell 7
      have f7 := hk.frozen 7
      have z8 := hk.cell 8
      have f8 := hk.frozen 8
      have z9 := hk.cell 9
      have f9 := hk.frozen 9
      have zl := hk.lt
      clear hj hb hk
      go_wp2
      have hw6 := HB.out.alloc HB.out.size (.cells #[.int .i64 0, .string ⟨#[]⟩, .string ⟨#[]⟩, .int .i64 0, .int .i64 0, .string ⟨#[]⟩, .string ⟨#[]⟩, .slice none 0 0, .slice none 0 0, .slice none 0 0] 57)
      have hk6 := HK.out.alloc (.cells #[.int .i64 0, .string ⟨#[]⟩, .string ⟨#[]⟩, .int .i64 0, .int .i64 0, .string ⟨#[]⟩, .string ⟨#[]⟩, .slice none 0 0, .slice none 0 0, .slice none 0 0] 57)
      have e6 : (putCs wr w.heap.size 0 [.int .i64 0, .string ⟨#[]⟩, .string ⟨#[]⟩, .int .i64 0, .int .i64 0, .string ⟨#[]⟩, .string ⟨#[]⟩, .slice none 0 0, .slice none 0 0, .slice none 0 0]).alloc (.cells #[.int .i64 0, .string ⟨#[]⟩, .string ⟨#[]⟩, .int .i64 0, .int .i64 0, .string ⟨#[]⟩, .string ⟨#[]⟩, .slice none 0 0, .slice none 0 0, .slice none 0 0] 57) = (putCs wr w.heap.size 0 [.int .i64 0, .string ⟨#[]⟩, .string ⟨#[]⟩, .int .i64 0, .int .i64 0, .string ⟨#[]⟩, .string ⟨#[]⟩, .slice none 0 0, .slice none 0 0, .slice none 0 0]).alloc (.cells #[.int .i64 0, .string ⟨#[]⟩, .string ⟨#[]⟩, .int .i64 0, .int .i64 0, .string ⟨#[]⟩, .string ⟨#[]⟩, .slice none 0 0, .slice none 0 0, .slice none 0 0] 57) := rfl
      have hV := (putCs_blk0 (vs := [.int .i64 0, .string ⟨#[]⟩, .string ⟨#[]⟩, .int .i64 0, .int .i64 0, .string ⟨#[]⟩, .string ⟨#[]⟩, .slice none 0 0, .slice none 0 0, .slice none 0 0]) HK.out rfl).alloc (.cells #[.int .i64 0, .string ⟨#[]⟩, .string ⟨#[]⟩, .int .i64 0, .int .i64 0, .string ⟨#[]⟩, .string ⟨#[]⟩, .slice none 0 0, .slice none 0 0, .slice none 0 0] 57)
      have hVb := putCs_bel HB.out (Nat.le_refl _) [.int .i64 0, .string ⟨#[]⟩, .string ⟨#[]⟩, .int .i64 0, .int .i64 0, .string ⟨#[]⟩, .string ⟨#[]⟩, .slice none 0 0, .slice none 0 0, .slice none 0 0]
      have HV := Lib.hid (hVb.alloc hVb.size (.cells #[.int .i64 0, .string ⟨#[]⟩, .string ⟨#[]⟩, .int .i64 0, .int .i64 0, .string ⟨#[]⟩, .string ⟨#[]⟩, .slice none 0 0, .slice none 0 0, .slice none 0 0] 57))
      have y0 := hV.cell 0
      have y1 := hV.cell 1
      have y2 := hV.cell 2
      have y3 := hV.cell 3
      have y4 := hV.cell 4
      have y5 := hV.cell 5
      have y6 := hV.cell 6
      have y7 := hV.cell 7
      have y8 := hV.cell 8
      have y9 := hV.cell 9
      clear hV hw6 hk6 e6 hVb z0 f0 z1 f1 z2 f2 z3 f3 z4 f4 z5 f5 z6 f6 z7 f7 z8 f8 z9 f9
      show bodyPost _ _ _ _ _ ((putCs wr w.heap.size 0 [.int .i64 0, .string ⟨#[]⟩, .string ⟨#[]⟩, .int .i64 0, .int .i64 0, .string ⟨#[]⟩, .string ⟨#[]⟩, .slice none 0 0, .slice none 0 0, .slice none 0 0]).alloc (.cells #[.int .i64 0, .string ⟨#[]⟩, .string ⟨#[]⟩, .int .i64 0, .int .i64 0, .string ⟨#[]⟩, .string ⟨#[]⟩, .slice none 0 0, .slice none 0 0, .slice none 0 0] 57))
      generalize (putCs wr w.heap.size 0 [.int .i64 0, .string ⟨#[]⟩, .string ⟨#[]⟩, .int .i64 0, .int .i64 0, .string ⟨#[]⟩, .string ⟨#[]⟩, .slice none 0 0, .slice none 0 0, .slice none 0 0]).alloc (.cells #[.int .i64 0, .string ⟨#[]⟩, .string ⟨#[]⟩, .int .i64 0, .int .i64 0, .string ⟨#[]⟩, .string ⟨#[]⟩, .slice none 0 0, .slice none 0 0, .slice none 0 0] 57) = V at HV y0 y1 y2 y3 y4 y5 y6 y7 y8 y9 ⊢
      exact bodyPost_ret (v := .tuple #[.agg #[.int .i64 0, .string ⟨#[]⟩, .string ⟨#[]⟩, .int .i64 0, .int .i64 0, .string ⟨#[]⟩, .string ⟨#[]⟩, .slice none 0 0, .slice none 0 0, .slice none 0 0], .bool false]) (by simp [results, Try.results71, go_sem, y0, y1, y2, y3, y4, y5, y6, y7, y8, y9]) rfl ⟨⟨[.int .i64 0, .string ⟨#[]⟩, .string ⟨#[]⟩, .int .i64 0, .int .i64 0, .string ⟨#[]⟩, .string ⟨#[]⟩, .slice none 0 0, .slice none 0 0, .slice none 0 0], rfl, ⟨z5.toList, none, 0, rfl, RT.zero _ _, SlG.none_ _ _⟩⟩, HV.out⟩
    | succ f =>
      have hjl : j < us.length := by omega
      obtain ⟨u, hu⟩ : ∃ u, us[j]? = some u := ⟨_, List.getElem?_eq_getElem hjl⟩
      have j1 : (j : Int) < (us.length : Int) := by omega
      have j0 : (0 : Int) ≤ (j : Int) := by omega
      have j2 : (j : Int) ≤ 140737488355328 := by omega
      obtain ⟨q, o, vs, rfl, hFq, hql, hrep, hat⟩ := (HA.out.bel RDl_keeps hb).at_ RDl_sized hu
      rw [declP_drop hu] at hsm
      obtain ⟨dk, dn, dof, dv, dt, fs⟩ := u
      have hds := hrep
      obtain ⟨tv, Af, cf, rfl, hrt, hfs⟩ := hrep
      dsimp only at hrt hfs
      obtain ⟨tk, tp, tn, A1, a1', a1, B1, b1', b1, rfl⟩ := hrt.shape
      have HDS := Lib.hid hds
      dsimp only at hsm
      have q0 := hat 0 _ rfl
      have q1 := hat 1 _ rfl
      have q2 := hat 2 _ rfl
      have q3 := hat 3 _ rfl
      have q4 := hat 4 _ rfl
      have q5 := hat 5 _ rfl
      have q6 := hat 6 _ rfl
      have q7 := hat 7 _ rfl
      have q8 := hat 8 _ rfl
      have q9 := hat 9 _ rfl
      rw [Nat.add_zero] at q0
      have z0 := hk.cell 0
      have f0 := hk.frozen 0
      have z1 := hk.cell 1
      have f1 := hk.frozen 1
      have z2 := hk.cell 2
      have f2 := hk.frozen 2
      have z3 := hk.cell 3
      have f3 := hk.frozen 3
      have z4 := hk.cell 4
      have f4 := hk.frozen 4
      have z5 := hk.cell 5
      have f5 := hk.frozen 5
      have z6 := hk.cell 6
      have f6 := hk.frozen 6
      have z7 := hk.cell 7
      have f7 := hk.frozen 7
      have z8 := hk.cell 8
      have f8 := hk.frozen 8
      have z9 := hk.cell 9
      have f9 := hk.frozen 9
      have zl := hk.lt
      have HC := Lib.hid (fun w' (h' : Below wr.heap.size wr w') => decl1_any dk dn dof dv tk tp tn p A1 B1 Af a1' a1 b1' b1 fs.length cf g w' ((h'.cell (p := ⟨g, 0, none⟩) (Nat.lt_of_lt_of_le HGL.out HB.out.size)).trans ((HB.out.cell (p := ⟨g, 0, none⟩) HGL.out).trans HG.out)) (Nat.lt_of_lt_of_le (Nat.lt_of_lt_of_le HGL.out HB.out.size) h'.size))
      by_cases e : dn = p ∧ dk ≠ 6
      · have ed : decide (dn = p ∧ dk ≠ 6) = true := decide_eq_true e
        rw [ed] at HC
        rw [if_pos e] at hsm
        subst hsm
        clear hat hu hb hk e ed
        go_wp2_with (go_at_call 73; refine (HC.out _ ((Below.refl _ _).alloc (Nat.le_refl _) _)).mono ?_; rintro e w5 ⟨rfl, hb5⟩; have hw5 := ((Below.refl _ wr).alloc (Nat.le_refl _) (.cells #[.int .i64 dk, .string dn, .string dof, .int .i64 dv, .int .i64 tk, .string tp, .string tn, .slice A1 a1' a1, .slice B1 b1' b1, .slice Af fs.length cf] 57)).trans (hb5.mono (by simp)); have hx5 := (Blk.new wr 57 #[.int .i64 dk, .string dn, .string dof, .int .i64 dv, .int .i64 tk, .string tp, .string tn, .slice A1 a1' a1, .slice B1 b1' b1, .slice Af fs.length cf]).bel2 hb5; have HW5 := Lib.hid hw5; have x0 := hx5.cell 0; have x1 := hx5.cell 1; have x2 := hx5.cell 2; have x3 := hx5.cell 3; have x4 := hx5.cell 4; have x5 := hx5.cell 5; have x6 := hx5.cell 6; have x7 := hx5.cell 7; have x8 := hx5.cell 8; have x9 := hx5.cell 9; have xl := hx5.lt; have hk5 := HK.out.bel2 hw5; have m0 := hk5.cell 0; have mf0 := hk5.frozen 0; have m1 := hk5.cell 1; have mf1 := hk5.frozen 1; have m2 := hk5.cell 2; have mf2 := hk5.frozen 2; have m3 := hk5.cell 3; have mf3 := hk5.frozen 3; have m4 := hk5.cell 4; have mf4 := hk5.frozen 4; have m5 := hk5.cell 5; have mf5 := hk5.frozen 5; have m6 := hk5.cell 6; have mf6 := hk5.frozen 6; have m7 := hk5.cell 7; have mf7 := hk5.frozen 7; have m8 := hk5.cell 8; have mf8 := hk5.frozen 8; have m9 := hk5.cell 9; have mf9 := hk5.frozen 9; have ml := hk5.lt; have HK5 := Lib.hid hk5; clear hb5 hw5 hx5 hk5)
        have hV := putCs_blk0 (vs := [.int .i64 dk, .string dn, .string dof, .int .i64 dv, .int .i64 tk, .string tp, .string tn, .slice A1 a1' a1, .slice B1 b1' b1, .slice Af fs.length cf]) HK5.out rfl
        have HV := Lib.hid (putCs_bel (HB.out.trans (HW5.out.mono HB.out.size)) (Nat.le_refl _) [.int .i64 dk, .string dn, .string dof, .int .i64 dv, .int .i64 tk, .string tp, .string tn, .slice A1 a1' a1, .slice B1 b1' b1, .slice Af fs.length cf])
        have HVR := Lib.hid (show DlV F ⟨dk, dn, dof, dv, dt, fs⟩ (putCs w5 w.heap.size 0 [.int .i64 dk, .string dn, .string dof, .int .i64 dv, .int .i64 tk, .string tp, .string tn, .slice A1 a1' a1, .slice B1 b1' b1, .slice Af fs.length cf]) [.int .i64 dk, .string dn, .string dof, .int .i64 dv, .int .i64 tk, .string tp, .string tn, .slice A1 a1' a1, .slice B1 b1' b1, .slice Af fs.length cf] from (HDS.out.bel HW5.out).clear (putCs_gr _ _ 0 w5) HLT.out)
        have y0 := hV.cell 0
        have y1 := hV.cell 1
        have y2 := hV.cell 2
        have y3 := hV.cell 3
        have y4 := hV.cell 4
        have y5 := hV.cell 5
        have y6 := hV.cell 6
        have y7 := hV.cell 7
        have y8 := hV.cell 8
        have y9 := hV.cell 9
        clear hV x0 m0 mf0 z0 f0 q0 x1 m1 mf1 z1 f1 q1 x2 m2 mf2 z2 f2 q2 x3 m3 mf3 z3 f3 q3 x4 m4 mf4 z4 f4 q4 x5 m5 mf5 z5 f5 q5 x6 m6 mf6 z6 f6 q6 x7 m7 mf7 z7 f7 q7 x8 m8 mf8 z8 f8 q8 x9 m9 mf9 z9 f9 q9
        show bodyPost _ _ _ _ _ (putCs w5 w.heap.size 0 [.int .i64 dk, .string dn, .string dof, .int .i64 dv, .int .i64 tk, .string tp, .string tn, .slice A1 a1' a1, .slice B1 b1' b1, .slice Af fs.length cf])
        generalize putCs w5 w.heap.size 0 [.int .i64 dk, .string dn, .string dof, .int .i64 dv, .int .i64 tk, .string tp, .string tn, .slice A1 a1' a1, .slice B1 b1' b1, .slice Af fs.length cf] = V at HV HVR y0 y1 y2 y3 y4 y5 y6 y7 y8 y9 ⊢
        exact bodyPost_ret (v := .tuple #[.agg #[.int .i64 dk, .string dn, .string dof, .int .i64 dv, .int .i64 tk, .string tp, .string tn, .slice A1 a1' a1, .slice B1 b1' b1, .slice Af fs.length cf], .bool true]) (by simp [results, Try.results71, go_sem, y0, y1, y2, y3, y4, y5, y6, y7, y8, y9]) rfl ⟨⟨_, rfl, HVR.out⟩, HV.out⟩
      · have ed : decide (dn = p ∧ dk ≠ 6) = false := decide_eq_false e
        rw [ed] at HC
        rw [if_neg e] at hsm
        have HSM := Lib.hid hsm
        clear hat hu hb hk hsm e ed hds
        go_wp2_with (go_at_call 73; refine (HC.out _ ((Below.refl _ _).alloc (Nat.le_refl _) _)).mono ?_; rintro e w5 ⟨rfl, hb5⟩; have HB5 := Lib.hid (((Below.refl _ wr).alloc (Nat.le_refl _) (.cells #[.int .i64 dk, .string dn, .string dof, .int .i64 dv, .int .i64 tk, .string tp, .string tn, .slice A1 a1' a1, .slice B1 b1' b1, .slice Af fs.length cf] 57)).trans (hb5.mono (by simp))); clear hb5)
        go_roundg f
        case measure => omega
        case rel => exact ⟨j + 1, by omega, by go_num, HB.out.trans (HB5.out.mono HB.out.size), HK.out.bel2 HB5.out, HSM.out⟩
end Go.Proofs.Ytcfgjfahjaimiaa
