/-
  A tree's kids grow by a list that a call makes: regions that draw their order.
-/
import Derived.Test.YtihnnbeepfgphaaGreatDoorParR
namespace Go.Proofs.YtihnnbeepfgphaaGreatDoor
open Go.RowKit
set_option linter.unusedVariables false
set_option linter.unusedSimpArgs false

/-- A call that tells a list of nodes, or panics. -/
def TellsL (b : Nat) (w : World) (B : List PanicEntry → Prop) (D : List Tr → World → Prop) (e : Ending) (w' : World) : Prop :=
  Gr (· = b) w w' ∧ ((∃ c, B c ∧ e = .panicked c) ∨ ∃ (ks : List Tr) (A : Option Addr) (c : Nat), e = .returned (.slice A ks.length c) ∧ ks.length ≤ LIM ∧ Kid w' w.heap.size (.slice A ks.length c) ks ∧ D ks w')
structure JE (b : Nat) (w0 : World) (h : Nat) (X : Nat → Prop) (lo m ci pi : Nat) (lv : Nat → Value) (v : Value) (ks0 : List Tr) (D : List Tr → World → Prop) (L : Nat → Bool) (vals : Nat → Value) (w : World) : Prop where
  li : ∀ i, i < m → i ≠ ci → i ≠ pi → L i = true → vals i = lv i
  d : L pi = true → L ci = true
  gr : Gr (WX b v) w0 w
  q0 : L ci = false → w = w0.drew
  q1 : L pi = false → Gr (· = b) w0 w
  p1 : L ci = true → L pi = false → ∃ (us : List Tr) (A : Option Addr) (c : Nat), vals ci = .slice A us.length c ∧ us.length ≤ LIM ∧ Kid w w0.heap.size (.slice A us.length c) us ∧ D us w
  p3 : L pi = true → ∃ A c us, vals pi = .slice A (ks0 ++ us).length c ∧ us.length ≤ LIM ∧ KidX w lo h (.slice A (ks0 ++ us).length c) (ks0 ++ us) ∧ KidP w lo X (.slice A (ks0 ++ us).length c) (ks0 ++ us) ∧ D us w

set_option maxRecDepth 100000 in
theorem kid_join {w : World} {lo N h : Nat} {X : Nat → Prop} {v : Value} {ks0 us : List Tr} {A : Option Addr} {c : Nat} (hK : KidX w lo h v ks0) (hKz : KidP w lo X v ks0) (hzN : ∀ q, X q → q < N) (hzw : ∀ q, X q → q < w.heap.size) (hv : ∀ q, v.ownBlock = some q → q < N) (hN : Kid w N (.slice A us.length c) us) (hlo : lo ≤ N) (hhN : h < N) (hlen : ks0.length ≤ 3 * LIM) (hul : us.length ≤ LIM) (hsz : lo ≤ w.heap.size) (hhw : h < w.heap.size)
    {o : Oper} {a : Act} {K : Act → World → Prop} {Q : Exit → Act → World → Prop} (s x : Operand)
    (ho : o.op = .call { callee := .builtin .append, args := #[s, x], argTypes := #[26, 26] }) (hs : a.eval s = v) (hx : a.eval x = .slice A us.length c)
    (hk : ∀ A c w', KidX w' lo h (.slice A (ks0 ++ us).length c) (ks0 ++ us) → KidP w' lo X (.slice A (ks0 ++ us).length c) (ks0 ++ us) → Gr (fun k => v.ownBlock = some k) w w' → K (a.put o.dst (.slice A (ks0 ++ us).length c)) w') : o.wp Tryz.prog a w K Q := by
  obtain ⟨i0, hi0, hz0, hz1, hz2⟩ := info_parts node_info
  obtain ⟨h0, xs, h1, h2⟩ := hK
  obtain ⟨h0z, xsz, h1z, h2z⟩ := hKz
  have exz : xs = xsz := own_same h1 h1z
  subst exz
  obtain ⟨ys, k1, k2⟩ := hN
  have hrd := Reads.of_own k1
  have h3 : Reps w (fun q => lo ≤ q ∧ v.ownBlock ≠ some q ∧ q ≠ h) us ys := Reps.keep (fun _ _ _ => rfl) (Nat.le_refl _) (fun q _ hq => ⟨by omega, (fun e => by have := hv q e; omega), by omega⟩) _ _ k2
  have h3z : Reps w (fun q => lo ≤ q ∧ v.ownBlock ≠ some q ∧ ¬ X q) us ys := Reps.keep (fun _ _ _ => rfl) (Nat.le_refl _) (fun q _ hq => ⟨by omega, (fun e => by have := hv q e; omega), fun e => by have := hzN q e; omega⟩) _ _ k2
  unfold LIM at hlen hul
  refine wp_append_any w s x _ ho lo 28 i0 _ 7 88 Tryz.underlying26 hi0 hz0 hz1 hz2 rfl (by omega) v ks0.length xs hs h1 _ _ us.length c ys hx hrd k2.one (by simp only [maxLen]; omega) (by omega) hsz ?_
  intro v' w' g1 g2 g3
  obtain ⟨A, c, rfl⟩ := own_shape g1
  have hl : (ks0 ++ us).length = ks0.length + us.length := List.length_append
  have := KidX.app (us := us) h0 h1 h2 h3 g1 g2 g3 hhw
  have thz := KidP.app (us := us) h0z h1z h2z h3z g1 g2 g3 hzw
  rw [← hl] at this thz ⊢
  exact hk A c w' this thz (Gr.of_grown g2 fun q hq _ => hq)

/-- pi: the append, behind which t1 and then t2 are done; ci: the call. -/
theorem region_E {id : Nat} {a0 : Act} {w0 : World} {Q : Exit → Act → World → Prop} {ops : Array Oper} {dc dp d0 d1 : Nat} {oc op : Oper}
    (m ci pi li b lo h : Nat) (X : Nat → Prop) (n : Nat) (lv : Nat → Value) (v : Value) (ks0 : List Tr) (f : FuncId) (argv : Array Value) (B : List PanicEntry → Prop) (D : List Tr → World → Prop)
    (hB : preB ops m = true) (hn : a0.tmps.size = n) (hin : inB ops m n = true) (hcm : ci < m) (hpm : pi < m) (hcp : ci ≠ pi) (hlc : li ≠ ci) (hlp : li ≠ pi) (hlm : li < m)
    (hoc : ops[ci]? = some oc) (hop : ops[pi]? = some op) (hdc : oc.dst = some dc) (hdp : op.dst = some dp) (hdl : ∃ ol, ops[li]? = some ol ∧ ol.dst = some d1)
    (ho : op.op = .call { callee := .builtin .append, args := #[.tmp d1, .tmp dc], argTypes := #[26, 26] })
    (epc : dep ops pi ci = true) (epl : dep ops pi li = true) (hlv : lv li = v)
    (hrun : ∀ (a : Act) (w : World), (∀ (j : Nat) (o' : Oper) (d : Nat), j < m → ops[j]? = some o' → o'.dst = some d → dep ops ci j = true → j ≠ ci → j ≠ pi → a.eval (.tmp d) = lv j) → (execOp a.eval oc).run Tryz.prog w = .ok (.enter f argv) w)
    (hlight : ∀ (i : Nat) (o : Oper), ops[i]? = some o → i < m → i ≠ ci → i ≠ pi → ∀ (a : Act) (w : World), Gr (Wr b lo h) w0 w → (∀ t, (∀ o' ∈ ops, o'.dst ≠ some t) → a.eval (.tmp t) = a0.eval (.tmp t)) →
      (∀ (j : Nat) (o' : Oper) (d : Nat), j < m → ops[j]? = some o' → o'.dst = some d → dep ops i j = true → a.eval (.tmp d) = lv j) → (execOp a.eval o).run Tryz.prog w = .ok (.value (lv i)) w)
    (hlc2 : ∀ i, i < m → i ≠ ci → i ≠ pi → dep ops i ci = false ∧ dep ops i pi = false) (hcp2 : dep ops ci pi = false ∧ dep ops ci ci = false)
    (hK : KidX w0 lo h v ks0) (hKz : KidP w0 lo X v ks0) (hzl : ∀ q, X q → q < w0.heap.size) (hhl : h < w0.heap.size) (hbl : b < lo) (hlo : lo ≤ w0.heap.size) (hlen : ks0.length ≤ 3 * LIM)
    (hD2 : ∀ t, Calm lo (D t)) (hcall : Calls Tryz.prog f argv w0.drew (TellsL b w0.drew B D))
    (hbad : ∀ (a : Act) (w' : World) (c : List PanicEntry), a.defers = a0.defers → B c → Gr (· = b) w0 w' → Q (.panic c) a w')
    (hnext : ∀ (vals : Nat → Value) (a : Act) (w' : World) (A : Option Addr) (c : Nat) (us : List Tr), a = putAll vals (ops.toList.take m) 0 a0 → a.defers = a0.defers → a.tmps.size = n → (∀ t, (∀ o' ∈ ops, o'.dst ≠ some t) → a.eval (.tmp t) = a0.eval (.tmp t)) → (∀ (j : Nat) (o' : Oper) (d : Nat), j < m → ops[j]? = some o' → o'.dst = some d → j ≠ ci → j ≠ pi → a.eval (.tmp d) = lv j) → a.eval (.tmp dp) = .slice A (ks0 ++ us).length c → D us w' → us.length ≤ LIM → KidX w' lo h (.slice A (ks0 ++ us).length c) (ks0 ++ us) → KidP w' lo X (.slice A (ks0 ++ us).length c) (ks0 ++ us) → Gr (Wr b lo h) w0 w' → Gr (WX b v) w0 w' →
      wpAny Tryz.prog .any ops Q (ops.size - m) (preL m ops.size) a w') :
    (Code.region id ops true).wp Tryz.prog Q a0 w0 := by
  have hSz : ∀ g, lo ≤ g → ¬ X g → g < w0.heap.size → ¬ g = b := fun g h1 _ _ h2 => by omega
  have hS : ∀ g, lo ≤ g → g ≠ h → g < w0.heap.size → ¬ g = b := fun g h1 _ _ h2 => by omega
  have depL : ∀ (i j : Nat) (o : Oper) (L : Nat → Bool), ops[i]? = some o → dep ops i j = true → (∀ e ∈ o.after, Region.binds .any e = true → L e.on = true) → L j = true := by
    intro i j o L ho hd hall
    obtain ⟨e, he, hon, hb⟩ := dep_on hd ho
    have := hall e he hb
    rwa [hon] at this
  refine wp_region_J m (by kernel_rfl) hB (JE b w0 h X lo m ci pi lv v ks0 D) ?_ ?_ n hn hin ?_ ?_
  · intro L L' vals w hL j
    have ec := hL ci hcm; have ep := hL pi hpm
    exact ⟨fun i hi h1 h2 h3 => j.li i hi h1 h2 (by rw [hL i hi]; exact h3), ec ▸ ep ▸ j.d, j.gr, ec ▸ j.q0, ep ▸ j.q1, ec ▸ ep ▸ j.p1, ep ▸ j.p3⟩
  · intro vals
    exact ⟨nofun, nofun, (Gr.refl _).drew, fun _ => rfl, fun _ => (Gr.refl _).drew, nofun, nofun⟩
  · intro i o hoi hi a w L vals j hLi had hun hev hdep K hK2
    by_cases hic : i = ci
    · subst hic
      obtain rfl : oc = o := Option.some.inj (hoc.symm.trans hoi)
      have lp : L pi = false := by
        cases h5 : L pi with
        | false => rfl
        | true => have := j.d h5; rw [hLi] at this; cases this
      obtain rfl := j.q0 hLi
      refine op_call (hrun a _ (fun k o' d hk ho' hd hdp2 h1 h2 => ?_)) (hcall.mono ?_)
      · have lk := depL i k _ L hoc hdp2 hdep
        rw [hev k o' d hk ho' hd lk]
        exact j.li k hk h1 h2 lk
      rintro e w1 ⟨hg, ⟨c, hbc, rfl⟩ | ⟨us, A, c, rfl, hl1, hk1, hd1⟩⟩
      · exact hbad a w1 c had hbc (Gr.trans (Gr.refl w0).drew hg)
      · have g1 : Gr (· = b) w0 w1 := Gr.trans (Gr.refl w0).drew hg
        refine hK2 _ _ ⟨fun k hk h1 h2 h3 => ?_, fun _ => upd_self _ _ _, g1.mono fun k _ hk => .inl hk, fun h => ?_, fun _ => g1, fun _ _ => ⟨us, A, c, upd_self _ _ _, hl1, hk1, hd1⟩, fun h5 => ?_⟩
        · rw [upd_ne _ _ _ h1] at h3 ⊢; exact j.li k hk h1 h2 h3
        · rw [upd_self] at h; cases h
        · rw [upd_ne _ _ _ (Ne.symm hcp), lp] at h5; cases h5
    · by_cases hip : i = pi
      · subst hip
        obtain rfl : op = o := Option.some.inj (hop.symm.trans hoi)
        have lc : L ci = true := depL i ci _ L hop epc hdep
        have ll : L li = true := depL i li _ L hop epl hdep
        obtain ⟨us, A, c, hvc, hl1, hk1, hd1⟩ := j.p1 lc hLi
        have g1 := j.q1 hLi
        have hK1 := hK.gr g1 hS
        obtain ⟨ol, hol, hdl⟩ := hdl
        refine kid_join hK1 (hKz.gr g1 hSz) hzl (fun q hq => by have := g1.size; have := hzl q hq; omega) (fun q hq => (hK.own hq).2.1) hk1 hlo hhl hlen hl1 (by have := g1.size; omega) (by have := g1.size; omega) _ _ ho ((hev li _ _ hlm hol hdl ll).trans ((j.li li hlm hlc hlp ll).trans hlv)) ((hev ci _ _ hcm hoc hdc lc).trans hvc) ?_
        intro A c w' hk2 hkz2 hg2
        refine hK2 _ _ ⟨fun k hk h1 h2 h3 => ?_, fun _ => ?_, (g1.mono fun k _ hk => Or.inl hk).trans (hg2.mono fun k _ hk => Or.inr hk), fun h => ?_, fun h => ?_, fun _ h => ?_, fun _ => ⟨A, c, us, upd_self _ _ _, hl1, hk2, hkz2, hD2 _ _ _ hd1 (hg2.mono fun k _ hk => (hK.own hk).1)⟩⟩
        · rw [upd_ne _ _ _ h2] at h3 ⊢; exact j.li k hk h1 h2 h3
        · rw [upd_ne _ _ _ hcp]; exact lc
        · rw [upd_ne _ _ _ hcp, lc] at h; cases h
        · rw [upd_self] at h; cases h
        · rw [upd_self] at h; cases h
      · refine op_val (hlight i o hoi hi hic hip a w (j.gr.mono fun k _ hk => hk.elim .inl fun e => .inr ⟨(hK.own e).1, (hK.own e).2.2⟩) hun (fun k o' d hk ho' hd hdk => ?_)) (hK2 _ _ ?_)
        · have lk := depL i k _ L hoi hdk hdep
          have hkc : k ≠ ci := by rintro rfl; rw [(hlc2 i hi hic hip).1] at hdk; cases hdk
          have hkp : k ≠ pi := by rintro rfl; rw [(hlc2 i hi hic hip).2] at hdk; cases hdk
          rw [hev k o' d hk ho' hd lk]
          exact j.li k hk hkc hkp lk
        · have ec : ∀ {α : Type} (f : Nat → α) (v : α), upd f i v ci = f ci := fun f v => upd_ne _ _ _ (Ne.symm hic)
          have ep : ∀ {α : Type} (f : Nat → α) (v : α), upd f i v pi = f pi := fun f v => upd_ne _ _ _ (Ne.symm hip)
          refine ⟨fun k hk h1 h2 h3 => ?_, by rw [ec, ep]; exact j.d, j.gr, by rw [ec]; exact j.q0, by rw [ep]; exact j.q1, by rw [ec, ep, ec]; exact j.p1, by rw [ep, ep]; exact j.p3⟩
          by_cases hki : k = i
          · subst hki; rw [upd_self]
          · rw [upd_ne _ _ _ hki] at h3 ⊢; exact j.li k hk h1 h2 h3
  · intro vals w a ha had hun hev hsz j
    obtain ⟨A, c, us, hvp, hl1, hk1, hkz1, hd1⟩ := j.p3 rfl
    exact hnext vals a w A c us ha had hsz hun (fun k o' d hk ho' hd h1 h2 => (hev k o' d hk ho' hd).trans (j.li k hk h1 h2 rfl)) ((hev pi _ _ hpm hop hdp).trans hvp) hd1 hl1 hk1 hkz1 (j.gr.mono fun k _ hk => hk.elim .inl fun e => .inr ⟨(hK.own e).1, (hK.own e).2.2⟩) j.gr

def TellDL (E : Env) (o : Nat) (g : Tr → List T → R) (r : R) (us : List Tr) (w : World) : Prop := ∃ l, g (lst us) l = r ∧ PS E w l o
set_option maxRecDepth 100000 in
/-- Region E whose tail writes the slice into the node's box. -/
theorem region_E2 {id : Nat} {a0 : Act} {w0 : World} {Q : Exit → Act → World → Prop} {ops : Array Oper} {dc dp d1 d6 tx : Nat} {oc op : Oper} {y6 y7 : TypeId} {p6 p7 : String} {af6 af7 : Array Edge}
    (m ci pi li b lo h : Nat) (X : Nat → Prop) (n : Nat) (lv : Nat → Value) (v : Value) (ks0 : List Tr) (f : FuncId) (argv : Array Value) (B : List PanicEntry → Prop) (D : List Tr → World → Prop)
    (hB : preB ops m = true) (hn : a0.tmps.size = n) (hin : inB ops m n = true) (hcm : ci < m) (hpm : pi < m) (hcp : ci ≠ pi) (hlc : li ≠ ci) (hlp : li ≠ pi) (hlm : li < m)
    (hoc : ops[ci]? = some oc) (hop : ops[pi]? = some op) (hdc : oc.dst = some dc) (hdp : op.dst = some dp) (hdl : ∃ ol, ops[li]? = some ol ∧ ol.dst = some d1)
    (ho : op.op = .call { callee := .builtin .append, args := #[.tmp d1, .tmp dc], argTypes := #[26, 26] })
    (epc : dep ops pi ci = true) (epl : dep ops pi li = true) (hlv : lv li = v)
    (hrun : ∀ (a : Act) (w : World), (∀ (j : Nat) (o' : Oper) (d : Nat), j < m → ops[j]? = some o' → o'.dst = some d → dep ops ci j = true → j ≠ ci → j ≠ pi → a.eval (.tmp d) = lv j) → (execOp a.eval oc).run Tryz.prog w = .ok (.enter f argv) w)
    (hlight : ∀ (i : Nat) (o : Oper), ops[i]? = some o → i < m → i ≠ ci → i ≠ pi → ∀ (a : Act) (w : World), w.cell? ⟨h, 6, none⟩ = some v → (∀ t, (∀ o' ∈ ops, o'.dst ≠ some t) → a.eval (.tmp t) = a0.eval (.tmp t)) →
      (∀ (j : Nat) (o' : Oper) (d : Nat), j < m → ops[j]? = some o' → o'.dst = some d → dep ops i j = true → a.eval (.tmp d) = lv j) → (execOp a.eval o).run Tryz.prog w = .ok (.value (lv i)) w)
    (hlc2 : ∀ i, i < m → i ≠ ci → i ≠ pi → dep ops i ci = false ∧ dep ops i pi = false) (hcp2 : dep ops ci pi = false ∧ dep ops ci ci = false)
    (hm2 : ops.size = m + 2) (hd6p : d6 ≠ dp) (hd6n : d6 < n) (ho6 : ops[m]? = some { dst := some d6, op := .fieldAddr 28 (.tmp tx) 6, type := y6, pos := p6, after := af6, guard := none }) (ho7 : ops[m + 1]? = some { dst := none, op := .store 26 (.tmp d6) (.tmp dp), type := y7, pos := p7, after := af7, guard := none })
    (hr6 : Region.ready .any ops (preL m ops.size) = [m]) (hr7 : Region.ready .any ops ((preL m ops.size).setIfInBounds m true) = [m + 1]) (hr8 : Region.ready .any ops (((preL m ops.size).setIfInBounds m true).setIfInBounds (m + 1) true) = [])
    (hnx : noput ops tx = true) (htx : a0.eval (.tmp tx) = .pointer (some ⟨h, 0, none⟩))
    (hK : KidX w0 lo h v ks0) (hKz : KidP w0 lo X v ks0) (hzl : ∀ q, X q → q < w0.heap.size) (hc : w0.cell? ⟨h, 6, none⟩ = some v) (hf : w0.frozen? ⟨h, 6, none⟩ = false) (hne : h ≠ b) (hhl : h < w0.heap.size) (hbl : b < lo) (hlo : lo ≤ w0.heap.size) (hlen : ks0.length ≤ 3 * LIM)
    (hD2 : ∀ t, Calm lo (D t)) (hcall : Calls Tryz.prog f argv w0.drew (TellsL b w0.drew B D))
    (hbad : ∀ (a : Act) (w' : World) (c : List PanicEntry), a.defers = a0.defers → B c → Gr (· = b) w0 w' → Q (.panic c) a w')
    (hnext : ∀ (vals : Nat → Value) (w' : World) (A : Option Addr) (c : Nat) (us : List Tr), D us w' → us.length ≤ LIM → KidX w' lo h (.slice A (ks0 ++ us).length c) (ks0 ++ us) → KidP w' lo X (.slice A (ks0 ++ us).length c) (ks0 ++ us) → Gr (Wr b lo h) w0 w' → Gr (WX b v) w0 w' →
      Q .normal (((putAll vals (ops.toList.take m) 0 a0).put (some d6) (.pointer (some ⟨h, 6, none⟩))).put none undef) (w'.setCell ⟨h, 6, none⟩ (.slice A (ks0 ++ us).length c))) :
    (Code.region id ops true).wp Tryz.prog Q a0 w0 := by
  have nx := noput_all hnx
  refine region_E (d0 := 0) m ci pi li b lo h X n lv v ks0 f argv B D hB hn hin hcm hpm hcp hlc hlp hlm hoc hop hdc hdp hdl ho epc epl hlv hrun ?_ hlc2 hcp2 hK hKz hzl hhl hbl hlo hlen hD2 hcall hbad ?_
  · intro i o hoi hi h1 h2 a w hgr hun hev
    exact hlight i o hoi hi h1 h2 a w ((hgr.cell (p := ⟨h, 6, none⟩) (by show h < _; omega) (by unfold Wr; show ¬ (h = b ∨ (lo ≤ h ∧ h ≠ h)); omega)).trans hc) hun hev
  · intro vals a w A c us ha had hsz hun hev hev5 hd1 hul hk1 hkz1 hgr hgy
    have hfw : w.frozen? ⟨h, 6, none⟩ = false := (World.frozen?_of_block (a := ⟨h, 6, none⟩) (hgr.block h (by omega) (by unfold Wr; omega))).trans hf
    have hcw : w.cell? ⟨h, 6, none⟩ = some v := (hgr.cell (p := ⟨h, 6, none⟩) (by show h < _; omega) (by unfold Wr; show ¬ (h = b ∨ (lo ≤ h ∧ h ≠ h)); omega)).trans hc
    have e2 : ops.size - m = 0 + 1 + 1 := by rw [hm2]; exact Nat.add_sub_cancel_left ..
    rw [e2]
    refine wpAny_step (i := m) hr6 ho6 rfl (op_val (x_kids _ _ _ _ _ _ _ h ((hun tx nx).trans htx)) ?_)
    refine wpAny_step (i := m + 1) hr7 ho7 rfl ?_
    have t6 : (a.put (some d6) (.pointer (some ⟨h, 6, none⟩))).eval (.tmp d6) = .pointer (some ⟨h, 6, none⟩) := eval_put_self _ _ _ (by omega)
    have t5 : (a.put (some d6) (.pointer (some ⟨h, 6, none⟩))).eval (.tmp dp) = .slice A (ks0 ++ us).length c := (eval_put_ne _ _ _ _ (by simpa using hd6p)).trans hev5
    refine x_storeS _ _ _ _ _ _ _ h 6 v _ _ _ t6 t5 hcw hfw ?_
    refine wpAny_end hr8 ?_
    have := hnext vals w A c us hd1 hul hk1 hkz1 hgr hgy
    rw [ha]
    exact this
set_option maxRecDepth 100000 in
/-- The same, where the box's address is asked for nil once more. -/
theorem region_E3 {id : Nat} {a0 : Act} {w0 : World} {Q : Exit → Act → World → Prop} {ops : Array Oper} {dc dp d1 d5 d6 tx : Nat} {oc op : Oper} {y5 y6 y7 : TypeId} {p5 p6 p7 : String} {af5 af6 af7 : Array Edge}
    (m ci pi li b lo h : Nat) (X : Nat → Prop) (n : Nat) (lv : Nat → Value) (v : Value) (ks0 : List Tr) (f : FuncId) (argv : Array Value) (B : List PanicEntry → Prop) (D : List Tr → World → Prop)
    (hB : preB ops m = true) (hn : a0.tmps.size = n) (hin : inB ops m n = true) (hcm : ci < m) (hpm : pi < m) (hcp : ci ≠ pi) (hlc : li ≠ ci) (hlp : li ≠ pi) (hlm : li < m)
    (hoc : ops[ci]? = some oc) (hop : ops[pi]? = some op) (hdc : oc.dst = some dc) (hdp : op.dst = some dp) (hdl : ∃ ol, ops[li]? = some ol ∧ ol.dst = some d1)
    (ho : op.op = .call { callee := .builtin .append, args := #[.tmp d1, .tmp dc], argTypes := #[26, 26] })
    (epc : dep ops pi ci = true) (epl : dep ops pi li = true) (hlv : lv li = v)
    (hrun : ∀ (a : Act) (w : World), (∀ (j : Nat) (o' : Oper) (d : Nat), j < m → ops[j]? = some o' → o'.dst = some d → dep ops ci j = true → j ≠ ci → j ≠ pi → a.eval (.tmp d) = lv j) → (execOp a.eval oc).run Tryz.prog w = .ok (.enter f argv) w)
    (hlight : ∀ (i : Nat) (o : Oper), ops[i]? = some o → i < m → i ≠ ci → i ≠ pi → ∀ (a : Act) (w : World), w.cell? ⟨h, 6, none⟩ = some v → (∀ t, (∀ o' ∈ ops, o'.dst ≠ some t) → a.eval (.tmp t) = a0.eval (.tmp t)) →
      (∀ (j : Nat) (o' : Oper) (d : Nat), j < m → ops[j]? = some o' → o'.dst = some d → dep ops i j = true → a.eval (.tmp d) = lv j) → (execOp a.eval o).run Tryz.prog w = .ok (.value (lv i)) w)
    (hlc2 : ∀ i, i < m → i ≠ ci → i ≠ pi → dep ops i ci = false ∧ dep ops i pi = false) (hcp2 : dep ops ci pi = false ∧ dep ops ci ci = false)
    (hm2 : ops.size = m + 3) (hd5n : d5 < n) (hd5p : d5 ≠ dp) (htl : ∃ ti ot, ti < m ∧ ti ≠ ci ∧ ti ≠ pi ∧ ops[ti]? = some ot ∧ ot.dst = some tx ∧ lv ti = .pointer (some ⟨h, 0, none⟩)) (ho5 : ops[m]? = some { dst := some d5, op := .nilCheck (.tmp tx), type := y5, pos := p5, after := af5, guard := none }) (hd6p : d6 ≠ dp) (hd6n : d6 < n) (ho6 : ops[m + 1]? = some { dst := some d6, op := .fieldAddr 28 (.tmp d5) 6, type := y6, pos := p6, after := af6, guard := none }) (ho7 : ops[m + 2]? = some { dst := none, op := .store 26 (.tmp d6) (.tmp dp), type := y7, pos := p7, after := af7, guard := none })
    (hr6 : Region.ready .any ops (preL m ops.size) = [m]) (hr7 : Region.ready .any ops ((preL m ops.size).setIfInBounds m true) = [m + 1]) (hr8 : Region.ready .any ops (((preL m ops.size).setIfInBounds m true).setIfInBounds (m + 1) true) = [m + 2]) (hr9 : Region.ready .any ops ((((preL m ops.size).setIfInBounds m true).setIfInBounds (m + 1) true).setIfInBounds (m + 2) true) = [])
    (hK : KidX w0 lo h v ks0) (hKz : KidP w0 lo X v ks0) (hzl : ∀ q, X q → q < w0.heap.size) (hc : w0.cell? ⟨h, 6, none⟩ = some v) (hf : w0.frozen? ⟨h, 6, none⟩ = false) (hne : h ≠ b) (hhl : h < w0.heap.size) (hbl : b < lo) (hlo : lo ≤ w0.heap.size) (hlen : ks0.length ≤ 3 * LIM)
    (hD2 : ∀ t, Calm lo (D t)) (hcall : Calls Tryz.prog f argv w0.drew (TellsL b w0.drew B D))
    (hbad : ∀ (a : Act) (w' : World) (c : List PanicEntry), a.defers = a0.defers → B c → Gr (· = b) w0 w' → Q (.panic c) a w')
    (hnext : ∀ (vals : Nat → Value) (w' : World) (A : Option Addr) (c : Nat) (us : List Tr), D us w' → us.length ≤ LIM → KidX w' lo h (.slice A (ks0 ++ us).length c) (ks0 ++ us) → KidP w' lo X (.slice A (ks0 ++ us).length c) (ks0 ++ us) → Gr (Wr b lo h) w0 w' → Gr (WX b v) w0 w' →
      Q .normal ((((putAll vals (ops.toList.take m) 0 a0).put (some d5) (.pointer (some ⟨h, 0, none⟩))).put (some d6) (.pointer (some ⟨h, 6, none⟩))).put none undef) (w'.setCell ⟨h, 6, none⟩ (.slice A (ks0 ++ us).length c))) :
    (Code.region id ops true).wp Tryz.prog Q a0 w0 := by
  refine region_E (d0 := 0) m ci pi li b lo h X n lv v ks0 f argv B D hB hn hin hcm hpm hcp hlc hlp hlm hoc hop hdc hdp hdl ho epc epl hlv hrun ?_ hlc2 hcp2 hK hKz hzl hhl hbl hlo hlen hD2 hcall hbad ?_
  · intro i o hoi hi h1 h2 a w hgr hun hev
    exact hlight i o hoi hi h1 h2 a w ((hgr.cell (p := ⟨h, 6, none⟩) (by show h < _; omega) (by unfold Wr; show ¬ (h = b ∨ (lo ≤ h ∧ h ≠ h)); omega)).trans hc) hun hev
  · intro vals a w A c us ha had hsz hun hev hev5 hd1 hul hk1 hkz1 hgr hgy
    have hfw : w.frozen? ⟨h, 6, none⟩ = false := (World.frozen?_of_block (a := ⟨h, 6, none⟩) (hgr.block h (by omega) (by unfold Wr; omega))).trans hf
    have hcw : w.cell? ⟨h, 6, none⟩ = some v := (hgr.cell (p := ⟨h, 6, none⟩) (by show h < _; omega) (by unfold Wr; show ¬ (h = b ∨ (lo ≤ h ∧ h ≠ h)); omega)).trans hc
    obtain ⟨ti, ot, t1, t2, t3, t4, t5, t6⟩ := htl
    have e2 : ops.size - m = 0 + 1 + 1 + 1 := by rw [hm2]; exact Nat.add_sub_cancel_left ..
    rw [e2]
    refine wpAny_step (i := m) hr6 ho5 rfl (op_val (x_nil _ _ _ _ _ _ _ _ ((hev ti ot tx t1 t4 t5 t2 t3).trans t6)) ?_)
    have q5 : (a.put (some d5) (.pointer (some ⟨h, 0, none⟩))).eval (.tmp d5) = .pointer (some ⟨h, 0, none⟩) := eval_put_self _ _ _ (by omega)
    refine wpAny_step (i := m + 1) hr7 ho6 rfl (op_val (x_kids _ _ _ _ _ _ _ h q5) ?_)
    refine wpAny_step (i := m + 2) hr8 ho7 rfl ?_
    have q6 : ((a.put (some d5) (.pointer (some ⟨h, 0, none⟩))).put (some d6) (.pointer (some ⟨h, 6, none⟩))).eval (.tmp d6) = .pointer (some ⟨h, 6, none⟩) := eval_put_self _ _ _ (by rw [put_size]; omega)
    have q7 : ((a.put (some d5) (.pointer (some ⟨h, 0, none⟩))).put (some d6) (.pointer (some ⟨h, 6, none⟩))).eval (.tmp dp) = .slice A (ks0 ++ us).length c := (eval_put_ne _ _ _ _ (by simpa using hd6p)).trans ((eval_put_ne _ _ _ _ (by simpa using hd5p)).trans hev5)
    refine x_storeS _ _ _ _ _ _ _ h 6 v _ _ _ q6 q7 hcw hfw ?_
    refine wpAny_end hr9 ?_
    have := hnext vals w A c us hd1 hul hk1 hkz1 hgr hgy
    rw [ha]
    exact this
end Go.Proofs.YtihnnbeepfgphaaGreatDoor
