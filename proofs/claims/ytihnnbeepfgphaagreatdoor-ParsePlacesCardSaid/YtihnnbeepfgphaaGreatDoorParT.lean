/-
  A tree's kids grow by a node that is stored into its place: regions that draw their order.
-/
import Derived.Test.YtihnnbeepfgphaaGreatDoorParS
import Derived.Deep.RegionHeld
namespace Go.Proofs.YtihnnbeepfgphaaGreatDoor
open Go.RowKit
set_option linter.unusedVariables false
set_option linter.unusedSimpArgs false

abbrev zeroT : Tr := .mk 0 0 0 [] [] 0 []
theorem rep_zero (w : World) (F : Nat → Prop) : Rep w F zeroT [.int .i64 0, .int .i64 0, .int .i64 0, .string ⟨#[]⟩, .string ⟨#[]⟩, .int .i64 0, .slice none 0 0] := by
  simp only [Rep]
  exact ⟨none, 0, [], rfl, ⟨rfl, fun h => absurd h (by simp)⟩, by simp only [Reps]⟩
theorem Reps.split {w : World} {F : Nat → Prop} : ∀ {ts us : List Tr} {xs : List Value}, Reps w F (ts ++ us) xs → ∃ a q, xs = a ++ q ∧ Reps w F ts a ∧ Reps w F us q
  | [], us, xs, h => ⟨[], xs, rfl, by simp only [Reps], h⟩
  | t :: r, us, xs, h => by
    simp only [List.cons_append, Reps] at h
    obtain ⟨a, q, rfl, h2, h3⟩ := h
    obtain ⟨a2, q2, rfl, h4, h5⟩ := Reps.split h3
    exact ⟨a ++ a2, q2, by rw [List.append_assoc], by simp only [Reps]; exact ⟨a, a2, rfl, h2, h4⟩, h5⟩
def put7 (w : World) (g i : Nat) (v0 v1 v2 v3 v4 v5 v6 : Value) : World :=
  ((((((w.setCell ⟨g, i, none⟩ v0).setCell ⟨g, i + 1, none⟩ v1).setCell ⟨g, i + 2, none⟩ v2).setCell ⟨g, i + 3, none⟩ v3).setCell ⟨g, i + 4, none⟩ v4).setCell ⟨g, i + 5, none⟩ v5).setCell ⟨g, i + 6, none⟩ v6
theorem put7_gr {w0 w : World} {S : Nat → Prop} {g i : Nat} {v0 v1 v2 v3 v4 v5 v6 : Value} (h : Gr S w0 w) (hg : w0.heap.size ≤ g ∨ S g) : Gr S w0 (put7 w g i v0 v1 v2 v3 v4 v5 v6) :=
  (((((((h.setCell (p := ⟨g, _, none⟩) hg _).setCell (p := ⟨g, _, none⟩) hg _).setCell (p := ⟨g, _, none⟩) hg _).setCell (p := ⟨g, _, none⟩) hg _).setCell (p := ⟨g, _, none⟩) hg _).setCell (p := ⟨g, _, none⟩) hg _).setCell (p := ⟨g, _, none⟩) hg _)
theorem put7_own {w : World} {lo g n c i : Nat} {xs : List Value} {u0 u1 u2 u3 u4 u5 u6 v0 v1 v2 v3 v4 v5 v6 : Value} (h : w.ownsRow lo 28 7 (.slice (some ⟨g, 0, none⟩) n c) n (xs ++ [u0, u1, u2, u3, u4, u5, u6])) (hi : xs.length = i) :
    (put7 w g i v0 v1 v2 v3 v4 v5 v6).ownsRow lo 28 7 (.slice (some ⟨g, 0, none⟩) n c) n (xs ++ [v0, v1, v2, v3, v4, v5, v6]) := by
  have h0 := (h.stored i v0).1
  have h1 := (h0.stored (i + 1) v1).1
  have h2 := (h1.stored (i + 2) v2).1
  have h3 := (h2.stored (i + 3) v3).1
  have h4 := (h3.stored (i + 4) v4).1
  have h5 := (h4.stored (i + 5) v5).1
  have h6 := (h5.stored (i + 6) v6).1
  subst hi
  unfold put7
  simpa [List.set_append] using h6
/-- The last one of a slice's trees is another one. -/
theorem KidX.put {w : World} {lo h g c : Nat} {ks0 us : List Tr} {k op m : Int} {p t : List UInt8} {a c2 : Nat} {A : Option Addr} (hx : KidX w lo h (.slice (some ⟨g, 0, none⟩) (ks0.length + 1) c) (ks0 ++ [zeroT])) (h2 : Rep w (fun q => lo ≤ q ∧ q ≠ g ∧ q ≠ h) (.mk k op m p t a us) (ndC k op m p t a (.slice A us.length c2))) :
    KidX (put7 w g (ks0.length * 7) (.int .i64 k) (.int .i64 op) (.int .i64 m) (.string (bs p)) (.string (bs t)) (.int .i64 a) (.slice A us.length c2)) lo h (.slice (some ⟨g, 0, none⟩) (ks0.length + 1) c) (ks0 ++ [.mk k op m p t a us]) := by
  obtain ⟨h0, xs, h1, h3⟩ := hx
  obtain ⟨ya, yq, rfl, h4, h5⟩ := Reps.split h3
  have hl := Reps.length h4
  simp only [Reps] at h5
  obtain ⟨yb, ye, rfl, h6, rfl⟩ := h5
  have hyb : ∃ u0 u1 u2 u3 u4 u5 u6, yb = [u0, u1, u2, u3, u4, u5, u6] := by
    simp only [Rep] at h6
    obtain ⟨A, c, xs, rfl, _⟩ := h6
    exact ⟨_, _, _, _, _, _, _, rfl⟩
  obtain ⟨u0, u1, u2, u3, u4, u5, u6, rfl⟩ := hyb
  have hn : (ks0 ++ [zeroT]).length = ks0.length + 1 := by simp
  rw [hn] at h1
  simp only [List.append_nil] at h1
  have hw := put7_own (v0 := .int .i64 k) (v1 := .int .i64 op) (v2 := .int .i64 m) (v3 := .string (bs p)) (v4 := .string (bs t)) (v5 := .int .i64 a) (v6 := .slice A us.length c2) h1 hl
  have hgw : Gr (fun q => q = g) w (put7 w g (ks0.length * 7) (.int .i64 k) (.int .i64 op) (.int .i64 m) (.string (bs p)) (.string (bs t)) (.int .i64 a) (.slice A us.length c2)) := put7_gr (Gr.refl w) (.inr rfl)
  refine ⟨h0, ya ++ ndC k op m p t a (.slice A us.length c2), by rw [show (ks0 ++ [Tr.mk k op m p t a us]).length = ks0.length + 1 by simp]; exact hw, ?_⟩
  refine Reps.append (h4.gr hgw (fun q hq _ he => hq.2.1 (by rw [show q = g from he]; rfl)) (fun q _ hq => hq)) (Reps.single ?_)
  exact h2.gr hgw (fun q hq _ he => hq.2.1 he) (fun q _ hq => ⟨hq.1, (by have := hq.2.1; simp only [Value.ownBlock, ne_eq, Option.some.injEq]; omega), hq.2.2⟩)
theorem Kid.some_ {w : World} {lo n c : Nat} {A : Option Addr} {ks : List Tr} (h : Kid w lo (.slice A n c) ks) (hn : 0 < ks.length) : ∃ g, A = some ⟨g, 0, none⟩ ∧ lo ≤ g ∧ g < w.heap.size ∧ (∀ j, j < ks.length * 7 → ∃ u, w.cell? ⟨g, j, none⟩ = some u) ∧ ∀ j, w.frozen? ⟨g, j, none⟩ = false := by
  obtain ⟨xs, h1, h2⟩ := h
  obtain ⟨g, cap, hv, hb, hlt⟩ := h1.form hn
  injection hv with e1 e2 e3
  subst e1 e2 e3
  have hg := h1.lt g rfl
  refine ⟨g, rfl, hg.1, hg.2, fun j hj => ?_, fun j => h1.frozenAt j⟩
  have hl : j < xs.length := by rw [h1.1]; exact hj
  exact ⟨xs[j], (h1.cellAt j hj).trans (List.getElem?_eq_getElem hl)⟩
section
variable (ρ : Operand → Value) (w : World) (dst : Option Tmp) (x : Operand) (ty : TypeId) (pos : String) (after : Array Edge)
theorem x_store7 {Q : Exit → Act → World → Prop} {K : Act → World → Prop} (a : Act) (y : Operand) (g i : Nat) (k op m : Int) (p t : List UInt8) (at_ n c : Nat) (A : Option Addr) (hx : a.eval x = .pointer (some ⟨g, i, none⟩)) (hy : a.eval y = .agg #[.int .i64 k, .int .i64 op, .int .i64 m, .string (bs p), .string (bs t), .int .i64 at_, .slice A n c])
    (hc : ∀ j, j < 7 → ∃ u, w.cell? ⟨g, i + j, none⟩ = some u) (hf : ∀ j, w.frozen? ⟨g, j, none⟩ = false)
    (hk : K (a.put none undef) (put7 w g i (.int .i64 k) (.int .i64 op) (.int .i64 m) (.string (bs p)) (.string (bs t)) (.int .i64 at_) (.slice A n c))) : ({ dst := none, op := .store 28 x y, type := ty, pos := pos, after := after, guard := none } : Oper).wp Tryz.prog a w K Q := by
  obtain ⟨c0, hc0⟩ := hc 0 (by omega)
  obtain ⟨c1, hc1⟩ := hc 1 (by omega)
  obtain ⟨c2, hc2⟩ := hc 2 (by omega)
  obtain ⟨c3, hc3⟩ := hc 3 (by omega)
  obtain ⟨c4, hc4⟩ := hc 4 (by omega)
  obtain ⟨c5, hc5⟩ := hc 5 (by omega)
  obtain ⟨c6, hc6⟩ := hc 6 (by omega)
  rw [Nat.add_zero] at hc0
  have : (execOp a.eval { dst := none, op := .store 28 x y, type := ty, pos := pos, after := after, guard := none }).run Tryz.prog w = .ok .skip (put7 w g i (.int .i64 k) (.int .i64 op) (.int .i64 m) (.string (bs p)) (.string (bs t)) (.int .i64 at_) (.slice A n c)) := by
    clear hc hk
    unfold execOp put7; simp only [hx, hy]; go_simp
  unfold Oper.wp
  rw [this]
  exact hk
end

set_option maxRecDepth 100000 in
theorem kid_push2 {w : World} {lo N h : Nat} {v : Value} {ks0 : List Tr} {g : Nat} {t : Tr} (hK : KidX w lo h v ks0) (hv : ∀ q, v.ownBlock = some q → q < N) (hN : Kid w N (.slice (some ⟨g, 0, none⟩) 1 1) [t]) (hlo : lo ≤ N) (hhN : h < N) (hlen : ks0.length ≤ 3 * LIM) (hsz : lo ≤ w.heap.size) (hhw : h < w.heap.size)
    {o : Oper} {a : Act} {K : Act → World → Prop} {Q : Exit → Act → World → Prop} (s x : Operand)
    (ho : o.op = .call { callee := .builtin .append, args := #[s, x], argTypes := #[26, 26] }) (hs : a.eval s = v) (hx : a.eval x = .slice (some ⟨g, 0, none⟩) 1 1)
    (hk : ∀ q c w', KidX w' lo h (.slice (some ⟨q, 0, none⟩) (ks0.length + 1) c) (ks0 ++ [t]) → w.grownBy w' v.ownBlock → (some q = v.ownBlock ∨ q = w.heap.size) → lo ≤ q → K (a.put o.dst (.slice (some ⟨q, 0, none⟩) (ks0.length + 1) c)) w') : o.wp Tryz.prog a w K Q := by
  obtain ⟨i0, hi0, hz0, hz1, hz2⟩ := info_parts node_info
  obtain ⟨h0, xs, h1, h2⟩ := hK
  obtain ⟨ys, k1, k2⟩ := hN
  have hrd := Reads.of_own k1
  have h3 : Reps w (fun q => lo ≤ q ∧ v.ownBlock ≠ some q ∧ q ≠ h) [t] ys := Reps.keep (fun _ _ _ => rfl) (Nat.le_refl _) (fun q _ hq => ⟨by omega, (fun e => by have := hv q e; omega), by omega⟩) _ _ k2
  unfold LIM at hlen
  refine wp_append_any w s x _ ho lo 28 i0 _ 7 88 Tryz.underlying26 hi0 hz0 hz1 hz2 rfl (by omega) v ks0.length xs hs h1 _ _ 1 1 ys hx hrd k2.one (by simp only [maxLen]; omega) (by omega) hsz ?_
  intro v' w' g1 g2 g3
  obtain ⟨A, c, rfl⟩ := own_shape g1
  have hkid : KidX w' lo h (.slice A (ks0.length + 1) c) (ks0 ++ [t]) := KidX.app (us := [t]) h0 h1 h2 h3 g1 g2 g3 hhw
  obtain ⟨q, rfl, hq1, hq2, _⟩ := hkid.kid.some_ (by simp)
  refine hk q c w' hkid g2 ?_ hq1
  rcases g3 with g3 | g3
  · exact .inl g3
  · exact .inr (by simpa [Value.ownBlock] using g3)
theorem Blk.set6 {w : World} {g : Nat} {t : TypeId} {u0 u1 u2 u3 u4 u5 u6 : Value} (h : Blk w g t #[u0, u1, u2, u3, u4, u5, u6]) (v : Value) : Blk (w.setCell ⟨g, 6, none⟩ v) g t #[u0, u1, u2, u3, u4, u5, v] := by
  have := h.set_ 6 v
  simpa using this
/-- What holds while region B is done: c, z, a, i, s, k: the call, the new row, the append, the place, the store into it, the store of the slice. -/
structure JB (b : Nat) (w0 : World) (h lo : Nat) (ks0 : List Tr) (c0 c1 c2 c3 c4 c5 v : Value) (C : World → Prop) (D : Tr → World → Prop) (c z a i s k : Bool) (vc vz va vi : Value) (w : World) : Prop where
  d1 : a = true → c = true ∧ z = true
  d2 : i = true → a = true
  d3 : s = true → i = true
  d4 : k = true → a = true
  gr : Gr (fun q => q = b ∨ q = h ∨ lo ≤ q) w0 w
  gb : k = false → Gr (Wr b lo h) w0 w
  g1 : a = false → Gr (· = b) w0 w
  q0 : c = false → C w ∧ Gr (fun _ => False) w0 w
  q1 : c = true → a = false → ∃ (k op n : Int) (p t : List UInt8) (at_ : Nat) (ks : List Tr) (A : Option Addr) (cc : Nat), vc = .agg #[.int .i64 k, .int .i64 op, .int .i64 n, .string (bs p), .string (bs t), .int .i64 at_, .slice A ks.length cc] ∧ Kid w w0.heap.size (.slice A ks.length cc) ks ∧ D (.mk k op n p t at_ ks) w
  z1 : z = true → a = false → ∃ q, vz = .slice (some ⟨q, 0, none⟩) 1 1 ∧ Kid w w0.heap.size (.slice (some ⟨q, 0, none⟩) 1 1) [zeroT]
  a1 : a = true → s = false → ∃ (k op n : Int) (p t : List UInt8) (at_ : Nat) (ks : List Tr) (A : Option Addr) (cc g ca : Nat), vc = .agg #[.int .i64 k, .int .i64 op, .int .i64 n, .string (bs p), .string (bs t), .int .i64 at_, .slice A ks.length cc] ∧ va = .slice (some ⟨g, 0, none⟩) (ks0.length + 1) ca ∧ KidX w lo h (.slice (some ⟨g, 0, none⟩) (ks0.length + 1) ca) (ks0 ++ [zeroT]) ∧
    Rep w (fun q => lo ≤ q ∧ q ≠ g ∧ q ≠ h) (.mk k op n p t at_ ks) (ndC k op n p t at_ (.slice A ks.length cc)) ∧ D (.mk k op n p t at_ ks) w
  a2 : s = true → ∃ t g ca, va = .slice (some ⟨g, 0, none⟩) (ks0.length + 1) ca ∧ KidX w lo h (.slice (some ⟨g, 0, none⟩) (ks0.length + 1) ca) (ks0 ++ [t]) ∧ D t w
  i1 : i = true → ∀ g n ca, va = .slice (some ⟨g, 0, none⟩) n ca → vi = .pointer (some ⟨g, ks0.length * 7, none⟩)
  k1 : k = true → Blk w h 28 #[c0, c1, c2, c3, c4, c5, va]

set_option maxRecDepth 100000 in
theorem region_B {id : Nat} {a0 : Act} {w0 : World} {Q : Exit → Act → World → Prop} {ops : Array Oper} {dc dz da di dl dn df : Nat} {oc oz oa oi os ok : Oper}
    (m ci zi ai ii si ki li ni fi b lo h n : Nat) (lv : Nat → Value) (c0 c1 c2 c3 c4 c5 v : Value) (ks0 : List Tr) (f : FuncId) (argv : Array Value) (B : List PanicEntry → Prop) (C : World → Prop) (D : Tr → World → Prop)
    (hms : ops.size = m) (hrn : Region.ready .any ops (preL m m) = []) (hB : preB ops m = true) (hn : a0.tmps.size = n) (hin : inB ops m n = true) (hdist : [ci, zi, ai, ii, si, ki].Nodup) (hlt6 : ci < m ∧ zi < m ∧ ai < m ∧ ii < m ∧ si < m ∧ ki < m) (hl3 : li < m ∧ ni < m ∧ fi < m)
    (hlnot : ¬ li ∈ [ci, zi, ai, ii, si, ki] ∧ ¬ ni ∈ [ci, zi, ai, ii, si, ki] ∧ ¬ fi ∈ [ci, zi, ai, ii, si, ki])
    (hoc : ops[ci]? = some oc) (hoz : ops[zi]? = some oz) (hoa : ops[ai]? = some oa) (hoi : ops[ii]? = some oi) (hos : ops[si]? = some os) (hok : ops[ki]? = some ok)
    (hdc : oc.dst = some dc) (hdz : oz.dst = some dz) (hda : oa.dst = some da) (hdi : oi.dst = some di) (hds : os.dst = none) (hdk : ok.dst = none)
    (hdl : ∃ o, ops[li]? = some o ∧ o.dst = some dl) (hdn : ∃ o, ops[ni]? = some o ∧ o.dst = some dn) (hdf : ∃ o, ops[fi]? = some o ∧ o.dst = some df)
    (hz : ∃ y0 p0 af0, oz = { dst := some dz, op := .buildSlice 26 1 #[(0, .const (.agg #[.int .i64 0, .int .i64 0, .int .i64 0, .string ⟨#[]⟩, .string ⟨#[]⟩, .int .i64 0, .slice none 0 0]))], type := y0, pos := p0, after := af0, guard := none })
    (ha : oa.op = .call { callee := .builtin .append, args := #[.tmp dl, .tmp dz], argTypes := #[26, 26] })
    (hi : ∃ y0 p0 af0, oi = { dst := some di, op := .indexAddr 26 (.tmp da) (.tmp dn), type := y0, pos := p0, after := af0, guard := none })
    (hs : ∃ y0 p0 af0, os = { dst := none, op := .store 28 (.tmp di) (.tmp dc), type := y0, pos := p0, after := af0, guard := none })
    (hk : ∃ y0 p0 af0, ok = { dst := none, op := .store 26 (.tmp df) (.tmp da), type := y0, pos := p0, after := af0, guard := none })
    (e1 : dep ops ai ci = true) (e2 : dep ops ai zi = true) (e3 : dep ops ai li = true) (e4 : dep ops ii ai = true) (e5 : dep ops ii ni = true) (e6 : dep ops si ii = true) (e7 : dep ops si ci = true) (e8 : dep ops ki ai = true) (e9 : dep ops ki fi = true)
    (hlv : lv li = v) (hln : lv ni = .int .i64 ks0.length) (hlf : lv fi = .pointer (some ⟨h, 6, none⟩))
    (hrun : ∀ (a : Act) (w : World), (∀ t, (∀ o' ∈ ops, o'.dst ≠ some t) → a.eval (.tmp t) = a0.eval (.tmp t)) → (∀ (j : Nat) (o' : Oper) (d : Nat), j < m → ops[j]? = some o' → o'.dst = some d → dep ops ci j = true → ¬ j ∈ [ci, zi, ai, ii, si, ki] → a.eval (.tmp d) = lv j) → (execOp a.eval oc).run Tryz.prog w = .ok (.enter f argv) w)
    (hlight : ∀ (i : Nat) (o : Oper), ops[i]? = some o → i < m → ¬ i ∈ [ci, zi, ai, ii, si, ki] → ∀ (a : Act) (w : World), (i = li → Gr (Wr b lo h) w0 w) → (∀ t, (∀ o' ∈ ops, o'.dst ≠ some t) → a.eval (.tmp t) = a0.eval (.tmp t)) →
      (∀ (j : Nat) (o' : Oper) (d : Nat), j < m → ops[j]? = some o' → o'.dst = some d → dep ops i j = true → ¬ j ∈ [ci, zi, ai, ii, si, ki] → a.eval (.tmp d) = lv j) → (execOp a.eval o).run Tryz.prog w = .ok (.value (lv i)) w)
    (hK : KidX w0 lo h v ks0) (hBh : Blk w0 h 28 #[c0, c1, c2, c3, c4, c5, v]) (hbl : b < lo) (hhl : h < w0.heap.size) (hne : h ≠ b) (hlo : lo ≤ w0.heap.size) (hlen : ks0.length ≤ 3 * LIM)
    (hC : Calm w0.heap.size C) (hC0 : C w0) (hD2 : ∀ t, Calm lo (D t)) (hDh : ∀ t w u, D t w → D t (w.setCell ⟨h, 6, none⟩ u)) (hcall : ∀ w, C w → Calls Tryz.prog f argv w (Tells b w B D))
    (hbad : ∀ (a : Act) (w' : World) (c : List PanicEntry), a.defers = a0.defers → B c → Gr (· = b) w0 w' → Q (.panic c) a w')
    (hnext : ∀ (vals : Nat → Value) (w' : World) (A : Option Addr) (c : Nat) (t : Tr), D t w' → KidX w' lo h (.slice A (ks0.length + 1) c) (ks0 ++ [t]) → Gr (fun q => q = b ∨ q = h ∨ lo ≤ q) w0 w' → Blk w' h 28 #[c0, c1, c2, c3, c4, c5, .slice A (ks0.length + 1) c] →
      Q .normal (putAll vals (ops.toList.take m) 0 a0) w') :
    (Code.region id ops true).wp Tryz.prog Q a0 w0 := by
  have hS : ∀ g, lo ≤ g → g ≠ h → g < w0.heap.size → ¬ g = b := fun g h1 _ _ h2 => by omega
  obtain ⟨hcm, hzm, ham, him, hsm, hkm⟩ := hlt6
  obtain ⟨hlm, hnm, hfm⟩ := hl3
  obtain ⟨hlx, hnx, hfx⟩ := hlnot
  simp only [List.nodup_cons, List.mem_cons, List.not_mem_nil, or_false, not_or, List.nodup_nil, not_false_eq_true, and_true] at hdist
  obtain ⟨⟨cz, cax, ci', cs, ck⟩, ⟨za, zi', zs, zk⟩, ⟨ai', asx, ak⟩, ⟨is, ik⟩, sk⟩ := hdist
  have depL : ∀ (i j : Nat) (o : Oper) (L : Nat → Bool), ops[i]? = some o → dep ops i j = true → (∀ e ∈ o.after, Region.binds .any e = true → L e.on = true) → L j = true := by
    intro i j o L ho hd hall
    obtain ⟨e, he, hon, hb⟩ := dep_on hd ho
    have := hall e he hb
    rwa [hon] at this
  refine wp_region_J m (by kernel_rfl) hB (fun L vals w => ((∀ i, i < m → ¬ i ∈ [ci, zi, ai, ii, si, ki] → L i = true → vals i = lv i) ∧ (L ai = true → L li = true)) ∧ JB b w0 h lo ks0 c0 c1 c2 c3 c4 c5 v C D (L ci) (L zi) (L ai) (L ii) (L si) (L ki) (vals ci) (vals zi) (vals ai) (vals ii) w) ?_ ?_ n hn hin ?_ ?_
  · intro L L' vals w hL j
    show _ ∧ JB b w0 h lo ks0 c0 c1 c2 c3 c4 c5 v C D (L' ci) (L' zi) (L' ai) (L' ii) (L' si) (L' ki) (vals ci) (vals zi) (vals ai) (vals ii) w
    rw [← hL ci hcm, ← hL zi hzm, ← hL ai ham, ← hL ii him, ← hL si hsm, ← hL ki hkm]
    exact ⟨⟨fun i hi h1 h2 => j.1.1 i hi h1 (by rw [hL i hi]; exact h2), fun h => by rw [← hL li hlm]; exact j.1.2 h⟩, j.2⟩
  · intro vals
    refine ⟨⟨nofun, nofun⟩, nofun, nofun, nofun, nofun, (Gr.refl _).drew, fun _ => (Gr.refl _).drew, fun _ => (Gr.refl _).drew, fun _ => ⟨hC.drew hC0, (Gr.refl _).drew⟩, nofun, nofun, nofun, nofun, nofun, nofun⟩
  · intro i o ho hi2 a w L vals j hLi had hun hev hdep K hK2
    obtain ⟨⟨jl, jx⟩, j⟩ := j
    have light : ∀ (k : Nat) (o' : Oper) (d : Nat), k < m → ops[k]? = some o' → o'.dst = some d → ¬ k ∈ [ci, zi, ai, ii, si, ki] → L k = true → a.eval (.tmp d) = lv k := fun k o' d hk ho' hd hx hl => (hev k o' d hk ho' hd hl).trans (jl k hk hx hl)
    by_cases hx : i ∈ [ci, zi, ai, ii, si, ki]
    · simp only [List.mem_cons, List.not_mem_nil, or_false] at hx
      rcases hx with rfl | rfl | rfl | rfl | rfl | rfl
      · -- the call
        have hjx : upd L i true ai = true → L li = true := fun h => by rw [upd_ne _ _ _ (Ne.symm cax)] at h; exact jx h
        obtain rfl : oc = o := Option.some.inj (hoc.symm.trans ho)
        have la : L ai = false := by
          cases h5 : L ai with
          | false => rfl
          | true => have := (j.d1 h5).1; rw [hLi] at this; cases this
        obtain ⟨q1, q2⟩ := j.q0 hLi
        have g0 : Gr (· = b) w0 w := q2.mono fun _ _ hf => False.elim hf
        have hs0 := q2.size
        refine op_call (hrun a _ hun (fun k o' d hk ho' hd hdp2 hx => light k o' d hk ho' hd hx (depL i k _ L hoc hdp2 hdep))) ((hcall w q1).mono ?_)
        rintro e w1 ⟨hg, ⟨c, hbc, rfl⟩ | ⟨k, op, nn, p, t, aa, ks, A, c, rfl, hk1, hd1⟩⟩
        · exact hbad a w1 c had hbc (g0.trans hg)
        · have lk : L ki = false := by
            cases h5 : L ki with
            | false => rfl
            | true => have := j.d4 h5; rw [la] at this; cases this
          have ls : L si = false := by
            cases h5 : L si with
            | false => rfl
            | true => have := j.d2 (j.d3 h5); rw [la] at this; cases this
          have li' : L ii = false := by
            cases h5 : L ii with
            | false => rfl
            | true => have := j.d2 h5; rw [la] at this; cases this
          refine hK2 _ _ ⟨⟨fun q hq h1 h2 => ?_, fun h2 => ?_⟩, ?_⟩
          · have hqi : q ≠ i := fun h => h1 (by simp [h])
            rw [upd_ne _ _ _ hqi] at h2 ⊢; exact jl q hq h1 h2
          · have hqi : li ≠ i := fun h => hlx (by simp [h])
            rw [upd_ne _ _ _ hqi]; exact hjx h2
          · simp only [upd_self, upd_ne _ i _ (Ne.symm cz), upd_ne _ i _ (Ne.symm cax), upd_ne _ i _ (Ne.symm ci'), upd_ne _ i _ (Ne.symm cs), upd_ne _ i _ (Ne.symm ck), la, lk, ls, li']
            exact ⟨nofun, nofun, nofun, nofun, (g0.trans hg).mono fun q _ hq => .inl hq, fun _ => (g0.trans hg).mono fun q _ hq => .inl hq, fun _ => g0.trans hg, nofun, fun _ _ => ⟨k, op, nn, p, t, aa, ks, A, c, rfl, hk1.mono hs0, hd1⟩, fun h1 _ => by
              obtain ⟨q, hq1, hq2⟩ := j.z1 h1 la
              exact ⟨q, hq1, hq2.gr hg fun g h1 _ h2 => by have : g = b := h2; omega⟩, nofun, nofun, nofun, nofun⟩
      · -- the new row
        have hjx : upd L i true ai = true → L li = true := fun h => by rw [upd_ne _ _ _ (Ne.symm za)] at h; exact jx h
        have la : L ai = false := by
          cases h5 : L ai with
          | false => rfl
          | true => have := (j.d1 h5).2; rw [hLi] at this; cases this
        have lk : L ki = false := by
          cases h5 : L ki with
          | false => rfl
          | true => have := j.d4 h5; rw [la] at this; cases this
        have ls : L si = false := by
          cases h5 : L si with
          | false => rfl
          | true => have := j.d2 (j.d3 h5); rw [la] at this; cases this
        have li' : L ii = false := by
          cases h5 : L ii with
          | false => rfl
          | true => have := j.d2 h5; rw [la] at this; cases this
        obtain ⟨y0, p0, af0, rfl⟩ := hz
        obtain rfl := Option.some.inj (hoz.symm.trans ho)
        refine op_val (x_one _ _ _ _ _ _ _ _ _ _ _ _ _ none 0 0 rfl) (hK2 _ _ ⟨⟨fun q hq h1 h2 => ?_, fun h2 => ?_⟩, ?_⟩)
        · have hqi : q ≠ i := fun h => h1 (by simp [h])
          rw [upd_ne _ _ _ hqi] at h2 ⊢; exact jl q hq h1 h2
        · have hqi : li ≠ i := fun h => hlx (by simp [h])
          rw [upd_ne _ _ _ hqi]; exact hjx h2
        · have g0 := j.g1 la
          simp only [upd_self, upd_ne _ i _ cz, upd_ne _ i _ (Ne.symm za), upd_ne _ i _ (Ne.symm zi'), upd_ne _ i _ (Ne.symm zs), upd_ne _ i _ (Ne.symm zk), la, lk, ls, li']
          refine ⟨nofun, nofun, nofun, nofun, j.gr.alloc _, fun _ => (j.gb lk).alloc _, fun _ => g0.alloc _, fun h => ⟨hC.alloc (j.q0 h).1 _, (j.q0 h).2.alloc _⟩, fun hc _ => ?_, fun _ _ => ⟨_, rfl, Kid.lit (n := 1) (Reps.single (rep_zero w _)) g0.size (by simp [maxLen]) rfl⟩, nofun, nofun, nofun, nofun⟩
          obtain ⟨k, op, nn, p, t, aa, ks, A, c, h1, h2, h3⟩ := j.q1 hc la
          exact ⟨k, op, nn, p, t, aa, ks, A, c, h1, h2.alloc _, (hD2 _).alloc h3 _⟩
      · -- the append
        obtain rfl : oa = o := Option.some.inj (hoa.symm.trans ho)
        have lc : L ci = true := depL i ci _ L hoa e1 hdep
        have lz : L zi = true := depL i zi _ L hoa e2 hdep
        have ll : L li = true := depL i li _ L hoa e3 hdep
        have hjx : upd L i true i = true → L li = true := fun _ => ll
        have lk : L ki = false := by
          cases h5 : L ki with
          | false => rfl
          | true => have := j.d4 h5; rw [hLi] at this; cases this
        have li' : L ii = false := by
          cases h5 : L ii with
          | false => rfl
          | true => have := j.d2 h5; rw [hLi] at this; cases this
        have ls : L si = false := by
          cases h5 : L si with
          | false => rfl
          | true => have := j.d3 h5; rw [li'] at this; cases this
        obtain ⟨k, op, nn, p, t, aa, ks, A, c, hvc, hk1, hd1⟩ := j.q1 lc hLi
        obtain ⟨q, hvz, hkz⟩ := j.z1 lz hLi
        have g1 := j.g1 hLi
        have hs1 := g1.size
        have hK1 := hK.gr g1 hS
        obtain ⟨ol, hol, hdl⟩ := hdl
        refine kid_push2 hK1 (fun q hq => (hK.own hq).2.1) hkz hlo hhl hlen (by omega) (by omega) _ _ ha ((light li _ _ hlm hol hdl hlx ll).trans hlv) ((hev zi _ _ hzm hoz hdz lz).trans hvz) ?_
        intro g ca w' hk2 hg2 hq2 hlg
        have hgw : Gr (fun q => lo ≤ q ∧ q ≠ h) w w' := Gr.of_grown hg2 fun q hq _ => ⟨(hK.own hq).1, (hK.own hq).2.2⟩
        have hgw1 : Gr (fun q => lo ≤ q) w w' := hgw.mono fun q _ hq => hq.1
        refine hK2 _ _ ⟨⟨fun q hq h1 h2 => ?_, fun h2 => ?_⟩, ?_⟩
        · have hqi : q ≠ i := fun h => h1 (by simp [h])
          rw [upd_ne _ _ _ hqi] at h2 ⊢; exact jl q hq h1 h2
        · have hqi : li ≠ i := fun h => hlx (by simp [h])
          rw [upd_ne _ _ _ hqi]; exact hjx h2
        · simp only [upd_self, upd_ne _ i _ cax, upd_ne _ i _ za, upd_ne _ i _ (Ne.symm ai'), upd_ne _ i _ (Ne.symm asx), upd_ne _ i _ (Ne.symm ak), lc, lz, lk, ls, li']
          refine ⟨fun _ => ⟨rfl, rfl⟩, nofun, nofun, nofun, j.gr.trans (hgw1.mono fun q _ hq => .inr (.inr hq)), fun _ => (j.gb lk).trans (hgw.mono fun q _ hq => .inr hq), nofun, nofun, nofun, nofun, fun _ _ => ⟨k, op, nn, p, t, aa, ks, A, c, g, ca, hvc, rfl, hk2, ?_, hD2 _ _ _ hd1 hgw1⟩, nofun, nofun, nofun⟩
          refine Rep.keep (fun q hq hlt => hg2.block q hlt fun e => ?_) hg2.size (fun q hlt hq => ⟨Nat.le_trans hlo hq, (fun e => ?_), (fun e => by have : w0.heap.size ≤ q := hq; omega)⟩) _ _ (hk1.rep k op nn p t aa)
          · have := (hK.own e.symm).2.1; have : w0.heap.size ≤ q := hq; omega
          · have : w0.heap.size ≤ q := hq
            rcases hq2 with h | h
            · have := (hK.own h.symm).2.1; omega
            · omega
      · -- the place
        have hjx : upd L i true ai = true → L li = true := fun h => by rw [upd_ne _ _ _ ai'] at h; exact jx h
        have la : L ai = true := depL i ai _ L ho e4 hdep
        have ln : L ni = true := depL i ni _ L ho e5 hdep
        have ls : L si = false := by
          cases h5 : L si with
          | false => rfl
          | true => have := j.d3 h5; rw [hLi] at this; cases this
        obtain ⟨y0, p0, af0, rfl⟩ := hi
        obtain rfl := Option.some.inj (hoi.symm.trans ho)
        obtain ⟨k, op, nn, p, t, aa, ks, A, c, g, ca, hvc, hva, hk1, hrp, hd1⟩ := j.a1 la ls
        obtain ⟨on_, hon, hdn⟩ := hdn
        refine op_val (x_idx _ _ _ _ _ _ _ g (ks0.length + 1) ca ks0.length _ ((hev ai _ _ ham hoa hda la).trans hva) ((light ni _ _ hnm hon hdn hnx ln).trans hln) (by omega)) (hK2 _ _ ⟨⟨fun q hq h1 h2 => ?_, fun h2 => ?_⟩, ?_⟩)
        · have hqi : q ≠ i := fun h => h1 (by simp [h])
          rw [upd_ne _ _ _ hqi] at h2 ⊢; exact jl q hq h1 h2
        · have hqi : li ≠ i := fun h => hlx (by simp [h])
          rw [upd_ne _ _ _ hqi]; exact hjx h2
        · simp only [upd_self, upd_ne _ i _ ci', upd_ne _ i _ zi', upd_ne _ i _ ai', upd_ne _ i _ (Ne.symm is), upd_ne _ i _ (Ne.symm ik), la, ls]
          have j2 := la ▸ ls ▸ j
          refine ⟨fun _ => j.d1 la, fun _ => rfl, nofun, fun _ => rfl, j.gr, j.gb, nofun, j.q0, fun _ h => (by cases h), fun _ h => (by cases h), fun _ _ => ⟨k, op, nn, p, t, aa, ks, A, c, g, ca, hvc, hva, hk1, hrp, hd1⟩, nofun, fun _ g' n' ca' h => ?_, j.k1⟩
          rw [hva] at h
          injection h with h1
          injection h1 with h1
          injection h1 with h1
          rw [h1]
      · -- the store into the place
        have hjx : upd L i true ai = true → L li = true := fun h => by rw [upd_ne _ _ _ asx] at h; exact jx h
        have lii : L ii = true := depL i ii _ L ho e6 hdep
        have lc : L ci = true := depL i ci _ L ho e7 hdep
        have la : L ai = true := j.d2 lii
        obtain ⟨y0, p0, af0, rfl⟩ := hs
        obtain rfl := Option.some.inj (hos.symm.trans ho)
        obtain ⟨k, op, nn, p, t, aa, ks, A, c, g, ca, hvc, hva, hk1, hrp, hd1⟩ := j.a1 la hLi
        obtain ⟨g', hg', hg1, hg2, hcs, hfs⟩ := hk1.kid.some_ (by simp)
        have hgh : g' ≠ h := (hk1.own (by rw [hg']; rfl)).2.2
        injection hg' with hg'
        injection hg' with hg'
        subst hg'
        have hvi := j.i1 lii _ _ _ hva
        have hgw : Gr (fun q => lo ≤ q ∧ q ≠ h) w (put7 w g (ks0.length * 7) (.int .i64 k) (.int .i64 op) (.int .i64 nn) (.string (bs p)) (.string (bs t)) (.int .i64 aa) (.slice A ks.length c)) := put7_gr (Gr.refl w) (.inr ⟨hg1, hgh⟩)
        refine x_store7 _ _ _ _ _ _ _ g (ks0.length * 7) k op nn p t aa ks.length c A ((hev ii _ _ him hoi hdi lii).trans hvi) ((hev ci _ _ hcm hoc hdc lc).trans hvc) (fun q hq => hcs _ (by simp; omega)) hfs ?_
        have := hK2 undef (put7 w g (ks0.length * 7) (.int .i64 k) (.int .i64 op) (.int .i64 nn) (.string (bs p)) (.string (bs t)) (.int .i64 aa) (.slice A ks.length c)) ⟨⟨fun q hq h1 h2 => ?_, fun h2 => ?_⟩, ?_⟩
        · exact this
        · have hqi : q ≠ i := fun h => h1 (by simp [h])
          rw [upd_ne _ _ _ hqi] at h2 ⊢; exact jl q hq h1 h2
        · have hqi : li ≠ i := fun h => hlx (by simp [h])
          rw [upd_ne _ _ _ hqi]; exact hjx h2
        · simp only [upd_self, upd_ne _ i _ cs, upd_ne _ i _ zs, upd_ne _ i _ asx, upd_ne _ i _ is, upd_ne _ i _ (Ne.symm sk), la]
          refine ⟨fun _ => j.d1 la, fun _ => rfl, fun _ => lii, fun _ => rfl, j.gr.trans (hgw.mono fun q _ hq => .inr (.inr hq.1)), fun h => (j.gb h).trans (hgw.mono fun q _ hq => .inr hq), nofun, fun h => (by rw [lc] at h; cases h), fun _ h => (by cases h), fun _ h => (by cases h), fun _ h => (by cases h), fun _ => ⟨_, g, ca, hva, KidX.put hk1 hrp, hD2 _ _ _ hd1 (hgw.mono fun q _ hq => hq.1)⟩, fun _ => j.i1 lii, fun h => (j.k1 h).gr hgw (by omega)⟩
      · -- the store of the slice
        have hjx : upd L i true ai = true → L li = true := fun h => by rw [upd_ne _ _ _ ak] at h; exact jx h
        have la : L ai = true := depL i ai _ L ho e8 hdep
        have lf : L fi = true := depL i fi _ L ho e9 hdep
        obtain ⟨y0, p0, af0, rfl⟩ := hk
        obtain rfl := Option.some.inj (hok.symm.trans ho)
        have hB2 : Blk w h 28 #[c0, c1, c2, c3, c4, c5, v] := hBh.gr (j.gb hLi) (by unfold Wr; omega)
        obtain ⟨of_, hof, hdf⟩ := hdf
        have hva : ∃ g ca, vals ai = .slice (some ⟨g, 0, none⟩) (ks0.length + 1) ca := by
          cases hsb : L si with
          | false =>
            obtain ⟨k, op, nn, p, t, aa, ks, A, c, g, ca, hvc, hva, _⟩ := j.a1 la hsb
            exact ⟨g, ca, hva⟩
          | true =>
            obtain ⟨t, g, ca, hva, _⟩ := j.a2 hsb
            exact ⟨g, ca, hva⟩
        obtain ⟨g, ca, hva⟩ := hva
        refine x_storeS _ _ _ _ _ _ _ h 6 v _ (ks0.length + 1) ca ((light fi _ _ hfm hof hdf hfx lf).trans hlf) ((hev ai _ _ ham hoa hda la).trans hva) (hB2.cell 6) (hB2.frozen 6) ?_
        have hgh : Gr (fun q => q = h) w (w.setCell ⟨h, 6, none⟩ (.slice (some ⟨g, 0, none⟩) (ks0.length + 1) ca)) := Gr.setCell (S := fun q => q = h) (p := ⟨h, 6, none⟩) (Gr.refl w) (.inr rfl) _
        have := hK2 undef (w.setCell ⟨h, 6, none⟩ (.slice (some ⟨g, 0, none⟩) (ks0.length + 1) ca)) ⟨⟨fun q hq h1 h2 => ?_, fun h2 => ?_⟩, ?_⟩
        · exact this
        · have hqi : q ≠ i := fun h => h1 (by simp [h])
          rw [upd_ne _ _ _ hqi] at h2 ⊢; exact jl q hq h1 h2
        · have hqi : li ≠ i := fun h => hlx (by simp [h])
          rw [upd_ne _ _ _ hqi]; exact hjx h2
        · simp only [upd_self, upd_ne _ i _ ck, upd_ne _ i _ zk, upd_ne _ i _ ak, upd_ne _ i _ ik, upd_ne _ i _ sk, la]
          refine ⟨fun _ => j.d1 la, fun _ => rfl, j.d3, fun _ => rfl, j.gr.trans (hgh.mono fun q _ hq => .inr (.inl hq)), nofun, nofun, fun h => (by rw [(j.d1 la).1] at h; cases h), fun _ h => (by cases h), fun _ h => (by cases h), fun _ hsb => ?_, fun hsb => ?_, j.i1, fun _ => by rw [hva]; exact hB2.set6 _⟩
          · obtain ⟨k, op, nn, p, t, aa, ks, A, c, g, ca, hvc, hva, hk1, hrp, hd1⟩ := j.a1 la hsb
            exact ⟨k, op, nn, p, t, aa, ks, A, c, g, ca, hvc, hva, hk1.setCell (.inr rfl) _, hrp.gr hgh (fun q hq _ he => hq.2.2 he) (fun q _ hq => hq), hDh _ _ _ hd1⟩
          · obtain ⟨t, g, ca, hva, hk1, hd1⟩ := j.a2 hsb
            exact ⟨t, g, ca, hva, hk1.setCell (.inr rfl) _, hDh _ _ _ hd1⟩
    · have hne : ∀ x, x ∈ [ci, zi, ai, ii, si, ki] → x ≠ i := fun x hxm h => hx (h ▸ hxm)
      refine op_val (hlight i o ho hi2 hx a w (fun h => ?_) hun (fun k o' d hk ho' hd hdk hx2 => light k o' d hk ho' hd hx2 (depL i k _ L ho hdk hdep))) (hK2 _ _ ⟨⟨fun q hq h1 h2 => ?_, fun h2 => ?_⟩, ?_⟩)
      · subst h
        refine j.gb ?_
        cases h5 : L ki with
        | false => rfl
        | true =>
          have := jx (j.d4 h5); rw [hLi] at this; cases this
      · by_cases hqi : q = i
        · subst hqi; rw [upd_self]
        · rw [upd_ne _ _ _ hqi] at h2 ⊢; exact jl q hq h1 h2
      · rw [upd_ne _ _ _ (hne ai (by simp))] at h2
        by_cases hqi : li = i
        · rw [hqi, upd_self]
        · rw [upd_ne _ _ _ hqi]; exact jx h2
      · simp only [upd_ne _ i _ (hne ci (by simp)), upd_ne _ i _ (hne zi (by simp)), upd_ne _ i _ (hne ai (by simp)), upd_ne _ i _ (hne ii (by simp)), upd_ne _ i _ (hne si (by simp)), upd_ne _ i _ (hne ki (by simp))]
        exact j
  · intro vals w a ha had hun hev hsz j
    obtain ⟨_, j⟩ := j
    obtain ⟨t, g, ca, hva, hk1, hd1⟩ := j.a2 rfl
    have hB := j.k1 rfl
    rw [hva] at hB
    have := hnext vals w _ _ t hd1 hk1 j.gr hB
    rw [← ha] at this
    rw [← hms, Nat.sub_self]
    exact wpAny_end (by rw [hms]; exact hrn) this

theorem wpAnyH_one {P : Program} {ops : Array Oper} {Q : Exit → Act → World → Prop} {S : World → Prop} {n i : Nat} {L : Array Bool} {a : Act} {w : World} {o : Oper} (hr : Region.ready .any ops L = [i]) (ho : ops[i]? = some o) (hg : o.guard = none)
    (h : o.wp P a w (fun a' w' => S w' ∧ wpAnyH P .any ops Q S n (L.setIfInBounds i true) a' w') Q) : wpAnyH P .any ops Q S (n + 1) L a w := by
  refine wpAnyH_all hr (by simp) fun j hj => ?_
  obtain rfl : j = i := by simpa using hj
  unfold wpOp
  have hw : Region.wanted o (yielded ops a.tmps) = true := by simp [Region.wanted, hg]
  simp only [ho, hw, if_true]
  exact .inl h
end Go.Proofs.YtihnnbeepfgphaaGreatDoor
