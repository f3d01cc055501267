/-
  A node is made round a node that a call tells: a region that draws its order and makes the node's box.
-/
import Derived.Test.YtihnnbeepfgphaaGreatDoorParU
namespace Go.Proofs.YtihnnbeepfgphaaGreatDoor
open Go.RowKit
set_option linter.unusedVariables false
set_option linter.unusedSimpArgs false

theorem x_buildD (ρ : Operand → Value) (w : World) (dst : Option Tmp) (x : Operand) (ty : TypeId) (pos : String) (after : Array Edge) (K n : Int) (s : ByteArray) (A : Option Addr) (m c : Nat) (y z : Operand) (h0 : ρ (.const (.int .i64 K)) = .int .i64 K) (h3 : ρ x = .string s) (h4 : ρ y = .int .i64 n) (h6 : ρ z = .slice A m c) : (execOp ρ { dst := dst, op := .build 28 #[(0, .const (.int .i64 K)), (4, x), (5, y), (6, z)], type := ty, pos := pos, after := after, guard := none }).run Tryz.prog w = .ok (.value (.agg #[.int .i64 K, .int .i64 0, .int .i64 0, .string ⟨#[]⟩, .string s, .int .i64 n, .slice A m c])) w := by
  unfold execOp; simp only [List.map_toArray, List.map_cons, List.map_nil, h0, h3, h4, h6]; go_simp
theorem x_fieldT (ρ : Operand → Value) (w : World) (dst : Option Tmp) (x : Operand) (ty : TypeId) (pos : String) (after : Array Edge) (i q : Nat) (hi : i = 1 ∨ i = 3) (hx : ρ x = .pointer (some ⟨q, 0, none⟩)) : (execOp ρ { dst := dst, op := .fieldAddr 58 x i, type := ty, pos := pos, after := after, guard := none }).run Tryz.prog w = .ok (.value (.pointer (some ⟨q, i, none⟩))) w := by
  rcases hi with rfl | rfl <;> (unfold execOp; simp only [hx]; go_simp)
theorem x_loadStr (ρ : Operand → Value) (w : World) (dst : Option Tmp) (x : Operand) (ty : TypeId) (pos : String) (after : Array Edge) (q i : Nat) (s : ByteArray) (hx : ρ x = .pointer (some ⟨q, i, none⟩)) (hc : w.cell? ⟨q, i, none⟩ = some (.string s)) : (execOp ρ { dst := dst, op := .load 9 x, type := ty, pos := pos, after := after, guard := none }).run Tryz.prog w = .ok (.value (.string s)) w := by
  unfold execOp; simp only [hx]; go_simp
theorem x_loadInt (ρ : Operand → Value) (w : World) (dst : Option Tmp) (x : Operand) (ty : TypeId) (pos : String) (after : Array Edge) (q i : Nat) (n : Int) (hx : ρ x = .pointer (some ⟨q, i, none⟩)) (hc : w.cell? ⟨q, i, none⟩ = some (.int .i64 n)) : (execOp ρ { dst := dst, op := .load 3 x, type := ty, pos := pos, after := after, guard := none }).run Tryz.prog w = .ok (.value (.int .i64 n)) w := by
  unfold execOp; simp only [hx]; go_simp
/-- c, s, d, al, st: the call, the row, the node, its box, the store. -/
structure JD (b : Nat) (w0 : World) (K : Int) (tx : ByteArray) (at_ : Nat) (C : World → Prop) (D : Tr → World → Prop) (l1 l3 c s d al st : Bool) (v5 v6 v7 v8 : Value) (w : World) : Prop where
  d1 : s = true → c = true
  d2 : d = true → s = true
  d3 : st = true → d = true ∧ al = true
  gr : Gr (· = b) w0 w
  q0 : c = false → C w
  p1 : c = true → s = false → ∃ (k op n : Int) (p t : List UInt8) (a : Nat) (ks : List Tr) (A : Option Addr) (cc : Nat), v5 = .agg #[.int .i64 k, .int .i64 op, .int .i64 n, .string (bs p), .string (bs t), .int .i64 a, .slice A ks.length cc] ∧ Kid w w0.heap.size (.slice A ks.length cc) ks ∧ (∀ z, al = true → v8 = .pointer (some ⟨z, 0, none⟩) → KidX w w0.heap.size z (.slice A ks.length cc) ks) ∧ D (.mk k op n p t a ks) w
  s1 : s = true → ∃ g t, v6 = .slice (some ⟨g, 0, none⟩) 1 1 ∧ Kid w w0.heap.size v6 [t] ∧ (∀ z, al = true → v8 = .pointer (some ⟨z, 0, none⟩) → KidX w w0.heap.size z v6 [t]) ∧ D t w
  b1 : d = true → v7 = .agg #[.int .i64 K, .int .i64 0, .int .i64 0, .string ⟨#[]⟩, .string tx, .int .i64 at_, v6]
  a1 : al = true → ∃ z, v8 = .pointer (some ⟨z, 0, none⟩) ∧ w0.heap.size ≤ z ∧ z < w.heap.size ∧ (st = false → Blk w z 28 #[.int .i64 0, .int .i64 0, .int .i64 0, .string ⟨#[]⟩, .string ⟨#[]⟩, .int .i64 0, .slice none 0 0]) ∧ (st = true → Blk w z 28 #[.int .i64 K, .int .i64 0, .int .i64 0, .string ⟨#[]⟩, .string tx, .int .i64 at_, v6])
set_option maxRecDepth 100000 in
theorem region_D {id : Nat} {a0 : Act} {w0 : World} {Q : Exit → Act → World → Prop} {ops : Array Oper} {d0 d1 d2 d3 d4 d5 d6 d7 d8 tp tb : Nat} {c5 : Call} {y0 y1 y2 y3 y4 y5 y6 y7 y8 y9 : TypeId} {p0 p1 p2 p3 p4 p5 p6 p7 p8 p9 : String} {af0 af1 af2 af3 af4 af5 af6 af7 af8 af9 : Array Edge}
    (b n q : Nat) (K : Int) (x : T) (f : FuncId) (argv : Array Value) (B : List PanicEntry → Prop) (C : World → Prop) (D : Tr → World → Prop)
    (hops : ops = #[
      { dst := some d0, op := .fieldAddr 58 (.tmp tb) 1, type := y0, pos := p0, after := af0, guard := none },
      { dst := some d1, op := .load 9 (.tmp d0), type := y1, pos := p1, after := af1, guard := none },
      { dst := some d2, op := .fieldAddr 58 (.tmp tb) 3, type := y2, pos := p2, after := af2, guard := none },
      { dst := some d3, op := .load 3 (.tmp d2), type := y3, pos := p3, after := af3, guard := none },
      { dst := some d4, op := .move (.tmp tp), type := y4, pos := p4, after := af4, guard := none },
      { dst := some d5, op := .call c5, type := y5, pos := p5, after := af5, guard := none },
      { dst := some d6, op := .buildSlice 26 1 #[(0, .tmp d5)], type := y6, pos := p6, after := af6, guard := none },
      { dst := some d7, op := .build 28 #[(0, .const (.int .i64 K)), (4, .tmp d1), (5, .tmp d3), (6, .tmp d6)], type := y7, pos := p7, after := af7, guard := none },
      { dst := some d8, op := .alloc 28, type := y8, pos := p8, after := af8, guard := none },
      { dst := none, op := .store 28 (.tmp d8) (.tmp d7), type := y9, pos := p9, after := af9, guard := none }])
    (hB : preB ops 10 = true) (hn : a0.tmps.size = n) (hin : inB ops 10 n = true) (hnp : noput ops tp = true) (hnb : noput ops tb = true) (hr : Region.ready .any ops (preL 10 10) = [])
    (e10 : dep ops 1 0 = true) (e32 : dep ops 3 2 = true) (e54 : dep ops 5 4 = true) (e65 : dep ops 6 5 = true) (e71 : dep ops 7 1 = true) (e73 : dep ops 7 3 = true) (e76 : dep ops 7 6 = true) (e98 : dep ops 9 8 = true) (e97 : dep ops 9 7 = true)
    (hrun : ∀ (a : Act) (w : World), a.eval (.tmp d4) = .pointer (some ⟨b, 0, none⟩) → (execOp a.eval { dst := some d5, op := .call c5, type := y5, pos := p5, after := af5, guard := none }).run Tryz.prog w = .ok (.enter f argv) w)
    (htp : a0.eval (.tmp tp) = .pointer (some ⟨b, 0, none⟩)) (htb : a0.eval (.tmp tb) = .pointer (some ⟨q, 0, none⟩))
    (hbq : Blk w0 q 58 #[.int .i64 x.1.k, .string (bs x.1.t), .int .i64 x.1.n, .int .i64 x.2]) (hqb : q ≠ b) (hbw : b < w0.heap.size)
    (hC : Calm w0.heap.size C) (hC0 : C w0) (hD : ∀ t, Calm w0.heap.size (D t)) (hcall : ∀ w, C w → Calls Tryz.prog f argv w (Tells b w B D))
    (hbad : ∀ (a : Act) (w' : World) (c : List PanicEntry), a.defers = a0.defers → B c → Gr (· = b) w0 w' → Q (.panic c) a w')
    (hnext : ∀ (vals : Nat → Value) (w' : World) (t : Tr) (z g : Nat), vals 8 = .pointer (some ⟨z, 0, none⟩) → w0.heap.size ≤ z → D t w' → Gr (· = b) w0 w' → Blk w' z 28 #[.int .i64 K, .int .i64 0, .int .i64 0, .string ⟨#[]⟩, .string (bs x.1.t), .int .i64 x.2, .slice (some ⟨g, 0, none⟩) 1 1] → KidX w' w0.heap.size z (.slice (some ⟨g, 0, none⟩) 1 1) [t] →
      Q .normal (putAll vals (ops.toList.take 10) 0 a0) w') :
    (Code.region id ops true).wp Tryz.prog Q a0 w0 := by
  have np := noput_all hnp
  have nb := noput_all hnb
  have hsz : ops.size = 10 := by rw [hops]; rfl
  have hqw := hbq.lt
  have hS : ∀ {g : Nat}, w0.heap.size ≤ g → ¬ g = b := fun h e => by omega
  have wz : ∀ {w w' : World} {z : Nat}, w0.heap.size ≤ z → Gr (· = z) w w' → Gr (fun k => w0.heap.size ≤ k) w w' := fun hz h => h.mono fun k _ hk => by have : k = _ := hk; omega
  refine wp_region_J 10 (by kernel_rfl) hB (fun L vals w => (L 0 = true → vals 0 = .pointer (some ⟨q, 1, none⟩)) ∧ (L 1 = true → vals 1 = .string (bs x.1.t)) ∧ (L 2 = true → vals 2 = .pointer (some ⟨q, 3, none⟩)) ∧ (L 3 = true → vals 3 = .int .i64 x.2) ∧ (L 4 = true → vals 4 = .pointer (some ⟨b, 0, none⟩)) ∧ JD b w0 K (bs x.1.t) x.2 C D (L 1) (L 3) (L 5) (L 6) (L 7) (L 8) (L 9) (vals 5) (vals 6) (vals 7) (vals 8) w) ?_ ?_ n hn hin ?_ ?_
  · intro L L' vals w hL j
    simp only [← hL 0 (by omega), ← hL 1 (by omega), ← hL 2 (by omega), ← hL 3 (by omega), ← hL 4 (by omega), ← hL 5 (by omega), ← hL 6 (by omega), ← hL 7 (by omega), ← hL 8 (by omega), ← hL 9 (by omega)]
    exact j
  · intro vals
    exact ⟨nofun, nofun, nofun, nofun, nofun, nofun, nofun, nofun, (Gr.refl _).drew, fun _ => hC.drew hC0, nofun, nofun, nofun, nofun⟩
  · intro i o ho hi a' w L vals j hLi had hun hev hdep K0 hK2
    obtain ⟨j0, j1, j2, j3, j4, j⟩ := j
    subst hops
    have hdp : ∀ i' : Nat, i' < 10 → dep _ i i' = true → L i' = true := fun i' _ hd => by
      obtain ⟨e, he, hon, hb⟩ := dep_on hd ho
      have := hdep e he hb
      rwa [hon] at this
    have gs := j.gr.size
    have hbw' : Blk w q 58 #[.int .i64 x.1.k, .string (bs x.1.t), .int .i64 x.1.n, .int .i64 x.2] := hbq.gr j.gr (by omega)
    rcases (show i = 0 ∨ i = 1 ∨ i = 2 ∨ i = 3 ∨ i = 4 ∨ i = 5 ∨ i = 6 ∨ i = 7 ∨ i = 8 ∨ i = 9 by omega) with rfl | rfl | rfl | rfl | rfl | rfl | rfl | rfl | rfl | rfl
    · obtain rfl := Option.some.inj ho
      exact op_val (x_fieldT _ _ _ _ _ _ _ 1 q (.inl rfl) ((hun tb nb).trans htb)) (hK2 _ _ ⟨fun _ => rfl, j1, j2, j3, j4, j⟩)
    · obtain rfl := Option.some.inj ho
      have l0 := hdp 0 (by omega) e10
      exact op_val (x_loadStr _ _ _ _ _ _ _ q 1 _ ((hev 0 _ _ (by omega) rfl rfl l0).trans (j0 l0)) (hbw'.cell 1)) (hK2 _ _ ⟨j0, fun _ => rfl, j2, j3, j4, ⟨j.d1, j.d2, j.d3, j.gr, j.q0, j.p1, j.s1, j.b1, j.a1⟩⟩)
    · obtain rfl := Option.some.inj ho
      exact op_val (x_fieldT _ _ _ _ _ _ _ 3 q (.inr rfl) ((hun tb nb).trans htb)) (hK2 _ _ ⟨j0, j1, fun _ => rfl, j3, j4, j⟩)
    · obtain rfl := Option.some.inj ho
      have l2 := hdp 2 (by omega) e32
      exact op_val (x_loadInt _ _ _ _ _ _ _ q 3 _ ((hev 2 _ _ (by omega) rfl rfl l2).trans (j2 l2)) (hbw'.cell 3)) (hK2 _ _ ⟨j0, j1, j2, fun _ => rfl, j4, ⟨j.d1, j.d2, j.d3, j.gr, j.q0, j.p1, j.s1, j.b1, j.a1⟩⟩)
    · obtain rfl := Option.some.inj ho
      exact op_val (x_move _ _ _ _ _ _ _ _ ((hun tp np).trans htp)) (hK2 _ _ ⟨j0, j1, j2, j3, fun _ => rfl, j⟩)
    · -- the call
      obtain rfl := Option.some.inj ho
      have l4 := hdp 4 (by omega) e54
      have l6 := not_t j.d1 hLi
      have l7 : L 7 = false := not_t j.d2 l6
      have l9 : L 9 = false := not_t (fun h => (j.d3 h).1) l7
      refine op_call (hrun a' _ ((hev 4 _ _ (by omega) rfl rfl l4).trans (j4 l4))) ((hcall w (j.q0 hLi)).mono ?_)
      rintro e w1 ⟨hg, ⟨c, hbc, rfl⟩ | ⟨k, op, nn, p, t, aa, ks, A, c, rfl, hk1, hd1⟩⟩
      · exact hbad a' w1 c had hbc (j.gr.trans hg)
      · refine hK2 _ _ ⟨j0, j1, j2, j3, j4, fun _ => rfl, j.d2, j.d3, j.gr.trans hg, nofun, fun _ _ => ⟨k, op, nn, p, t, aa, ks, A, c, rfl, hk1.mono gs, fun z hal hz => ?_, hd1⟩, fun h => ?_, j.b1, fun h => ?_⟩
        · obtain ⟨z', h1, h2, h3, _⟩ := j.a1 hal
          have hz : vals 8 = .pointer (some ⟨z, 0, none⟩) := hz
          rw [h1] at hz
          have e : z' = z := by injection hz with hz; injection hz with hz; injection hz
          subst e
          exact (hk1.x h3).mono gs
        · rw [show upd L 5 true 6 = L 6 from rfl, l6] at h; cases h
        · obtain ⟨z, h1, h2, h3, h4, h5⟩ := j.a1 h
          exact ⟨z, h1, h2, Nat.lt_of_lt_of_le h3 hg.size, fun h9 => (h4 h9).call hg (by omega), fun h9 => (by rw [show upd L 5 true 9 = L 9 from rfl, l9] at h9; cases h9)⟩
    · -- the row
      obtain rfl := Option.some.inj ho
      have l5 := hdp 5 (by omega) e65
      have l7 : L 7 = false := not_t j.d2 hLi
      have l9 : L 9 = false := not_t (fun h => (j.d3 h).1) l7
      obtain ⟨k, op, nn, p, t, aa, ks, A, c, hv5, hk1, hx1, hd1⟩ := j.p1 l5 hLi
      have hlit := Kid.lit (n := 1) (Reps.single (hk1.rep k op nn p t aa)) gs (by simp [maxLen]) rfl
      refine op_val (x_one _ _ _ _ _ _ _ _ _ _ _ _ _ A ks.length c ((hev 5 _ _ (by omega) rfl rfl l5).trans hv5)) (hK2 _ _ ⟨j0, j1, j2, j3, j4, fun _ => l5, fun h => ?_, j.d3, j.gr.alloc _, fun h => ?_, nofun, fun _ => ⟨_, _, rfl, hlit, fun z hal hz => ?_, (hD _).alloc hd1 _⟩, fun h => ?_, fun h => ?_⟩)
      · rw [show upd L 6 true 7 = L 7 from rfl, l7] at h; cases h
      · rw [show upd L 6 true 5 = L 5 from rfl, l5] at h; cases h
      · have hxx := hx1 z hal hz
        obtain ⟨z', h1, h2, h3, _⟩ := j.a1 hal
        have hz : vals 8 = .pointer (some ⟨z, 0, none⟩) := hz
        rw [h1] at hz
        have e : z' = z := by injection hz with hz; injection hz with hz; injection hz
        subst e
        exact (KidP.lit1 hxx.p gs (fun q hq => by have h9 : q = z' := hq; omega)).x rfl
      · rw [show upd L 6 true 7 = L 7 from rfl, l7] at h; cases h
      · obtain ⟨z, h1, h2, h3, h4, h5⟩ := j.a1 h
        exact ⟨z, h1, h2, by simp; omega, fun h9 => (h4 h9).alloc _, fun h9 => (by rw [show upd L 6 true 9 = L 9 from rfl, l9] at h9; cases h9)⟩
    · -- the node
      obtain rfl := Option.some.inj ho
      have l1 := hdp 1 (by omega) e71
      have l3 := hdp 3 (by omega) e73
      have l6 := hdp 6 (by omega) e76
      have l9 : L 9 = false := not_t (fun h => (j.d3 h).1) hLi
      obtain ⟨g, t, h4, h5, h6, h7⟩ := j.s1 l6
      refine op_val (x_buildD _ _ _ _ _ _ _ K x.2 (bs x.1.t) (some ⟨g, 0, none⟩) 1 1 _ _ rfl ((hev 1 _ _ (by omega) rfl rfl l1).trans (j1 l1)) ((hev 3 _ _ (by omega) rfl rfl l3).trans (j3 l3)) ((hev 6 _ _ (by omega) rfl rfl l6).trans h4)) (hK2 _ _ ⟨j0, j1, j2, j3, j4, j.d1, fun _ => l6, fun h => ?_, j.gr, j.q0, j.p1, j.s1, fun _ => by rw [show upd vals 7 _ 6 = vals 6 from rfl, h4]; rfl, j.a1⟩)
      rw [show upd L 7 true 9 = L 9 from rfl, l9] at h; cases h
    · -- its box
      obtain rfl := Option.some.inj ho
      have l9 : L 9 = false := not_t (fun h => (j.d3 h).2) hLi
      refine op_val (x_allocN _ _ _ _ _ _) (hK2 _ _ ⟨j0, j1, j2, j3, j4, j.d1, j.d2, fun h => ?_, j.gr.alloc _, fun h => hC.alloc (j.q0 h) _, fun h1 h2 => ?_, fun h => ?_, j.b1, fun _ => ⟨_, rfl, gs, by simp, fun _ => Blk.new _ _ _, fun h9 => (by rw [show upd L 8 true 9 = L 9 from rfl, l9] at h9; cases h9)⟩⟩)
      · rw [show upd L 8 true 9 = L 9 from rfl, l9] at h; cases h
      · obtain ⟨k, op, nn, p, t, aa, ks, A, c, hv5, hk1, hx1, hd1⟩ := j.p1 h1 h2
        refine ⟨k, op, nn, p, t, aa, ks, A, c, hv5, hk1.alloc _, fun z _ hz => ?_, (hD _).alloc hd1 _⟩
        have hz : Value.pointer (some ⟨w.heap.size, 0, none⟩) = .pointer (some ⟨z, 0, none⟩) := hz
        have e : w.heap.size = z := by injection hz with hz; injection hz with hz; injection hz
        subst e
        exact hk1.fresh rfl _
      · obtain ⟨g, t, h4, h5, h6, h7⟩ := j.s1 h
        refine ⟨g, t, h4, h5.alloc _, fun z _ hz => ?_, (hD _).alloc h7 _⟩
        have hz : Value.pointer (some ⟨w.heap.size, 0, none⟩) = .pointer (some ⟨z, 0, none⟩) := hz
        have e : w.heap.size = z := by injection hz with hz; injection hz with hz; injection hz
        subst e
        exact h5.fresh rfl _
    · -- the store
      obtain rfl := Option.some.inj ho
      have l8 := hdp 8 (by omega) e98
      have l7 := hdp 7 (by omega) e97
      have l6 := j.d2 l7
      have l5 := j.d1 l6
      obtain ⟨g, t, h4, h5, h6, h7⟩ := j.s1 l6
      obtain ⟨z, z1, z2, z3, z4, z5⟩ := j.a1 l8
      have hb2 := j.b1 l7
      have hzx := h6 z l8 z1
      rw [h4] at hb2
      refine op_box _ _ K 0 0 [] x.1.t x.2 1 1 (some ⟨g, 0, none⟩) ((hev 8 _ _ (by omega) rfl rfl l8).trans z1) ((hev 7 _ _ (by omega) rfl rfl l7).trans hb2) (z4 hLi) fun w' hz hg => ?_
      have gw := wz z2 hg
      have hzx' : KidX w' w0.heap.size z (vals 6) [t] := hzx.gr hg fun g' _ hne _ he => hne he
      refine hK2 _ _ ⟨j0, j1, j2, j3, j4, j.d1, j.d2, fun _ => ⟨l7, l8⟩, j.gr.wide hg (fun k hk he => by have : k = z := he; omega), fun h => ?_, fun _ h => ?_, fun _ => ⟨g, t, h4, hzx'.kid, fun z' _ hz' => ?_, hD t _ _ h7 gw⟩, j.b1, fun _ => ⟨z, z1, z2, Nat.lt_of_lt_of_le z3 hg.size, nofun, fun _ => ?_⟩⟩
      · rw [show upd L 9 true 5 = L 5 from rfl, l5] at h; cases h
      · rw [show upd L 9 true 6 = L 6 from rfl, l6] at h; cases h
      · have hz' : vals 8 = .pointer (some ⟨z', 0, none⟩) := hz'
        rw [z1] at hz'
        have e : z = z' := by injection hz' with hz'; injection hz' with hz'; injection hz'
        subst e
        exact hzx'
      · rw [show upd vals 9 undef 6 = vals 6 from rfl, h4]
        exact hz
  · intro vals w a' ha had hun hev hs2 j
    obtain ⟨_, _, _, _, _, j⟩ := j
    obtain ⟨g, t, h4, h5, h6, h7⟩ := j.s1 rfl
    obtain ⟨z, z1, z2, z3, z4, z5⟩ := j.a1 rfl
    have hz5 := z5 rfl
    have hzx := h6 z rfl z1
    rw [h4] at hz5 hzx
    have := hnext vals w t z g z1 z2 h7 j.gr hz5 hzx
    rw [← ha] at this
    rw [hsz]
    exact wpAny_end hr this
end Go.Proofs.YtihnnbeepfgphaaGreatDoor
