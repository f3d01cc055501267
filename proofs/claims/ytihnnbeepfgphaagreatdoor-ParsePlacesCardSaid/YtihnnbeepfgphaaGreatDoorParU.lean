/-
  A node is made round what stands ahead: a region that draws its order.
-/
import Derived.Test.YtihnnbeepfgphaaGreatDoorParE
namespace Go.Proofs.YtihnnbeepfgphaaGreatDoor
open Go.RowKit
set_option linter.unusedVariables false
set_option linter.unusedSimpArgs false

attribute [local go_sem ↓] tok_f3
section
variable (ρ : Operand → Value) (w : World) (dst : Option Tmp) (x : Operand) (ty : TypeId) (pos : String) (after : Array Edge)
theorem x_buildN (K n : Int) (A : Option Addr) (m c : Nat) (y : Operand) (h0 : ρ (.const (.int .i64 K)) = .int .i64 K) (h4 : ρ x = .int .i64 n) (h6 : ρ y = .slice A m c) : (execOp ρ { dst := dst, op := .build 28 #[(0, .const (.int .i64 K)), (5, x), (6, y)], type := ty, pos := pos, after := after, guard := none }).run Tryz.prog w = .ok (.value (.agg #[.int .i64 K, .int .i64 0, .int .i64 0, .string ⟨#[]⟩, .string ⟨#[]⟩, .int .i64 n, .slice A m c])) w := by
  unfold execOp; simp only [List.map_toArray, List.map_cons, List.map_nil, h0, h4, h6]; go_simp
theorem x_loadN (q : Nat) (k op m : Int) (p t : List UInt8) (a n c : Nat) (A : Option Addr) (hx : ρ x = .pointer (some ⟨q, 0, none⟩)) (hb : Blk w q 28 #[.int .i64 k, .int .i64 op, .int .i64 m, .string (bs p), .string (bs t), .int .i64 a, .slice A n c]) : (execOp ρ { dst := dst, op := .load 28 x, type := ty, pos := pos, after := after, guard := none }).run Tryz.prog w = .ok (.value (.agg #[.int .i64 k, .int .i64 op, .int .i64 m, .string (bs p), .string (bs t), .int .i64 a, .slice A n c])) w := by
  obtain ⟨_, s0, s1, s2, s3, s4, s5, s6, _⟩ := hb.all7
  unfold execOp; simp only [hx]; go_simp
theorem x_allocN : (execOp ρ { dst := dst, op := .alloc 28, type := ty, pos := pos, after := after, guard := none }).run Tryz.prog w = .ok (.value (.pointer (some ⟨w.heap.size, 0, none⟩))) (w.alloc (.cells #[.int .i64 0, .int .i64 0, .int .i64 0, .string ⟨#[]⟩, .string ⟨#[]⟩, .int .i64 0, .slice none 0 0] 28)) := by
  unfold execOp; go_simp
theorem x_fieldA (v0 v1 v2 v3 : Value) (hx : ρ x = .agg #[v0, v1, v2, v3]) : (execOp ρ { dst := dst, op := .field 58 x 3, type := ty, pos := pos, after := after, guard := none }).run Tryz.prog w = .ok (.value v3) w := by
  unfold execOp; simp only [hx]; go_simp
end
/-- A call that tells a token (D: what holds of it behind the call), or panics. -/
def TellsT (b : Nat) (w : World) (B : List PanicEntry → Prop) (D : T → World → Prop) (e : Ending) (w' : World) : Prop :=
  Gr (· = b) w w' ∧ ((∃ c, B c ∧ e = .panicked c) ∨ ∃ x : T, e = .returned (.agg #[.int .i64 x.1.k, .string (bs x.1.t), .int .i64 x.1.n, .int .i64 x.2]) ∧ D x w')
/-- What holds while such a node is made: c, f, l, s, d, al, st: the call, its place, what stands ahead, the row, the node, its box, the store. -/
structure JN (b : Nat) (w0 : World) (lo : Nat) (X : Nat → Prop) (K : Int) (vb : Value) (tr : Tr) (C : World → Prop) (D : T → World → Prop) (c f l s d al st : Bool) (v3 v4 v5 v6 v7 v8 : Value) (w : World) : Prop where
  d1 : f = true → c = true
  d2 : d = true → f = true ∧ s = true
  d3 : st = true → d = true ∧ al = true
  gr : Gr (· = b) w0 w
  q0 : c = false → C w
  q1 : c = true → ∃ x : T, v3 = (.agg #[.int .i64 x.1.k, .string (bs x.1.t), .int .i64 x.1.n, .int .i64 x.2]) ∧ (f = true → v4 = .int .i64 x.2) ∧ D x w
  l1 : l = true → v5 = vb
  s1 : s = true → ∃ g, v6 = .slice (some ⟨g, 0, none⟩) 1 1 ∧ w0.heap.size ≤ g ∧ Kid w lo v6 [tr] ∧ KidP w lo X v6 [tr]
  b1 : d = true → ∃ n : Nat, v4 = .int .i64 n ∧ v7 = .agg #[.int .i64 K, .int .i64 0, .int .i64 0, .string ⟨#[]⟩, .string ⟨#[]⟩, .int .i64 n, v6]
  a1 : al = true → ∃ z, v8 = .pointer (some ⟨z, 0, none⟩) ∧ w0.heap.size ≤ z ∧ z < w.heap.size ∧ (st = false → Blk w z 28 #[.int .i64 0, .int .i64 0, .int .i64 0, .string ⟨#[]⟩, .string ⟨#[]⟩, .int .i64 0, .slice none 0 0]) ∧ (s = true → KidX w lo z v6 [tr]) ∧
    (st = true → Blk w z 28 #[.int .i64 K, .int .i64 0, .int .i64 0, .string ⟨#[]⟩, .string ⟨#[]⟩, v4, v6])
theorem not_t {a b : Bool} (h : a = true → b = true) (hb : b = false) : a = false := by
  cases a with
  | false => rfl
  | true => rw [h rfl] at hb; cases hb
set_option maxRecDepth 100000 in
theorem region_N {id : Nat} {a0 : Act} {w0 : World} {Q : Exit → Act → World → Prop} {ops : Array Oper} {d0 d1 d2 d3 d4 d5 d6 d7 d8 tp tb : Nat} {c3 : Call} {y0 y1 y2 y3 y4 y5 y6 y7 y8 y9 : TypeId} {p0 p1 p2 p3 p4 p5 p6 p7 p8 p9 : String} {af0 af1 af2 af3 af4 af5 af6 af7 af8 af9 : Array Edge}
    (b lo n q : Nat) (X : Nat → Prop) (K : Int) (k op m : Int) (p t : List UInt8) (a c : Nat) (A : Option Addr) (ks : List Tr) (f : FuncId) (argv : Array Value) (B : List PanicEntry → Prop) (C : World → Prop) (D : T → World → Prop)
    (hops : ops = #[
      { dst := some d0, op := .move (.tmp tp), type := y0, pos := p0, after := af0, guard := none },
      { dst := some d1, op := .nilCheck (.tmp d0), type := y1, pos := p1, after := af1, guard := none },
      { dst := some d2, op := .fieldAddr 53 (.tmp d1) 0, type := y2, pos := p2, after := af2, guard := none },
      { dst := some d3, op := .call c3, type := y3, pos := p3, after := af3, guard := none },
      { dst := some d4, op := .field 58 (.tmp d3) 3, type := y4, pos := p4, after := af4, guard := none },
      { dst := some d5, op := .load 28 (.tmp tb), type := y5, pos := p5, after := af5, guard := none },
      { dst := some d6, op := .buildSlice 26 1 #[(0, .tmp d5)], type := y6, pos := p6, after := af6, guard := none },
      { dst := some d7, op := .build 28 #[(0, .const (.int .i64 K)), (5, .tmp d4), (6, .tmp d6)], type := y7, pos := p7, after := af7, guard := none },
      { dst := some d8, op := .alloc 28, type := y8, pos := p8, after := af8, guard := none },
      { dst := none, op := .store 28 (.tmp d8) (.tmp d7), type := y9, pos := p9, after := af9, guard := none }])
    (hB : preB ops 10 = true) (hn : a0.tmps.size = n) (hin : inB ops 10 n = true) (hnp : noput ops tp = true) (hnb : noput ops tb = true) (hr : Region.ready .any ops (preL 10 10) = [])
    (e10 : dep ops 1 0 = true) (e21 : dep ops 2 1 = true) (e32 : dep ops 3 2 = true) (e43 : dep ops 4 3 = true) (e65 : dep ops 6 5 = true) (e74 : dep ops 7 4 = true) (e76 : dep ops 7 6 = true) (e98 : dep ops 9 8 = true) (e97 : dep ops 9 7 = true)
    (hrun : ∀ (a : Act) (w : World), a.eval (.tmp d2) = .pointer (some ⟨b, 0, none⟩) → (execOp a.eval { dst := some d3, op := .call c3, type := y3, pos := p3, after := af3, guard := none }).run Tryz.prog w = .ok (.enter f argv) w)
    (htp : a0.eval (.tmp tp) = .pointer (some ⟨b, 0, none⟩)) (htb : a0.eval (.tmp tb) = .pointer (some ⟨q, 0, none⟩))
    (hbq : Blk w0 q 28 #[.int .i64 k, .int .i64 op, .int .i64 m, .string (bs p), .string (bs t), .int .i64 a, .slice A ks.length c]) (hqb : q ≠ b) (hK : Kid w0 lo (.slice A ks.length c) ks) (hKz : KidP w0 lo X (.slice A ks.length c) ks) (hzl : ∀ q, X q → q < w0.heap.size) (hbl : b < lo) (hlo : lo ≤ w0.heap.size)
    (hC : Calm w0.heap.size C) (hC0 : C w0) (hD : ∀ x, Calm w0.heap.size (D x)) (hcall : ∀ w, C w → Calls Tryz.prog f argv w (TellsT b w B D))
    (hbad : ∀ (a : Act) (w' : World) (c : List PanicEntry), a.defers = a0.defers → B c → Gr (· = b) w0 w' → Q (.panic c) a w')
    (hnext : ∀ (vals : Nat → Value) (w' : World) (x : T) (z g : Nat), vals 8 = .pointer (some ⟨z, 0, none⟩) → w0.heap.size ≤ z → w0.heap.size ≤ g → D x w' → Gr (· = b) w0 w' → Blk w' z 28 #[.int .i64 K, .int .i64 0, .int .i64 0, .string ⟨#[]⟩, .string ⟨#[]⟩, .int .i64 x.2, .slice (some ⟨g, 0, none⟩) 1 1] → KidX w' lo z (.slice (some ⟨g, 0, none⟩) 1 1) [.mk k op m p t a ks] → KidP w' lo X (.slice (some ⟨g, 0, none⟩) 1 1) [.mk k op m p t a ks] →
      Q .normal (putAll vals (ops.toList.take 10) 0 a0) w') :
    (Code.region id ops true).wp Tryz.prog Q a0 w0 := by
  have np := noput_all hnp
  have nb := noput_all hnb
  have hsz : ops.size = 10 := by rw [hops]; rfl
  have hSz : ∀ g, lo ≤ g → ¬ X g → g < w0.heap.size → ¬ g = b := fun g h1 _ _ h2 => by omega
  have hS : ∀ g, lo ≤ g → g < w0.heap.size → ¬ g = b := fun g h1 _ h2 => by omega
  have hqw := hbq.lt
  have wz : ∀ {w w' : World} {z : Nat}, w0.heap.size ≤ z → Gr (· = z) w w' → Gr (fun k => w0.heap.size ≤ k) w w' := fun hz h => h.mono fun k _ hk => by have : k = _ := hk; omega
  refine wp_region_J 10 (by kernel_rfl) hB (fun L vals w => (L 0 = true → vals 0 = .pointer (some ⟨b, 0, none⟩)) ∧ (L 1 = true → vals 1 = .pointer (some ⟨b, 0, none⟩)) ∧ (L 2 = true → vals 2 = .pointer (some ⟨b, 0, none⟩)) ∧ JN b w0 lo X K (.agg #[.int .i64 k, .int .i64 op, .int .i64 m, .string (bs p), .string (bs t), .int .i64 a, .slice A ks.length c]) (.mk k op m p t a ks) C D (L 3) (L 4) (L 5) (L 6) (L 7) (L 8) (L 9) (vals 3) (vals 4) (vals 5) (vals 6) (vals 7) (vals 8) w) ?_ ?_ n hn hin ?_ ?_
  · intro L L' vals w hL j
    simp only [← hL 0 (by omega), ← hL 1 (by omega), ← hL 2 (by omega), ← hL 3 (by omega), ← hL 4 (by omega), ← hL 5 (by omega), ← hL 6 (by omega), ← hL 7 (by omega), ← hL 8 (by omega), ← hL 9 (by omega)]
    exact j
  · intro vals
    exact ⟨nofun, nofun, nofun, nofun, nofun, nofun, (Gr.refl _).drew, fun _ => hC.drew hC0, nofun, nofun, nofun, nofun, nofun⟩
  · intro i o ho hi a' w L vals j hLi had hun hev hdep K0 hK2
    obtain ⟨j0, j1, j2, j⟩ := j
    subst hops
    have hdp : ∀ i' : Nat, i' < 10 → dep _ i i' = true → L i' = true := fun i' _ hd => by
      obtain ⟨e, he, hon, hb⟩ := dep_on hd ho
      have := hdep e he hb
      rwa [hon] at this
    have gs := j.gr.size
    rcases (show i = 0 ∨ i = 1 ∨ i = 2 ∨ i = 3 ∨ i = 4 ∨ i = 5 ∨ i = 6 ∨ i = 7 ∨ i = 8 ∨ i = 9 by omega) with rfl | rfl | rfl | rfl | rfl | rfl | rfl | rfl | rfl | rfl
    · obtain rfl := Option.some.inj ho
      exact op_val (x_move _ _ _ _ _ _ _ _ ((hun tp np).trans htp)) (hK2 _ _ ⟨fun _ => rfl, j1, j2, j⟩)
    · obtain rfl := Option.some.inj ho
      have l0 := hdp 0 (by omega) e10
      exact op_val (x_nil _ _ _ _ _ _ _ _ ((hev 0 _ _ (by omega) rfl rfl l0).trans (j0 l0))) (hK2 _ _ ⟨j0, fun _ => rfl, j2, j⟩)
    · obtain rfl := Option.some.inj ho
      have l1 := hdp 1 (by omega) e21
      exact op_val (x_reader _ _ _ _ _ _ _ _ ((hev 1 _ _ (by omega) rfl rfl l1).trans (j1 l1))) (hK2 _ _ ⟨j0, j1, fun _ => rfl, j⟩)
    · -- the call
      obtain rfl := Option.some.inj ho
      have l2 := hdp 2 (by omega) e32
      have l4 := not_t j.d1 hLi
      have l7 : L 7 = false := not_t (fun h => (j.d2 h).1) l4
      have l9 : L 9 = false := not_t (fun h => (j.d3 h).1) l7
      refine op_call (hrun a' _ ((hev 2 _ _ (by omega) rfl rfl l2).trans (j2 l2))) ((hcall w (j.q0 hLi)).mono ?_)
      rintro e w1 ⟨hg, ⟨c, hbc, rfl⟩ | ⟨x, rfl, hd1⟩⟩
      · exact hbad a' w1 c had hbc (j.gr.trans hg)
      · have g1 := j.gr.trans hg
        refine hK2 _ _ ⟨j0, j1, j2, fun _ => rfl, j.d2, j.d3, g1, nofun, fun _ => ⟨x, rfl, fun h => ?_, hd1⟩, j.l1, fun h => ?_, j.b1, fun h => ?_⟩
        · rw [show upd L 3 true 4 = L 4 from rfl, l4] at h; cases h
        · obtain ⟨g, h1, h2⟩ := j.s1 h
          exact ⟨g, h1, h2.1, h2.2.1.call hg hbl, h2.2.2.call hg hbl⟩
        · obtain ⟨z, h1, h2, h3, h4, h5, h6⟩ := j.a1 h
          exact ⟨z, h1, h2, Nat.lt_of_lt_of_le h3 hg.size, fun h9 => (h4 h9).call hg (by omega), fun h9 => (h5 h9).call hg hbl, fun h9 => (by rw [show upd L 3 true 9 = L 9 from rfl, l9] at h9; cases h9)⟩
    · -- its place
      obtain rfl := Option.some.inj ho
      have l3 := hdp 3 (by omega) e43
      have l7 : L 7 = false := not_t (fun h => (j.d2 h).1) hLi
      have l9 : L 9 = false := not_t (fun h => (j.d3 h).1) l7
      obtain ⟨x, h1, h2, h3⟩ := j.q1 l3
      refine op_val (x_fieldA _ _ _ _ _ _ _ _ _ _ _ ((hev 3 _ _ (by omega) rfl rfl l3).trans h1)) (hK2 _ _ ⟨j0, j1, j2, fun _ => l3, fun h => ?_, j.d3, j.gr, j.q0, fun _ => ⟨x, h1, fun _ => rfl, h3⟩, j.l1, j.s1, fun h => ?_, fun h => ?_⟩)
      · rw [show upd L 4 true 7 = L 7 from rfl, l7] at h; cases h
      · rw [show upd L 4 true 7 = L 7 from rfl, l7] at h; cases h
      · obtain ⟨z, h1, h2, h3, h4, h5, h6⟩ := j.a1 h
        exact ⟨z, h1, h2, h3, h4, h5, fun h9 => (by rw [show upd L 4 true 9 = L 9 from rfl, l9] at h9; cases h9)⟩
    · -- what stands ahead
      obtain rfl := Option.some.inj ho
      exact op_val (x_loadN _ _ _ _ _ _ _ q k op m p t a ks.length c A ((hun tb nb).trans htb) (hbq.gr j.gr (by omega))) (hK2 _ _ ⟨j0, j1, j2, j.d1, j.d2, j.d3, j.gr, j.q0, j.q1, fun _ => rfl, j.s1, j.b1, j.a1⟩)
    · -- the row
      obtain rfl := Option.some.inj ho
      have l5 := hdp 5 (by omega) e65
      have l7 : L 7 = false := not_t (fun h => (j.d2 h).2) hLi
      have l9 : L 9 = false := not_t (fun h => (j.d3 h).1) l7
      have hKw : Kid w lo (.slice A ks.length c) ks := hK.gr j.gr hS
      have hlit := Kid.lit (n := 1) (Reps.single (hKw.rep k op m p t a)) (Nat.le_trans hlo gs) (by simp [maxLen]) rfl
      refine op_val (x_one _ _ _ _ _ _ _ _ _ _ _ _ _ A ks.length c ((hev 5 _ _ (by omega) rfl rfl l5).trans (j.l1 l5))) (hK2 _ _ ⟨j0, j1, j2, j.d1, fun h => ?_, j.d3, j.gr.alloc _, fun h => hC.alloc (j.q0 h) _, fun h => ?_, j.l1, fun _ => ⟨_, rfl, gs, hlit, KidP.lit1 (hKz.gr j.gr hSz) (Nat.le_trans hlo gs) (fun q hq => by have := hzl q hq; omega)⟩, fun h => ?_, fun h => ?_⟩)
      · rw [show upd L 6 true 7 = L 7 from rfl, l7] at h; cases h
      · obtain ⟨x, h1, h2, h3⟩ := j.q1 h
        exact ⟨x, h1, h2, (hD x).alloc h3 _⟩
      · rw [show upd L 6 true 7 = L 7 from rfl, l7] at h; cases h
      · obtain ⟨z, h1, h2, h3, h4, h5, h6⟩ := j.a1 h
        refine ⟨z, h1, h2, by simp; omega, fun h9 => (h4 h9).alloc _, fun _ => ?_, fun h9 => (by rw [show upd L 6 true 9 = L 9 from rfl, l9] at h9; cases h9)⟩
        have hzx : KidX (w.alloc (.cells #[.int .i64 k, .int .i64 op, .int .i64 m, .string (bs p), .string (bs t), .int .i64 a, .slice A ks.length c] 28)) lo z (.slice (some ⟨w.heap.size, 0, none⟩) 1 1) [.mk k op m p t a ks] := by
          have hx0 : Kid w0 lo (.slice A ks.length c) ks := hK
          have hrep : Rep w (fun g => lo ≤ g ∧ g ≠ z) (.mk k op m p t a ks) (ndC k op m p t a (.slice A ks.length c)) :=
            Rep.keep (fun g hg hlt => j.gr.block g hlt (by have h8 : lo ≤ g := hg; show ¬ g = b; omega)) gs (fun g hlt hg => ⟨hg, by omega⟩) _ _ (Rep.keep (F' := fun g => lo ≤ g) (fun _ _ _ => rfl) (Nat.le_refl _) (fun g _ hg => hg) _ _ (hx0.rep k op m p t a))
          refine ⟨by simp only [Value.ownBlock, ne_eq, Option.some.injEq]; omega, _, World.ownsRow_lit w #[.int .i64 k, .int .i64 op, .int .i64 m, .string (bs p), .string (bs t), .int .i64 a, .slice A ks.length c] _ (Nat.le_trans hlo gs) (by simp [maxLen]) (by rfl), ?_⟩
          refine Reps.keep (fun g _ hg => Below.heap_alloc w _ g hg) (by simp) (fun g hlt hg => ⟨hg.1, ?_, hg.2⟩) _ _ (Reps.single hrep)
          simp only [Value.ownBlock, ne_eq, Option.some.injEq]
          omega
        exact hzx
    · -- the node
      obtain rfl := Option.some.inj ho
      have l4 := hdp 4 (by omega) e74
      have l6 := hdp 6 (by omega) e76
      have l9 : L 9 = false := not_t (fun h => (j.d3 h).1) hLi
      obtain ⟨x, h1, h2, h3⟩ := j.q1 (j.d1 l4)
      obtain ⟨g, h4, h5⟩ := j.s1 l6
      refine op_val (x_buildN _ _ _ _ _ _ _ K x.2 (some ⟨g, 0, none⟩) 1 1 _ rfl ((hev 4 _ _ (by omega) rfl rfl l4).trans (h2 l4)) ((hev 6 _ _ (by omega) rfl rfl l6).trans h4)) (hK2 _ _ ⟨j0, j1, j2, j.d1, fun _ => ⟨l4, l6⟩, fun h => ?_, j.gr, j.q0, j.q1, j.l1, j.s1, fun _ => ⟨x.2, h2 l4, by rw [show upd vals 7 _ 6 = vals 6 from rfl, h4]; rfl⟩, j.a1⟩)
      rw [show upd L 7 true 9 = L 9 from rfl, l9] at h; cases h
    · -- its box
      obtain rfl := Option.some.inj ho
      have l9 : L 9 = false := not_t (fun h => (j.d3 h).2) hLi
      refine op_val (x_allocN _ _ _ _ _ _) (hK2 _ _ ⟨j0, j1, j2, j.d1, j.d2, fun h => ?_, j.gr.alloc _, fun h => hC.alloc (j.q0 h) _, fun h => ?_, j.l1, fun h => ?_, j.b1, fun _ => ⟨_, rfl, gs, by simp, fun _ => Blk.new _ _ _, fun h => ?_, fun h9 => (by rw [show upd L 8 true 9 = L 9 from rfl, l9] at h9; cases h9)⟩⟩)
      · rw [show upd L 8 true 9 = L 9 from rfl, l9] at h; cases h
      · obtain ⟨x, h1, h2, h3⟩ := j.q1 h
        exact ⟨x, h1, h2, (hD x).alloc h3 _⟩
      · obtain ⟨g, h1, h2⟩ := j.s1 h
        exact ⟨g, h1, h2.1, h2.2.1.alloc _, h2.2.2.alloc _⟩
      · obtain ⟨g, h1, h2⟩ := j.s1 h
        exact h2.2.1.fresh rfl _
    · -- the store
      obtain rfl := Option.some.inj ho
      have l8 := hdp 8 (by omega) e98
      have l7 := hdp 7 (by omega) e97
      obtain ⟨l4, l6⟩ := j.d2 l7
      obtain ⟨x, h1, h2, h3⟩ := j.q1 (j.d1 l4)
      obtain ⟨g, h4, h5⟩ := j.s1 l6
      obtain ⟨z, z1, z2, z3, z4, z5, z6⟩ := j.a1 l8
      obtain ⟨nn, hb1, hb2⟩ := j.b1 l7
      have hz5 := z5 l6
      have hsz2 : ∀ {w' : World}, Gr (· = z) w w' → KidP w' lo X (vals 6) [.mk k op m p t a ks] := fun hg => KidX.gr2 hz5 h5.2.2 hg
      rw [h4] at hb2
      refine op_box _ _ K 0 0 [] [] nn 1 1 (some ⟨g, 0, none⟩) ((hev 8 _ _ (by omega) rfl rfl l8).trans z1) ((hev 7 _ _ (by omega) rfl rfl l7).trans hb2) (z4 hLi) fun w' hz hg => ?_
      have gw := wz z2 hg
      refine hK2 _ _ ⟨j0, j1, j2, j.d1, j.d2, fun _ => ⟨l7, l8⟩, j.gr.wide hg (fun k hk he => by have : k = z := he; omega), fun h => hC _ _ (j.q0 h) gw, fun _ => ⟨x, h1, h2, hD x _ _ h3 gw⟩, j.l1, fun _ => ⟨g, h4, h5.1, (hz5.gr hg fun g' _ hne _ he => hne he).kid, hsz2 hg⟩, j.b1, fun _ => ⟨z, z1, z2, Nat.lt_of_lt_of_le z3 hg.size, nofun, fun _ => hz5.gr hg fun g' _ hne _ he => hne he, fun _ => ?_⟩⟩
      rw [show upd vals 9 undef 4 = vals 4 from rfl, show upd vals 9 undef 6 = vals 6 from rfl, hb1, h4]
      exact hz
  · intro vals w a' ha had hun hev hs2 j
    obtain ⟨_, _, _, j⟩ := j
    obtain ⟨x, h1, h2, h3⟩ := j.q1 rfl
    obtain ⟨g, h4, h5⟩ := j.s1 rfl
    obtain ⟨z, z1, z2, z3, z4, z5, z6⟩ := j.a1 rfl
    have hz6 := z6 rfl
    have hz5 := z5 rfl
    rw [h2 rfl, h4] at hz6
    rw [h4] at hz5
    have hz7 := h5.2.2
    rw [h4] at hz7
    have := hnext vals w x z g z1 z2 h5.1 h3 j.gr hz6 hz5 hz7
    rw [← ha] at this
    rw [hsz]
    exact wpAny_end hr this
def TellT (E : Env) (o : Nat) (f : T → List T → R) (r : R) (x : T) (w : World) : Prop := ∃ l, f x l = r ∧ PS E w l o
theorem calm_TellT (E : Env) (lo o : Nat) (f : T → List T → R) (r : R) (hb : E.b < lo) (hg : E.g < lo) (x : T) : Calm lo (TellT E o f r x) := fun w w' h hgr => by
  obtain ⟨l, h1, h2⟩ := h
  exact ⟨l, h1, calm_PS E lo l o hb hg _ _ h2 hgr⟩
theorem tellsT {E : Env} {w w' : World} {o : Nat} {f : T → List T → R} {r : R} {e : Ending} (h : TokP E w o f r e w') : TellsT E.b w (TellB r) (TellT E o f r) e w' := by
  obtain ⟨h1, ⟨a, k, h2, h3⟩ | ⟨x, l, h2, h3, h4⟩⟩ := h
  · exact ⟨h1, .inl ⟨_, ⟨a, k, h2, rfl⟩, h3⟩⟩
  · exact ⟨h1, .inr ⟨x, h2, l, h3, h4⟩⟩
theorem token_tells {E : Env} {w : World} {x : T} {t : List T} {o : Nat} {f : T → List T → R} {r : R} (h : PS E w (x :: t) o) (hq : f x (x :: t) = r) : Calls Tryz.prog 27 #[.pointer (some ⟨E.b, 0, none⟩)] w (TellsT E.b w (TellB r) (TellT E o f r)) :=
  (token_any E w x t o h).mono fun e w' ⟨h1, h2⟩ => ⟨Gr.of_below h2, .inr ⟨x, h1, _, hq, h.below h2⟩⟩
end Go.Proofs.YtihnnbeepfgphaaGreatDoor
