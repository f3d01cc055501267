/-
  A tree's kids grow by what a call makes: regions that draw their order.
-/
import Derived.Test.YtihnnbeepfgphaaGreatDoorParB
namespace Go.Proofs.YtihnnbeepfgphaaGreatDoor
open Go.RowKit
set_option linter.unusedVariables false
set_option linter.unusedSimpArgs false

def LIM : Nat := 400000
/-- What a part of the grammar comes to: the parser gives up, or a node is told and the parser goes on. -/
def NodeP (E : Env) (w : World) (lo o : Nat) (f : Tr → List T → R) (r : R) (e : Ending) (w' : World) : Prop :=
  Gr (· = E.b) w w' ∧ ((∃ a k, r = .bad a k ∧ e = (.panicked [{ v := .iface 48 (.agg #[.int .i64 a, .int .i64 k]), recovered := false }])) ∨ ∃ (k op n : Int) (p t : List UInt8) (a : Nat) (ks : List Tr) (A : Option Addr) (c : Nat) (l : List T),
    e = .returned (.agg #[.int .i64 k, .int .i64 op, .int .i64 n, .string (bs p), .string (bs t), .int .i64 a, .slice A ks.length c]) ∧ f (.mk k op n p t a ks) l = r ∧ Kid w' lo (.slice A ks.length c) ks ∧ ks.length ≤ 3 * LIM ∧ PS E w' l o)
/-- The same of a list of parts. -/
def ListP (E : Env) (w : World) (o : Nat) (f : Tr → List T → R) (r : R) (e : Ending) (w' : World) : Prop :=
  Gr (· = E.b) w w' ∧ ((∃ a k, r = .bad a k ∧ e = (.panicked [{ v := .iface 48 (.agg #[.int .i64 a, .int .i64 k]), recovered := false }])) ∨ ∃ (ks : List Tr) (A : Option Addr) (c : Nat) (l : List T),
    e = .returned (.slice A ks.length c) ∧ f (lst ks) l = r ∧ Kid w' w.heap.size (.slice A ks.length c) ks ∧ ks.length ≤ LIM ∧ PS E w' l o)

theorem node_info : (Tryz.prog.info? 28).map (fun i => (i.zero, i.size, i.bytes)) = some (some (.agg #[.int .i64 0, .int .i64 0, .int .i64 0, .string ⟨#[]⟩, .string ⟨#[]⟩, .int .i64 0, .slice none 0 0]), 7, 88) := by kernel_rfl
theorem op_val {P : Program} {o : Oper} {a : Act} {w w' : World} {K : Act → World → Prop} {Q : Exit → Act → World → Prop} {v : Value} (h : (execOp a.eval o).run P w = .ok (.value v) w') (hk : K (a.put o.dst v) w') : o.wp P a w K Q := by
  unfold Oper.wp
  rw [h]
  exact hk
theorem op_call {P : Program} {o : Oper} {a : Act} {w : World} {K : Act → World → Prop} {Q : Exit → Act → World → Prop} {f : FuncId} {args : Array Value} (h : (execOp a.eval o).run P w = .ok (.enter f args) w)
    (hk : Calls P f args w fun
      | .returned v, w' => K (a.put o.dst v) w'
      | .panicked c, w' => Q (.panic c) a w'
      | .outgrown, _ => LetsOut Q) : o.wp P a w K Q := by
  unfold Oper.wp
  rw [h]
  exact hk
section
variable (ρ : Operand → Value) (w : World) (dst : Option Tmp) (x : Operand) (ty : TypeId) (pos : String) (after : Array Edge)
theorem x_move (v : Value) (hx : ρ x = v) : (execOp ρ { dst := dst, op := .move x, type := ty, pos := pos, after := after, guard := none }).run Tryz.prog w = .ok (.value v) w := by
  unfold execOp; simp only [hx]; go_simp
theorem x_nil (a : Addr) (hx : ρ x = .pointer (some a)) : (execOp ρ { dst := dst, op := .nilCheck x, type := ty, pos := pos, after := after, guard := none }).run Tryz.prog w = .ok (.value (.pointer (some a))) w := by
  unfold execOp; simp only [hx]; go_simp
theorem x_kids (g : Nat) (hx : ρ x = .pointer (some ⟨g, 0, none⟩)) : (execOp ρ { dst := dst, op := .fieldAddr 28 x 6, type := ty, pos := pos, after := after, guard := none }).run Tryz.prog w = .ok (.value (.pointer (some ⟨g, 6, none⟩))) w := by
  unfold execOp; simp only [hx]; go_simp
theorem x_reader (g : Nat) (hx : ρ x = .pointer (some ⟨g, 0, none⟩)) : (execOp ρ { dst := dst, op := .fieldAddr 53 x 0, type := ty, pos := pos, after := after, guard := none }).run Tryz.prog w = .ok (.value (.pointer (some ⟨g, 0, none⟩))) w := by
  unfold execOp; simp only [hx]; go_simp
theorem x_loadS (g i : Nat) (v : Value) (hx : ρ x = .pointer (some ⟨g, i, none⟩)) (hc : w.cell? ⟨g, i, none⟩ = some v) : (execOp ρ { dst := dst, op := .load 26 x, type := ty, pos := pos, after := after, guard := none }).run Tryz.prog w = .ok (.value v) w := by
  unfold execOp; simp only [hx]; go_simp
theorem x_one (v0 v1 v2 v3 v4 v5 : Value) (A : Option Addr) (n c : Nat) (hx : ρ x = .agg #[v0, v1, v2, v3, v4, v5, .slice A n c]) : (execOp ρ { dst := dst, op := .buildSlice 26 1 #[(0, x)], type := ty, pos := pos, after := after, guard := none }).run Tryz.prog w = .ok (.value (.slice (some ⟨w.heap.size, 0, none⟩) 1 1)) (w.alloc (.cells #[v0, v1, v2, v3, v4, v5, .slice A n c] 28)) := by
  unfold execOp; simp only [List.map_toArray, List.map_cons, List.map_nil, hx]; go_simp
theorem x_storeS {Q : Exit → Act → World → Prop} {K : Act → World → Prop} (a : Act) (y : Operand) (g i : Nat) (v : Value) (A : Option Addr) (m c : Nat) (hx : a.eval x = .pointer (some ⟨g, i, none⟩)) (hy : a.eval y = .slice A m c) (hc : w.cell? ⟨g, i, none⟩ = some v) (hf : w.frozen? ⟨g, i, none⟩ = false) (hk : K (a.put none undef) (w.setCell ⟨g, i, none⟩ (.slice A m c))) : ({ dst := none, op := .store 26 x y, type := ty, pos := pos, after := after, guard := none } : Oper).wp Tryz.prog a w K Q := by
  have : (execOp a.eval { dst := none, op := .store 26 x y, type := ty, pos := pos, after := after, guard := none }).run Tryz.prog w = .ok .skip (w.setCell ⟨g, i, none⟩ (.slice A m c)) := by
    unfold execOp; simp only [hx, hy]; go_simp
  unfold Oper.wp
  rw [this]
  exact hk
theorem x_fn (k : Nat) (a : Addr) (hx : ρ x = .pointer (some a)) : (execOp ρ { dst := dst, op := .makeFunc (Fn.func k) #[x] #[], type := ty, pos := pos, after := after, guard := none }).run Tryz.prog w = .ok (.value (.func (Fn.func k) #[.pointer (some a)] #[])) w := by
  have h : (#[x].map ρ) = #[.pointer (some a)] := by simp [hx]
  have h2 : (#[].map ρ) = #[] := by simp
  unfold execOp; simp only [h, h2]; rfl
theorem x_len (A : Option Addr) (n c : Nat) (t : TypeId) (hx : ρ x = .slice A n c) : (execOp ρ { dst := dst, op := .call { callee := .builtin .len, args := #[x], argTypes := #[26] }, type := ty, pos := pos, after := after, guard := none }).run Tryz.prog w = .ok (.value (.int .i64 n)) w := by
  unfold execOp; go_simp
theorem x_idx (g n c i : Nat) (y : Operand) (hx : ρ x = .slice (some ⟨g, 0, none⟩) n c) (hy : ρ y = .int .i64 i) (hi : i < n) : (execOp ρ { dst := dst, op := .indexAddr 26 x y, type := ty, pos := pos, after := after, guard := none }).run Tryz.prog w = .ok (.value (.pointer (some ⟨g, i * 7, none⟩))) w := by
  have h0 : (0 : Int) ≤ (i : Int) := by omega
  have h1 : (i : Int) < (n : Int) := by omega
  unfold execOp; simp only [hx, hy]; go_simp
end

/-- Each operation of the first m that another one waits for. -/
def dep (ops : Array Oper) (i j : Nat) : Bool := match ops[i]? with
  | some o => o.after.any fun e => e.on == j && Region.binds .any e
  | none => false
theorem dep_on {ops : Array Oper} {i j : Nat} {o : Oper} (h : dep ops i j = true) (ho : ops[i]? = some o) : ∃ e ∈ o.after, e.on = j ∧ Region.binds .any e = true := by
  unfold dep at h
  rw [ho] at h
  simp only at h
  rw [Array.any_eq_true] at h
  obtain ⟨k, hk, he⟩ := h
  simp at he
  exact ⟨o.after[k], Array.getElem_mem hk, he.1, he.2⟩
def noput (ops : Array Oper) (t : Nat) : Bool := ops.all fun o => o.dst != some t
theorem noput_all {ops : Array Oper} {t : Nat} (h : noput ops t = true) : ∀ o' ∈ ops, o'.dst ≠ some t := by
  intro o ho
  have := (Array.all_eq_true_iff_forall_mem.1 h) o ho
  simpa using this
/-- Kids that keep clear of block h. -/
def KidX (w : World) (lo h : Nat) (v : Value) (ks : List Tr) : Prop :=
  v.ownBlock ≠ some h ∧ ∃ xs, w.ownsRow lo 28 7 v ks.length xs ∧ Reps w (fun g => lo ≤ g ∧ v.ownBlock ≠ some g ∧ g ≠ h) ks xs
section
variable {w w' : World} {lo h : Nat} {v : Value} {ks : List Tr}
theorem KidX.kid (k : KidX w lo h v ks) : Kid w lo v ks := by
  obtain ⟨_, xs, h1, h2⟩ := k
  exact ⟨xs, h1, Reps.keep (fun _ _ _ => rfl) (Nat.le_refl _) (fun g _ hg => ⟨hg.1, hg.2.1⟩) _ _ h2⟩
theorem Kid.x (k : Kid w lo v ks) (hh : h < lo) : KidX w lo h v ks := by
  refine ⟨fun e => ?_, ?_⟩
  · have := (k.own e).1; omega
  · obtain ⟨xs, h1, h2⟩ := k
    exact ⟨xs, h1, Reps.keep (fun _ _ _ => rfl) (Nat.le_refl _) (fun g _ hg => ⟨hg.1, hg.2, by have := hg.1; omega⟩) _ _ h2⟩
theorem Kid.fresh (k : Kid w lo v ks) (hh : h = w.heap.size) (o : Obj) : KidX (w.alloc o) lo h v ks := by
  refine ⟨fun e => ?_, ?_⟩
  · have := (k.own e).2; omega
  · obtain ⟨xs, h1, h2⟩ := k
    exact ⟨xs, h1.alloc o, Reps.keep (fun g _ hg => Below.heap_alloc w o g hg) (by simp) (fun g hlt hg => ⟨hg.1, hg.2, by omega⟩) _ _ h2⟩
theorem KidX.own (k : KidX w lo h v ks) {g : Nat} (hg : v.ownBlock = some g) : lo ≤ g ∧ g < w.heap.size ∧ g ≠ h := by
  obtain ⟨h1, h2⟩ := k.kid.own hg
  exact ⟨h1, h2, fun e => k.1 (by rw [hg, e])⟩
theorem KidX.gr {S : Nat → Prop} (k : KidX w lo h v ks) (hg : Gr S w w') (hS : ∀ g, lo ≤ g → g ≠ h → g < w.heap.size → ¬ S g) : KidX w' lo h v ks := by
  have ho := fun g (e : v.ownBlock = some g) => k.own e
  obtain ⟨h0, xs, h1, h2⟩ := k
  exact ⟨h0, xs, own_keep h1 fun g hv hlt => hg.block g hlt (hS g (ho g hv).1 (ho g hv).2.2 hlt), h2.gr hg (fun g h1 h2 => hS g h1.1 h1.2.2 h2) (fun g _ h => h)⟩
theorem KidX.alloc (k : KidX w lo h v ks) (o : Obj) : KidX (w.alloc o) lo h v ks := k.gr ((Gr.refl w (S := fun _ => False)).alloc o) (fun _ _ _ _ h => h)
theorem KidX.drew (k : KidX w lo h v ks) : KidX w.drew lo h v ks := k.gr ((Gr.refl w (S := fun _ => False)).drew) (fun _ _ _ _ h => h)
theorem KidX.setCell (k : KidX w lo h v ks) {p : Addr} (hp : p.block < lo ∨ p.block = h) (u : Value) : KidX (w.setCell p u) lo h v ks :=
  k.gr ((Gr.refl w (S := fun q => q = p.block)).setCell (.inr rfl) u) (fun g h1 h2 _ h3 => by rcases hp with hp | hp <;> omega)
theorem KidX.call {b : Nat} (k : KidX w lo h v ks) (hg : Gr (· = b) w w') (hb : b < lo) : KidX w' lo h v ks := k.gr hg fun g h1 _ _ h2 => by have : g = b := h2; omega
theorem KidX.bel (k : KidX w lo h v ks) (hb : Below w.heap.size w w') : KidX w' lo h v ks := k.gr (Gr.of_below hb (S := fun _ => False)) (fun _ _ _ _ h => h)
theorem KidX.mono {lo' : Nat} (k : KidX w lo h v ks) (hl : lo' ≤ lo) : KidX w lo' h v ks := by
  obtain ⟨h0, xs, h1, h2⟩ := k
  exact ⟨h0, xs, own_mono h1 hl, Reps.keep (fun _ _ _ => rfl) (Nat.le_refl _) (fun g _ hg => ⟨Nat.le_trans hl hg.1, hg.2⟩) _ _ h2⟩
/-- What is appended to kids keeps clear of h too. -/
theorem KidX.app {us : List Tr} {v' : Value} {xs news : List Value} (h0 : v.ownBlock ≠ some h) (h1 : w.ownsRow lo 28 7 v ks.length xs) (h2 : Reps w (fun g => lo ≤ g ∧ v.ownBlock ≠ some g ∧ g ≠ h) ks xs) (h3 : Reps w (fun g => lo ≤ g ∧ v.ownBlock ≠ some g ∧ g ≠ h) us news)
    (h4 : w'.ownsRow lo 28 7 v' (ks.length + us.length) (xs ++ news)) (h5 : w.grownBy w' v.ownBlock) (h6 : v'.ownBlock = v.ownBlock ∨ v'.ownBlock = some w.heap.size) (hh : h < w.heap.size) : KidX w' lo h v' (ks ++ us) := by
  refine ⟨?_, xs ++ news, by rw [List.length_append]; exact h4, Reps.keep (fun g hg hlt => h5.block g hlt (Ne.symm hg.2.1)) h5.size (fun g hlt hg => ⟨hg.1, ?_, hg.2.2⟩) _ _ (Reps.append h2 h3)⟩
  · rcases h6 with h6 | h6
    · rw [h6]; exact h0
    · rw [h6]; simp only [ne_eq, Option.some.injEq]; omega
  · rcases h6 with h6 | h6
    · rw [h6]; exact hg.2.1
    · rw [h6]; simp only [ne_eq, Option.some.injEq]; omega
end
/-- Kids that keep clear of all blocks of X. -/
def KidP (w : World) (lo : Nat) (X : Nat → Prop) (v : Value) (ks : List Tr) : Prop :=
  (∀ q, v.ownBlock = some q → ¬ X q) ∧ ∃ xs, w.ownsRow lo 28 7 v ks.length xs ∧ Reps w (fun g => lo ≤ g ∧ v.ownBlock ≠ some g ∧ ¬ X g) ks xs
section
variable {w w' : World} {lo : Nat} {X : Nat → Prop} {v : Value} {ks : List Tr}
theorem KidX.p {h : Nat} (k : KidX w lo h v ks) : KidP w lo (· = h) v ks := ⟨fun q e hq => k.1 (by rw [e]; exact congrArg some hq), k.2⟩
theorem KidP.x {h : Nat} (k : KidP w lo X v ks) (hh : X h) : KidX w lo h v ks := by
  obtain ⟨h0, xs, h1, h2⟩ := k
  exact ⟨fun e => h0 h e hh, xs, h1, Reps.keep (fun _ _ _ => rfl) (Nat.le_refl _) (fun g _ hg => ⟨hg.1, hg.2.1, fun e => hg.2.2 (e ▸ hh)⟩) _ _ h2⟩
theorem KidP.kid (k : KidP w lo X v ks) : Kid w lo v ks := by
  obtain ⟨_, xs, h1, h2⟩ := k
  exact ⟨xs, h1, Reps.keep (fun _ _ _ => rfl) (Nat.le_refl _) (fun g _ hg => ⟨hg.1, hg.2.1⟩) _ _ h2⟩
theorem Kid.p (k : Kid w lo v ks) (hX : ∀ q, X q → q < lo ∨ w.heap.size ≤ q) : KidP w lo X v ks := by
  refine ⟨fun q e hq => ?_, ?_⟩
  · have := k.own e
    have := hX q hq
    omega
  · obtain ⟨xs, h1, h2⟩ := k
    exact ⟨xs, h1, Reps.keep (fun _ _ _ => rfl) (Nat.le_refl _) (fun g hlt hg => ⟨hg.1, hg.2, fun hq => by have := hX g hq; have := hg.1; omega⟩) _ _ h2⟩
theorem KidP.sub {Y : Nat → Prop} (k : KidP w lo X v ks) (hY : ∀ q, Y q → q < w.heap.size → X q) : KidP w lo Y v ks := by
  have ho := fun g (e : v.ownBlock = some g) => (k.kid).own e
  obtain ⟨h0, xs, h1, h2⟩ := k
  exact ⟨fun q e hq => h0 q e (hY q hq (ho q e).2), xs, h1, Reps.keep (fun _ _ _ => rfl) (Nat.le_refl _) (fun g hlt hg => ⟨hg.1, hg.2.1, fun hq => hg.2.2 (hY g hq hlt)⟩) _ _ h2⟩
theorem KidP.or {z : Nat} (k : KidP w lo X v ks) (hz : w.heap.size ≤ z) : KidP w lo (fun q => X q ∨ q = z) v ks := by
  have ho := fun g (e : v.ownBlock = some g) => (k.kid).own e
  obtain ⟨h0, xs, h1, h2⟩ := k
  exact ⟨fun q e hq => hq.elim (h0 q e) (fun h => by have := (ho q e).2; omega), xs, h1, Reps.keep (fun _ _ _ => rfl) (Nat.le_refl _) (fun g hlt hg => ⟨hg.1, hg.2.1, fun hq => hq.elim hg.2.2 (fun h => by omega)⟩) _ _ h2⟩
theorem KidP.own (k : KidP w lo X v ks) {g : Nat} (hg : v.ownBlock = some g) : lo ≤ g ∧ g < w.heap.size ∧ ¬ X g := by
  obtain ⟨h1, h2⟩ := k.kid.own hg
  exact ⟨h1, h2, k.1 g hg⟩
theorem KidP.gr {S : Nat → Prop} (k : KidP w lo X v ks) (hg : Gr S w w') (hS : ∀ g, lo ≤ g → ¬ X g → g < w.heap.size → ¬ S g) : KidP w' lo X v ks := by
  have ho := fun g (e : v.ownBlock = some g) => k.own e
  obtain ⟨h0, xs, h1, h2⟩ := k
  exact ⟨h0, xs, own_keep h1 fun g hv hlt => hg.block g hlt (hS g (ho g hv).1 (ho g hv).2.2 hlt), h2.gr hg (fun g h1 h2 => hS g h1.1 h1.2.2 h2) (fun g _ h => h)⟩
theorem KidP.alloc (k : KidP w lo X v ks) (o : Obj) : KidP (w.alloc o) lo X v ks := k.gr ((Gr.refl w (S := fun _ => False)).alloc o) (fun _ _ _ _ h => h)
theorem KidP.drew (k : KidP w lo X v ks) : KidP w.drew lo X v ks := k.gr ((Gr.refl w (S := fun _ => False)).drew) (fun _ _ _ _ h => h)
theorem KidP.setCell (k : KidP w lo X v ks) {p : Addr} (hp : p.block < lo ∨ X p.block) (u : Value) : KidP (w.setCell p u) lo X v ks :=
  k.gr (Gr.setCell (S := fun q => q = p.block) (p := p) (Gr.refl w) (.inr rfl) u) (fun g h1 h2 _ h3 => by
    have h3 : g = p.block := h3
    rcases hp with hp | hp
    · omega
    · exact h2 (h3 ▸ hp))
theorem KidP.call {b : Nat} (k : KidP w lo X v ks) (hg : Gr (· = b) w w') (hb : b < lo) : KidP w' lo X v ks := k.gr hg fun g h1 _ _ h2 => by have : g = b := h2; omega
theorem KidP.bel (k : KidP w lo X v ks) (hb : Below w.heap.size w w') : KidP w' lo X v ks := k.gr (Gr.of_below hb (S := fun _ => False)) (fun _ _ _ _ h => h)
theorem KidP.app {us : List Tr} {v' : Value} {xs news : List Value} (h0 : ∀ q, v.ownBlock = some q → ¬ X q) (h1 : w.ownsRow lo 28 7 v ks.length xs) (h2 : Reps w (fun g => lo ≤ g ∧ v.ownBlock ≠ some g ∧ ¬ X g) ks xs) (h3 : Reps w (fun g => lo ≤ g ∧ v.ownBlock ≠ some g ∧ ¬ X g) us news)
    (h4 : w'.ownsRow lo 28 7 v' (ks.length + us.length) (xs ++ news)) (h5 : w.grownBy w' v.ownBlock) (h6 : v'.ownBlock = v.ownBlock ∨ v'.ownBlock = some w.heap.size) (hX : ∀ q, X q → q < w.heap.size) : KidP w' lo X v' (ks ++ us) := by
  refine ⟨?_, xs ++ news, by rw [List.length_append]; exact h4, Reps.keep (fun g hg hlt => h5.block g hlt (Ne.symm hg.2.1)) h5.size (fun g hlt hg => ⟨hg.1, ?_, hg.2.2⟩) _ _ (Reps.append h2 h3)⟩
  · intro q e hq
    rcases h6 with h6 | h6
    · rw [h6] at e; exact h0 q e hq
    · rw [h6] at e
      injection e with e
      have := hX q hq
      omega
  · rcases h6 with h6 | h6
    · rw [h6]; exact hg.2.1
    · rw [h6]; simp only [ne_eq, Option.some.injEq]; omega
end
/-- What such a region writes of what was there before: the parser's block, and the slice's own. -/
def WX (b : Nat) (v : Value) (k : Nat) : Prop := k = b ∨ v.ownBlock = some k
/-- The same, more roughly: blocks from lo on. -/
def Wr (b lo h : Nat) (k : Nat) : Prop := k = b ∨ (lo ≤ k ∧ k ≠ h)
theorem some_bnd {x : R} {g : Tr → List T → R} {r : R} (h : bnd x g = r) (hr : r ≠ .out) : x ≠ .out := by rintro rfl; exact hr (by rw [← h]; rfl)
/-- A call that tells a node (D: what holds of it behind the call), or panics (B). -/
def Tells (b : Nat) (w : World) (B : List PanicEntry → Prop) (D : Tr → World → Prop) (e : Ending) (w' : World) : Prop :=
  Gr (· = b) w w' ∧ ((∃ c, B c ∧ e = .panicked c) ∨ ∃ (k op n : Int) (p t : List UInt8) (a : Nat) (ks : List Tr) (A : Option Addr) (c : Nat),
    e = .returned (.agg #[.int .i64 k, .int .i64 op, .int .i64 n, .string (bs p), .string (bs t), .int .i64 a, .slice A ks.length c]) ∧ Kid w' w.heap.size (.slice A ks.length c) ks ∧ D (.mk k op n p t a ks) w')
/-- What is not touched by writes into blocks from lo on. -/
def Calm (lo : Nat) (D : World → Prop) : Prop := ∀ w w', D w → Gr (fun k => lo ≤ k) w w' → D w'
theorem Calm.alloc {lo : Nat} {D : World → Prop} (h : Calm lo D) {w : World} (hd : D w) (o : Obj) : D (w.alloc o) := h _ _ hd ((Gr.refl w).alloc o)
theorem Calm.drew {lo : Nat} {D : World → Prop} (h : Calm lo D) {w : World} (hd : D w) : D w.drew := h _ _ hd ((Gr.refl w).drew)
/-- What holds while region A is done. -/
structure JA (b : Nat) (w0 : World) (h : Nat) (X : Nat → Prop) (lo : Nat) (vp : Value) (v : Value) (ks0 : List Tr) (D : Tr → World → Prop) (L : Nat → Bool) (vals : Nat → Value) (w : World) : Prop where
  v0 : L 0 = true → vals 0 = .pointer (some ⟨h, 6, none⟩)
  v1 : L 1 = true → vals 1 = v
  v2 : L 2 = true → vals 2 = vp
  d4 : L 4 = true → L 3 = true
  d5 : L 5 = true → L 4 = true
  gr : Gr (WX b v) w0 w
  q0 : L 3 = false → w = w0.drew
  q1 : L 5 = false → Gr (· = b) w0 w
  p1 : L 3 = true → L 4 = false → ∃ (k op n : Int) (p t : List UInt8) (a : Nat) (ks : List Tr) (A : Option Addr) (c : Nat), vals 3 = .agg #[.int .i64 k, .int .i64 op, .int .i64 n, .string (bs p), .string (bs t), .int .i64 a, .slice A ks.length c] ∧ Kid w w0.heap.size (.slice A ks.length c) ks ∧ D (.mk k op n p t a ks) w
  p2 : L 4 = true → L 5 = false → ∃ g t, vals 4 = .slice (some ⟨g, 0, none⟩) 1 1 ∧ Kid w w0.heap.size (.slice (some ⟨g, 0, none⟩) 1 1) [t] ∧ D t w
  p3 : L 5 = true → ∃ A c t, vals 5 = .slice A (ks0.length + 1) c ∧ (∀ q, (Value.slice A (ks0.length + 1) c).ownBlock = some q → v.ownBlock = some q ∨ w0.heap.size ≤ q) ∧ KidX w lo h (.slice A (ks0.length + 1) c) (ks0 ++ [t]) ∧ KidP w lo X (.slice A (ks0.length + 1) c) (ks0 ++ [t]) ∧ D t w
theorem six {i : Nat} (h : i < 6) : i = 0 ∨ i = 1 ∨ i = 2 ∨ i = 3 ∨ i = 4 ∨ i = 5 := by omega
theorem own_same {w : World} {b b' n size : Nat} {e : TypeId} {v : Value} {xs ys : List Value} (h1 : w.ownsRow b e size v n xs) (h2 : w.ownsRow b' e size v n ys) : xs = ys := by
  have l1 := h1.1
  have l2 := h2.1
  by_cases hn : 0 < n
  · obtain ⟨g, cap, hv, _, _⟩ := h1.form hn
    subst hv
    apply List.ext_getElem?
    intro j
    cases hx : xs[j]? with
    | none =>
      have := List.getElem?_eq_none_iff.1 hx
      exact (List.getElem?_eq_none_iff.2 (by omega)).symm
    | some u =>
      have hj := (List.getElem?_eq_some_iff.1 hx).1
      have hy : ys[j]? = some ys[j] := List.getElem?_eq_getElem (by omega)
      have c1 := h1.cells (g := g) rfl j u hx
      have c2 := h2.cells (g := g) rfl j _ hy
      rw [c1] at c2
      injection c2 with c2
      rw [hy, ← c2]
  · obtain rfl : n = 0 := by omega
    rw [Nat.zero_mul] at l1 l2
    rw [List.eq_nil_of_length_eq_zero l1, List.eq_nil_of_length_eq_zero l2]
set_option maxRecDepth 100000 in
theorem kid_push {w : World} {lo N h : Nat} {X : Nat → Prop} {v : Value} {ks0 : List Tr} {g : Nat} {t : Tr} (hK : KidX w lo h v ks0) (hKz : KidP w lo X v ks0) (hzN : ∀ q, X q → q < N) (hzw : ∀ q, X q → q < w.heap.size) (hv : ∀ q, v.ownBlock = some q → q < N) (hN : Kid w N (.slice (some ⟨g, 0, none⟩) 1 1) [t]) (hlo : lo ≤ N) (hhN : h < N) (hlen : ks0.length ≤ 3 * LIM) (hsz : lo ≤ w.heap.size) (hhw : h < w.heap.size)
    {o : Oper} {a : Act} {K : Act → World → Prop} {Q : Exit → Act → World → Prop} (s x : Operand)
    (ho : o.op = .call { callee := .builtin .append, args := #[s, x], argTypes := #[26, 26] }) (hs : a.eval s = v) (hx : a.eval x = .slice (some ⟨g, 0, none⟩) 1 1)
    (hk : ∀ A c w', (∀ q, (Value.slice A (ks0.length + 1) c).ownBlock = some q → v.ownBlock = some q ∨ w.heap.size ≤ q) → KidX w' lo h (.slice A (ks0.length + 1) c) (ks0 ++ [t]) → KidP w' lo X (.slice A (ks0.length + 1) c) (ks0 ++ [t]) → Gr (fun k => v.ownBlock = some k) w w' → K (a.put o.dst (.slice A (ks0.length + 1) c)) w') : o.wp Tryz.prog a w K Q := by
  obtain ⟨i0, hi0, hz0, hz1, hz2⟩ := info_parts node_info
  obtain ⟨h0, xs, h1, h2⟩ := hK
  obtain ⟨h0z, xsz, h1z, h2z⟩ := hKz
  have exz : xs = xsz := own_same h1 h1z
  subst exz
  obtain ⟨ys, k1, k2⟩ := hN
  have hrd := Reads.of_own k1
  have h3 : Reps w (fun q => lo ≤ q ∧ v.ownBlock ≠ some q ∧ q ≠ h) [t] ys := Reps.keep (fun _ _ _ => rfl) (Nat.le_refl _) (fun q _ hq => ⟨by omega, (fun e => by have := hv q e; omega), by omega⟩) _ _ k2
  unfold LIM at hlen
  refine wp_append_any w s x _ ho lo 28 i0 _ 7 88 Tryz.underlying26 hi0 hz0 hz1 hz2 rfl (by omega) v ks0.length xs hs h1 _ _ 1 1 ys hx hrd k2.one (by simp only [maxLen]; omega) (by omega) hsz ?_
  intro v' w' g1 g2 g3
  obtain ⟨A, c, rfl⟩ := own_shape g1
  have h3z : Reps w (fun q => lo ≤ q ∧ v.ownBlock ≠ some q ∧ ¬ X q) [t] ys := Reps.keep (fun _ _ _ => rfl) (Nat.le_refl _) (fun q _ hq => ⟨by omega, (fun e => by have := hv q e; omega), fun e => by have := hzN q e; omega⟩) _ _ k2
  refine hk A c w' (fun q hq => ?_) ?_ (KidP.app (us := [t]) h0z h1 h2z h3z g1 g2 g3 hzw) (Gr.of_grown g2 fun q hq _ => hq)
  · rcases g3 with g3 | g3
    · exact .inl (g3 ▸ hq)
    · rw [g3] at hq
      injection hq with hq
      exact .inr (by omega)
  have := KidX.app (us := [t]) h0 h1 h2 h3 g1 g2 g3 hhw
  exact this

set_option maxRecDepth 100000 in
theorem region_A2 {id : Nat} {a0 : Act} {w0 : World} {Q : Exit → Act → World → Prop} {ops : Array Oper} {d0 d1 d2 d3 d4 d5 d6 tx tp : Nat} {c3 : Call} {y0 y1 y2 y3 y4 y5 y6 y7 : TypeId} {p0 p1 p2 p3 p4 p5 p6 p7 : String} {af0 af1 af2 af3 af4 af5 af6 af7 : Array Edge}
    (b lo h : Nat) (X : Nat → Prop) (vp : Value) (n : Nat) (v : Value) (ks0 : List Tr) (f : FuncId) (argv : Array Value) (B : List PanicEntry → Prop) (D : Tr → World → Prop)
    (hops : ops = #[
      { dst := some d0, op := .fieldAddr 28 (.tmp tx) 6, type := y0, pos := p0, after := af0, guard := none },
      { dst := some d1, op := .load 26 (.tmp d0), type := y1, pos := p1, after := af1, guard := none },
      { dst := some d2, op := .move (.tmp tp), type := y2, pos := p2, after := af2, guard := none },
      { dst := some d3, op := .call c3, type := y3, pos := p3, after := af3, guard := none },
      { dst := some d4, op := .buildSlice 26 1 #[(0, .tmp d3)], type := y4, pos := p4, after := af4, guard := none },
      { dst := some d5, op := .call { callee := .builtin .append, args := #[.tmp d1, .tmp d4], argTypes := #[26, 26] }, type := y5, pos := p5, after := af5, guard := none },
      { dst := some d6, op := .fieldAddr 28 (.tmp tx) 6, type := y6, pos := p6, after := af6, guard := none },
      { dst := none, op := .store 26 (.tmp d6) (.tmp d5), type := y7, pos := p7, after := af7, guard := none }])
    (hB : preB ops 6 = true) (hn : a0.tmps.size = n) (hin : inB ops 7 n = true) (hnx : noput ops tx = true) (hnp : noput ops tp = true) (hd65 : d6 ≠ d5)
    (e10 : dep ops 1 0 = true) (e32 : dep ops 3 2 = true) (e43 : dep ops 4 3 = true) (e51 : dep ops 5 1 = true) (e54 : dep ops 5 4 = true)
    (hr6 : Region.ready .any ops (preL 6 8) = [6]) (hr7 : Region.ready .any ops ((preL 6 8).setIfInBounds 6 true) = [7]) (hr8 : Region.ready .any ops (((preL 6 8).setIfInBounds 6 true).setIfInBounds 7 true) = [])
    (hrun : ∀ (a : Act) (w : World), a.eval (.tmp d2) = vp → (execOp a.eval { dst := some d3, op := .call c3, type := y3, pos := p3, after := af3, guard := none }).run Tryz.prog w = .ok (.enter f argv) w)
    (htx : a0.eval (.tmp tx) = .pointer (some ⟨h, 0, none⟩)) (htp : a0.eval (.tmp tp) = vp) (hK : KidX w0 lo h v ks0) (hKz : KidP w0 lo X v ks0) (hzl : ∀ q, X q → q < w0.heap.size) (hc : w0.cell? ⟨h, 6, none⟩ = some v) (hf : w0.frozen? ⟨h, 6, none⟩ = false)
    (hbl : b < lo) (hhl : h < w0.heap.size) (hlo : lo ≤ w0.heap.size) (hne : h ≠ b) (hlen : ks0.length ≤ 3 * LIM)
    (hD : ∀ t, Calm w0.heap.size (D t)) (hD2 : ∀ t, Calm lo (D t))
    (hcall : Calls Tryz.prog f argv w0.drew (Tells b w0.drew B D))
    (hbad : ∀ (a : Act) (w' : World) (c : List PanicEntry), a.defers = a0.defers → B c → Gr (· = b) w0 w' → Q (.panic c) a w')
    (hnext : ∀ (vals : Nat → Value) (w' : World) (A : Option Addr) (c : Nat) (t : Tr), D t w' → KidX w' lo h (.slice A (ks0.length + 1) c) (ks0 ++ [t]) → KidP w' lo X (.slice A (ks0.length + 1) c) (ks0 ++ [t]) → Gr (Wr b lo h) w0 w' → Gr (WX b v) w0 w' → (∀ q, (Value.slice A (ks0.length + 1) c).ownBlock = some q → v.ownBlock = some q ∨ w0.heap.size ≤ q) →
      Q .normal ((((((((a0.put (some d0) (vals 0)).put (some d1) (vals 1)).put (some d2) (vals 2)).put (some d3) (vals 3)).put (some d4) (vals 4)).put (some d5) (vals 5)).put (some d6) (vals 6)).put none undef) (w'.setCell ⟨h, 6, none⟩ (.slice A (ks0.length + 1) c))) :
    (Code.region id ops true).wp Tryz.prog Q a0 w0 := by
  have hin6 : inB ops 6 n = true := by
    unfold inB at hin ⊢
    rw [List.all_eq_true] at hin ⊢
    intro o ho
    exact hin o (List.mem_of_mem_take (i := 6) (by simpa [List.take_take] using ho))
  have nx := noput_all hnx
  have np := noput_all hnp
  subst hops
  have hSz : ∀ g, lo ≤ g → ¬ X g → g < w0.heap.size → ¬ g = b := fun g h1 _ _ h2 => by omega
  have hS : ∀ g, lo ≤ g → g ≠ h → g < w0.heap.size → ¬ g = b := fun g h1 _ _ h2 => by omega
  refine wp_region_J 6 (by kernel_rfl) hB (JA b w0 h X lo vp v ks0 D) ?_ ?_ n hn hin6 ?_ ?_
  · intro L L' vals w hL j
    have e0 := hL 0 (by omega); have e1 := hL 1 (by omega); have e2 := hL 2 (by omega); have e3 := hL 3 (by omega); have e4 := hL 4 (by omega); have e5 := hL 5 (by omega)
    exact ⟨e0 ▸ j.v0, e1 ▸ j.v1, e2 ▸ j.v2, e3 ▸ e4 ▸ j.d4, e4 ▸ e5 ▸ j.d5, j.gr, e3 ▸ j.q0, e5 ▸ j.q1, e3 ▸ e4 ▸ j.p1, e4 ▸ e5 ▸ j.p2, e5 ▸ j.p3⟩
  · intro vals
    exact ⟨nofun, nofun, nofun, nofun, nofun, (Gr.refl _).drew, fun _ => rfl, fun _ => (Gr.refl _).drew, nofun, nofun, nofun⟩
  · intro i o ho hi a w L vals j hLi had hun hev hdep K hK2
    rcases six hi with rfl | rfl | rfl | rfl | rfl | rfl
    · obtain rfl := Option.some.inj ho
      refine op_val (x_kids _ _ _ _ _ _ _ h ((hun tx nx).trans htx)) (hK2 _ _ ?_)
      exact ⟨fun _ => rfl, j.v1, j.v2, j.d4, j.d5, j.gr, j.q0, j.q1, j.p1, j.p2, j.p3⟩
    · obtain rfl := Option.some.inj ho
      obtain ⟨e, he, hon, hb⟩ := dep_on e10 rfl
      have l0 : L 0 = true := by have := hdep e he hb; rwa [hon] at this
      have hcw : w.cell? ⟨h, 6, none⟩ = some v := (j.gr.cell (p := ⟨h, 6, none⟩) (by show h < _; omega) (by unfold WX; exact fun he => he.elim hne hK.1)).trans hc
      refine op_val (x_loadS _ _ _ _ _ _ _ h 6 v ((hev 0 _ _ (by omega) rfl rfl l0).trans (j.v0 l0)) hcw) (hK2 _ _ ?_)
      exact ⟨j.v0, fun _ => rfl, j.v2, j.d4, j.d5, j.gr, j.q0, j.q1, j.p1, j.p2, j.p3⟩
    · obtain rfl := Option.some.inj ho
      refine op_val (x_move _ _ _ _ _ _ _ _ ((hun tp np).trans htp)) (hK2 _ _ ?_)
      exact ⟨j.v0, j.v1, fun _ => rfl, j.d4, j.d5, j.gr, j.q0, j.q1, j.p1, j.p2, j.p3⟩
    · obtain rfl := Option.some.inj ho
      obtain ⟨e, he, hon, hb⟩ := dep_on e32 rfl
      have l2 : L 2 = true := by have := hdep e he hb; rwa [hon] at this
      have l4 : L 4 = false := by
        cases h4 : L 4 with
        | false => rfl
        | true => have := j.d4 h4; rw [hLi] at this; cases this
      have l5 : L 5 = false := by
        cases h5 : L 5 with
        | false => rfl
        | true => have := j.d5 h5; rw [l4] at this; cases this
      obtain rfl := j.q0 hLi
      refine op_call (hrun a _ ((hev 2 _ _ (by omega) rfl rfl l2).trans (j.v2 l2))) (hcall.mono ?_)
      rintro e w1 ⟨hg, ⟨c, hbc, rfl⟩ | ⟨k, op, nn, p, t, aa, ks, A, c, rfl, hk1, hd1⟩⟩
      · exact hbad a w1 c had hbc (Gr.trans (Gr.refl w0).drew hg)
      · have g1 : Gr (· = b) w0 w1 := Gr.trans (Gr.refl w0).drew hg
        refine hK2 _ _ ⟨j.v0, j.v1, j.v2, fun _ => rfl, j.d5, g1.mono fun k _ hk => .inl hk, nofun, fun _ => g1, fun _ _ => ⟨k, op, nn, p, t, aa, ks, A, c, rfl, hk1, hd1⟩, fun h4 => ?_, fun h5 => ?_⟩
        · rw [show upd L 3 true 4 = L 4 from rfl, l4] at h4; cases h4
        · rw [show upd L 3 true 5 = L 5 from rfl, l5] at h5; cases h5
    · obtain rfl := Option.some.inj ho
      obtain ⟨e, he, hon, hb⟩ := dep_on e43 rfl
      have l3 : L 3 = true := by have := hdep e he hb; rwa [hon] at this
      have l5 : L 5 = false := by
        cases h5 : L 5 with
        | false => rfl
        | true => have := j.d5 h5; rw [hLi] at this; cases this
      obtain ⟨k, op, nn, p, t, aa, ks, A, c, hv3, hk1, hd1⟩ := j.p1 l3 hLi
      have hs1 := j.gr.size
      refine op_val (x_one _ _ _ _ _ _ _ _ _ _ _ _ _ A ks.length c ((hev 3 _ _ (by omega) rfl rfl l3).trans hv3)) (hK2 _ _ ?_)
      have hk2 := Kid.lit (n := 1) (Reps.single (hk1.rep k op nn p t aa)) hs1 (by simp [maxLen]) rfl
      refine ⟨j.v0, j.v1, j.v2, fun _ => l3, fun _ => rfl, j.gr.alloc _, fun h3 => ?_, fun _ => (j.q1 l5).alloc _, nofun, fun _ _ => ⟨_, _, rfl, hk2, (hD _).alloc hd1 _⟩, fun h5 => ?_⟩
      · rw [show upd L 4 true 3 = L 3 from rfl, l3] at h3; cases h3
      · rw [show upd L 4 true 5 = L 5 from rfl, l5] at h5; cases h5
    · obtain rfl := Option.some.inj ho
      obtain ⟨e, he, hon, hb⟩ := dep_on e51 rfl
      have l1 : L 1 = true := by have := hdep e he hb; rwa [hon] at this
      obtain ⟨e, he, hon, hb⟩ := dep_on e54 rfl
      have l4 : L 4 = true := by have := hdep e he hb; rwa [hon] at this
      have l3 := j.d4 l4
      obtain ⟨g, t, hv4, hk1, hd1⟩ := j.p2 l4 hLi
      have g1 := j.q1 hLi
      have hK1 := hK.gr g1 hS
      refine kid_push hK1 (hKz.gr g1 hSz) hzl (fun q hq => by have := g1.size; have := hzl q hq; omega) (fun q hq => (hK.own hq).2.1) hk1 hlo hhl hlen (by have := g1.size; omega) (by have := g1.size; omega) _ _ rfl ((hev 1 _ _ (by omega) rfl rfl l1).trans (j.v1 l1)) ((hev 4 _ _ (by omega) rfl rfl l4).trans hv4) ?_
      intro A c w' ho2 hk2 hkz2 hg2
      refine hK2 _ _ ⟨j.v0, j.v1, j.v2, fun _ => l3, fun _ => l4, (g1.mono fun k _ hk => Or.inl hk).trans (hg2.mono fun k _ hk => Or.inr hk), fun h3 => ?_, nofun, fun _ h4 => ?_, nofun, fun _ => ⟨A, c, t, rfl, fun q hq => (ho2 q hq).imp (fun h => h) fun h => Nat.le_trans g1.size h, hk2, hkz2, hD2 _ _ _ hd1 (hg2.mono fun k _ hk => (hK.own hk).1)⟩⟩
      · rw [show upd L 5 true 3 = L 3 from rfl, l3] at h3; cases h3
      · rw [show upd L 5 true 4 = L 4 from rfl, l4] at h4; cases h4
  · intro vals w a ha had hun hev hsz j
    obtain ⟨A, c, t, hv5, ho1, hk1, hkz1, hd1⟩ := j.p3 rfl
    have hfw : w.frozen? ⟨h, 6, none⟩ = false := (World.frozen?_of_block (a := ⟨h, 6, none⟩) (j.gr.block h (by omega) (by unfold WX; exact fun he => he.elim hne hK.1))).trans hf
    have hcw : w.cell? ⟨h, 6, none⟩ = some v := (j.gr.cell (p := ⟨h, 6, none⟩) (by show h < _; omega) (by unfold WX; exact fun he => he.elim hne hK.1)).trans hc
    have hd6 : d6 < a.tmps.size := by rw [hsz]; exact inB_lt hin 6 _ _ (by omega) rfl rfl
    refine wpAny_step (i := 6) hr6 rfl rfl (op_val (x_kids _ _ _ _ _ _ _ h ((hun tx nx).trans htx)) ?_)
    refine wpAny_step (i := 7) hr7 rfl rfl ?_
    have t6 : (a.put (some d6) (.pointer (some ⟨h, 6, none⟩))).eval (.tmp d6) = .pointer (some ⟨h, 6, none⟩) := eval_put_self _ _ _ hd6
    have t5 : (a.put (some d6) (.pointer (some ⟨h, 6, none⟩))).eval (.tmp d5) = .slice A (ks0.length + 1) c := (eval_put_ne _ _ _ _ (by simpa using hd65)).trans ((hev 5 _ _ (by omega) rfl rfl).trans hv5)
    refine x_storeS _ _ _ _ _ _ _ h 6 v _ _ _ t6 t5 hcw hfw ?_
    refine wpAny_end hr8 ?_
    have := hnext (upd vals 6 (.pointer (some ⟨h, 6, none⟩))) w A c t hd1 hk1 hkz1 (j.gr.mono fun k _ hk => hk.elim .inl fun e => .inr ⟨(hK.own e).1, (hK.own e).2.2⟩) j.gr ho1
    rw [ha]
    exact this
set_option maxRecDepth 100000 in
theorem region_A {id : Nat} {a0 : Act} {w0 : World} {Q : Exit → Act → World → Prop} {ops : Array Oper} {d0 d1 d2 d3 d4 d5 d6 tx tp : Nat} {c3 : Call} {y0 y1 y2 y3 y4 y5 y6 y7 : TypeId} {p0 p1 p2 p3 p4 p5 p6 p7 : String} {af0 af1 af2 af3 af4 af5 af6 af7 : Array Edge}
    (b lo h n : Nat) (v : Value) (ks0 : List Tr) (f : FuncId) (argv : Array Value) (B : List PanicEntry → Prop) (D : Tr → World → Prop)
    (hops : ops = #[
      { dst := some d0, op := .fieldAddr 28 (.tmp tx) 6, type := y0, pos := p0, after := af0, guard := none },
      { dst := some d1, op := .load 26 (.tmp d0), type := y1, pos := p1, after := af1, guard := none },
      { dst := some d2, op := .move (.tmp tp), type := y2, pos := p2, after := af2, guard := none },
      { dst := some d3, op := .call c3, type := y3, pos := p3, after := af3, guard := none },
      { dst := some d4, op := .buildSlice 26 1 #[(0, .tmp d3)], type := y4, pos := p4, after := af4, guard := none },
      { dst := some d5, op := .call { callee := .builtin .append, args := #[.tmp d1, .tmp d4], argTypes := #[26, 26] }, type := y5, pos := p5, after := af5, guard := none },
      { dst := some d6, op := .fieldAddr 28 (.tmp tx) 6, type := y6, pos := p6, after := af6, guard := none },
      { dst := none, op := .store 26 (.tmp d6) (.tmp d5), type := y7, pos := p7, after := af7, guard := none }])
    (hB : preB ops 6 = true) (hn : a0.tmps.size = n) (hin : inB ops 7 n = true) (hnx : noput ops tx = true) (hnp : noput ops tp = true) (hd65 : d6 ≠ d5)
    (e10 : dep ops 1 0 = true) (e32 : dep ops 3 2 = true) (e43 : dep ops 4 3 = true) (e51 : dep ops 5 1 = true) (e54 : dep ops 5 4 = true)
    (hr6 : Region.ready .any ops (preL 6 8) = [6]) (hr7 : Region.ready .any ops ((preL 6 8).setIfInBounds 6 true) = [7]) (hr8 : Region.ready .any ops (((preL 6 8).setIfInBounds 6 true).setIfInBounds 7 true) = [])
    (hrun : ∀ (a : Act) (w : World), a.eval (.tmp d2) = .pointer (some ⟨b, 0, none⟩) → (execOp a.eval { dst := some d3, op := .call c3, type := y3, pos := p3, after := af3, guard := none }).run Tryz.prog w = .ok (.enter f argv) w)
    (htx : a0.eval (.tmp tx) = .pointer (some ⟨h, 0, none⟩)) (htp : a0.eval (.tmp tp) = .pointer (some ⟨b, 0, none⟩)) (hK : KidX w0 lo h v ks0) (hc : w0.cell? ⟨h, 6, none⟩ = some v) (hf : w0.frozen? ⟨h, 6, none⟩ = false)
    (hbl : b < lo) (hhl : h < w0.heap.size) (hlo : lo ≤ w0.heap.size) (hne : h ≠ b) (hlen : ks0.length ≤ 3 * LIM)
    (hD : ∀ t, Calm w0.heap.size (D t)) (hD2 : ∀ t, Calm lo (D t))
    (hcall : Calls Tryz.prog f argv w0.drew (Tells b w0.drew B D))
    (hbad : ∀ (a : Act) (w' : World) (c : List PanicEntry), a.defers = a0.defers → B c → Gr (· = b) w0 w' → Q (.panic c) a w')
    (hnext : ∀ (vals : Nat → Value) (w' : World) (A : Option Addr) (c : Nat) (t : Tr), D t w' → KidX w' lo h (.slice A (ks0.length + 1) c) (ks0 ++ [t]) → Gr (Wr b lo h) w0 w' → Gr (WX b v) w0 w' → (∀ q, (Value.slice A (ks0.length + 1) c).ownBlock = some q → v.ownBlock = some q ∨ w0.heap.size ≤ q) →
      Q .normal ((((((((a0.put (some d0) (vals 0)).put (some d1) (vals 1)).put (some d2) (vals 2)).put (some d3) (vals 3)).put (some d4) (vals 4)).put (some d5) (vals 5)).put (some d6) (vals 6)).put none undef) (w'.setCell ⟨h, 6, none⟩ (.slice A (ks0.length + 1) c))) :
    (Code.region id ops true).wp Tryz.prog Q a0 w0 :=
  region_A2 b lo h (· = h) (.pointer (some ⟨b, 0, none⟩)) n v ks0 f argv B D hops hB hn hin hnx hnp hd65 e10 e32 e43 e51 e54 hr6 hr7 hr8 hrun htx htp hK hK.p (fun q hq => by have : q = h := hq; omega) hc hf hbl hhl hlo hne hlen hD hD2 hcall hbad fun vals w' A c t h1 h2 _ h3 h4 h5 => hnext vals w' A c t h1 h2 h3 h4 h5
end Go.Proofs.YtihnnbeepfgphaaGreatDoor
