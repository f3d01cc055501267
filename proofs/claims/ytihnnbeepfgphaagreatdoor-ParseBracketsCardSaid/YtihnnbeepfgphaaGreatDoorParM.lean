/-
  Trees, tokens and a parser's block in memory.
-/
import Derived.Test.YtihnnbeepfgphaaGreatDoorParA
import Derived.Test.YtihnnbeepfgphaaGreatDoorLexP5
import Derived.Test.YtihnnbeepfgphaaGreatDoorPReg
namespace Go.Proofs.YtihnnbeepfgphaaGreatDoor
open Go.RowKit
set_option linter.unusedVariables false
set_option linter.unusedSimpArgs false

/-! ## Worlds that differ in new blocks and in the blocks of S. -/
structure Gr (S : Nat → Prop) (w w' : World) : Prop where
  os : w'.os = w.os
  tape : w'.tape = w.tape
  output : w'.output = w.output
  size : w.heap.size ≤ w'.heap.size
  block : ∀ k, k < w.heap.size → ¬ S k → w'.heap[k]? = w.heap[k]?

section
variable {S S' : Nat → Prop} {w w' w'' : World}
theorem Gr.refl (w : World) : Gr S w w := ⟨rfl, rfl, rfl, Nat.le_refl _, fun _ _ _ => rfl⟩
theorem Gr.trans (h : Gr S w w') (k : Gr S w' w'') : Gr S w w'' :=
  ⟨k.os.trans h.os, k.tape.trans h.tape, k.output.trans h.output, Nat.le_trans h.size k.size, fun n hn hs => (k.block n (Nat.lt_of_lt_of_le hn h.size) hs).trans (h.block n hn hs)⟩
theorem Gr.mono (h : Gr S w w') (hs : ∀ k, k < w.heap.size → S k → S' k) : Gr S' w w' := ⟨h.os, h.tape, h.output, h.size, fun k hk hn => h.block k hk fun h' => hn (hs k hk h')⟩
theorem Gr.alloc (h : Gr S w w') (o : Obj) : Gr S w (w'.alloc o) :=
  ⟨h.os, h.tape, h.output, Nat.le_trans h.size (by simp), fun k hk hs => (Below.heap_alloc w' o k (Nat.lt_of_lt_of_le hk h.size)).trans (h.block k hk hs)⟩
theorem Gr.setCell (h : Gr S w w') {p : Addr} (hp : w.heap.size ≤ p.block ∨ S p.block) (v : Value) : Gr S w (w'.setCell p v) :=
  ⟨h.os, h.tape, h.output, by rw [show (w'.setCell p v).heap.size = w'.heap.size by simp]; exact h.size, fun k hk hs => (Below.heap_setCell w' p v k (by
    rintro rfl
    rcases hp with hp | hp
    · omega
    · exact hs hp)).trans (h.block k hk hs)⟩
theorem Gr.drew (h : Gr S w w') : Gr S w w'.drew := ⟨h.os, h.tape, h.output, h.size, h.block⟩
theorem Gr.of_below (h : Below w.heap.size w w') : Gr S w w' := ⟨h.os, h.tape, h.output, h.size, fun k hk _ => h.block k hk⟩
theorem Gr.below (h : Gr S w w') (hs : ∀ k, k < w.heap.size → ¬ S k) : Below w.heap.size w w' := ⟨h.os, h.tape, h.output, h.size, fun k hk => h.block k hk (hs k hk)⟩
theorem Gr.of_grown {row : Option Nat} (h : w.grownBy w' row) (hs : ∀ k, row = some k → k < w.heap.size → S k) : Gr S w w' :=
  ⟨h.os, h.tape, h.output, h.size, fun k hk hn => h.block k hk (fun e => hn (hs k e.symm hk))⟩
theorem Gr.blk {g : Nat} {t : TypeId} {cs : Array Value} (h : Gr S w w') (hb : Blk w g t cs) (hs : ¬ S g) : Blk w' g t cs := (h.block g hb.lt hs).trans hb
theorem Gr.cell (h : Gr S w w') {p : Addr} (hp : p.block < w.heap.size) (hs : ¬ S p.block) : w'.cell? p = w.cell? p := World.cell?_of_block (h.block p.block hp hs)
/-- Written blocks that were not there yet when the story began. -/
theorem Gr.wide (h : Gr S w w') (k : Gr S' w' w'') (hs : ∀ n, n < w.heap.size → S' n → S n) : Gr S w w'' :=
  ⟨k.os.trans h.os, k.tape.trans h.tape, k.output.trans h.output, Nat.le_trans h.size k.size, fun n hn hS => (k.block n (Nat.lt_of_lt_of_le hn h.size) (fun h' => hS (hs n hn h'))).trans (h.block n hn hS)⟩
end

/-! ## Trees. -/
def ndC (k op n : Int) (p t : List UInt8) (a : Nat) (v : Value) : List Value := [.int .i64 k, .int .i64 op, .int .i64 n, .string (bs p), .string (bs t), .int .i64 a, v]
def Row (w : World) (F : Nat → Prop) (A : Option Addr) (n : Nat) (xs : List Value) : Prop :=
  xs.length = n * 7 ∧ (0 < n → ∃ g, A = some ⟨g, 0, none⟩ ∧ F g ∧ g < w.heap.size ∧ (∀ j u, xs[j]? = some u → w.cell? ⟨g, j, none⟩ = some u) ∧ ∀ i, w.frozen? ⟨g, i, none⟩ = false)
mutual
/-- The seven cells vs are a tree, all of whose blocks are F's. -/
def Rep (w : World) (F : Nat → Prop) : Tr → List Value → Prop
  | .mk k op n p t a ks, vs => ∃ A c xs, vs = ndC k op n p t a (.slice A ks.length c) ∧ Row w F A ks.length xs ∧ Reps w F ks xs
def Reps (w : World) (F : Nat → Prop) : List Tr → List Value → Prop
  | [], xs => xs = []
  | t :: r, xs => ∃ h q, xs = h ++ q ∧ Rep w F t h ∧ Reps w F r q
end
section
variable {w w' : World} {F F' : Nat → Prop}
theorem Row.keep {A : Option Addr} {n : Nat} {xs : List Value} (h : Row w F A n xs) (hk : ∀ g, F g → g < w.heap.size → w'.heap[g]? = w.heap[g]?) (hs : w.heap.size ≤ w'.heap.size) (hF : ∀ g, g < w.heap.size → F g → F' g) : Row w' F' A n xs :=
  ⟨h.1, fun hn => by
    obtain ⟨g, e, h1, h2, h3, h4⟩ := h.2 hn
    exact ⟨g, e, hF g h2 h1, by omega, fun j u hu => (World.cell?_of_block (hk g h1 h2)).trans (h3 j u hu), fun i => (World.frozen?_of_block (a := ⟨g, i, none⟩) (hk g h1 h2)).trans (h4 i)⟩⟩
mutual
theorem Rep.keep (hk : ∀ g, F g → g < w.heap.size → w'.heap[g]? = w.heap[g]?) (hs : w.heap.size ≤ w'.heap.size) (hF : ∀ g, g < w.heap.size → F g → F' g) : ∀ (t : Tr) (vs : List Value), Rep w F t vs → Rep w' F' t vs
  | .mk k op n p t a ks, vs, h => by
    simp only [Rep] at h ⊢
    obtain ⟨A, c, xs, h1, h2, h3⟩ := h
    exact ⟨A, c, xs, h1, h2.keep hk hs hF, Reps.keep hk hs hF ks xs h3⟩
theorem Reps.keep (hk : ∀ g, F g → g < w.heap.size → w'.heap[g]? = w.heap[g]?) (hs : w.heap.size ≤ w'.heap.size) (hF : ∀ g, g < w.heap.size → F g → F' g) : ∀ (ts : List Tr) (xs : List Value), Reps w F ts xs → Reps w' F' ts xs
  | [], xs, h => by simpa only [Reps] using h
  | t :: r, xs, h => by
    simp only [Reps] at h ⊢
    obtain ⟨a, q, h1, h2, h3⟩ := h
    exact ⟨a, q, h1, Rep.keep hk hs hF t a h2, Reps.keep hk hs hF r q h3⟩
end
theorem Rep.gr {S : Nat → Prop} {t : Tr} {vs : List Value} (h : Rep w F t vs) (hg : Gr S w w') (hS : ∀ g, F g → g < w.heap.size → ¬ S g) (hF : ∀ g, g < w.heap.size → F g → F' g) : Rep w' F' t vs :=
  Rep.keep (fun g h1 h2 => hg.block g h2 (hS g h1 h2)) hg.size hF t vs h
theorem Reps.gr {S : Nat → Prop} {ts : List Tr} {xs : List Value} (h : Reps w F ts xs) (hg : Gr S w w') (hS : ∀ g, F g → g < w.heap.size → ¬ S g) (hF : ∀ g, g < w.heap.size → F g → F' g) : Reps w' F' ts xs :=
  Reps.keep (fun g h1 h2 => hg.block g h2 (hS g h1 h2)) hg.size hF ts xs h
theorem Rep.length : ∀ {t : Tr} {vs : List Value}, Rep w F t vs → vs.length = 7
  | .mk .., vs, h => by
    simp only [Rep] at h
    obtain ⟨A, c, xs, rfl, _⟩ := h
    rfl
theorem Rep.one : ∀ {t : Tr} {vs : List Value}, Rep w F t vs → ∀ u ∈ vs, u.oneCell' = true
  | .mk .., vs, h, u, hu => by
    simp only [Rep] at h
    obtain ⟨A, c, xs, rfl, _⟩ := h
    simp only [ndC, List.mem_cons, List.not_mem_nil, or_false] at hu
    rcases hu with rfl | rfl | rfl | rfl | rfl | rfl | rfl <;> rfl
theorem Reps.length : ∀ {ts : List Tr} {xs : List Value}, Reps w F ts xs → xs.length = ts.length * 7
  | [], xs, h => by simp only [Reps] at h; subst h; rfl
  | t :: r, xs, h => by
    simp only [Reps] at h
    obtain ⟨a, q, rfl, h2, h3⟩ := h
    have := Reps.length h3
    have := h2.length
    simp only [List.length_append, List.length_cons]; omega
theorem Reps.one : ∀ {ts : List Tr} {xs : List Value}, Reps w F ts xs → ∀ u ∈ xs, u.oneCell' = true
  | [], xs, h, u, hu => by simp only [Reps] at h; subst h; cases hu
  | t :: r, xs, h, u, hu => by
    simp only [Reps] at h
    obtain ⟨a, q, rfl, h2, h3⟩ := h
    rcases List.mem_append.1 hu with hu | hu
    · exact h2.one u hu
    · exact Reps.one h3 u hu
theorem Reps.append : ∀ {ts us : List Tr} {xs ys : List Value}, Reps w F ts xs → Reps w F us ys → Reps w F (ts ++ us) (xs ++ ys)
  | [], us, xs, ys, h, k => by simp only [Reps] at h; subst h; exact k
  | t :: r, us, xs, ys, h, k => by
    simp only [Reps] at h
    obtain ⟨a, q, rfl, h2, h3⟩ := h
    simp only [List.cons_append, Reps]
    exact ⟨a, q ++ ys, by rw [List.append_assoc], h2, Reps.append h3 k⟩
theorem Reps.single {t : Tr} {vs : List Value} (h : Rep w F t vs) : Reps w F [t] vs := by
  simp only [Reps]; exact ⟨vs, [], by simp, h, rfl⟩
theorem Rep.shape {t : Tr} {vs : List Value} (h : Rep w F t vs) : ∃ k op n : Int, ∃ p tx : List UInt8, ∃ a m c : Nat, ∃ A, vs = ndC k op n p tx a (.slice A m c) := by
  cases t
  simp only [Rep] at h
  obtain ⟨A, c, xs, rfl, _⟩ := h
  exact ⟨_, _, _, _, _, _, _, _, _, rfl⟩
end

/-- Blocks from lo on. -/
def Fp (lo : Nat) (g : Nat) : Prop := lo ≤ g
/-- A slice that the call itself owns: the trees ks, none of whose blocks is the slice's own. -/
def Kid (w : World) (lo : Nat) (v : Value) (ks : List Tr) : Prop :=
  ∃ xs, w.ownsRow lo 28 7 v ks.length xs ∧ Reps w (fun g => lo ≤ g ∧ v.ownBlock ≠ some g) ks xs
section
variable {w w' : World} {lo : Nat}
theorem Kid.nil (w : World) (lo c : Nat) : Kid w lo (.slice none 0 0) [] := ⟨[], World.ownsRow_nil _ _ _ 7, by simp only [Reps]⟩
theorem Kid.shape {v : Value} {ks : List Tr} (h : Kid w lo v ks) : ∃ A c, v = .slice A ks.length c := by
  obtain ⟨xs, h1, h2⟩ := h
  exact own_shape h1
theorem Kid.own {v : Value} {ks : List Tr} (h : Kid w lo v ks) {g : Nat} (hg : v.ownBlock = some g) : lo ≤ g ∧ g < w.heap.size := by
  obtain ⟨xs, h1, h2⟩ := h
  have := h1.lt g hg
  exact ⟨this.1, this.2⟩
theorem Kid.rep {v : Value} {ks : List Tr} (h : Kid w lo v ks) (k op n : Int) (p t : List UInt8) (a : Nat) : Rep w (Fp lo) (.mk k op n p t a ks) (ndC k op n p t a v) := by
  obtain ⟨xs, h1, h2⟩ := h
  obtain ⟨A, c, rfl⟩ := own_shape h1
  simp only [Rep]
  refine ⟨A, c, xs, rfl, ⟨h1.1, fun hn => ?_⟩, Reps.keep (fun _ _ _ => rfl) (Nat.le_refl _) (fun g _ hg => hg.1) _ _ h2⟩
  obtain ⟨g, cap, hv, hg, hlt⟩ := h1.form hn
  have hA : A = some ⟨g, 0, none⟩ := by injection hv
  subst hA
  refine ⟨g, rfl, (h1.lt g rfl).1, hlt, fun j u hu => ?_, fun i => h1.frozenAt i⟩
  have := h1.cells (g := g) rfl j u hu
  rw [← this]
  congr 1
  unfold Addr.add
  by_cases hj : j = 0 <;> simp [hj]
theorem own_keep {base size n : Nat} {e : TypeId} {v : Value} {xs : List Value} (h : w.ownsRow base e size v n xs) (hk : ∀ g, v.ownBlock = some g → g < w.heap.size → w'.heap[g]? = w.heap[g]?) : w'.ownsRow base e size v n xs := by
  refine ⟨h.1, ?_⟩
  rcases h.2 with h2 | ⟨g, cap, cur, rfl, hg, hh, r⟩
  · exact .inl h2
  · exact .inr ⟨g, cap, cur, rfl, hg, (hk g rfl (Array.getElem?_eq_some_iff.1 hh).1).trans hh, r⟩
theorem Kid.gr {S : Nat → Prop} {v : Value} {ks : List Tr} (h : Kid w lo v ks) (hg : Gr S w w') (hS : ∀ g, lo ≤ g → g < w.heap.size → ¬ S g) : Kid w' lo v ks := by
  obtain ⟨xs, h1, h2⟩ := h
  exact ⟨xs, own_keep h1 fun g hv hlt => hg.block g hlt (hS g (h1.lt g hv).1 hlt), h2.gr hg (fun g h1 h2 => hS g h1.1 h2) (fun g _ h => h)⟩
theorem Kid.mono {lo' : Nat} {v : Value} {ks : List Tr} (h : Kid w lo v ks) (hl : lo' ≤ lo) : Kid w lo' v ks := by
  obtain ⟨xs, h1, h2⟩ := h
  exact ⟨xs, own_mono h1 hl, Reps.keep (fun _ _ _ => rfl) (Nat.le_refl _) (fun g _ hg => ⟨Nat.le_trans hl hg.1, hg.2⟩) _ _ h2⟩
theorem Kid.alloc {v : Value} {ks : List Tr} (h : Kid w lo v ks) (o : Obj) : Kid (w.alloc o) lo v ks := h.gr ((Gr.refl w (S := fun _ => False)).alloc o) (fun _ _ _ h => h)
theorem Kid.drew {v : Value} {ks : List Tr} (h : Kid w lo v ks) : Kid w.drew lo v ks := h.gr ((Gr.refl w (S := fun _ => False)).drew) (fun _ _ _ h => h)
theorem Kid.setCell {v : Value} {ks : List Tr} (h : Kid w lo v ks) {p : Addr} (hp : p.block < lo) (u : Value) : Kid (w.setCell p u) lo v ks :=
  h.gr ((Gr.refl w (S := fun k => k = p.block)).setCell (.inr rfl) u) (fun g h1 _ h2 => by omega)
/-- A literal slice. -/
theorem Kid.lit {ks : List Tr} {cs : Array Value} (h : Reps w (Fp lo) ks cs.toList) (hl : lo ≤ w.heap.size) (hm : ks.length ≤ maxLen) {n : Nat} (hn : ks.length = n) : Kid (w.alloc (.cells cs 28)) lo (.slice (some ⟨w.heap.size, 0, none⟩) n n) ks := by
  have hc : cs.size = ks.length * 7 := by have := Reps.length h; simpa using this
  subst hn
  refine ⟨cs.toList, World.ownsRow_lit w cs _ hl hm hc, Reps.keep (fun g _ hg => Below.heap_alloc w _ g hg) (by simp) (fun g hlt hg => ⟨hg, ?_⟩) _ _ h⟩
  simp only [Value.ownBlock, ne_eq, Option.some.injEq]
  omega
/-- Trees that are appended. -/
theorem Kid.app {v v' : Value} {ks us : List Tr} {xs news : List Value} (h : w.ownsRow lo 28 7 v ks.length xs) (h2 : Reps w (fun g => lo ≤ g ∧ v.ownBlock ≠ some g) ks xs) (h3 : Reps w (fun g => lo ≤ g ∧ v.ownBlock ≠ some g) us news)
    (h4 : w'.ownsRow lo 28 7 v' (ks.length + us.length) (xs ++ news)) (h5 : w.grownBy w' v.ownBlock) (h6 : v'.ownBlock = v.ownBlock ∨ v'.ownBlock = some w.heap.size) : Kid w' lo v' (ks ++ us) := by
  refine ⟨xs ++ news, by rw [List.length_append]; exact h4, Reps.keep (fun g hg hlt => h5.block g hlt (Ne.symm hg.2)) h5.size (fun g hlt hg => ⟨hg.1, ?_⟩) _ _ (Reps.append h2 h3)⟩
  rcases h6 with h6 | h6
  · rw [h6]; exact hg.2
  · rw [h6]; simp only [ne_eq, Option.some.injEq]; omega
end

/-! ## A parser: its block, its tokens. -/
structure Env where
  b : Nat
  g : Nat
  c : Nat
  ts : List T
theorem Toks.gr {S : Nat → Prop} {w w' : World} {g : Nat} {ts : List T} (h : Toks w g ts) (hg : Gr S w w') (hS : ¬ S g) : Toks w' g ts :=
  ⟨Nat.lt_of_lt_of_le h.lt hg.size, fun j x hx => by
    obtain ⟨h0, h1, h2, h3⟩ := h.cell j x hx
    exact ⟨(hg.cell h.lt hS).trans h0, (hg.cell h.lt hS).trans h1, (hg.cell h.lt hS).trans h2, (hg.cell h.lt hS).trans h3⟩⟩
def psC (E : Env) (l : List T) (o : Nat) : Array Value := #[.slice (some ⟨E.g, 0, none⟩) E.ts.length E.c, .int .i64 ((E.ts.length - l.length : Nat) : Int), .int .i64 (o : Int)]
theorem good_cons (x : T) (r : List T) : good (x :: r) = if x.1.k = 0 then r = [] ∧ x.1.t = [] ∧ x.1.n = 0 else good r := rfl
structure PS (E : Env) (w : World) (l : List T) (o : Nat) : Prop where
  blk : Blk w E.b 53 (psC E l o)
  toks : Toks w E.g E.ts
  ne : E.g ≠ E.b
  good : good l
  suf : l <:+ E.ts
  deep : o ≤ 40
  len : E.ts.length ≤ 8193
  nums : ∀ x ∈ E.ts, 0 ≤ x.1.n ∧ x.1.n ≤ 9223372036854775807
section
variable {E : Env} {w w' : World} {l : List T} {o : Nat}
theorem PS.lt (h : PS E w l o) : E.b < w.heap.size := h.blk.lt
theorem PS.gr {S : Nat → Prop} (h : PS E w l o) (hg : Gr S w w') (h1 : ¬ S E.b) (h2 : ¬ S E.g) : PS E w' l o :=
  ⟨hg.blk h.blk h1, h.toks.gr hg h2, h.ne, h.good, h.suf, h.deep, h.len, h.nums⟩
theorem PS.below (h : PS E w l o) (hb : Below w.heap.size w w') : PS E w' l o := h.gr (Gr.of_below hb (S := fun _ => False)) id id
theorem PS.alloc (h : PS E w l o) (ob : Obj) : PS E (w.alloc ob) l o := h.gr ((Gr.refl w (S := fun _ => False)).alloc ob) id id
theorem PS.drew (h : PS E w l o) : PS E w.drew l o := h.gr ((Gr.refl w (S := fun _ => False)).drew) id id
theorem PS.setCell (h : PS E w l o) {p : Addr} (h1 : p.block ≠ E.b) (h2 : p.block ≠ E.g) (u : Value) : PS E (w.setCell p u) l o :=
  h.gr ((Gr.refl w (S := fun k => k = p.block)).setCell (.inr rfl) u) (fun h => h1 h.symm) (fun h => h2 h.symm)
theorem PS.num {x : T} {r : List T} (h : PS E w (x :: r) o) : 0 ≤ x.1.n ∧ x.1.n ≤ 9223372036854775807 := h.nums x (h.suf.subset (by simp))
/-- The token at hand. -/
theorem PS.cons (h : PS E w l o) : ∃ x r, l = x :: r := by
  cases l with
  | nil => exact absurd h.good id
  | cons x r => exact ⟨x, r, rfl⟩
theorem PS.here {x : T} {r : List T} (h : PS E w (x :: r) o) : E.ts[E.ts.length - (r.length + 1)]? = some x := by
  obtain ⟨p, hp⟩ := h.suf
  rw [← hp]
  simp
theorem PS.taken {x : T} {r : List T} (h : PS E w (x :: r) o) (hx : x.1.k ≠ 0) (v : Value) (hv : v = .int .i64 ((E.ts.length - r.length : Nat) : Int)) : PS E (w.setCell ⟨E.b, 1, none⟩ v) r o := by
  refine ⟨?_, h.toks.gr ((Gr.refl w (S := fun k => k = E.b)).setCell (.inr rfl) v) h.ne, h.ne, ?_, (List.suffix_cons x r).trans h.suf, h.deep, h.len, h.nums⟩
  · have := h.blk.set_ 1 v
    subst hv
    exact this
  · have := h.good
    rw [good_cons, if_neg hx] at this
    exact this
theorem PS.opened {o' : Nat} (h : PS E w l o) (ho : o' ≤ 40) (v : Value) (hv : v = .int .i64 (o' : Int)) : PS E (w.setCell ⟨E.b, 2, none⟩ v) l o' := by
  refine ⟨?_, h.toks.gr ((Gr.refl w (S := fun k => k = E.b)).setCell (.inr rfl) v) h.ne, h.ne, h.good, h.suf, ho, h.len, h.nums⟩
  have := h.blk.set_ 2 v
  subst hv
  exact this
theorem mark_cons (x : T) (r : List T) : mark (x :: r) = if x.1.k = 2 ∨ x.1.k = 5 then x.1.t else [] := rfl
theorem kind_cons (x : T) (r : List T) : kind (x :: r) = x.1.k := rfl
theorem good_mark {x : T} {r : List T} (h : good (x :: r)) (hm : mark (x :: r) ≠ []) : x.1.k ≠ 0 := by
  intro h0
  rw [mark_cons, h0] at hm
  simp at hm
end
abbrev tokA (x : T) : Value := .agg #[.int .i64 x.1.k, .string (bs x.1.t), .int .i64 x.1.n, .int .i64 x.2]
/-- How a parser gives up. -/
def gaveUp (a : Nat) (k : Int) : Ending := .panicked [{ v := .iface 48 (.agg #[.int .i64 a, .int .i64 k]), recovered := false }]

/-! ## What is left to be done, behind each part. -/
theorem bnd_ok (t : Tr) (l : List T) (f : Tr → List T → R) : bnd (.ok t l) f = f t l := rfl
theorem bnd_bad (a : Nat) (k : Int) (f : Tr → List T → R) : bnd (.bad a k) f = .bad a k := rfl
theorem bnd_out (f : Tr → List T → R) : bnd .out f = .out := rfl
theorem bnd_bnd (r : R) (f g : Tr → List T → R) : bnd (bnd r f) g = bnd r fun t l => bnd (f t l) g := by cases r <;> rfl
theorem bnd_takeR (l : List T) (f : T → List T → R) (g : Tr → List T → R) : bnd (takeR l f) g = takeR l fun x r => bnd (f x r) g := by cases l <;> rfl
theorem bnd_refuse (l : List T) (g : Tr → List T → R) : bnd (refuse l) g = refuse l := by cases l <;> rfl
theorem bnd_ite (p : Prop) [Decidable p] (a b : R) (g : Tr → List T → R) : bnd (if p then a else b) g = if p then bnd a g else bnd b g := by split <;> rfl
theorem bnd_want (m : List UInt8) (l : List T) (f : T → List T → R) (g : Tr → List T → R) : bnd (want m l f) g = want m l fun x r => bnd (f x r) g := by unfold want; rw [bnd_ite, bnd_takeR, bnd_refuse]
theorem bnd_wantK (k : Int) (l : List T) (f : T → List T → R) (g : Tr → List T → R) : bnd (wantK k l f) g = wantK k l fun x r => bnd (f x r) g := by unfold wantK; rw [bnd_ite, bnd_takeR, bnd_refuse]
theorem bnd_enter (m : List UInt8) (l : List T) (o : Nat) (f : T → List T → R) (g : Tr → List T → R) : bnd (enter m l o f) g = enter m l o fun x r => bnd (f x r) g := by
  unfold enter; rw [bnd_want]; congr 1; funext x r; rw [bnd_ite]; rfl
theorem bnd_self (r : R) : bnd r R.ok = r := by cases r <;> rfl
theorem grA {S : Nat → Prop} {w w2 : World} (h : Gr S w w2 := by repeat (with_reducible (first | assumption | exact Gr.refl _ | exact Gr.of_below (by assumption) | refine Gr.alloc ?_ _ | refine Gr.drew ?_ | refine Gr.setCell ?_ (by first | exact .inr rfl | (left; simp; done) | (left; simp; omega)) _))) : Gr S w w2 := h
theorem psA {E : Env} {w : World} {l : List T} {o : Nat} (h : PS E w l o := by repeat (with_reducible (first | assumption | refine PS.alloc ?_ _ | refine PS.drew ?_ | refine PS.setCell ?_ (by first | assumption | (simp; omega)) (by first | assumption | (simp; omega)) _))) : PS E w l o := h
end Go.Proofs.YtihnnbeepfgphaaGreatDoor
