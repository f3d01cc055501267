/-
  The contracts of a parser's methods; statements in braces.
-/
import Derived.Test.YtihnnbeepfgphaaGreatDoorParT
import Derived.Deep.LoopGhost
namespace Go.Proofs.YtihnnbeepfgphaaGreatDoor
open Go.RowKit
set_option linter.unusedVariables false
set_option linter.unusedSimpArgs false

/-- A method that reads a part of the grammar, by what is left of it to do. -/
def C0 (n : Nat) (f : FuncId) (nt : NT) : Prop := ∀ (E : Env) (w : World) (l : List T) (o : Nat) (g : Tr → List T → R) (r : R), PS E w l o → bnd (go n nt l o) g = r → r ≠ .out →
  Calls Tryz.prog f #[.pointer (some ⟨E.b, 0, none⟩)] w (NodeP E w w.heap.size o g r)
def C1 (n : Nat) (f : FuncId) (k : Int) (nt : NT) : Prop := ∀ (E : Env) (w : World) (l : List T) (o : Nat) (g : Tr → List T → R) (r : R), PS E w l o → bnd (go n nt l o) g = r → r ≠ .out →
  Calls Tryz.prog f #[.pointer (some ⟨E.b, 0, none⟩), .int .i64 k] w (NodeP E w w.heap.size o g r)
/-- Methods that begin at a word or a sign. -/
def C0m (n : Nat) (f : FuncId) (nt : NT) : Prop := ∀ (E : Env) (w : World) (l : List T) (o : Nat) (g : Tr → List T → R) (r : R), mark l ≠ [] → PS E w l o → bnd (go n nt l o) g = r → r ≠ .out →
  Calls Tryz.prog f #[.pointer (some ⟨E.b, 0, none⟩)] w (NodeP E w w.heap.size o g r)
def C1m (n : Nat) (f : FuncId) (k : Int) (nt : NT) : Prop := ∀ (E : Env) (w : World) (l : List T) (o : Nat) (g : Tr → List T → R) (r : R), mark l ≠ [] → PS E w l o → bnd (go n nt l o) g = r → r ≠ .out →
  Calls Tryz.prog f #[.pointer (some ⟨E.b, 0, none⟩), .int .i64 k] w (NodeP E w w.heap.size o g r)
/-- What a method that is handed a node comes to: the node that is told keeps clear of what that one kept clear of. -/
def NodeX (E : Env) (w : World) (lo : Nat) (X : Nat → Prop) (o : Nat) (f : Tr → List T → R) (r : R) (e : Ending) (w' : World) : Prop :=
  Gr (· = E.b) w w' ∧ ((∃ a k, r = .bad a k ∧ e = (.panicked [{ v := .iface 48 (.agg #[.int .i64 a, .int .i64 k]), recovered := false }])) ∨ ∃ (k op n : Int) (p t : List UInt8) (a : Nat) (ks : List Tr) (A : Option Addr) (c : Nat) (l : List T),
    e = .returned (.agg #[.int .i64 k, .int .i64 op, .int .i64 n, .string (bs p), .string (bs t), .int .i64 a, .slice A ks.length c]) ∧ f (.mk k op n p t a ks) l = r ∧ KidP w' lo X (.slice A ks.length c) ks ∧ ks.length ≤ 3 * LIM ∧ PS E w' l o)
/-- A method that is handed a node. -/
def CT (n : Nat) (f : FuncId) (nt : Tr → NT) : Prop := ∀ (E : Env) (w : World) (l : List T) (o lo : Nat) (X : Nat → Prop) (g : Tr → List T → R) (r : R) (k op m : Int) (p t : List UInt8) (a : Nat) (ks : List Tr) (A : Option Addr) (c : Nat), PS E w l o →
  E.b < lo → E.g < lo → lo ≤ w.heap.size → (∀ q, X q → q < w.heap.size) → KidP w lo X (.slice A ks.length c) ks → bnd (go n (nt (.mk k op m p t a ks)) l o) g = r → r ≠ .out →
  Calls Tryz.prog f #[.pointer (some ⟨E.b, 0, none⟩), .agg #[.int .i64 k, .int .i64 op, .int .i64 m, .string (bs p), .string (bs t), .int .i64 a, .slice A ks.length c]] w (NodeX E w lo X o g r)
/-- A call of what is handed in. -/
def CC (n : Nat) : Prop := ∀ (E : Env) (w : World) (l : List T) (o lo : Nat) (X : Nat → Prop) (g : Tr → List T → R) (r : R) (k op m : Int) (p t : List UInt8) (a : Nat) (ks : List Tr) (A : Option Addr) (c : Nat), PS E w l o →
  E.b < lo → E.g < lo → lo ≤ w.heap.size → (∀ q, X q → q < w.heap.size) → KidP w lo X (.slice A ks.length c) ks → bnd (go n (.call (.mk k op m p t a ks) .expr) l o) g = r → r ≠ .out →
  Calls Tryz.prog 96 #[.pointer (some ⟨E.b, 0, none⟩), .agg #[.int .i64 k, .int .i64 op, .int .i64 m, .string (bs p), .string (bs t), .int .i64 a, .slice A ks.length c], .func (Fn.func 55) #[.pointer (some ⟨E.b, 0, none⟩)] #[]] w (NodeX E w lo X o g r)
/-- The functions that stand for parts. -/
def Pt.fn : Pt → Nat
  | .expr => 55 | .key => 101 | .param => 64 | .typeOf => 69 | .typeVar => 62 | .field => 56 | .sig => 57
def PV (E : Env) (p : Pt) : Value := .func (Fn.func p.fn) #[.pointer (some ⟨E.b, 0, none⟩)] #[]
/-- What a function's head puts into its node. -/
def headK (ks : List Tr) (N : Int) (h : Tr) : List Tr × Int := (ks ++ h.kids, if h.num = 1 then 1 else N)
/-- What a function's head comes to. -/
def HeadP (E : Env) (w : World) (lo h o : Nat) (g : Tr → List T → R) (r : R) (k op m : Int) (pk t : List UInt8) (a : Nat) (ks : List Tr) (e : Ending) (w' : World) : Prop :=
  Gr (fun k => k = E.b ∨ k = h ∨ lo ≤ k) w w' ∧ ((∃ a k, r = .bad a k ∧ e = (.panicked [{ v := .iface 48 (.agg #[.int .i64 a, .int .i64 k]), recovered := false }])) ∨
    ∃ (m2 : Int) (ks2 : List Tr) (A2 : Option Addr) (c2 : Nat) (l' : List T), e = .returned (.tuple #[]) ∧ g (.mk 0 0 m2 [] [] 0 ks2) l' = r ∧ PS E w' l' o ∧ ks2.length ≤ LIM + 1 ∧
      Kid w' lo (.slice A2 (ks ++ ks2).length c2) (ks ++ ks2) ∧ Blk w' h 28 #[.int .i64 k, .int .i64 op, .int .i64 (if m2 = 1 then 1 else m), .string (bs pk), .string (bs t), .int .i64 a, .slice A2 (ks ++ ks2).length c2])
def CH (n : Nat) (p : Pt) : Prop := ∀ (E : Env) (w : World) (l : List T) (o lo h : Nat) (g : Tr → List T → R) (r : R) (k op m : Int) (pk t : List UInt8) (a : Nat) (ks : List Tr) (A : Option Addr) (c : Nat) (fv : Value), fv = .func (Fn.func p.fn) #[.pointer (some ⟨E.b, 0, none⟩)] #[] → PS E w l o →
  E.b < lo → E.g < lo → h < lo → h ≠ E.b → h ≠ E.g → lo ≤ w.heap.size → ks.length ≤ LIM → Blk w h 28 #[.int .i64 k, .int .i64 op, .int .i64 m, .string (bs pk), .string (bs t), .int .i64 a, .slice A ks.length c] → Kid w lo (.slice A ks.length c) ks →
  bnd (go n (.head p) l o) g = r → r ≠ .out →
  Calls Tryz.prog 63 #[.pointer (some ⟨E.b, 0, none⟩), .pointer (some ⟨h, 0, none⟩), fv] w (HeadP E w lo h o g r k op m pk t a ks)
def CW (n : Nat) (p : Pt) : Prop := ∀ (E : Env) (w : World) (l : List T) (o : Nat) (a c : List UInt8) (s1 s2 : ByteArray) (g : Tr → List T → R) (r : R) (fv : Value), fv = .func (Fn.func p.fn) #[.pointer (some ⟨E.b, 0, none⟩)] #[] → PS E w l o → s1 = bs a → s2 = bs c → a ≠ [] → c ≠ [] → bnd (go n (.within a c p) l o) g = r → r ≠ .out →
  Calls Tryz.prog 72 #[.pointer (some ⟨E.b, 0, none⟩), .string s1, .string s2, fv] w (ListP E w o g r)
def CL (n : Nat) (p : Pt) : Prop := ∀ (E : Env) (w : World) (l : List T) (o : Nat) (g : Tr → List T → R) (r : R) (fv : Value), fv = .func (Fn.func p.fn) #[.pointer (some ⟨E.b, 0, none⟩)] #[] → PS E w l o → bnd (go n (.list p) l o) g = r → r ≠ .out →
  Calls Tryz.prog 61 #[.pointer (some ⟨E.b, 0, none⟩), fv] w (ListP E w o g r)

structure AllN (n : Nat) : Prop where
  expr : C0 n 55 .expr
  binary : ∀ k : Nat, 1 ≤ k → k ≤ 6 → C1 n 70 k (.binary k)
  unary : C0 n 80 .unary
  newStruct : C0 n 94 .newStruct
  key : C0 n 101 .key
  within : ∀ p, CW n p
  list : ∀ p, CL n p
  call : CC n
  indexed : CT n 97 .indexed
  selected : CT n 98 .selected
  first : C0 n 95 .first
  firstMark : C0 n 103 .firstMark
  inBrackets : C0 n 105 .inBrackets
  literalList : C0 n 106 .literalList
  literalFunc : C0 n 107 .literalFunc
  makeCall : C0m n 108 .makeCall
  block : C0 n 65 .block
  stat : C0 n 74 .stat
  branch : C0 n 82 .branch
  otherwise : C0 n 99 .otherwise
  loop : C0 n 83 .loop
  giveBack : C0 n 85 .giveBack
  define : C0 n 87 .define
  simple : C0 n 88 .simple
  variable_ : C0 n 43 .variable_
  named : ∀ k : Int, C1 n 54 k (.named k)
  param : C0 n 64 .param
  typeOf : C0 n 69 .typeOf
  typeName : C0 n 71 .typeName
  head : ∀ p, CH n p
  decl : C0 n 28 .decl
  constant : C0 n 42 .constant
  declaredType : C0 n 44 .declaredType
  field : C0 n 56 .field
  sig : C0 n 57 .sig
  declaredFunc : C0 n 45 .declaredFunc
  receiver : C0 n 60 .receiver
  typeVar : C0 n 62 .typeVar
  leap : ∀ k : Int, C1m n 84 k (.leap k)
theorem Kid.call {w w' : World} {lo b : Nat} {v : Value} {ks : List Tr} (h : Kid w lo v ks) (hg : Gr (· = b) w w') (hb : b < lo) : Kid w' lo v ks := h.gr hg fun g h1 _ h2 => by have : g = b := h2; omega
theorem Kid.bel {w w' : World} {lo : Nat} {v : Value} {ks : List Tr} (h : Kid w lo v ks) (hb : Below w.heap.size w w') : Kid w' lo v ks := h.gr (Gr.of_below hb (S := fun _ => False)) (fun _ _ _ h => h)
theorem Blk.bel {w w' : World} {g : Nat} {t : TypeId} {cs : Array Value} (h : Blk w g t cs) (hb : Below w.heap.size w w') : Blk w' g t cs := h.below hb h.lt
theorem Blk.call {w w' : World} {g b : Nat} {t : TypeId} {cs : Array Value} (h : Blk w g t cs) (hg : Gr (· = b) w w') (hb : g ≠ b) : Blk w' g t cs := h.gr hg hb
theorem bs_beq2 {l m : List UInt8} {s : ByteArray} (hs : s = bs m) (h : ¬ l = m) : ((bs l).toList == s.toList) = false := by subst hs; exact bs_beq h
theorem bs_beq3 {l m : List UInt8} (h : ¬ l = m) : ((bs l).toList == m) = false := by rw [bs_list2]; simpa using h
theorem wide_b {w w3 w' : World} {b lo hh : Nat} (h : Gr (· = b) w w3) (h4 : Gr (Wr b lo hh) w3 w') (hl : w.heap.size ≤ lo) : Gr (· = b) w w' := h.wide h4 fun n hn hs => by
  rcases hs with hs | hs
  · exact hs
  · omega
theorem Blk.wr {w w' : World} {g b lo hh : Nat} {t : TypeId} {cs : Array Value} (h : Blk w g t cs) (hg : Gr (Wr b lo hh) w w') (h1 : g ≠ b) (h2 : g < lo ∨ g = hh) : Blk w' g t cs := h.gr hg (by unfold Wr; omega)
theorem Blk.set3 {w : World} {g : Nat} {t : TypeId} {u0 u1 u2 u3 u4 u5 u6 : Value} (h : Blk w g t #[u0, u1, u2, u3, u4, u5, u6]) (v : Value) : Blk (w.setCell ⟨g, 3, none⟩ v) g t #[u0, u1, u2, v, u4, u5, u6] := by
  have := h.set_ 3 v
  simpa using this
theorem Blk.set5 {w : World} {g : Nat} {t : TypeId} {u0 u1 u2 u3 u4 u5 u6 : Value} (h : Blk w g t #[u0, u1, u2, u3, u4, u5, u6]) (v : Value) : Blk (w.setCell ⟨g, 5, none⟩ v) g t #[u0, u1, u2, u3, u4, v, u6] := by
  have := h.set_ 5 v
  simpa using this
theorem Blk.set0 {w : World} {g : Nat} {t : TypeId} {u0 u1 u2 u3 u4 u5 u6 : Value} (h : Blk w g t #[u0, u1, u2, u3, u4, u5, u6]) (v : Value) : Blk (w.setCell ⟨g, 0, none⟩ v) g t #[v, u1, u2, u3, u4, u5, u6] := by
  have := h.set_ 0 v
  simpa using this
theorem Blk.new_at {w : World} {g : Nat} {t : TypeId} {cs : Array Value} (h : g = w.heap.size) : Blk (w.alloc (.cells cs t)) g t cs := by subst h; exact Blk.new _ _ _
theorem Kid.lit1 {w : World} {lo : Nat} {k op m : Int} {p t : List UInt8} {a c : Nat} {A : Option Addr} {ks : List Tr} (h : Kid w lo (.slice A ks.length c) ks) (hl : lo ≤ w.heap.size) :
    Kid (w.alloc (.cells #[.int .i64 k, .int .i64 op, .int .i64 m, .string (bs p), .string (bs t), .int .i64 a, .slice A ks.length c] 28)) lo (.slice (some ⟨w.heap.size, 0, none⟩) 1 1) [.mk k op m p t a ks] :=
  Kid.lit (n := 1) (Reps.single (h.rep k op m p t a)) hl (by simp [maxLen]) rfl
theorem Kid.lit2 {w : World} {lo : Nat} {k op m k' op' m' : Int} {p t p' t' : List UInt8} {a c a' c' : Nat} {A A' : Option Addr} {ks ks' : List Tr} (h : Kid w lo (.slice A ks.length c) ks) (h' : Kid w lo (.slice A' ks'.length c') ks') (hl : lo ≤ w.heap.size) :
    Kid (w.alloc (.cells #[.int .i64 k, .int .i64 op, .int .i64 m, .string (bs p), .string (bs t), .int .i64 a, .slice A ks.length c, .int .i64 k', .int .i64 op', .int .i64 m', .string (bs p'), .string (bs t'), .int .i64 a', .slice A' ks'.length c'] 28)) lo (.slice (some ⟨w.heap.size, 0, none⟩) 2 2) [.mk k op m p t a ks, .mk k' op' m' p' t' a' ks'] :=
  Kid.lit (n := 2) (cs := #[.int .i64 k, .int .i64 op, .int .i64 m, .string (bs p), .string (bs t), .int .i64 a, .slice A ks.length c, .int .i64 k', .int .i64 op', .int .i64 m', .string (bs p'), .string (bs t'), .int .i64 a', .slice A' ks'.length c']) (Reps.append (Reps.single (h.rep k op m p t a)) (Reps.single (h'.rep k' op' m' p' t' a'))) hl (by simp [maxLen]) rfl
theorem Blk.set4 {w : World} {g : Nat} {t : TypeId} {u0 u1 u2 u3 u4 u5 u6 : Value} (h : Blk w g t #[u0, u1, u2, u3, u4, u5, u6]) (v : Value) : Blk (w.setCell ⟨g, 4, none⟩ v) g t #[u0, u1, u2, u3, v, u5, u6] := by
  have := h.set_ 4 v
  simpa using this
theorem Blk.set2 {w : World} {g : Nat} {t : TypeId} {u0 u1 u2 u3 u4 u5 u6 : Value} (h : Blk w g t #[u0, u1, u2, u3, u4, u5, u6]) (v : Value) : Blk (w.setCell ⟨g, 2, none⟩ v) g t #[u0, u1, v, u3, u4, u5, u6] := by
  have := h.set_ 2 v
  simpa using this
theorem ret7 {fn : Func} {p : Tmp} {R : Ending → World → Prop} {a : Act} {w : World} {z : Nat} {v0 v1 v2 v3 v4 v5 v6 : Value} (h : fn.results = #[.cell p 28]) (hp : a.tmps.getD p undef = .pointer (some ⟨z, 0, none⟩)) (hd : a.defers = [])
    (hb : Blk w z 28 #[v0, v1, v2, v3, v4, v5, v6]) (hR : R (.returned (.agg #[v0, v1, v2, v3, v4, v5, v6])) w) : bodyPost Tryz.prog fn R .ret a w :=
  bodyPost_ret (results_cell_row h a.tmps w z _ _ (0, 0) _ hp hb Tryz.underlying28 rfl (by kernel_rfl)) hd hR
theorem calm_PS (E : Env) (lo : Nat) (l : List T) (o : Nat) (hb : E.b < lo) (hg : E.g < lo) : Calm lo fun w => PS E w l o := fun w w' h hgr => h.gr hgr (by omega) (by omega)
/-- What a contract says of a node, for a region. -/
def TellD (E : Env) (o : Nat) (g : Tr → List T → R) (r : R) (t : Tr) (w : World) : Prop := ∃ l, g t l = r ∧ PS E w l o
def TellB (r : R) (c : List PanicEntry) : Prop := ∃ (a : Nat) (k : Int), r = .bad a k ∧ c = [{ v := .iface 48 (.agg #[.int .i64 a, .int .i64 k]), recovered := false }]
theorem calm_TellD (E : Env) (lo o : Nat) (g : Tr → List T → R) (r : R) (hb : E.b < lo) (hg : E.g < lo) (t : Tr) : Calm lo (TellD E o g r t) := fun w w' h hgr => by
  obtain ⟨l, h1, h2⟩ := h
  exact ⟨l, h1, calm_PS E lo l o hb hg _ _ h2 hgr⟩
theorem tells {E : Env} {w w' : World} {o : Nat} {g : Tr → List T → R} {r : R} {e : Ending} (h : NodeP E w w.heap.size o g r e w') : Tells E.b w (TellB r) (TellD E o g r) e w' := by
  obtain ⟨h1, ⟨a, k, h2, h3⟩ | ⟨k, op, n, p, t, a, ks, A, c, l, h2, h3, h4, h5, h6⟩⟩ := h
  · exact ⟨h1, .inl ⟨_, ⟨a, k, h2, rfl⟩, h3⟩⟩
  · exact ⟨h1, .inr ⟨k, op, n, p, t, a, ks, A, c, h2, h4, l, h3, h6⟩⟩

theorem op_same {P : Program} {o : Oper} {a : Act} {w : World} {K : Act → World → Prop} {Q : Exit → Act → World → Prop} (v : Value) (h : (execOp a.eval o).run P w = .ok (.value v) w) (hk : K (a.put o.dst v) w) : o.wp P a w K Q := op_val h hk
theorem Gr.one {w w' : World} {z b : Nat} (h : Gr (· = z) w w') {w0 : World} (h0 : Gr (· = b) w0 w) (hz : w0.heap.size ≤ z) : Gr (· = b) w0 w' := h0.wide h fun n hn hs => by
  have : n = z := hs
  omega
theorem Kid.one {w w' : World} {z lo : Nat} {v : Value} {ks : List Tr} (h : Kid w lo v ks) (hg : Gr (· = z) w w') (hz : z < lo) : Kid w' lo v ks := h.gr hg fun g h1 _ h2 => by
  have : g = z := h2
  omega
theorem PS.one {E : Env} {w w' : World} {z o : Nat} {l : List T} (h : PS E w l o) (hg : Gr (· = z) w w') (h1 : E.b ≠ z) (h2 : E.g ≠ z) : PS E w' l o := h.gr hg h1 h2
theorem op_box {Q : Exit → Act → World → Prop} {K : Act → World → Prop} {w : World} {a : Act} {ty : TypeId} {pos : String} {after : Array Edge} (x y : Operand) {z : Nat} {u0 u1 u2 u3 u4 u5 u6 : Value} (k op m : Int) (p t : List UInt8) (at_ n c : Nat) (A : Option Addr)
    (hx : a.eval x = .pointer (some ⟨z, 0, none⟩)) (hy : a.eval y = .agg #[.int .i64 k, .int .i64 op, .int .i64 m, .string (bs p), .string (bs t), .int .i64 at_, .slice A n c]) (hb : Blk w z 28 #[u0, u1, u2, u3, u4, u5, u6])
    (hk : ∀ w', Blk w' z 28 #[.int .i64 k, .int .i64 op, .int .i64 m, .string (bs p), .string (bs t), .int .i64 at_, .slice A n c] → Gr (· = z) w w' → K (a.put none undef) w') :
    ({ dst := none, op := .store 28 x y, type := ty, pos := pos, after := after, guard := none } : Oper).wp Tryz.prog a w K Q := by
  refine x_store7 _ _ _ _ _ _ _ z 0 k op m p t at_ n c A hx hy (fun j hj => ?_) hb.frozen (hk _ ?_ (put7_gr (Gr.refl w) (.inr rfl)))
  · rw [Nat.zero_add]
    obtain ⟨_, s0, s1, s2, s3, s4, s5, s6, _⟩ := hb.all7
    rcases (show j = 0 ∨ j = 1 ∨ j = 2 ∨ j = 3 ∨ j = 4 ∨ j = 5 ∨ j = 6 by omega) with rfl | rfl | rfl | rfl | rfl | rfl | rfl
    · exact ⟨_, s0⟩
    · exact ⟨_, s1⟩
    · exact ⟨_, s2⟩
    · exact ⟨_, s3⟩
    · exact ⟨_, s4⟩
    · exact ⟨_, s5⟩
    · exact ⟨_, s6⟩
  · have := hb.seven (.int .i64 k) (.int .i64 op) (.int .i64 m) (.string (bs p)) (.string (bs t)) (.int .i64 at_) (.slice A n c)
    unfold put7
    simp only [Nat.zero_add]
    exact this
theorem Kid.lit1_at {w : World} {lo g : Nat} {k op m : Int} {p t : List UInt8} {a c : Nat} {A : Option Addr} {ks : List Tr} (h : Kid w lo (.slice A ks.length c) ks) (hl : lo ≤ w.heap.size) (hg : g = w.heap.size) :
    Kid (w.alloc (.cells #[.int .i64 k, .int .i64 op, .int .i64 m, .string (bs p), .string (bs t), .int .i64 a, .slice A ks.length c] 28)) lo (.slice (some ⟨g, 0, none⟩) 1 1) [.mk k op m p t a ks] := by
  subst hg
  exact Kid.lit1 h hl
theorem bkA {w : World} {g : Nat} {t : TypeId} {cs : Array Value} (h : Blk w g t cs := by repeat (with_reducible (first | assumption | exact Blk.new _ _ _ | exact Blk.new_at (by simp; done) | apply Blk.set0 | apply Blk.set2 | apply Blk.set3 | apply Blk.set4 | apply Blk.set5 | apply Blk.set6 | refine Blk.alloc ?_ _ | refine Blk.drew ?_ | refine Blk.far ?_ (by first | assumption | (simp; done) | (simp; omega)) _))) : Blk w g t cs := h
theorem b7A {w : World} {g : Nat} {t : TypeId} {cs : Array Value} (h : Blk w g t cs := by repeat (first | (with_reducible (first | assumption | exact Blk.new _ _ _ | refine Blk.alloc ?_ _ | refine Blk.drew ?_ | refine Blk.far ?_ (by first | assumption | (simp; done) | (simp; omega)) _)) | apply Blk.seven)) : Blk w g t cs := h
theorem kxA {w : World} {lo b : Nat} {v : Value} {ks : List Tr} (h : KidX w lo b v ks := by repeat (first | (with_reducible (first | assumption | exact Kid.nil _ _ 0 | refine Kid.fresh ?_ (by first | rfl | (simp; done)) _ | refine KidX.alloc ?_ _ | refine KidX.drew ?_ | refine KidX.setCell ?_ (by first | exact .inr rfl | (left; assumption) | (left; simp; done) | (left; simp; omega)) _ | refine Kid.alloc ?_ _ | refine Kid.drew ?_ | refine Kid.setCell ?_ (by first | assumption | (simp; done) | (simp; omega)) _)) | exact Kid.nil _ _ 0 | exact KidX.set2 (by assumption) (by assumption) rfl _)) : KidX w lo b v ks := h
theorem kpA {w : World} {lo : Nat} {X : Nat → Prop} {v : Value} {ks : List Tr} (h : KidP w lo X v ks := by repeat (first | (with_reducible (first | assumption | refine KidP.alloc ?_ _ | refine KidP.drew ?_ | refine KidP.setCell ?_ (by first | exact .inr rfl | exact .inr (.inr rfl) | (left; assumption) | (left; simp; done) | (left; simp; omega)) _)) | exact KidX.set2 (by assumption) (by assumption) rfl _)) : KidP w lo X v ks := h
theorem kdA {w : World} {lo : Nat} {v : Value} {ks : List Tr} (h : Kid w lo v ks := by repeat (first | (with_reducible (first | assumption | exact Kid.nil _ _ 0 | refine Kid.alloc ?_ _ | refine Kid.drew ?_ | refine Kid.setCell ?_ (by first | assumption | (simp; done) | (simp; omega)) _)) | exact Kid.nil _ _ 0)) : Kid w lo v ks := h
end Go.Proofs.YtihnnbeepfgphaaGreatDoor
