/-
  What a call says of a list of nodes, for a region.
-/
import Derived.Test.YtihnnbeepfgphaaGreatDoorParC
namespace Go.Proofs.YtihnnbeepfgphaaGreatDoor
open Go.RowKit
set_option linter.unusedVariables false
set_option linter.unusedSimpArgs false

theorem Blk.wx {w w' : World} {g b : Nat} {v : Value} {t : TypeId} {cs : Array Value} (h : Blk w g t cs) (hg : Gr (WX b v) w w') (h1 : g ≠ b) (h2 : v.ownBlock ≠ some g) : Blk w' g t cs := h.gr hg (by unfold WX; exact fun he => he.elim h1 h2)
theorem wide_x {w w3 w' : World} {b : Nat} {v : Value} (h : Gr (· = b) w w3) (h4 : Gr (WX b v) w3 w') (hv : ∀ q, v.ownBlock = some q → w.heap.size ≤ q) : Gr (· = b) w w' := h.wide h4 fun n hn hs => by
  rcases hs with hs | hs
  · exact hs
  · have := hv n hs; omega
theorem Row.same {w : World} {F F' : Nat → Prop} {A : Option Addr} {n : Nat} {xs ys : List Value} (h1 : Row w F A n xs) (h2 : Row w F' A n ys) : xs = ys := by
  have l1 := h1.1
  have l2 := h2.1
  by_cases hn : 0 < n
  · obtain ⟨g, rfl, _, _, c1, _⟩ := h1.2 hn
    obtain ⟨g', e, _, _, c2, _⟩ := h2.2 hn
    injection e with e
    injection e with e
    subst e
    apply List.ext_getElem?
    intro j
    cases hx : xs[j]? with
    | none =>
      have := List.getElem?_eq_none_iff.1 hx
      exact (List.getElem?_eq_none_iff.2 (by omega)).symm
    | some u =>
      have hj := (List.getElem?_eq_some_iff.1 hx).1
      have hy : ys[j]? = some ys[j] := List.getElem?_eq_getElem (by omega)
      have q1 := c1 j u hx
      have q2 := c2 j _ hy
      rw [q1] at q2
      injection q2 with q2
      rw [hy, ← q2]
  · obtain rfl : n = 0 := by omega
    rw [Nat.zero_mul] at l1 l2
    rw [List.eq_nil_of_length_eq_zero l1, List.eq_nil_of_length_eq_zero l2]
theorem Row.and {w : World} {F F' : Nat → Prop} {A : Option Addr} {n : Nat} {xs : List Value} (h1 : Row w F A n xs) (h2 : Row w F' A n xs) : Row w (fun g => F g ∧ F' g) A n xs :=
  ⟨h1.1, fun hn => by
    obtain ⟨g, rfl, f1, s1, c1, z1⟩ := h1.2 hn
    obtain ⟨g', e, f2, _, _, _⟩ := h2.2 hn
    injection e with e
    injection e with e
    subst e
    exact ⟨g, rfl, ⟨f1, f2⟩, s1, c1, z1⟩⟩
mutual
theorem Rep.and {w : World} {F F' : Nat → Prop} : ∀ (t : Tr) (vs : List Value), Rep w F t vs → Rep w F' t vs → Rep w (fun g => F g ∧ F' g) t vs
  | .mk k op n p t a ks, vs, h, h' => by
    simp only [Rep] at h h' ⊢
    obtain ⟨A, c, xs, rfl, h2, h3⟩ := h
    obtain ⟨A', c', ys, e, h4, h5⟩ := h'
    simp only [ndC, List.cons.injEq, Value.slice.injEq, and_true, true_and] at e
    obtain ⟨rfl, rfl⟩ := e
    have := h2.same h4
    subst this
    exact ⟨A, c, xs, rfl, h2.and h4, Reps.and ks xs h3 h5⟩
theorem Reps.and {w : World} {F F' : Nat → Prop} : ∀ (ts : List Tr) (xs : List Value), Reps w F ts xs → Reps w F' ts xs → Reps w (fun g => F g ∧ F' g) ts xs
  | [], xs, h, h' => by simpa only [Reps] using h
  | t :: r, xs, h, h' => by
    simp only [Reps] at h h' ⊢
    obtain ⟨a, q, rfl, h2, h3⟩ := h
    obtain ⟨a', q', e, h4, h5⟩ := h'
    have e2 := List.append_inj e (by rw [h2.length, h4.length])
    obtain ⟨rfl, rfl⟩ := e2
    exact ⟨a, q, rfl, Rep.and t a h2 h4, Reps.and r q h3 h5⟩
end
/-- A write into one block that a slice keeps clear of. -/
theorem KidX.gr2 {w w' : World} {lo h : Nat} {X : Nat → Prop} {v : Value} {ks : List Tr} (k : KidX w lo h v ks) (kz : KidP w lo X v ks) (hg : Gr (· = h) w w') : KidP w' lo X v ks := by
  have ho := fun g (e : v.ownBlock = some g) => k.own e
  obtain ⟨h0, xs, h1, h2⟩ := k
  obtain ⟨z0, ys, z1, z2⟩ := kz
  have e := own_same h1 z1
  subst e
  refine ⟨z0, xs, own_keep h1 fun g hv hlt => hg.block g hlt (fun e => (ho g hv).2.2 e), ?_⟩
  exact (Reps.and _ _ h2 z2).gr hg (fun g hq _ he => hq.1.2.2 he) (fun g _ hq => hq.2)
theorem KidX.set2 {w : World} {lo h : Nat} {X : Nat → Prop} {v : Value} {ks : List Tr} (k : KidX w lo h v ks) (kz : KidP w lo X v ks) {p : Addr} (hp : p.block = h) (u : Value) : KidP (w.setCell p u) lo X v ks :=
  k.gr2 kz (Gr.setCell (S := (· = h)) (p := p) (Gr.refl w) (.inr hp) u)
theorem KidP.rep {w : World} {lo : Nat} {X : Nat → Prop} {v : Value} {ks : List Tr} (h : KidP w lo X v ks) (k op n : Int) (p t : List UInt8) (a : Nat) : Rep w (fun g => lo ≤ g ∧ ¬ X g) (.mk k op n p t a ks) (ndC k op n p t a v) := by
  obtain ⟨z0, xs, h1, h2⟩ := h
  obtain ⟨A, c, rfl⟩ := own_shape h1
  simp only [Rep]
  refine ⟨A, c, xs, rfl, ⟨h1.1, fun hn => ?_⟩, Reps.keep (fun _ _ _ => rfl) (Nat.le_refl _) (fun g _ hg => ⟨hg.1, hg.2.2⟩) _ _ h2⟩
  obtain ⟨g, cap, hv, hg, hlt⟩ := h1.form hn
  have hA : A = some ⟨g, 0, none⟩ := by injection hv
  subst hA
  refine ⟨g, rfl, ⟨(h1.lt g rfl).1, z0 g rfl⟩, hlt, fun j u hu => ?_, fun i => h1.frozenAt i⟩
  have := h1.cells (g := g) rfl j u hu
  rw [← this]
  congr 1
  unfold Addr.add
  by_cases hj : j = 0 <;> simp [hj]
theorem KidP.lit1 {w : World} {lo : Nat} {X : Nat → Prop} {k op m : Int} {p t : List UInt8} {a c : Nat} {A : Option Addr} {ks : List Tr} (h : KidP w lo X (.slice A ks.length c) ks) (hl : lo ≤ w.heap.size) (hz : ∀ q, X q → q < w.heap.size) :
    KidP (w.alloc (.cells #[.int .i64 k, .int .i64 op, .int .i64 m, .string (bs p), .string (bs t), .int .i64 a, .slice A ks.length c] 28)) lo X (.slice (some ⟨w.heap.size, 0, none⟩) 1 1) [.mk k op m p t a ks] := by
  refine ⟨fun q e hq => ?_, _, World.ownsRow_lit w #[.int .i64 k, .int .i64 op, .int .i64 m, .string (bs p), .string (bs t), .int .i64 a, .slice A ks.length c] _ hl (by simp [maxLen]) (by rfl), ?_⟩
  · simp only [Value.ownBlock, Option.some.injEq] at e
    have := hz q hq
    omega
  refine Reps.keep (fun g _ hg => Below.heap_alloc w _ g hg) (by simp) (fun g hlt hg => ⟨hg.1, ?_, hg.2⟩) _ _ (Reps.single (h.rep k op m p t a))
  simp only [Value.ownBlock, ne_eq, Option.some.injEq]
  omega
theorem KidP.lit2 {w : World} {lo : Nat} {X : Nat → Prop} {k op m k' op' m' : Int} {p t p' t' : List UInt8} {a c a' c' : Nat} {A A' : Option Addr} {ks ks' : List Tr} (h : KidP w lo X (.slice A ks.length c) ks) (h' : KidP w lo X (.slice A' ks'.length c') ks') (hl : lo ≤ w.heap.size) (hz : ∀ q, X q → q < w.heap.size) :
    KidP (w.alloc (.cells #[.int .i64 k, .int .i64 op, .int .i64 m, .string (bs p), .string (bs t), .int .i64 a, .slice A ks.length c, .int .i64 k', .int .i64 op', .int .i64 m', .string (bs p'), .string (bs t'), .int .i64 a', .slice A' ks'.length c'] 28)) lo X (.slice (some ⟨w.heap.size, 0, none⟩) 2 2) [.mk k op m p t a ks, .mk k' op' m' p' t' a' ks'] := by
  refine ⟨fun q e hq => ?_, _, World.ownsRow_lit w #[.int .i64 k, .int .i64 op, .int .i64 m, .string (bs p), .string (bs t), .int .i64 a, .slice A ks.length c, .int .i64 k', .int .i64 op', .int .i64 m', .string (bs p'), .string (bs t'), .int .i64 a', .slice A' ks'.length c'] _ hl (by simp [maxLen]) (by rfl), ?_⟩
  · simp only [Value.ownBlock, Option.some.injEq] at e
    have := hz q hq
    omega
  refine Reps.keep (fun g _ hg => Below.heap_alloc w _ g hg) (by simp) (fun g hlt hg => ⟨hg.1, ?_, hg.2⟩) _ _ (Reps.append (Reps.single (h.rep k op m p t a)) (Reps.single (h'.rep k' op' m' p' t' a')))
  simp only [Value.ownBlock, ne_eq, Option.some.injEq]
  omega
theorem KidP.lit2_at {w : World} {lo g : Nat} {X : Nat → Prop} {k op m k' op' m' : Int} {p t p' t' : List UInt8} {a c a' c' : Nat} {A A' : Option Addr} {ks ks' : List Tr} (h : KidP w lo X (.slice A ks.length c) ks) (h' : KidP w lo X (.slice A' ks'.length c') ks') (hl : lo ≤ w.heap.size) (hz : ∀ q, X q → q < w.heap.size) (hg : g = w.heap.size) :
    KidP (w.alloc (.cells #[.int .i64 k, .int .i64 op, .int .i64 m, .string (bs p), .string (bs t), .int .i64 a, .slice A ks.length c, .int .i64 k', .int .i64 op', .int .i64 m', .string (bs p'), .string (bs t'), .int .i64 a', .slice A' ks'.length c'] 28)) lo X (.slice (some ⟨g, 0, none⟩) 2 2) [.mk k op m p t a ks, .mk k' op' m' p' t' a' ks'] := by
  subst hg
  exact KidP.lit2 h h' hl hz
theorem KidP.mono {w : World} {lo lo' : Nat} {X : Nat → Prop} {v : Value} {ks : List Tr} (k : KidP w lo X v ks) (hl : lo' ≤ lo) : KidP w lo' X v ks := by
  obtain ⟨h0, xs, h1, h2⟩ := k
  exact ⟨h0, xs, own_mono h1 hl, Reps.keep (fun _ _ _ => rfl) (Nat.le_refl _) (fun g _ hg => ⟨Nat.le_trans hl hg.1, hg.2⟩) _ _ h2⟩
theorem head_num {n : Nat} {p : Pt} {l : List T} {o : Nat} {g : Tr → List T → R} {r : R} (hq : bnd (go n (.head p) l o) g = r) : bnd (go n (.head p) l o) (fun h q => if h.num = 0 ∨ h.num = 1 then g h q else .out) = r := by
  cases n with
  | zero => exact hq
  | succ n =>
    simp only [go] at hq ⊢
    generalize go n (.within [40] [41] p) l o = W at hq ⊢
    cases W with
    | out => exact hq
    | bad a e => exact hq
    | ok ks q =>
      simp only [bnd_ok] at hq ⊢
      by_cases hb : begins q = true
      · rw [if_pos hb] at hq ⊢
        generalize go n .typeOf q o = V at hq ⊢
        cases V with
        | out => exact hq
        | bad a e => exact hq
        | ok t q2 =>
          simp only [bnd_ok] at hq ⊢
          rw [if_pos (.inr rfl)]
          exact hq
      · rw [if_neg hb] at hq ⊢
        simp only [bnd_ok] at hq ⊢
        rw [if_pos (.inl rfl)]
        exact hq
theorem take_want {m : List UInt8} {l : List T} {f : T → List T → R} {r : R} (hm : mark l = m) (h : takeR l f = r) : want m l f = r := by unfold want; rw [if_pos hm]; exact h
theorem calm_TellDL (E : Env) (lo o : Nat) (g : Tr → List T → R) (r : R) (hb : E.b < lo) (hg : E.g < lo) (us : List Tr) : Calm lo (TellDL E o g r us) := fun w w' h hgr => by
  obtain ⟨l, h1, h2⟩ := h
  exact ⟨l, h1, calm_PS E lo l o hb hg _ _ h2 hgr⟩
theorem tellsL {E : Env} {w w' : World} {o : Nat} {g : Tr → List T → R} {r : R} {e : Ending} (h : ListP E w o g r e w') : TellsL E.b w (TellB r) (TellDL E o g r) e w' := by
  obtain ⟨h1, ⟨a, k, h2, h3⟩ | ⟨ks, A, c, l, h2, h3, h4, h5, h6⟩⟩ := h
  · exact ⟨h1, .inl ⟨_, ⟨a, k, h2, rfl⟩, h3⟩⟩
  · exact ⟨h1, .inr ⟨ks, A, c, h2, h5, h4, l, h3, h6⟩⟩
end Go.Proofs.YtihnnbeepfgphaaGreatDoor
