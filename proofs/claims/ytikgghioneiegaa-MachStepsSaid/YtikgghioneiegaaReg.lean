/-
  A region that draws its order and makes memory: what each operation has made holds, whatever else is done before or behind it.
-/
import Derived.Test.YtikgghioneiegaaMachW
import Derived.Orders
import Derived.Deep.AppendSrc
import Derived.Deep.Upon
namespace Go.Proofs.Ytikgghioneiegaa
open Go.RowKit
set_option linter.unusedVariables false

section
variable {P : Program} {ops : Array Oper} {Q : Exit → Act → World → Prop}

/-- Each operation waits for earlier ones alone. -/
def Down (ops : Array Oper) : Prop := ∀ (i : Nat) (o : Oper), ops[i]? = some o → ∀ e ∈ o.after, e.on < i

theorem ready_all (hd : Down ops) {L : Array Bool} (hs : L.size = ops.size) (hr : Region.ready .any ops L = []) : ∀ i, i < ops.size → L.getD i true = true := by
  intro i
  induction i using Nat.strongRecOn with
  | _ i ih =>
    intro hi
    cases hv : L.getD i true with
    | true => rfl
    | false =>
      have : i ∈ Region.ready .any ops L := by
        rw [mem_ready]
        refine ⟨hv, ops[i], Array.getElem?_eq_getElem hi, fun e he _ => ?_⟩
        have h1 := hd i ops[i] (Array.getElem?_eq_getElem hi) e he
        have h2 := ih e.on h1 (by omega)
        have h3 : e.on < L.size := by omega
        simpa [Array.getD, h3] using h2
      rw [hr] at this
      cases this

def unl (L : Array Bool) : Nat := (L.toList.filter (!·)).length
theorem unl_set (L : Array Bool) (i : Nat) (h : L.getD i true = false) : unl (L.setIfInBounds i true) + 1 = unl L := by
  obtain ⟨l⟩ := L
  unfold unl
  have hi : i < l.length := by
    rcases Nat.lt_or_ge i l.length with h' | h'
    · exact h'
    · simp [h'] at h
  have hv : l[i] = false := by simpa [hi] using h
  simp only [List.setIfInBounds_toArray]
  clear h
  induction l generalizing i with
  | nil => simp at hi
  | cons x l ih =>
    cases i with
    | zero =>
      simp at hv
      subst hv
      simp
    | succ i =>
      simp at hi hv
      have := ih i hi hv
      cases x <;> simp at this ⊢ <;> omega

theorem wpAny_inv (hd : Down ops) (I : Array Bool → Act → World → Prop)
    (hs : ∀ (L : Array Bool) (a : Act) (w : World) (i : Nat) (o : Oper), L.size = ops.size → ops[i]? = some o → L.getD i true = false → (∀ e ∈ o.after, Region.binds .any e = true → L.getD e.on false = true) → I L a w → wpOp P ops Q i (I (L.setIfInBounds i true)) a w)
    (he : ∀ L a w, L.size = ops.size → (∀ i, i < ops.size → L.getD i true = true) → I L a w → Q .normal a w) :
    ∀ (n : Nat) (L : Array Bool) (a : Act) (w : World), L.size = ops.size → unl L ≤ n → I L a w → wpAny P .any ops Q n L a w := by
  intro n
  induction n with
  | zero =>
    intro L a w h1 h2 h3
    have hr : Region.ready .any ops L = [] := by
      cases hr : Region.ready .any ops L with
      | nil => rfl
      | cons i l =>
        have hi : i ∈ Region.ready .any ops L := by rw [hr]; exact List.mem_cons_self
        have := (mem_ready.1 hi).1
        have := unl_set L i this
        omega
    exact ⟨hr, he L a w h1 (ready_all hd h1 hr) h3⟩
  | succ n ih =>
    intro L a w h1 h2 h3
    refine ⟨fun hr => he L a w h1 (ready_all hd h1 hr) h3, fun i hi => ?_⟩
    obtain ⟨g1, o, g2, g3⟩ := mem_ready.1 hi
    have hu := unl_set L i g1
    exact wpOp_mono (fun a w h => ih _ a w (by simpa using h1) (by omega) h) (hs L a w i o h1 g2 g1 g3 h3)

theorem wp_region_inv {id : Nat} {a0 : Act} {w0 : World} (hm : P.follows .mixedOrders = true) (hd : Down ops) (I : Array Bool → Act → World → Prop)
    (h0 : I (Array.replicate ops.size false) a0 { w0 with drawn := w0.drawn + 1 })
    (hs : ∀ (L : Array Bool) (a : Act) (w : World) (i : Nat) (o : Oper), L.size = ops.size → ops[i]? = some o → L.getD i true = false → (∀ e ∈ o.after, Region.binds .any e = true → L.getD e.on false = true) → I L a w → wpOp P ops Q i (I (L.setIfInBounds i true)) a w)
    (he : ∀ L a w, L.size = ops.size → (∀ i, i < ops.size → L.getD i true = true) → I L a w → Q .normal a w) : (Code.region id ops true).wp P Q a0 w0 :=
  wp_region_any hm (wpAny_inv hd I hs he _ _ _ _ (by simp) (by simp [unl]) h0)

/-- What each operation puts, one behind the other. -/
def putAll (vals : Nat → Value) : List Oper → Nat → Act → Act
  | [], _, a => a
  | o :: l, k, a => putAll vals l (k + 1) (a.put o.dst (vals k))

theorem put_size (a : Act) (d : Option Tmp) (v : Value) : (a.put d v).tmps.size = a.tmps.size := by cases d <;> simp [Act.put]
theorem put_get (a : Act) (d : Option Tmp) (v : Value) (t : Nat) (h : d ≠ some t) : (a.put d v).tmps[t]? = a.tmps[t]? := by
  cases d with
  | none => rfl
  | some d => simp [Act.put]; rw [Array.getElem?_setIfInBounds_ne (fun e => h (by rw [e]))]
theorem put_self (a : Act) (v : Value) (t : Nat) (h : t < a.tmps.size) : (a.put (some t) v).tmps[t]? = some v := by
  simp [Act.put, h]
theorem put_defers (a : Act) (d : Option Tmp) (v : Value) : (a.put d v).defers = a.defers := by cases d <;> rfl
theorem putAll_defers (vals : Nat → Value) (l : List Oper) : ∀ (k : Nat) (a : Act), (putAll vals l k a).defers = a.defers := by
  induction l with
  | nil => intro k a; rfl
  | cons o l ih => intro k a; simp [putAll, ih, put_defers]
theorem putAll_size (vals : Nat → Value) (l : List Oper) : ∀ (k : Nat) (a : Act), (putAll vals l k a).tmps.size = a.tmps.size := by
  induction l with
  | nil => intro k a; rfl
  | cons o l ih => intro k a; simp [putAll, ih, put_size]
theorem putAll_other (vals : Nat → Value) (l : List Oper) : ∀ (k : Nat) (a : Act) (t : Nat), (∀ o ∈ l, o.dst ≠ some t) → (putAll vals l k a).tmps[t]? = a.tmps[t]? := by
  induction l with
  | nil => intro k a t _; rfl
  | cons o l ih => intro k a t h; rw [putAll, ih _ _ _ (fun o ho => h o (List.mem_cons_of_mem _ ho)), put_get _ _ _ _ (h o List.mem_cons_self)]
theorem putAll_at (vals : Nat → Value) (l : List Oper) : ∀ (k : Nat) (a : Act) (i : Nat) (o : Oper) (t : Nat), l[i]? = some o → o.dst = some t → (∀ (j : Nat) (o' : Oper), j ≠ i → l[j]? = some o' → o'.dst ≠ some t) → t < a.tmps.size → (putAll vals l k a).tmps[t]? = some (vals (k + i)) := by
  induction l with
  | nil => intro k a i o t h; simp at h
  | cons x l ih =>
    intro k a i o t h hd hn ht
    cases i with
    | zero =>
      simp at h
      subst h
      rw [putAll, putAll_other, hd, put_self _ _ _ ht]
      · rfl
      · intro o' ho'
        obtain ⟨j, hj⟩ := List.mem_iff_getElem?.1 ho'
        exact hn (j + 1) o' (by omega) (by simpa using hj)
    | succ i =>
      rw [putAll, ih (k + 1) _ i o t (by simpa using h) hd (fun j o' hj ho' => hn (j + 1) o' (by omega) (by simpa using ho')) (by rw [put_size]; exact ht)]
      congr 2
      omega

/-- The form of such a region: each operation waits for earlier ones alone, none is guarded, no slot is put twice, the last one waits for all. -/
def growB (ops : Array Oper) (m : Nat) : Bool :=
  ops.size == m + 1 && (List.range (m + 1)).all (fun i => match ops[i]? with
    | none => false
    | some o => o.guard.isNone && o.after.all (fun e => decide (e.on < i)) && (List.range i).all (fun j => match ops[j]? with
      | none => false
      | some o' => o'.dst.isNone || o'.dst != o.dst)) &&
  (List.range m).all (fun j => match ops[m]? with
    | none => false
    | some o => o.after.any fun e => e.on == j && Region.binds .any e)

theorem growB_parts {m : Nat} (h : growB ops m = true) : ops.size = m + 1 ∧ Down ops ∧ (∀ (i : Nat) (o : Oper), ops[i]? = some o → o.guard = none) ∧ (∀ (i j : Nat) (o o' : Oper) (t : Nat), ops[i]? = some o → ops[j]? = some o' → i ≠ j → o.dst = some t → o'.dst ≠ some t) ∧
    (∀ (o : Oper), ops[m]? = some o → ∀ j, j < m → ∃ e ∈ o.after, e.on = j ∧ Region.binds .any e = true) := by
  unfold growB at h
  simp only [Bool.and_eq_true, beq_iff_eq, List.all_eq_true, List.mem_range] at h
  obtain ⟨⟨h1, h2⟩, h3⟩ := h
  have key : ∀ (i : Nat) (o : Oper), ops[i]? = some o → o.guard.isNone = true ∧ (∀ e ∈ o.after, e.on < i) ∧ ∀ (j : Nat), j < i → ∀ (o' : Oper), ops[j]? = some o' → o'.dst = none ∨ o'.dst ≠ o.dst := by
    intro i o ho
    have hi : i < m + 1 := by have := (Array.getElem?_eq_some_iff.1 ho).1; omega
    have := h2 i hi
    rw [ho] at this
    simp only [Bool.and_eq_true, List.all_eq_true, List.mem_range] at this
    obtain ⟨⟨k1, k2⟩, k3⟩ := this
    refine ⟨k1, ?_, ?_⟩
    · intro e he
      have := (Array.all_eq_true_iff_forall_mem.1 k2) e he
      simpa using this
    · intro j hj o' ho'
      have := k3 j hj
      rw [ho'] at this
      simpa using this
  refine ⟨h1, fun i o ho => (key i o ho).2.1, fun i o ho => by simpa using (key i o ho).1, ?_, ?_⟩
  · intro i j o o' t ho ho' hij hd hd'
    rcases Nat.lt_or_ge i j with hlt | hge
    · rcases (key j o' ho').2.2 i hlt o ho with k | k
      · rw [hd] at k; cases k
      · exact k (by rw [hd, hd'])
    · rcases (key i o ho).2.2 j (by omega) o' ho' with k | k
      · rw [hd'] at k; cases k
      · exact k (by rw [hd, hd'])
  · intro o ho j hj
    have := h3 j hj
    rw [ho] at this
    rw [Array.any_eq_true] at this
    obtain ⟨k, hk, he⟩ := this
    simp at he
    exact ⟨o.after[k], Array.getElem_mem hk, he.1, he.2⟩

/-- What operation j has made, if it puts something: lo, hi: the heap's size when it began, and when it was done. -/
def Made (ops : Array Oper) (F : Nat → Nat → Nat → Value → World → Prop) (lo hi : Nat → Nat) (j : Nat) (a : Act) (w : World) : Prop :=
  match (ops[j]?).bind (·.dst) with
  | some d => F j (lo j) (hi j) (a.eval (.tmp d)) w
  | none => True
def Apart2 (lo hi : Nat → Nat) (i j : Nat) : Prop := i ≠ j → hi i ≤ lo j ∨ hi j ≤ lo i

def inB (ops : Array Oper) (n : Nat) : Bool := ops.all fun o => match o.dst with | some d => decide (d < n) | none => true
theorem inB_lt {n : Nat} (h : inB ops n = true) : ∀ (i : Nat) (o : Oper) (d : Nat), ops[i]? = some o → o.dst = some d → d < n := by
  intro i o d ho hd
  have := (Array.all_eq_true_iff_forall_mem.1 h) o (Array.mem_of_getElem? ho)
  rw [hd] at this
  simpa using this
theorem wp_region_grow {id : Nat} {a0 : Act} {w0 : World} (m : Nat) (hm : P.follows .mixedOrders = true) (hB : growB ops m = true)
    (F : Nat → Nat → Nat → Value → World → Prop) (hF : ∀ i lo hi v w w', F i lo hi v w → Below w.heap.size w w' → F i lo hi v w')
    (n : Nat) (hn : a0.tmps.size = n) (hinB : inB ops n = true)
    (hs : ∀ (i : Nat) (o : Oper), ops[i]? = some o → i < m → ∀ (a : Act) (w : World) (lo hi : Nat → Nat), Below w0.heap.size w0 w → (∀ t, (∀ o' ∈ ops, o'.dst ≠ some t) → a.eval (.tmp t) = a0.eval (.tmp t)) →
      (∀ e ∈ o.after, Region.binds .any e = true → Made ops F lo hi e.on a w ∧ hi e.on ≤ w.heap.size ∧ ∀ e' ∈ o.after, Region.binds .any e' = true → Apart2 lo hi e.on e'.on) →
      ∀ K : Act → World → Prop, (∀ v w', F i w.heap.size w'.heap.size v w' → Below w.heap.size w w' → K (a.put o.dst v) w') → o.wp P a w K Q)
    (he : ∀ (vals : Nat → Value) (lo hi : Nat → Nat) (w : World) (o : Oper) (a : Act), a = putAll vals (ops.toList.take m) 0 a0 → (∀ (i : Nat) (o' : Oper) (d : Nat), i < m → ops[i]? = some o' → o'.dst = some d → a.eval (.tmp d) = vals i) → (∀ t, (∀ o' ∈ ops, o'.dst ≠ some t) → a.eval (.tmp t) = a0.eval (.tmp t)) → ops[m]? = some o → Below w0.heap.size w0 w → (∀ (i : Nat) (o' : Oper) (d : Nat), i < m → ops[i]? = some o' → o'.dst = some d → F i (lo i) (hi i) (vals i) w) →
      (∀ i j, i < m → j < m → Apart2 lo hi i j) → o.wp P a w (Q .normal) Q) :
    (Code.region id ops true).wp P Q a0 w0 := by
  obtain ⟨b1, b2, b3, b4, b5⟩ := growB_parts hB
  have hin := inB_lt hinB
  rw [← hn] at hin
  have hw : ∀ (i : Nat) (o : Oper) (a : Act), ops[i]? = some o → Region.wanted o (yielded ops a.tmps) = true := fun i o a ho => by simp [Region.wanted, b3 i o ho]
  refine wp_region_inv hm b2 (fun L a w => (L.getD m true = true → (∀ j, j < m → L.getD j true = true) ∧ Q .normal a w) ∧ (L.getD m true = false → Below w0.heap.size w0 w ∧ a.defers = a0.defers ∧ a.tmps.size = a0.tmps.size ∧ (∀ t, (∀ (i : Nat) (o : Oper), ops[i]? = some o → L.getD i true = true → o.dst ≠ some t) → a.tmps[t]? = a0.tmps[t]?) ∧
    ∃ lo hi : Nat → Nat, (∀ i, i < ops.size → L.getD i true = true → hi i ≤ w.heap.size) ∧ (∀ i j, i < ops.size → j < ops.size → L.getD i true = true → L.getD j true = true → Apart2 lo hi i j) ∧ ∀ (i : Nat) (o : Oper) (d : Nat), ops[i]? = some o → o.dst = some d → L.getD i true = true → F i (lo i) (hi i) (a.eval (.tmp d)) w)) ?_ ?_ ?_
  · have hf : ∀ i, i < ops.size → (Array.replicate ops.size false).getD i true = false := fun i hi => by simp [Array.getD, hi]
    refine ⟨(fun h => by rw [hf m (by omega)] at h; cases h), fun _ => ⟨⟨rfl, rfl, rfl, Nat.le_refl _, fun _ _ => rfl⟩, rfl, rfl, fun t _ => rfl, fun _ => 0, fun _ => 0, ?_, ?_, fun i o d ho _ h => ?_⟩⟩
    · intro i hi h; exact Nat.zero_le _
    · intro i j hi _ _ _ _; exact .inl (Nat.le_refl _)
    · rw [hf i (Array.getElem?_eq_some_iff.1 ho).1] at h
      cases h
  · intro L a w i o hL ho hl hall hI
    have hi := (Array.getElem?_eq_some_iff.1 ho).1
    have hown : L.getD m true = false := by
      cases hmv : L.getD m true with
      | false => rfl
      | true =>
        have h1 := (hI.1 hmv).1
        rcases Nat.lt_or_ge i m with hlt | hge
        · rw [h1 i hlt] at hl; cases hl
        · obtain rfl : i = m := by omega
          rw [hl] at hmv; cases hmv
    obtain ⟨i1, i2, i3, i4, lo, hi', i6, i7, i5⟩ := hI.2 hown
    unfold wpOp
    simp only [ho, hw i o a ho, if_true]
    refine .inl ?_
    by_cases him : i = m
    · subst him
      have hall' : ∀ j, j < i → L.getD j true = true := fun j hj => by
        obtain ⟨e, he1, he2, he3⟩ := b5 o ho j hj
        have := hall e he1 he3
        rw [he2] at this
        have hjl : j < L.size := by omega
        simpa [Array.getD, hjl] using this
      obtain ⟨vals, hvals⟩ : ∃ vals : Nat → Value, ∀ k, vals k = match (ops[k]?).bind (·.dst) with | some d => a.eval (.tmp d) | none => undef := ⟨_, fun _ => rfl⟩
      have hfin : a = putAll vals (ops.toList.take i) 0 a0 := by
        have ht : a.tmps = (putAll vals (ops.toList.take i) 0 a0).tmps := by
          apply Array.ext_getElem?
          intro t
          by_cases hx : ∃ (k : Nat) (o' : Oper), k < i ∧ ops[k]? = some o' ∧ o'.dst = some t
          · obtain ⟨k, o', hk, ho', hd⟩ := hx
            have htl := hin k o' t ho' hd
            rw [putAll_at vals _ 0 a0 k o' t (by rw [List.getElem?_take_of_lt hk]; simpa using ho') hd (fun j o2 hj ho2 => ?_) htl]
            · rw [Nat.zero_add, hvals k, ho', Option.bind_some, hd]
              have : t < a.tmps.size := by omega
              simp [Act.eval, this]
            · have hj2 : j < i := by
                rcases Nat.lt_or_ge j i with hlt | hge
                · exact hlt
                · rw [List.getElem?_take_eq_none hge] at ho2; cases ho2
              rw [List.getElem?_take_of_lt hj2] at ho2
              exact b4 k j o' o2 t ho' (by simpa using ho2) (Ne.symm hj) hd
          · rw [putAll_other]
            · refine i4 t fun k o' ho' hlk hd => hx ⟨k, o', ?_, ho', hd⟩
              have : k < i + 1 := by have := (Array.getElem?_eq_some_iff.1 ho').1; omega
              rcases Nat.lt_or_ge k i with hlt | hge
              · exact hlt
              · obtain rfl : k = i := by omega
                rw [hl] at hlk; cases hlk
            · intro o' ho' hd
              obtain ⟨k, hk⟩ := List.mem_iff_getElem?.1 ho'
              have hk2 : k < i := by
                rcases Nat.lt_or_ge k i with hlt | hge
                · exact hlt
                · rw [List.getElem?_take_eq_none hge] at hk; cases hk
              rw [List.getElem?_take_of_lt hk2] at hk
              exact hx ⟨k, o', hk2, by simpa using hk, hd⟩
        have hdf : a.defers = (putAll vals (ops.toList.take i) 0 a0).defers := by rw [putAll_defers]; exact i2
        cases a
        cases hp : putAll vals (ops.toList.take i) 0 a0
        rw [hp] at ht hdf
        simp only at ht hdf
        rw [ht, hdf]
      refine Oper.wp_mono (K := Q .normal) ?_ ?_
      · intro a' w' hq
        refine ⟨fun _ => ⟨fun j hj => ?_, hq⟩, fun h => ?_⟩
        · rw [getD_set_ne true (by omega)]; exact hall' j hj
        have : (L.setIfInBounds i true).getD i true = true := by simp [Array.getD, hL, hi]
        rw [this] at h
        cases h
      · refine he vals lo hi' w o a hfin (fun k o' d hk ho' hd => ?_) (fun t ht => ?_) ho i1 ?_ fun j k hj hk => i7 j k (by omega) (by omega) (hall' j hj) (hall' k hk)
        · rw [hvals k, ho', Option.bind_some, hd]
        · have := i4 t (fun k o' ho' _ => ht o' (Array.mem_of_getElem? ho'))
          unfold Act.eval
          simp only [Array.getD_eq_getD_getElem?, this]
        intro k o' d hk ho' hd
        rw [hvals k, ho', Option.bind_some, hd]
        exact i5 k o' d ho' hd (hall' k hk)
    · have him2 : i < m := by omega
      refine hs i o ho him2 a w lo hi' i1 ?_ ?_ _ ?_
      · intro t ht
        have := i4 t (fun k o' ho' _ => ht o' (Array.mem_of_getElem? ho'))
        unfold Act.eval
        simp only [Array.getD_eq_getD_getElem?, this]
      · intro e he1 he2
        have hlisted : ∀ e ∈ o.after, Region.binds .any e = true → e.on < ops.size ∧ L.getD e.on true = true := by
          intro e he1 he2
          have h1 := hall e he1 he2
          have h3 := b2 i o ho e he1
          have h2 : e.on < L.size := by omega
          exact ⟨by omega, by simpa [Array.getD, h2] using h1⟩
        obtain ⟨g1, g2⟩ := hlisted e he1 he2
        refine ⟨?_, i6 e.on g1 g2, fun e' he1' he2' => ?_⟩
        · unfold Made
          cases hoe : ops[e.on]? with
          | none => trivial
          | some oe =>
            rw [Option.bind_some]
            cases hde : oe.dst with
            | none => trivial
            | some d => exact i5 e.on oe d hoe hde g2
        · obtain ⟨g3, g4⟩ := hlisted e' he1' he2'
          exact i7 _ _ g1 g3 g2 g4
      · intro v w' hFv hbw
        have hmm : (L.setIfInBounds i true).getD m true = false := by rw [getD_set_ne true him]; exact hown
        refine ⟨(fun h => by rw [hmm] at h; cases h), fun _ => ⟨i1.trans (hbw.mono i1.size), by rw [put_defers]; exact i2, by rw [put_size]; exact i3, fun t ht => ?_, fun k => if k = i then w.heap.size else lo k, fun k => if k = i then w'.heap.size else hi' k, ?_, ?_, ?_⟩⟩
        · have hself : o.dst ≠ some t := ht i o ho (by simp [Array.getD, hL, hi])
          rw [put_get _ _ _ _ hself]
          refine i4 t fun k o' ho' hlk => ht k o' ho' ?_
          by_cases hki : i = k
          · subst hki; simp [Array.getD, hL, hi]
          · rw [getD_set_ne true hki]; exact hlk
        · intro k hk hlk
          by_cases hki : k = i
          · simp [hki]
          · rw [getD_set_ne true (Ne.symm hki)] at hlk
            simp only [if_neg hki]
            exact Nat.le_trans (i6 k hk hlk) hbw.size
        · intro j k hj hk hlj hlk hjk
          by_cases hki : k = i
          · subst hki
            rw [getD_set_ne true (Ne.symm hjk)] at hlj
            simp only [if_neg hjk, if_true]
            exact .inl (i6 j hj hlj)
          · rw [getD_set_ne true (Ne.symm hki)] at hlk
            by_cases hji : j = i
            · subst hji
              simp only [if_neg hki, if_true]
              exact .inr (i6 k hk hlk)
            · rw [getD_set_ne true (Ne.symm hji)] at hlj
              simp only [if_neg hki, if_neg hji]
              exact i7 j k hj hk hlj hlk hjk
        · intro k o' d ho' hd hlk
          by_cases hki : i = k
          · subst hki
            obtain rfl : o = o' := by rw [ho] at ho'; exact Option.some.inj ho'
            have hdl : d < a.tmps.size := by rw [i3]; exact hin i o d ho hd
            have : (a.put o.dst v).eval (.tmp d) = v := by
              rw [hd]
              simp [Act.eval, Act.put, hdl]
            rw [this]
            simp only [if_true]
            exact hFv
          · rw [getD_set_ne true hki] at hlk
            have hne : o.dst ≠ some d := b4 k i o' o d ho' ho (Ne.symm hki) hd
            have : (a.put o.dst v).eval (.tmp d) = a.eval (.tmp d) := by
              unfold Act.eval
              simp only [Array.getD_eq_getD_getElem?, put_get _ _ _ _ hne]
            rw [this]
            simp only [if_neg (Ne.symm hki)]
            exact hF k _ _ _ w w' (i5 k o' d ho' hd hlk) hbw
  · intro L a w h1 h2 h3
    exact (h3.1 (h2 m (by omega))).2
end

section
variable {P : Program}
/-- A slice without room, of nothing: what is appended to it lies in a new block, or is nothing. -/
theorem run_append_fresh (w : World) (base : Nat) (t ty e : TypeId) (i : TypeInfo) (z : Value) (size bytes : Nat) (ht : P.underlying t = some (.slice e)) (hi : P.info? e = some i) (hz : i.zero = some z)
    (hsize : i.size = size) (hby : i.bytes = bytes) (hzs : z.cells.size = size) (hsz : 0 < size) (b : Nat) (hblk : Blk w b e #[]) (hbb : base ≤ b)
    (B : Nat) (A : Option Addr) (m c : Nat) (news : List Value) (hr : Reads w B size A m news) (h1 : ∀ u ∈ news, u.oneCell' = true)
    (h63 : m ≤ maxLen) (hbytes : m * bytes ≤ 140737488355328) :
    ∃ v' w', (Builtin.append_ #[t, t] ty #[.slice (some ⟨b, 0, none⟩) 0 0, .slice A m c]).run P w = .ok v' w' ∧ w'.ownsRow base e size v' m news ∧ Below w.heap.size w w' ∧ (0 < m → v'.ownBlock = some w.heap.size) := by
  have hlt := hblk.lt
  have hown : w.ownsRow base e size (.slice (some ⟨b, 0, none⟩) 0 0) 0 [] := ⟨by simp, .inr ⟨b, 0, #[], rfl, hbb, hblk, Nat.le_refl _, by simp [maxLen], by simp, by simp⟩⟩
  obtain ⟨v', w', hrun, h2, h3, h4⟩ := run_append_any (P := P) w base t ty e i z size bytes ht hi hz hsize hby hzs hsz _ 0 [] hown B A m c news hr h1 (by omega) (by simpa using hbytes) (by omega)
  refine ⟨v', w', hrun, by simpa using h2, ?_⟩
  have hsrc : Src P i.size t (.slice A m c) m news w := by
    rw [hsize]
    rcases A with _ | ad
    · have hm : m = 0 := by
        rcases Nat.eq_zero_or_pos m with h0 | h0
        · exact h0
        · obtain ⟨ad, h, _⟩ := hr.2 h0
          cases h
      subst hm
      obtain rfl : news = [] := List.eq_nil_of_length_eq_zero (by simpa using hr.1)
      exact Src.ofNil w ht c
    · refine Src.ofSlice w ht ad m c news hr.1 ?_ h1
      intro j u hu
      rcases Nat.eq_zero_or_pos m with h0 | h0
      · subst h0
        obtain rfl : news = [] := List.eq_nil_of_length_eq_zero (by simpa using hr.1)
        simp at hu
      · obtain ⟨ad', h, _, hc⟩ := hr.2 h0
        injection h with h
        subst h
        exact hc j u hu
  rcases Nat.eq_zero_or_pos m with h0 | h0
  · subst h0
    obtain rfl : news = [] := List.eq_nil_of_length_eq_zero (by simpa using hr.1)
    have := run_append_nothing (P := P) w t t ty e i ht hi (some ⟨b, 0, none⟩) 0 0 (Nat.le_refl _) _ hsrc
    rw [this] at hrun
    injection hrun with e1 e2
    subst e2
    exact ⟨Below.refl _ _, fun h => absurd h (by omega)⟩
  · have hb2 : m * i.bytes ≤ 140737488355328 := by rw [hby]; exact hbytes
    have hcap : Builtin.nextslicecap (0 + m) 0 * i.bytes ≤ 281474976710656 := by
      have : Builtin.nextslicecap (0 + m) 0 = 0 + m := by
        unfold Builtin.nextslicecap
        simp
        omega
      rw [this]
      simp only [Nat.zero_add]
      omega
    have := run_append_grow_src (P := P) w t t ty e i z ht hi hz (some ⟨b, 0, none⟩) 0 0 [] (by have := run_firstCells_some (P := P) w.drew i.size 0 ⟨b, 0, none⟩ 0 0 [] (by simp) (by simp); simpa using this) _ m news hsrc (by omega) (by simp only [maxLen] at h63; omega) hcap
    rw [this] at hrun
    injection hrun with e1 e2
    subst e2
    subst e1
    exact ⟨(Below.refl _ w).drew.alloc (Nat.le_refl _) _, fun _ => rfl⟩

theorem wp_append_fresh {w : World} {Q : Exit → Act → World → Prop} {o : Oper} {a : Act} {K : Act → World → Prop} (s x : Operand) (t : TypeId)
    (ho : o.op = .call { callee := .builtin .append, args := #[s, x], argTypes := #[t, t] })
    (base : Nat) (e : TypeId) (i : TypeInfo) (z : Value) (size bytes : Nat) (ht : P.underlying t = some (.slice e)) (hi : P.info? e = some i) (hz : i.zero = some z)
    (hsize : i.size = size) (hby : i.bytes = bytes) (hzs : z.cells.size = size) (hsz : 0 < size) (b : Nat) (hs : a.eval s = .slice (some ⟨b, 0, none⟩) 0 0) (hblk : Blk w b e #[]) (hbb : base ≤ b)
    (B : Nat) (A : Option Addr) (m c : Nat) (news : List Value) (hx : a.eval x = .slice A m c) (hr : Reads w B size A m news) (h1 : ∀ u ∈ news, u.oneCell' = true)
    (h63 : m ≤ maxLen) (hbytes : m * bytes ≤ 140737488355328)
    (h : ∀ v' w', w'.ownsRow base e size v' m news → Below w.heap.size w w' → (0 < m → v'.ownBlock = some w.heap.size) → K (a.put o.dst v') w') : o.wp P a w K Q := by
  obtain ⟨v', w', hrun, h2, h3, h4⟩ := run_append_fresh (P := P) w base t o.type e i z size bytes ht hi hz hsize hby hzs hsz b hblk hbb B A m c news hr h1 h63 hbytes
  unfold Oper.wp execOp
  simp only [ho, resolve, invoke, builtin, Sem.run_bind, Sem.run_pure, Result.andThen_ok, List.map_toArray, List.map_cons, List.map_nil, hs, hx, hrun]
  exact h v' w' h2 h3 h4
end
end Go.Proofs.Ytikgghioneiegaa
