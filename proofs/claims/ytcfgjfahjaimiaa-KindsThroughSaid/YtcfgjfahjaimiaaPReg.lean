/-
  A region that draws its order, whose first operations stand in no order and whose later ones wait for all of them: one small proof an operation.
-/
import Derived.Test.YtcfgjfahjaimiaaMem
import Derived.Orders
namespace Go.Proofs.Ytcfgjfahjaimiaa
open Go.RowKit
set_option linter.unusedVariables false
set_option linter.unusedSimpArgs false

section
variable {P : Program} {ops : Array Oper} {Q : Exit → Act → World → Prop}

def unl (L : Array Bool) : Nat := (L.toList.filter (!·)).length
theorem unl_set (L : Array Bool) (i : Nat) (h : L.getD i true = false) : unl (L.setIfInBounds i true) + 1 = unl L := by
  obtain ⟨l⟩ := L
  unfold unl
  have hi : i < l.length := by
    rcases Nat.lt_or_ge i l.length with h' | h'
    · exact h'
    · simp [h'] at h
  have hv : l[i] = false := by simpa [hi] using h
  simp only [List.setIfInBounds_toArray]
  clear h
  induction l generalizing i with
  | nil => simp at hi
  | cons x l ih =>
    cases i with
    | zero =>
      simp at hv
      subst hv
      simp
    | succ i =>
      simp at hi hv
      have := ih i hi hv
      cases x <;> simp at this ⊢ <;> omega

def preL (m n : Nat) : Array Bool := (List.replicate m true ++ List.replicate (n - m) false).toArray
theorem preL_size {m n : Nat} (h : m ≤ n) : (preL m n).size = n := by simp [preL]; omega
theorem preL_unl (m n : Nat) : unl (preL m n) = n - m := by
  simp [preL, unl, List.filter_append]
theorem preL_of {m n : Nat} {L : Array Bool} (h : m ≤ n) (hs : L.size = n) (h1 : ∀ i, i < m → L.getD i true = true) (h2 : ∀ i, m ≤ i → i < n → L.getD i true = false) : L = preL m n := by
  apply Array.ext (by rw [hs, preL_size h])
  intro i hi hi2
  have hg : L.getD i true = L[i] := by simp [Array.getD, hi]
  rw [← hg]
  rcases Nat.lt_or_ge i m with hlt | hge
  · rw [h1 i hlt]; simp [preL, hlt]
  · rw [h2 i hge (by omega)]; simp [preL, List.getElem_append]; omega

/-- The form of such a region. -/
def preB (ops : Array Oper) (m : Nat) : Bool :=
  decide (m ≤ ops.size) && (List.range ops.size).all fun i => match ops[i]? with
    | none => false
    | some o => if i < m then o.guard.isNone && o.after.all (fun e => !Region.binds .any e || decide (e.on < i)) && (List.range i).all (fun j => match ops[j]? with
        | none => false
        | some o' => o'.dst.isNone || o'.dst != o.dst)
      else (List.range m).all fun j => o.after.any fun e => e.on == j && Region.binds .any e
theorem preB_parts {m : Nat} (h : preB ops m = true) : m ≤ ops.size ∧ (∀ (i : Nat) (o : Oper), ops[i]? = some o → i < m → o.guard = none ∧ ∀ e ∈ o.after, Region.binds .any e = true → e.on < i) ∧
    (∀ (i j : Nat) (o o' : Oper) (t : Nat), i < m → j < m → ops[i]? = some o → ops[j]? = some o' → i ≠ j → o.dst = some t → o'.dst ≠ some t) ∧
    (∀ (i : Nat) (o : Oper), ops[i]? = some o → m ≤ i → ∀ j, j < m → ∃ e ∈ o.after, e.on = j ∧ Region.binds .any e = true) := by
  unfold preB at h
  simp only [Bool.and_eq_true, decide_eq_true_eq, List.all_eq_true, List.mem_range] at h
  obtain ⟨h1, h2⟩ := h
  have key : ∀ (i : Nat) (o : Oper), ops[i]? = some o → i < m → o.guard.isNone = true ∧ (∀ e ∈ o.after, Region.binds .any e = true → e.on < i) ∧ ∀ (j : Nat), j < i → ∀ (o' : Oper), ops[j]? = some o' → o'.dst = none ∨ o'.dst ≠ o.dst := by
    intro i o ho hi
    have := h2 i (Array.getElem?_eq_some_iff.1 ho).1
    rw [ho] at this
    simp only [if_pos hi, Bool.and_eq_true, List.all_eq_true, List.mem_range] at this
    obtain ⟨⟨k1, k2⟩, k3⟩ := this
    refine ⟨k1, ?_, ?_⟩
    · intro e he hb
      have := (Array.all_eq_true_iff_forall_mem.1 k2) e he
      simpa [hb] using this
    · intro j hj o' ho'
      have := k3 j hj
      rw [ho'] at this
      simpa using this
  refine ⟨h1, fun i o ho hi => ⟨by simpa using (key i o ho hi).1, (key i o ho hi).2.1⟩, ?_, ?_⟩
  · intro i j o o' t hi hj ho ho' hij hd hd'
    rcases Nat.lt_or_ge i j with hlt | hge
    · rcases (key j o' ho' hj).2.2 i hlt o ho with k | k
      · rw [hd] at k; cases k
      · exact k (by rw [hd, hd'])
    · rcases (key i o ho hi).2.2 j (by omega) o' ho' with k | k
      · rw [hd'] at k; cases k
      · exact k (by rw [hd, hd'])
  · intro i o ho hi j hj
    have := h2 i (Array.getElem?_eq_some_iff.1 ho).1
    rw [ho] at this
    simp only [if_neg (show ¬ i < m by omega), List.all_eq_true, List.mem_range] at this
    have := this j hj
    rw [Array.any_eq_true] at this
    obtain ⟨k, hk, he⟩ := this
    simp at he
    exact ⟨o.after[k], Array.getElem_mem hk, he.1, he.2⟩

theorem wpAny_pre {m : Nat} (hB : preB ops m = true) (I : Array Bool → Act → World → Prop)
    (hs : ∀ (L : Array Bool) (a : Act) (w : World) (i : Nat) (o : Oper), L.size = ops.size → ops[i]? = some o → i < m → L.getD i true = false → (∀ e ∈ o.after, Region.binds .any e = true → L.getD e.on false = true) → I L a w → wpOp P ops Q i (I (L.setIfInBounds i true)) a w)
    (he : ∀ a w, I (preL m ops.size) a w → wpAny P .any ops Q (ops.size - m) (preL m ops.size) a w) :
    ∀ (n : Nat) (L : Array Bool) (a : Act) (w : World), L.size = ops.size → (∀ i, m ≤ i → i < ops.size → L.getD i true = false) → unl L = n → I L a w → wpAny P .any ops Q n L a w := by
  obtain ⟨b1, b2, b3, b4⟩ := preB_parts hB
  intro n
  induction n with
  | zero =>
    intro L a w h1 h2 h3 h4
    have hall : ∀ i, i < ops.size → L.getD i true = true := by
      intro i hi
      cases hv : L.getD i true with
      | true => rfl
      | false => have := unl_set L i hv; omega
    have hm : m = ops.size := by
      rcases Nat.lt_or_ge m ops.size with hlt | hge
      · have := h2 m (Nat.le_refl _) hlt; rw [hall m hlt] at this; cases this
      · omega
    have hL : L = preL m ops.size := preL_of b1 h1 (fun i hi => hall i (by omega)) h2
    have := he a w (hL ▸ h4)
    rw [← hL] at this
    rwa [show ops.size - m = 0 by omega] at this
  | succ n ih =>
    intro L a w h1 h2 h3 h4
    by_cases hd : ∀ i, i < m → L.getD i true = true
    · have hL : L = preL m ops.size := preL_of b1 h1 hd h2
      have := he a w (hL ▸ h4)
      have hn := preL_unl m ops.size
      rw [← hL, h3] at hn
      rw [← hL, ← hn] at this
      exact this
    · have hu : ∃ i, i < m ∧ L.getD i true = false := by
        apply Classical.byContradiction
        intro hc
        refine hd fun i hi => ?_
        cases hv : L.getD i true with
        | true => rfl
        | false => exact absurd ⟨i, hi, hv⟩ hc
      have hex : ∃ i, i ∈ Region.ready .any ops L ∧ i < m := by
        obtain ⟨i, hi, hv⟩ := hu
        revert hi hv
        induction i using Nat.strongRecOn with
        | _ i ih2 =>
          intro hi hv
          by_cases hr : i ∈ Region.ready .any ops L
          · exact ⟨i, hr, hi⟩
          · have hio : i < ops.size := by omega
            have ho := Array.getElem?_eq_getElem hio
            have : ∃ e ∈ ops[i].after, Region.binds .any e = true ∧ L.getD e.on false ≠ true := by
              apply Classical.byContradiction
              intro hc
              exact hr (mem_ready.2 ⟨hv, ops[i], ho, fun e he hb => Classical.byContradiction fun hx => hc ⟨e, he, hb, hx⟩⟩)
            obtain ⟨e, he, hb, hx⟩ := this
            have hlt := (b2 i _ ho hi).2 e he hb
            refine ih2 e.on hlt (by omega) ?_
            have : e.on < L.size := by omega
            simp only [Array.getD, this, dif_pos] at hx ⊢
            simpa using hx
      refine ⟨fun hr => ?_, fun i hi => ?_⟩
      · obtain ⟨i, hi, _⟩ := hex
        rw [hr] at hi; cases hi
      · obtain ⟨g1, o, g2, g3⟩ := mem_ready.1 hi
        have him : i < m := by
          rcases Nat.lt_or_ge i m with hlt | hge
          · exact hlt
          · obtain ⟨j, hj, hv⟩ := hu
            obtain ⟨e, he1, he2, he3⟩ := b4 i o g2 hge j hj
            have := g3 e he1 he3
            rw [he2] at this
            have hjl : j < L.size := by omega
            simp [Array.getD, hjl] at this hv
            rw [this] at hv; cases hv
        have hu := unl_set L i g1
        refine wpOp_mono (fun a w h => ih _ a w (by simpa using h1) (fun k hk hk2 => ?_) (by omega) h) (hs L a w i o h1 g2 him g1 g3 h4)
        rw [getD_set_ne true (by omega)]
        exact h2 k hk hk2

/-- What each operation puts, one behind the other. -/
def putAll (vals : Nat → Value) : List Oper → Nat → Act → Act
  | [], _, a => a
  | o :: l, k, a => putAll vals l (k + 1) (a.put o.dst (vals k))

theorem put_size (a : Act) (d : Option Tmp) (v : Value) : (a.put d v).tmps.size = a.tmps.size := by cases d <;> simp [Act.put]
theorem put_get (a : Act) (d : Option Tmp) (v : Value) (t : Nat) (h : d ≠ some t) : (a.put d v).tmps[t]? = a.tmps[t]? := by
  cases d with
  | none => rfl
  | some d => simp [Act.put]; rw [Array.getElem?_setIfInBounds_ne (fun e => h (by rw [e]))]
theorem put_self (a : Act) (v : Value) (t : Nat) (h : t < a.tmps.size) : (a.put (some t) v).tmps[t]? = some v := by
  simp [Act.put, h]
theorem put_defers (a : Act) (d : Option Tmp) (v : Value) : (a.put d v).defers = a.defers := by cases d <;> rfl
theorem eval_of_get {a a' : Act} {t : Nat} (h : a.tmps[t]? = a'.tmps[t]?) : a.eval (.tmp t) = a'.eval (.tmp t) := by
  unfold Act.eval; simp only [Array.getD_eq_getD_getElem?, h]
theorem eval_put_ne (a : Act) (d : Option Tmp) (v : Value) (t : Nat) (h : d ≠ some t) : (a.put d v).eval (.tmp t) = a.eval (.tmp t) := eval_of_get (put_get a d v t h)
theorem eval_put_self (a : Act) (v : Value) (t : Nat) (h : t < a.tmps.size) : (a.put (some t) v).eval (.tmp t) = v := by
  unfold Act.eval; simp only [Array.getD_eq_getD_getElem?, put_self a v t h]; rfl
theorem putAll_defers (vals : Nat → Value) (l : List Oper) : ∀ (k : Nat) (a : Act), (putAll vals l k a).defers = a.defers := by
  induction l with
  | nil => intro k a; rfl
  | cons o l ih => intro k a; simp [putAll, ih, put_defers]
theorem putAll_size (vals : Nat → Value) (l : List Oper) : ∀ (k : Nat) (a : Act), (putAll vals l k a).tmps.size = a.tmps.size := by
  induction l with
  | nil => intro k a; rfl
  | cons o l ih => intro k a; simp [putAll, ih, put_size]
theorem putAll_other (vals : Nat → Value) (l : List Oper) : ∀ (k : Nat) (a : Act) (t : Nat), (∀ o ∈ l, o.dst ≠ some t) → (putAll vals l k a).tmps[t]? = a.tmps[t]? := by
  induction l with
  | nil => intro k a t _; rfl
  | cons o l ih => intro k a t h; rw [putAll, ih _ _ _ (fun o ho => h o (List.mem_cons_of_mem _ ho)), put_get _ _ _ _ (h o List.mem_cons_self)]
theorem putAll_at (vals : Nat → Value) (l : List Oper) : ∀ (k : Nat) (a : Act) (i : Nat) (o : Oper) (t : Nat), l[i]? = some o → o.dst = some t → (∀ (j : Nat) (o' : Oper), j ≠ i → l[j]? = some o' → o'.dst ≠ some t) → t < a.tmps.size → (putAll vals l k a).tmps[t]? = some (vals (k + i)) := by
  induction l with
  | nil => intro k a i o t h; simp at h
  | cons x l ih =>
    intro k a i o t h hd hn ht
    cases i with
    | zero =>
      simp at h
      subst h
      rw [putAll, putAll_other, hd, put_self _ _ _ ht]
      · rfl
      · intro o' ho'
        obtain ⟨j, hj⟩ := List.mem_iff_getElem?.1 ho'
        exact hn (j + 1) o' (by omega) (by simpa using hj)
    | succ i =>
      rw [putAll, ih (k + 1) _ i o t (by simpa using h) hd (fun j o' hj ho' => hn (j + 1) o' (by omega) (by simpa using ho')) (by rw [put_size]; exact ht)]
      congr 2
      omega

def inB (ops : Array Oper) (m n : Nat) : Bool := (ops.toList.take m).all fun o => match o.dst with | some d => decide (d < n) | none => true
theorem inB_lt {m n : Nat} (h : inB ops m n = true) : ∀ (i : Nat) (o : Oper) (d : Nat), i < m → ops[i]? = some o → o.dst = some d → d < n := by
  intro i o d hi ho hd
  have := (List.all_eq_true.1 h) o (List.mem_iff_getElem?.2 ⟨i, by rw [List.getElem?_take_of_lt hi]; simpa using ho⟩)
  rw [hd] at this
  simpa using this
def upd {α : Type} (f : Nat → α) (i : Nat) (v : α) : Nat → α := fun k => if k = i then v else f k
theorem upd_self {α : Type} (f : Nat → α) (i : Nat) (v : α) : upd f i v i = v := if_pos rfl
theorem upd_ne {α : Type} (f : Nat → α) (i : Nat) (v : α) {k : Nat} (h : k ≠ i) : upd f i v k = f k := if_neg h

/-- A region that draws: J says what holds while some of the first m operations are done: which ones, what they have put, the world. -/
theorem wp_region_J {id : Nat} {a0 : Act} {w0 : World} (m : Nat) (hm : P.follows .mixedOrders = true) (hB : preB ops m = true)
    (J : (Nat → Bool) → (Nat → Value) → World → Prop) (hJL : ∀ L L' vals w, (∀ i, i < m → L i = L' i) → J L vals w → J L' vals w) (hJ : ∀ vals, J (fun _ => false) vals w0.drew)
    (n : Nat) (hn : a0.tmps.size = n) (hinB : inB ops m n = true)
    (hs : ∀ (i : Nat) (o : Oper), ops[i]? = some o → i < m → ∀ (a : Act) (w : World) (L : Nat → Bool) (vals : Nat → Value), J L vals w → L i = false → a.defers = a0.defers → (∀ t, (∀ o' ∈ ops, o'.dst ≠ some t) → a.eval (.tmp t) = a0.eval (.tmp t)) →
      (∀ (j : Nat) (o' : Oper) (d : Nat), j < m → ops[j]? = some o' → o'.dst = some d → L j = true → a.eval (.tmp d) = vals j) → (∀ e ∈ o.after, Region.binds .any e = true → L e.on = true) →
      ∀ K : Act → World → Prop, (∀ v w', J (upd L i true) (upd vals i v) w' → K (a.put o.dst v) w') → o.wp P a w K Q)
    (he : ∀ (vals : Nat → Value) (w : World) (a : Act), a = putAll vals (ops.toList.take m) 0 a0 → a.defers = a0.defers → (∀ t, (∀ o' ∈ ops, o'.dst ≠ some t) → a.eval (.tmp t) = a0.eval (.tmp t)) → (∀ (j : Nat) (o' : Oper) (d : Nat), j < m → ops[j]? = some o' → o'.dst = some d → a.eval (.tmp d) = vals j) → a.tmps.size = n → J (fun _ => true) vals w → wpAny P .any ops Q (ops.size - m) (preL m ops.size) a w) :
    (Code.region id ops true).wp P Q a0 w0 := by
  obtain ⟨b1, b2, b3, b4⟩ := preB_parts hB
  have hin := inB_lt hinB
  rw [← hn] at hin
  have hw : ∀ (i : Nat) (o : Oper) (a : Act), i < m → ops[i]? = some o → Region.wanted o (yielded ops a.tmps) = true := fun i o a hi ho => by simp [Region.wanted, (b2 i o ho hi).1]
  refine wp_region_any hm (wpAny_pre hB (fun L a w => (∀ i, m ≤ i → i < ops.size → L.getD i true = false) ∧ a.defers = a0.defers ∧ a.tmps.size = a0.tmps.size ∧ (∀ t, (∀ (i : Nat) (o : Oper), i < m → ops[i]? = some o → L.getD i true = true → o.dst ≠ some t) → a.tmps[t]? = a0.tmps[t]?) ∧
    ∃ vals : Nat → Value, (∀ (i : Nat) (o : Oper) (d : Nat), i < m → ops[i]? = some o → o.dst = some d → L.getD i true = true → a.eval (.tmp d) = vals i) ∧ J (fun i => L.getD i true) vals w) ?_ ?_ _ _ _ _ (by simp) ?_ (by simp [unl]) ?_)
  · intro L a w i o hL ho hi hl hall hI
    obtain ⟨i0, i2, i3, i4, vals, i5, iJ⟩ := hI
    unfold wpOp
    simp only [ho, hw i o a hi ho, if_true]
    refine .inl ?_
    have hio : i < ops.size := (Array.getElem?_eq_some_iff.1 ho).1
    refine hs i o ho hi a w _ vals iJ hl i2 ?_ (fun j o' d hj ho' hd hl' => i5 j o' d hj ho' hd hl') ?_ _ ?_
    · intro t ht
      exact eval_of_get (i4 t (fun k o' _ ho' _ => ht o' (Array.mem_of_getElem? ho')))
    · intro e he1 he2
      have h1 := hall e he1 he2
      have h3 := (b2 i o ho hi).2 e he1 he2
      have h2 : e.on < L.size := by omega
      simpa [Array.getD, h2] using h1
    · intro v w' hJw
      refine ⟨fun k hk hk2 => ?_, by rw [put_defers]; exact i2, by rw [put_size]; exact i3, fun t ht => ?_, upd vals i v, ?_, ?_⟩
      · rw [getD_set_ne true (by omega)]; exact i0 k hk hk2
      · have hself : o.dst ≠ some t := ht i o hi ho (by simp [Array.getD, hL, hio])
        rw [put_get _ _ _ _ hself]
        refine i4 t fun k o' hk ho' hlk => ht k o' hk ho' ?_
        by_cases hki : i = k
        · subst hki; simp [Array.getD, hL, hio]
        · rw [getD_set_ne true hki]; exact hlk
      · intro k o' d hk ho' hd hlk
        by_cases hki : i = k
        · subst hki
          obtain rfl : o = o' := by rw [ho] at ho'; exact Option.some.inj ho'
          have hdl : d < a.tmps.size := by rw [i3]; exact hin i o d hi ho hd
          rw [hd, eval_put_self _ _ _ hdl, upd_self]
        · rw [getD_set_ne true hki] at hlk
          have hne : o.dst ≠ some d := b3 k i o' o d hk hi ho' ho (Ne.symm hki) hd
          rw [eval_put_ne _ _ _ _ hne, upd_ne _ _ _ (Ne.symm hki)]
          exact i5 k o' d hk ho' hd hlk
      · refine hJL _ _ _ _ (fun k hk => ?_) hJw
        by_cases hki : k = i
        · subst hki
          rw [upd_self]
          simp [Array.getD, hL, hio]
        · rw [upd_ne _ _ _ hki, getD_set_ne true (Ne.symm hki)]
  · intro a w hI
    obtain ⟨i0, i2, i3, i4, vals0, i5, iJ⟩ := hI
    have hall : ∀ i, i < m → (preL m ops.size).getD i true = true := by
      intro i hi
      have : i < (preL m ops.size).size := by rw [preL_size b1]; omega
      simp [Array.getD, preL, hi]
    have hfin : a = putAll vals0 (ops.toList.take m) 0 a0 := by
      have ht : a.tmps = (putAll vals0 (ops.toList.take m) 0 a0).tmps := by
        apply Array.ext_getElem?
        intro t
        by_cases hx : ∃ (k : Nat) (o' : Oper), k < m ∧ ops[k]? = some o' ∧ o'.dst = some t
        · obtain ⟨k, o', hk, ho', hd⟩ := hx
          have htl := hin k o' t hk ho' hd
          rw [putAll_at vals0 _ 0 a0 k o' t (by rw [List.getElem?_take_of_lt hk]; simpa using ho') hd (fun j o2 hj ho2 => ?_) htl]
          · have h5 := i5 k o' t hk ho' hd (hall k hk)
            rw [Nat.zero_add, ← h5]
            have : t < a.tmps.size := by omega
            simp [Act.eval, this]
          · have hj2 : j < m := by
              rcases Nat.lt_or_ge j m with hlt | hge
              · exact hlt
              · rw [List.getElem?_take_eq_none hge] at ho2; cases ho2
            rw [List.getElem?_take_of_lt hj2] at ho2
            exact b3 k j o' o2 t hk hj2 ho' (by simpa using ho2) (Ne.symm hj) hd
        · rw [putAll_other]
          · exact i4 t fun k o' hk ho' hlk hd => hx ⟨k, o', hk, ho', hd⟩
          · intro o' ho' hd
            obtain ⟨k, hk⟩ := List.mem_iff_getElem?.1 ho'
            have hk2 : k < m := by
              rcases Nat.lt_or_ge k m with hlt | hge
              · exact hlt
              · rw [List.getElem?_take_eq_none hge] at hk; cases hk
            rw [List.getElem?_take_of_lt hk2] at hk
            exact hx ⟨k, o', hk2, by simpa using hk, hd⟩
      have hdf : a.defers = (putAll vals0 (ops.toList.take m) 0 a0).defers := by rw [putAll_defers]; exact i2
      cases a
      cases hp : putAll vals0 (ops.toList.take m) 0 a0
      rw [hp] at ht hdf
      simp only at ht hdf
      rw [ht, hdf]
    refine he vals0 w a hfin i2 (fun t ht => eval_of_get (i4 t (fun k o' _ ho' _ => ht o' (Array.mem_of_getElem? ho')))) (fun k o' d hk ho' hd => i5 k o' d hk ho' hd (hall k hk)) (by rw [i3, hn]) (hJL _ _ _ _ (fun k hk => hall k hk) iJ)
  · intro i hi hi2
    simp [Array.getD, hi2]
  · refine ⟨fun i hi hi2 => by simp [Array.getD, hi2], rfl, rfl, fun t _ => rfl, fun _ => undef, fun i o d hi ho hd h => ?_, hJL _ _ _ _ (fun i hi => ?_) (hJ _)⟩
    · have hio : i < ops.size := by omega
      simp [Array.getD, hio] at h
    · have hio : i < ops.size := by omega
      simp [Array.getD, hio]

/-- One step of a region's tail: just one operation may come up. -/
theorem wpAny_step {n i : Nat} {L : Array Bool} {a : Act} {w : World} {o : Oper} (hr : Region.ready .any ops L = [i]) (ho : ops[i]? = some o) (hg : o.guard = none)
    (h : o.wp P a w (fun a' w' => wpAny P .any ops Q n (L.setIfInBounds i true) a' w') Q) : wpAny P .any ops Q (n + 1) L a w := by
  refine ⟨(fun h' => by rw [hr] at h'; cases h'), fun j hj => ?_⟩
  rw [hr] at hj
  obtain rfl : j = i := by simpa using hj
  unfold wpOp
  have hw : Region.wanted o (yielded ops a.tmps) = true := by simp [Region.wanted, hg]
  simp only [ho, hw, if_true]
  exact .inl h
theorem wpAny_two {n i j : Nat} {L : Array Bool} {a : Act} {w : World} {o o' : Oper} (hr : Region.ready .any ops L = [i, j]) (ho : ops[i]? = some o) (hg : o.guard = none) (ho' : ops[j]? = some o') (hg' : o'.guard = none)
    (h : o.wp P a w (fun a' w' => wpAny P .any ops Q n (L.setIfInBounds i true) a' w') Q) (h' : o'.wp P a w (fun a' w' => wpAny P .any ops Q n (L.setIfInBounds j true) a' w') Q) : wpAny P .any ops Q (n + 1) L a w := by
  refine ⟨(fun h' => by rw [hr] at h'; cases h'), fun k hk => ?_⟩
  rw [hr] at hk
  have hw : Region.wanted o (yielded ops a.tmps) = true := by simp [Region.wanted, hg]
  have hw' : Region.wanted o' (yielded ops a.tmps) = true := by simp [Region.wanted, hg']
  unfold wpOp
  rcases (show k = i ∨ k = j by simpa using hk) with rfl | rfl
  · simp only [ho, hw, if_true]
    exact .inl h
  · simp only [ho', hw', if_true]
    exact .inl h'
theorem wpAny_end {L : Array Bool} {a : Act} {w : World} (hr : Region.ready .any ops L = []) (h : Q .normal a w) : wpAny P .any ops Q 0 L a w := ⟨hr, h⟩
end
end Go.Proofs.Ytcfgjfahjaimiaa
