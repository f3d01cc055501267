/-
  Bytes read as a unit, plainly.
-/
import Derived.Test.YtnkojjkijkhlbaaEe
import Derived.Test.YtnkojjkijkhlbaaUv
namespace Go.Proofs.Ytnkojjkijkhlbaa
open Go.RowKit
set_option linter.unusedVariables false
set_option linter.unusedSimpArgs false

/-! ## Numbers and texts. -/
def Byt (l : List Int) : Prop := ∀ c ∈ l, 0 ≤ c ∧ c ≤ 255
def unb (l : List Int) : Int := l.foldr (fun c a => c + 256 * a) 0
def word8 (l : List Int) : Int := IntKind.i64.wrap (unb l)
theorem le8_spell (v : Int) : le8 v = [v % 256, v / 256 % 256, v / 65536 % 256, v / 16777216 % 256, v / 4294967296 % 256, v / 1099511627776 % 256, v / 281474976710656 % 256, v / 72057594037927936 % 256] := by
  simp [le8, bytesTo, List.range_succ, byteAt]
theorem word_le8 {v : Int} (h : I64 v) : word8 (le8 v) = v := by
  obtain ⟨h1, h2⟩ := h
  rw [le8_spell]
  simp only [word8, unb, List.foldr_cons, List.foldr_nil]
  rw [IntKind.wrap_i64]
  omega
theorem eight {l : List Int} (h : l.length = 8) : ∃ a b c d e f g i, l = [a, b, c, d, e, f, g, i] := by
  match l, h with
  | [a, b, c, d, e, f, g, i], _ => exact ⟨a, b, c, d, e, f, g, i, rfl⟩
theorem le8_word {l : List Int} (h : l.length = 8) (hb : Byt l) : le8 (word8 l) = l ∧ I64 (word8 l) := by
  obtain ⟨a, b, c, d, e, f, g, i, rfl⟩ := eight h
  have ha := hb a (by simp)
  have hb1 := hb b (by simp)
  have hc := hb c (by simp)
  have hd := hb d (by simp)
  have he := hb e (by simp)
  have hf := hb f (by simp)
  have hg := hb g (by simp)
  have hi := hb i (by simp)
  obtain ⟨x, hx⟩ : ∃ x, word8 [a, b, c, d, e, f, g, i] = x := ⟨_, rfl⟩
  have hx2 := hx
  simp only [word8, unb, List.foldr_cons, List.foldr_nil] at hx2
  rw [IntKind.wrap_i64] at hx2
  rw [hx, le8_spell]
  refine ⟨?_, by unfold I64; omega⟩
  simp only [List.cons.injEq, and_true]
  refine ⟨?_, ?_, ?_, ?_, ?_, ?_, ?_, ?_⟩ <;> omega
theorem strOf_sB (s : ByteArray) : strOf (sB s) = s := by
  unfold strOf sB
  apply ByteArray.ext
  apply Array.ext'
  simp only [List.map_map]
  rw [show (fun c : Int => UInt8.ofNat c.toNat) ∘ (fun c : UInt8 => (c.toNat : Int)) = id from by
    funext c
    simp]
  simp
theorem sB_strOf {l : List Int} (hb : Byt l) : sB (strOf l) = l := by
  unfold strOf sB
  simp only [List.map_map]
  rw [List.map_congr_left (g := id) (fun c hc => ?_), List.map_id]
  have := hb c hc
  simp only [Function.comp_apply, id, UInt8.toNat_ofNat']
  omega
theorem strOf_size (l : List Int) : (strOf l).size = l.length := by
  unfold strOf
  simp [ByteArray.size]
/-! ## Readers. -/
abbrev Rd (α : Type) := List Int → Option (α × List Int)
def bindR {α β : Type} (p : Rd α) (f : α → Rd β) : Rd β := fun bs => match p bs with
  | none => none
  | some (a, r) => f a r
def retR {α : Type} (a : α) : Rd α := fun bs => some (a, bs)
def takeR (n : Int) : Rd (List Int) := fun bs => if n < 0 ∨ (bs.length : Int) < n then none else some (bs.take n.toNat, bs.drop n.toNat)
def wordR : Rd Int := fun bs => if bs.length < 8 then none else some (word8 (bs.take 8), bs.drop 8)
def textR : Rd ByteArray := bindR wordR fun n => bindR (takeR n) fun l => retR (strOf l)
def flagR : Rd Bool := bindR wordR fun n => fun bs => if n = 0 then some (false, bs) else if n = 1 then some (true, bs) else none
def repR {α : Type} (p : Rd α) : Nat → Rd (List α)
  | 0 => retR []
  | n + 1 => bindR p fun a => bindR (repR p n) fun l => retR (a :: l)
def listR {α : Type} (p : Rd α) : Rd (List α) := bindR wordR fun n => fun bs => if n < 0 then none else repR p n.toNat bs
/-- What is written is read. -/
def Fwd {α : Type} (p : Rd α) (enc : α → List Int) (P : α → Prop) : Prop := ∀ x rest, P x → p (enc x ++ rest) = some (x, rest)
/-- What is read was written. -/
def Bwd {α : Type} (p : Rd α) (enc : α → List Int) (Q : α → Prop) : Prop := ∀ bs x rest, Byt bs → p bs = some (x, rest) → bs = enc x ++ rest ∧ Q x
theorem bindR_of {α β : Type} {p : Rd α} {f : α → Rd β} {bs r : List Int} {a : α} (h : p bs = some (a, r)) : bindR p f bs = f a r := by unfold bindR; rw [h]
theorem bindR_some {α β : Type} {p : Rd α} {f : α → Rd β} {bs r : List Int} {b : β} (h : bindR p f bs = some (b, r)) : ∃ a r1, p bs = some (a, r1) ∧ f a r1 = some (b, r) := by
  unfold bindR at h
  cases hp : p bs with
  | none => rw [hp] at h; cases h
  | some ar => obtain ⟨a, r1⟩ := ar; rw [hp] at h; exact ⟨a, r1, rfl, h⟩
theorem Byt.right {a b : List Int} (h : Byt (a ++ b)) : Byt b := fun c hc => h c (List.mem_append_right _ hc)
theorem Byt.left {a b : List Int} (h : Byt (a ++ b)) : Byt a := fun c hc => h c (List.mem_append_left _ hc)
theorem wordR_fwd : Fwd wordR le8 I64 := fun v rest h => by
  have h8 := le8_len v
  unfold wordR
  rw [if_neg (by rw [List.length_append]; omega)]
  have e1 : (le8 v ++ rest).take 8 = le8 v := by rw [← h8]; exact List.take_left
  have e2 : (le8 v ++ rest).drop 8 = rest := by rw [← h8]; exact List.drop_left
  rw [e1, e2, word_le8 h]
theorem wordR_bwd : Bwd wordR le8 I64 := fun bs x rest hb h => by
  unfold wordR at h
  split at h
  · cases h
  · rename_i h8
    simp only [Option.some.injEq, Prod.mk.injEq] at h
    obtain ⟨rfl, rfl⟩ := h
    have hl : (bs.take 8).length = 8 := by rw [List.length_take]; omega
    have hbt : Byt (bs.take 8) := fun c hc => hb c (List.mem_of_mem_take hc)
    obtain ⟨e, hr⟩ := le8_word hl hbt
    exact ⟨by rw [e, List.take_append_drop], hr⟩
def encS8 (s : ByteArray) : List Int := le8 s.size ++ sB s
theorem textR_fwd : Fwd textR encS8 (fun s => s.size ≤ 140737488355328) := fun s rest h => by
  unfold textR encS8
  rw [List.append_assoc, bindR_of (wordR_fwd _ _ (⟨by omega, by omega⟩ : I64 (s.size : Int)))]
  have hl := sB_len s
  have e1 : (sB s ++ rest).take s.size = sB s := by rw [← hl]; exact List.take_left
  have e2 : (sB s ++ rest).drop s.size = rest := by rw [← hl]; exact List.drop_left
  have ht : takeR (s.size : Int) (sB s ++ rest) = some (sB s, rest) := by
    unfold takeR
    rw [if_neg (by rw [List.length_append]; omega)]
    simp only [Int.toNat_natCast, e1, e2]
  rw [bindR_of ht]
  unfold retR
  rw [strOf_sB]
theorem takeR_some {n : Int} {bs x rest : List Int} (h : takeR n bs = some (x, rest)) : 0 ≤ n ∧ n ≤ bs.length ∧ x = bs.take n.toNat ∧ rest = bs.drop n.toNat := by
  unfold takeR at h
  split at h
  · cases h
  · simp only [Option.some.injEq, Prod.mk.injEq] at h
    exact ⟨by omega, by omega, h.1.symm, h.2.symm⟩
theorem textR_bwd : Bwd textR encS8 (fun _ => True) := fun bs x rest hb h => by
  unfold textR at h
  obtain ⟨n, r1, h1, h2⟩ := bindR_some h
  obtain ⟨l, r2, h3, h4⟩ := bindR_some h2
  obtain ⟨rfl, hn⟩ := wordR_bwd _ _ _ hb h1
  obtain ⟨n0, n1, rfl, rfl⟩ := takeR_some h3
  unfold retR at h4
  simp only [Option.some.injEq, Prod.mk.injEq] at h4
  obtain ⟨rfl, rfl⟩ := h4
  have hb2 := hb.right
  have hbt : Byt (r1.take n.toNat) := fun c hc => hb2 c (List.mem_of_mem_take hc)
  refine ⟨?_, trivial⟩
  unfold encS8
  rw [sB_strOf hbt, strOf_size, List.length_take, List.append_assoc, List.take_append_drop]
  congr 2
  omega
theorem flagR_fwd : Fwd flagR (fun b => le8 (flagN b)) (fun _ => True) := fun b rest _ => by
  unfold flagR
  cases b with
  | true => rw [bindR_of (wordR_fwd _ _ (by simp [flagN, I64]))]; simp [flagN]
  | false => rw [bindR_of (wordR_fwd _ _ (by simp [flagN, I64]))]; simp [flagN]
theorem flagR_bwd : Bwd flagR (fun b => le8 (flagN b)) (fun _ => True) := fun bs x rest hb h => by
  unfold flagR at h
  obtain ⟨n, r1, h1, h2⟩ := bindR_some h
  obtain ⟨rfl, hn⟩ := wordR_bwd _ _ _ hb h1
  split at h2
  · rename_i h0
    simp only [Option.some.injEq, Prod.mk.injEq] at h2
    obtain ⟨rfl, rfl⟩ := h2
    exact ⟨by rw [h0]; rfl, trivial⟩
  · split at h2
    · rename_i h0
      simp only [Option.some.injEq, Prod.mk.injEq] at h2
      obtain ⟨rfl, rfl⟩ := h2
      exact ⟨by rw [h0]; rfl, trivial⟩
    · cases h2
theorem repR_fwd {α : Type} {p : Rd α} {enc : α → List Int} {P : α → Prop} (hp : Fwd p enc P) : ∀ (l : List α) (rest : List Int), (∀ a ∈ l, P a) → repR p l.length (encL enc l ++ rest) = some (l, rest)
  | [], rest, _ => rfl
  | a :: r, rest, h => by
    simp only [List.length_cons, repR, encL]
    rw [List.append_assoc, bindR_of (hp a _ (h a List.mem_cons_self)), bindR_of (repR_fwd hp r rest (fun b hb => h b (List.mem_cons_of_mem _ hb)))]
    rfl
theorem repR_bwd {α : Type} {p : Rd α} {enc : α → List Int} {Q : α → Prop} (hp : Bwd p enc Q) : ∀ (n : Nat) (bs : List Int) (l : List α) (rest : List Int), Byt bs → repR p n bs = some (l, rest) → l.length = n ∧ bs = encL enc l ++ rest ∧ ∀ a ∈ l, Q a
  | 0, bs, l, rest, _, h => by
    simp only [repR, retR, Option.some.injEq, Prod.mk.injEq] at h
    obtain ⟨rfl, rfl⟩ := h
    exact ⟨rfl, rfl, fun a ha => by cases ha⟩
  | n + 1, bs, l, rest, hb, h => by
    simp only [repR] at h
    obtain ⟨a, r1, h1, h2⟩ := bindR_some h
    obtain ⟨l2, r2, h3, h4⟩ := bindR_some h2
    simp only [retR, Option.some.injEq, Prod.mk.injEq] at h4
    obtain ⟨rfl, rfl⟩ := h4
    obtain ⟨rfl, q1⟩ := hp _ _ _ hb h1
    obtain ⟨e1, rfl, q2⟩ := repR_bwd hp n _ _ _ hb.right h3
    refine ⟨by rw [List.length_cons, e1], by simp only [encL, List.append_assoc], fun b hb2 => ?_⟩
    rcases List.mem_cons.1 hb2 with rfl | hb2
    · exact q1
    · exact q2 b hb2
def encLn {α : Type} (enc : α → List Int) (l : List α) : List Int := le8 l.length ++ encL enc l
theorem listR_fwd {α : Type} {p : Rd α} {enc : α → List Int} {P : α → Prop} (hp : Fwd p enc P) : Fwd (listR p) (encLn enc) (fun l => l.length ≤ 140737488355328 ∧ ∀ a ∈ l, P a) := fun l rest h => by
  unfold listR encLn
  rw [List.append_assoc, bindR_of (wordR_fwd _ _ (⟨by omega, by omega⟩ : I64 (l.length : Int)))]
  rw [if_neg (by omega)]
  simp only [Int.toNat_natCast]
  exact repR_fwd hp l rest h.2
theorem listR_bwd {α : Type} {p : Rd α} {enc : α → List Int} {Q : α → Prop} (hp : Bwd p enc Q) : Bwd (listR p) (encLn enc) (fun l => ∀ a ∈ l, Q a) := fun bs l rest hb h => by
  unfold listR at h
  obtain ⟨n, r1, h1, h2⟩ := bindR_some h
  obtain ⟨rfl, hn⟩ := wordR_bwd _ _ _ hb h1
  split at h2
  · cases h2
  · obtain ⟨e1, rfl, q⟩ := repR_bwd hp _ _ _ _ hb.right h2
    refine ⟨?_, q⟩
    unfold encLn
    rw [List.append_assoc, e1]
    congr 2
    omega
/-! ## The parts of a unit. -/
def typR : Nat → Rd Ty
  | 0 => fun _ => none
  | f + 1 => bindR wordR fun k => bindR textR fun p => bindR textR fun n => bindR (listR (typR f)) fun la => bindR (listR (typR f)) fun lr => retR (.mk k p n la lr)
def exR : Nat → Rd Ex
  | 0 => fun _ => none
  | f + 1 => bindR wordR fun op => bindR wordR fun n => bindR textR fun s => bindR (listR (exR f)) fun kids => retR (.mk op n s kids)
def stR (g : Nat) : Nat → Rd St
  | 0 => fun _ => none
  | f + 1 => bindR wordR fun op => bindR wordR fun n => bindR (listR (exR g)) fun es => bindR (listR (stR g f)) fun bo => bindR (listR (stR g f)) fun el => retR (.mk op n es bo el)
def imR : Rd Im := bindR textR fun s => bindR wordR fun v => retR ⟨s, v⟩
def fiR (f : Nat) : Rd Fi := bindR textR fun s => bindR (typR f) fun t => retR ⟨s, t⟩
def dlR (f : Nat) : Rd Dl := bindR wordR fun k => bindR textR fun s => bindR textR fun o => bindR wordR fun v => bindR (typR f) fun t => bindR (listR (fiR f)) fun fs => retR ⟨k, s, o, v, t, fs⟩
def fnR (f : Nat) : Rd Fn8 := bindR textR fun s => bindR flagR fun w => bindR wordR fun p => bindR wordR fun l => bindR (listR (stR f f)) fun b => retR ⟨s, w, p, l, b⟩
def unR (f : Nat) : Rd Un := bindR textR fun s => bindR (listR imR) fun im => bindR (listR (dlR f)) fun dc => bindR (listR (fnR f)) fun fn => retR ⟨s, im, dc, fn⟩
theorem encT_mk (k : Int) (p n : ByteArray) (la lr : List Ty) : encT (.mk k p n la lr) = le8 k ++ (encS8 p ++ (encS8 n ++ (encLn encT la ++ encLn encT lr))) := by
  simp only [encT, encTs_eq, encS8, encLn, List.append_assoc]
theorem encE_mk (op n : Int) (s : ByteArray) (kids : List Ex) : encE (.mk op n s kids) = le8 op ++ (le8 n ++ (encS8 s ++ encLn encE kids)) := by
  simp only [encE, encEs_eq, encS8, encLn, List.append_assoc]
theorem encS_mk (op n : Int) (es : List Ex) (bo el : List St) : encS (.mk op n es bo el) = le8 op ++ (le8 n ++ (encLn encE es ++ (encLn encS bo ++ encLn encS el))) := by
  simp only [encS, encSs_eq, encLn, List.append_assoc]
theorem encIm_mk (a : Im) : encIm a = encS8 a.name ++ le8 a.hash := rfl
theorem encF_mk (a : Fi) : encF a = encS8 a.name ++ encT a.ty := rfl
theorem encD_mk (d : Dl) : encD d = le8 d.kind ++ (encS8 d.name ++ (encS8 d.of ++ (le8 d.value ++ (encT d.ty ++ encLn encF d.fields)))) := by
  simp only [encD, encS8, encLn, List.append_assoc]
theorem encFn_mk (f : Fn8) : encFn f = encS8 f.name ++ (le8 (flagN f.weak) ++ (le8 f.params ++ (le8 f.locals ++ encLn encS f.body))) := by
  simp only [encFn, encS8, encLn, List.append_assoc]
theorem encU_mk (u : Un) : encU u = encS8 u.pkg ++ (encLn encIm u.imps ++ (encLn encD u.decls ++ encLn encFn u.funs)) := by
  simp only [encU, encS8, encLn, List.append_assoc]
theorem typR_fwd : ∀ f : Nat, Fwd (typR f) encT (fun t => t.count ≤ f ∧ t.mx ≤ 140737488355328 ∧ t.count ≤ 140737488355328 ∧ t.rng)
  | 0 => fun t rest h => by have := count_pos t; have := h.1; omega
  | f + 1 => fun t rest h => by
    obtain ⟨k, p, n, la, lr⟩ := t
    obtain ⟨h1, h2, h3, h4⟩ := h
    rw [count_mk] at h1 h3
    rw [mx_mk] at h2
    simp only [Ty.rng] at h4
    obtain ⟨r1, r2, r3⟩ := h4
    rw [rngL_iff] at r2 r3
    have ll := len_countL la
    have lr' := len_countL lr
    have ha : ∀ t ∈ la, t.count ≤ f ∧ t.mx ≤ 140737488355328 ∧ t.count ≤ 140737488355328 ∧ t.rng := fun t ht => by
      obtain ⟨i, hi⟩ := List.getElem?_of_mem ht
      have a1 := count_kid la i t hi
      have a2 := mx_kid la i t hi
      exact ⟨by omega, by omega, by omega, r2 t ht⟩
    have hb : ∀ t ∈ lr, t.count ≤ f ∧ t.mx ≤ 140737488355328 ∧ t.count ≤ 140737488355328 ∧ t.rng := fun t ht => by
      obtain ⟨i, hi⟩ := List.getElem?_of_mem ht
      have a1 := count_kid lr i t hi
      have a2 := mx_kid lr i t hi
      exact ⟨by omega, by omega, by omega, r3 t ht⟩
    rw [encT_mk]
    simp only [typR, List.append_assoc]
    rw [bindR_of (wordR_fwd _ _ r1), bindR_of (textR_fwd _ _ (by omega)), bindR_of (textR_fwd _ _ (by omega)), bindR_of (listR_fwd (typR_fwd f) _ _ ⟨by omega, ha⟩), bindR_of (listR_fwd (typR_fwd f) _ _ ⟨by omega, hb⟩)]
    rfl
theorem typR_bwd : ∀ f : Nat, Bwd (typR f) encT Ty.rng
  | 0 => fun bs x rest _ h => by cases h
  | f + 1 => fun bs x rest hb h => by
    simp only [typR] at h
    obtain ⟨k, b1, e1, h⟩ := bindR_some h
    obtain ⟨p, b2, e2, h⟩ := bindR_some h
    obtain ⟨n, b3, e3, h⟩ := bindR_some h
    obtain ⟨la, b4, e4, h⟩ := bindR_some h
    obtain ⟨lr, b5, e5, h⟩ := bindR_some h
    simp only [retR, Option.some.injEq, Prod.mk.injEq] at h
    obtain ⟨rfl, rfl⟩ := h
    obtain ⟨rfl, q1⟩ := wordR_bwd _ _ _ hb e1
    have hb := hb.right
    obtain ⟨rfl, _⟩ := textR_bwd _ _ _ hb e2
    have hb := hb.right
    obtain ⟨rfl, _⟩ := textR_bwd _ _ _ hb e3
    have hb := hb.right
    obtain ⟨rfl, q4⟩ := listR_bwd (typR_bwd f) _ _ _ hb e4
    have hb := hb.right
    obtain ⟨rfl, q5⟩ := listR_bwd (typR_bwd f) _ _ _ hb e5
    refine ⟨by rw [encT_mk]; simp only [List.append_assoc], ?_⟩
    simp only [Ty.rng]
    exact ⟨q1, (rngL_iff _).2 q4, (rngL_iff _).2 q5⟩
theorem exR_fwd : ∀ f : Nat, Fwd (exR f) encE (fun t => t.cnt ≤ f ∧ t.ok 140737488355328 ∧ t.rng)
  | 0 => fun t rest h => by have := t.cnt_pos; have := h.1; omega
  | f + 1 => fun t rest h => by
    obtain ⟨op, n, s, kids⟩ := t
    obtain ⟨h1, h2, h3⟩ := h
    rw [cnt_ex, cntEs_sum] at h1
    simp only [Ex.ok] at h2
    obtain ⟨o1, o2, o3⟩ := h2
    rw [okEs_iff] at o3
    simp only [Ex.rng] at h3
    obtain ⟨r1, r2, r3⟩ := h3
    rw [rngEs_iff] at r3
    have ha : ∀ t ∈ kids, t.cnt ≤ f ∧ t.ok 140737488355328 ∧ t.rng := fun t ht => ⟨by have := sumL_mem8 Ex.cnt kids t ht; omega, o3 t ht, r3 t ht⟩
    rw [encE_mk]
    simp only [exR, List.append_assoc]
    rw [bindR_of (wordR_fwd _ _ r1), bindR_of (wordR_fwd _ _ r2), bindR_of (textR_fwd _ _ o1), bindR_of (listR_fwd (exR_fwd f) _ _ ⟨o2, ha⟩)]
    rfl
theorem exR_bwd : ∀ f : Nat, Bwd (exR f) encE Ex.rng
  | 0 => fun bs x rest _ h => by cases h
  | f + 1 => fun bs x rest hb h => by
    simp only [exR] at h
    obtain ⟨op, b1, e1, h⟩ := bindR_some h
    obtain ⟨n, b2, e2, h⟩ := bindR_some h
    obtain ⟨s, b3, e3, h⟩ := bindR_some h
    obtain ⟨kids, b4, e4, h⟩ := bindR_some h
    simp only [retR, Option.some.injEq, Prod.mk.injEq] at h
    obtain ⟨rfl, rfl⟩ := h
    obtain ⟨rfl, q1⟩ := wordR_bwd _ _ _ hb e1
    have hb := hb.right
    obtain ⟨rfl, q2⟩ := wordR_bwd _ _ _ hb e2
    have hb := hb.right
    obtain ⟨rfl, _⟩ := textR_bwd _ _ _ hb e3
    have hb := hb.right
    obtain ⟨rfl, q4⟩ := listR_bwd (exR_bwd f) _ _ _ hb e4
    refine ⟨by rw [encE_mk]; simp only [List.append_assoc], ?_⟩
    simp only [Ex.rng]
    exact ⟨q1, q2, (rngEs_iff _).2 q4⟩
theorem stR_fwd (g : Nat) : ∀ f : Nat, Fwd (stR g f) encS (fun t => t.cnt ≤ f ∧ t.cnt ≤ g ∧ t.ok 140737488355328 ∧ t.rng)
  | 0 => fun t rest h => by have := t.cnt_pos; have := h.1; omega
  | f + 1 => fun t rest h => by
    obtain ⟨op, n, es, bo, el⟩ := t
    obtain ⟨h1, h0, h2, h3⟩ := h
    rw [cnt_st, cntEs_sum, cntSs_sum, cntSs_sum] at h1 h0
    simp only [St.ok] at h2
    obtain ⟨⟨o1, o2⟩, ⟨o3, o4⟩, o5, o6⟩ := h2
    rw [okEs_iff] at o2
    rw [okSs_iff] at o4 o6
    simp only [St.rng] at h3
    obtain ⟨r1, r2, r3, r4, r5⟩ := h3
    rw [rngEs_iff] at r3
    rw [rngSs_iff] at r4 r5
    have ha : ∀ t ∈ es, t.cnt ≤ g ∧ t.ok 140737488355328 ∧ t.rng := fun t ht => ⟨by have := sumL_mem8 Ex.cnt es t ht; omega, o2 t ht, r3 t ht⟩
    have hb : ∀ t ∈ bo, t.cnt ≤ f ∧ t.cnt ≤ g ∧ t.ok 140737488355328 ∧ t.rng := fun t ht => by
      have := sumL_mem8 St.cnt bo t ht
      exact ⟨by omega, by omega, o4 t ht, r4 t ht⟩
    have hc : ∀ t ∈ el, t.cnt ≤ f ∧ t.cnt ≤ g ∧ t.ok 140737488355328 ∧ t.rng := fun t ht => by
      have := sumL_mem8 St.cnt el t ht
      exact ⟨by omega, by omega, o6 t ht, r5 t ht⟩
    rw [encS_mk]
    simp only [stR, List.append_assoc]
    rw [bindR_of (wordR_fwd _ _ r1), bindR_of (wordR_fwd _ _ r2), bindR_of (listR_fwd (exR_fwd g) _ _ ⟨o1, ha⟩), bindR_of (listR_fwd (stR_fwd g f) _ _ ⟨o3, hb⟩), bindR_of (listR_fwd (stR_fwd g f) _ _ ⟨o5, hc⟩)]
    rfl
theorem stR_bwd (g : Nat) : ∀ f : Nat, Bwd (stR g f) encS St.rng
  | 0 => fun bs x rest _ h => by cases h
  | f + 1 => fun bs x rest hb h => by
    simp only [stR] at h
    obtain ⟨op, b1, e1, h⟩ := bindR_some h
    obtain ⟨n, b2, e2, h⟩ := bindR_some h
    obtain ⟨es, b3, e3, h⟩ := bindR_some h
    obtain ⟨bo, b4, e4, h⟩ := bindR_some h
    obtain ⟨el, b5, e5, h⟩ := bindR_some h
    simp only [retR, Option.some.injEq, Prod.mk.injEq] at h
    obtain ⟨rfl, rfl⟩ := h
    obtain ⟨rfl, q1⟩ := wordR_bwd _ _ _ hb e1
    have hb := hb.right
    obtain ⟨rfl, q2⟩ := wordR_bwd _ _ _ hb e2
    have hb := hb.right
    obtain ⟨rfl, q3⟩ := listR_bwd (exR_bwd g) _ _ _ hb e3
    have hb := hb.right
    obtain ⟨rfl, q4⟩ := listR_bwd (stR_bwd g f) _ _ _ hb e4
    have hb := hb.right
    obtain ⟨rfl, q5⟩ := listR_bwd (stR_bwd g f) _ _ _ hb e5
    refine ⟨by rw [encS_mk]; simp only [List.append_assoc], ?_⟩
    simp only [St.rng]
    exact ⟨q1, q2, (rngEs_iff _).2 q3, (rngSs_iff _).2 q4, (rngSs_iff _).2 q5⟩
theorem imR_fwd : Fwd imR encIm (fun a => a.ok 140737488355328 ∧ a.rng) := fun a rest h => by
  rw [encIm_mk]
  unfold imR
  rw [List.append_assoc, bindR_of (textR_fwd _ _ h.1), bindR_of (wordR_fwd _ _ h.2)]
  rfl
theorem imR_bwd : Bwd imR encIm Im.rng := fun bs x rest hb h => by
  unfold imR at h
  obtain ⟨s, b1, e1, h⟩ := bindR_some h
  obtain ⟨v, b2, e2, h⟩ := bindR_some h
  simp only [retR, Option.some.injEq, Prod.mk.injEq] at h
  obtain ⟨rfl, rfl⟩ := h
  obtain ⟨rfl, _⟩ := textR_bwd _ _ _ hb e1
  obtain ⟨rfl, q⟩ := wordR_bwd _ _ _ hb.right e2
  exact ⟨by rw [encIm_mk, List.append_assoc], q⟩
theorem fiR_fwd (f : Nat) : Fwd (fiR f) encF (fun a => a.ok 140737488355328 ∧ a.rng ∧ a.ty.count ≤ f ∧ a.ty.count ≤ 140737488355328) := fun a rest h => by
  rw [encF_mk]
  unfold fiR
  rw [List.append_assoc, bindR_of (textR_fwd _ _ h.1.1), bindR_of (typR_fwd f _ _ ⟨h.2.2.1, h.1.2, h.2.2.2, h.2.1⟩)]
  rfl
theorem fiR_bwd (f : Nat) : Bwd (fiR f) encF Fi.rng := fun bs x rest hb h => by
  unfold fiR at h
  obtain ⟨s, b1, e1, h⟩ := bindR_some h
  obtain ⟨v, b2, e2, h⟩ := bindR_some h
  simp only [retR, Option.some.injEq, Prod.mk.injEq] at h
  obtain ⟨rfl, rfl⟩ := h
  obtain ⟨rfl, _⟩ := textR_bwd _ _ _ hb e1
  obtain ⟨rfl, q⟩ := typR_bwd f _ _ _ hb.right e2
  exact ⟨by rw [encF_mk, List.append_assoc], q⟩
theorem dlR_fwd (f : Nat) : Fwd (dlR f) encD (fun d => d.ok 140737488355328 ∧ d.rng ∧ d.cnt ≤ f ∧ d.cnt ≤ 140737488355328) := fun d rest h => by
  obtain ⟨k, s, o, v, t, fs⟩ := d
  obtain ⟨⟨o1, o2, o3, o4, o5⟩, ⟨r1, r2, r3, r4⟩, h1, h2⟩ := h
  unfold Dl.cnt at h1 h2
  dsimp only at o1 o2 o3 o4 o5 r1 r2 r3 r4 h1 h2
  rw [encD_mk]
  unfold dlR
  simp only [List.append_assoc]
  rw [bindR_of (wordR_fwd _ _ r1), bindR_of (textR_fwd _ _ o1), bindR_of (textR_fwd _ _ o2), bindR_of (wordR_fwd _ _ r2), bindR_of (typR_fwd f _ _ ⟨by omega, o3, by omega, r3⟩),
    bindR_of (listR_fwd (fiR_fwd f) _ _ ⟨o4, fun a ha => by
      have := sumL_mem8 (fun f : Fi => f.ty.count) fs a ha
      exact ⟨o5 a ha, r4 a ha, by omega, by omega⟩⟩)]
  rfl
theorem dlR_bwd (f : Nat) : Bwd (dlR f) encD Dl.rng := fun bs x rest hb h => by
  unfold dlR at h
  obtain ⟨k, b1, e1, h⟩ := bindR_some h
  obtain ⟨s, b2, e2, h⟩ := bindR_some h
  obtain ⟨o, b3, e3, h⟩ := bindR_some h
  obtain ⟨v, b4, e4, h⟩ := bindR_some h
  obtain ⟨t, b5, e5, h⟩ := bindR_some h
  obtain ⟨fs, b6, e6, h⟩ := bindR_some h
  simp only [retR, Option.some.injEq, Prod.mk.injEq] at h
  obtain ⟨rfl, rfl⟩ := h
  obtain ⟨rfl, q1⟩ := wordR_bwd _ _ _ hb e1
  have hb := hb.right
  obtain ⟨rfl, _⟩ := textR_bwd _ _ _ hb e2
  have hb := hb.right
  obtain ⟨rfl, _⟩ := textR_bwd _ _ _ hb e3
  have hb := hb.right
  obtain ⟨rfl, q4⟩ := wordR_bwd _ _ _ hb e4
  have hb := hb.right
  obtain ⟨rfl, q5⟩ := typR_bwd f _ _ _ hb e5
  have hb := hb.right
  obtain ⟨rfl, q6⟩ := listR_bwd (fiR_bwd f) _ _ _ hb e6
  exact ⟨by rw [encD_mk]; simp only [List.append_assoc], q1, q4, q5, q6⟩
theorem fnR_fwd (f : Nat) : Fwd (fnR f) encFn (fun d => d.ok 140737488355328 ∧ d.rng ∧ cntSs d.body ≤ f) := fun d rest h => by
  obtain ⟨s, w, p, l, b⟩ := d
  obtain ⟨⟨o1, o2, o3⟩, ⟨r1, r2, r3⟩, h1⟩ := h
  dsimp only at o1 o2 o3 r1 r2 r3 h1
  rw [cntSs_sum] at h1
  rw [encFn_mk]
  unfold fnR
  simp only [List.append_assoc]
  rw [bindR_of (textR_fwd _ _ o1), bindR_of (flagR_fwd _ _ trivial), bindR_of (wordR_fwd _ _ r1), bindR_of (wordR_fwd _ _ r2),
    bindR_of (listR_fwd (stR_fwd f f) _ _ ⟨o2, fun a ha => by
      have := sumL_mem8 St.cnt b a ha
      exact ⟨by omega, by omega, o3 a ha, r3 a ha⟩⟩)]
  rfl
theorem fnR_bwd (f : Nat) : Bwd (fnR f) encFn Fn8.rng := fun bs x rest hb h => by
  unfold fnR at h
  obtain ⟨s, b1, e1, h⟩ := bindR_some h
  obtain ⟨w, b2, e2, h⟩ := bindR_some h
  obtain ⟨p, b3, e3, h⟩ := bindR_some h
  obtain ⟨l, b4, e4, h⟩ := bindR_some h
  obtain ⟨b, b5, e5, h⟩ := bindR_some h
  simp only [retR, Option.some.injEq, Prod.mk.injEq] at h
  obtain ⟨rfl, rfl⟩ := h
  obtain ⟨rfl, _⟩ := textR_bwd _ _ _ hb e1
  have hb := hb.right
  obtain ⟨rfl, _⟩ := flagR_bwd _ _ _ hb e2
  have hb := hb.right
  obtain ⟨rfl, q3⟩ := wordR_bwd _ _ _ hb e3
  have hb := hb.right
  obtain ⟨rfl, q4⟩ := wordR_bwd _ _ _ hb e4
  have hb := hb.right
  obtain ⟨rfl, q5⟩ := listR_bwd (stR_bwd f f) _ _ _ hb e5
  exact ⟨by rw [encFn_mk]; simp only [List.append_assoc], q3, q4, q5⟩
theorem unR_fwd (f : Nat) : Fwd (unR f) encU (fun u => u.ok 140737488355328 ∧ u.rng ∧ u.cnt ≤ f ∧ u.cnt ≤ 140737488355328) := fun u rest h => by
  obtain ⟨s, im, dc, fn⟩ := u
  obtain ⟨⟨o1, ⟨o2, o3⟩, ⟨o4, o5⟩, o6, o7⟩, ⟨r1, r2, r3⟩, h1, h2⟩ := h
  unfold Un.cnt at h1 h2
  dsimp only at o1 o2 o3 o4 o5 o6 o7 r1 r2 r3 h1 h2
  rw [encU_mk]
  unfold unR
  simp only [List.append_assoc]
  rw [bindR_of (textR_fwd _ _ o1), bindR_of (listR_fwd imR_fwd _ _ ⟨o2, fun a ha => ⟨o3 a ha, r1 a ha⟩⟩),
    bindR_of (listR_fwd (dlR_fwd f) _ _ ⟨o4, fun a ha => by
      have := sumL_mem8 Dl.cnt dc a ha
      exact ⟨o5 a ha, r2 a ha, by omega, by omega⟩⟩),
    bindR_of (listR_fwd (fnR_fwd f) _ _ ⟨o6, fun a ha => by
      have := sumL_mem8 (fun f : Fn8 => cntSs f.body) fn a ha
      exact ⟨o7 a ha, r3 a ha, by omega⟩⟩)]
  rfl
theorem unR_bwd (f : Nat) : Bwd (unR f) encU Un.rng := fun bs x rest hb h => by
  unfold unR at h
  obtain ⟨s, b1, e1, h⟩ := bindR_some h
  obtain ⟨im, b2, e2, h⟩ := bindR_some h
  obtain ⟨dc, b3, e3, h⟩ := bindR_some h
  obtain ⟨fn, b4, e4, h⟩ := bindR_some h
  simp only [retR, Option.some.injEq, Prod.mk.injEq] at h
  obtain ⟨rfl, rfl⟩ := h
  obtain ⟨rfl, _⟩ := textR_bwd _ _ _ hb e1
  have hb := hb.right
  obtain ⟨rfl, q2⟩ := listR_bwd imR_bwd _ _ _ hb e2
  have hb := hb.right
  obtain ⟨rfl, q3⟩ := listR_bwd (dlR_bwd f) _ _ _ hb e3
  have hb := hb.right
  obtain ⟨rfl, q4⟩ := listR_bwd (fnR_bwd f) _ _ _ hb e4
  exact ⟨by rw [encU_mk]; simp only [List.append_assoc], q2, q3, q4⟩
/-- Units of the same bytes are one. -/
theorem encU_inj {u v : Un} (hu : u.ok 140737488355328 ∧ u.rng ∧ u.cnt ≤ 140737488355328) (hv : v.ok 140737488355328 ∧ v.rng ∧ v.cnt ≤ 140737488355328) (h : encU u = encU v) : u = v := by
  have h1 := unR_fwd 140737488355328 u [] ⟨hu.1, hu.2.1, hu.2.2, hu.2.2⟩
  have h2 := unR_fwd 140737488355328 v [] ⟨hv.1, hv.2.1, hv.2.2, hv.2.2⟩
  rw [h, h2] at h1
  simp only [Option.some.injEq, Prod.mk.injEq, and_true] at h1
  exact h1.symm
end Go.Proofs.Ytnkojjkijkhlbaa
