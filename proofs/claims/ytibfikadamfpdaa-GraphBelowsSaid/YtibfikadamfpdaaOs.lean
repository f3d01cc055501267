/-
  The order's memory while it is made.
-/
import Derived.Test.YtibfikadamfpdaaOr
namespace Go.Proofs.Ytibfikadamfpdaa
open Go.RowKit
set_option linter.unusedVariables false
set_option linter.unusedSimpArgs false

/-- The queue, what is missing, the order so far. -/
structure QM (w0 wr : World) (A : Option Addr) (c : Nat) (N : List ByteArray) (v : Value) (q : List Nat) (f : Nat → Nat) (ov : Value) (o : List Nat) : Prop where
  qr : QR wr w0.heap.size w0.heap.size A N.length c v q
  hp : HeapF (nlt N) q.length (fl q)
  mis : Blk wr (w0.heap.size + 1) 3 (rowI N.length f).toArray
  ne : v.ownBlock ≠ some (w0.heap.size + 1)
  own : wr.ownsRow w0.heap.size 3 1 ov o.length (ints o)
  one : ov.ownBlock ≠ some (w0.heap.size + 1)
  two : ∀ k, ov.ownBlock = some k → v.ownBlock ≠ some k
  bel : Below w0.heap.size w0 wr
section
variable {w0 wr : World} {A : Option Addr} {c : Nat} {N : List ByteArray} {v : Value} {q : List Nat} {f : Nat → Nat} {ov : Value} {o : List Nat}
theorem QM.size (h : QM w0 wr A c N v q f ov o) : w0.heap.size + 1 < wr.heap.size := h.mis.lt
theorem QM.one0 (h : QM w0 wr A c N v q f ov o) : ov.ownBlock ≠ some w0.heap.size := own_blk_ne h.own h.qr.box (by decide)
theorem QM.qn (h : QM w0 wr A c N v q f ov o) {B : Nat} (hN : SlV w0 B A (N.map Value.string)) (hB : B ≤ w0.heap.size) (hn : N.length ≤ 8) : QN w0.heap.size A N wr := ⟨(hN.more hB).below h.bel, hn⟩
theorem QM.store (h : QM w0 wr A c N v q f ov o) {t : Nat} (ht : t < N.length) (x : Nat) : QM w0 (wr.setCell ⟨w0.heap.size + 1, t, none⟩ (.int .i64 (x : Int))) A c N v q (fun j => if j = t then x else f j) ov o :=
  ⟨⟨h.qr.box.far (p := ⟨w0.heap.size + 1, t, none⟩) (by show w0.heap.size ≠ _; simp) _, own_set (p := ⟨w0.heap.size + 1, t, none⟩) h.qr.own h.ne _⟩, h.hp,
    by rw [← rowI_set]; exact h.mis.set_ t _, h.ne, own_set (p := ⟨w0.heap.size + 1, t, none⟩) h.own h.one _, h.one, h.two, h.bel.setCell (p := ⟨w0.heap.size + 1, t, none⟩) (by simp) _⟩
theorem QM.turn (h : QM w0 wr A c N v q f ov o) {w' : World} {v' : Value} {q' : List Nat} (hq : QR w' w0.heap.size w0.heap.size A N.length c v' q') (hh : HeapF (nlt N) q'.length (fl q')) (hg : Gr (fun k => k = w0.heap.size ∨ v.ownBlock = some k) wr w')
    (hv : v'.ownBlock = v.ownBlock ∨ ∀ k, v'.ownBlock = some k → wr.heap.size ≤ k) : QM w0 w' A c N v' q' f ov o := by
  have hs := h.size
  refine ⟨hq, hh, hg.blk h.mis (fun e => ?_), fun e => ?_, ?_, h.one, fun k hk e => ?_, ?_⟩
  · rcases e with e | e
    · simp at e
    · exact h.ne e
  · rcases hv with e1 | e1
    · exact h.ne (e1 ▸ e)
    · have := e1 _ e; omega
  · refine ⟨h.own.1, ?_⟩
    rcases h.own.2 with hn | ⟨g, cap, cur, e1, hb, hgg, rest⟩
    · exact .inl hn
    · refine .inr ⟨g, cap, cur, e1, hb, ?_, rest⟩
      have hob : ov.ownBlock = some g := by rw [e1]; rfl
      rw [hg.block g (Array.getElem?_eq_some_iff.1 hgg).1 (fun e => by
        rcases e with e | e
        · exact h.one0 (by rw [hob, e])
        · exact h.two g hob e)]
      exact hgg
  · rcases hv with e1 | e1
    · exact h.two k hk (e1 ▸ e)
    · have h1 := e1 _ e
      have h2 := (h.own.lt k hk).2
      omega
  · refine h.bel.trans (hg.belowN (by omega) fun k hk e => ?_)
    rcases e with e | e
    · omega
    · have := (h.qr.own.lt k e).1; omega
theorem QM.below (h : QM w0 wr A c N v q f ov o) {w' : World} (hb : Below wr.heap.size wr w') : QM w0 w' A c N v q f ov o :=
  ⟨h.qr.below hb, h.hp, h.mis.bel2 hb, h.ne, own_below h.own hb, h.one, h.two, h.bel.trans (hb.mono (by have := h.size; omega))⟩
theorem QM.app (h : QM w0 wr A c N v q f ov o) {w' : World} {ov' : Value} {b : Nat} (ho : w'.ownsRow w0.heap.size 3 1 ov' (o ++ [b]).length (ints (o ++ [b]))) (hg : wr.grownBy w' ov.ownBlock) (hv : ov'.ownBlock = ov.ownBlock ∨ ov'.ownBlock = some wr.heap.size) : QM w0 w' A c N v q f ov' (o ++ [b]) := by
  have hs := h.size
  have hvq : v.ownBlock = none ∨ v.ownBlock ≠ ov.ownBlock := by
    cases e : v.ownBlock with
    | none => exact .inl rfl
    | some k => exact .inr fun e2 => h.two k e2.symm e
  refine ⟨⟨h.qr.box.grown hg (fun e => h.one0 e.symm), h.qr.own.kept hg hvq⟩, h.hp, h.mis.grown hg (fun e => h.one e.symm), h.ne, ho, fun e => ?_, fun k hk e => ?_, ?_⟩
  · rcases hv with e1 | e1
    · exact h.one (e1 ▸ e)
    · rw [e1] at e; injection e with e; omega
  · rcases hv with e1 | e1
    · exact h.two k (e1 ▸ hk) e
    · rw [e1] at hk
      injection hk with hk
      have := (h.qr.own.lt k e).2
      omega
  · refine h.bel.trans ⟨hg.os, hg.tape, hg.output, hg.size, fun k hk => hg.block k (by omega) fun e => ?_⟩
    have := (h.own.lt k e.symm).1
    omega
theorem QM.congr (h : QM w0 wr A c N v q f ov o) {g : Nat → Nat} (hg : ∀ i, i < N.length → f i = g i) : QM w0 wr A c N v q g ov o :=
  ⟨h.qr, h.hp, by rw [← rowI_congr hg]; exact h.mis, h.ne, h.own, h.one, h.two, h.bel⟩
theorem QM.mis_at (h : QM w0 wr A c N v q f ov o) {t : Nat} (ht : t < N.length) : wr.cell? ⟨w0.heap.size + 1, t, none⟩ = some (.int .i64 (f t : Int)) ∧ wr.frozen? ⟨w0.heap.size + 1, t, none⟩ = false :=
  ⟨(h.mis.cell t).trans (by simpa using rowI_get ht), h.mis.frozen t⟩
end
theorem same_push {q q' : List Nat} {x : Nat} (hl : q'.length = q.length + 1) (h : SameF (q.length + 1) (fl (q ++ [x])) (fl q')) (hn : q.Nodup) (hx : x ∉ q) : q'.Nodup ∧ ∀ y, y ∈ q' ↔ y ∈ q ∨ y = x := by
  have hn2 : (q ++ [x]).Nodup := by
    rw [List.nodup_append]
    exact ⟨hn, by simp, fun a ha b hb => by rw [List.mem_singleton.1 hb]; rintro rfl; exact hx ha⟩
  have e1 : (q ++ [x]).length = q.length + 1 := by simp
  constructor
  · rw [nodup_fl, hl]
    rw [nodup_fl, e1] at hn2
    exact h.inj hn2
  · intro y
    rw [mem_fl, hl, h.mem y]
    have := mem_fl (l := q ++ [x]) (x := y)
    rw [e1] at this
    rw [← this]
    simp
theorem same_pop {q q' : List Nat} (hl : q'.length + 1 = q.length) (h : SameF q'.length (sw (fl q) 0 q'.length) (fl q')) (hn : q.Nodup) : q'.Nodup ∧ ∀ y, y ∈ q' ↔ y ∈ q ∧ y ≠ fl q 0 := by
  have hi := nodup_fl.1 hn
  have hsw : ∀ a b, a < q'.length + 1 → b < q'.length + 1 → sw (fl q) 0 q'.length a = sw (fl q) 0 q'.length b → a = b := (SameF.sw_ (m := q'.length + 1) (fl q) (i := 0) (j := q'.length) (by omega) (by omega)).inj (by rw [hl]; exact hi)
  have hlast : sw (fl q) 0 q'.length q'.length = fl q 0 := by
    unfold sw
    by_cases h0 : q'.length = 0
    · rw [if_pos h0, h0]
    · rw [if_neg h0, if_pos rfl]
  constructor
  · rw [nodup_fl]
    exact h.inj fun a b ha hb => hsw a b (by omega) (by omega)
  · intro y
    rw [mem_fl, h.mem y]
    have hm := (SameF.sw_ (m := q'.length + 1) (fl q) (i := 0) (j := q'.length) (by omega) (by omega)).mem y
    rw [hl, ← mem_fl] at hm
    constructor
    · rintro ⟨k, hk, e⟩
      refine ⟨hm.1 ⟨k, by omega, e⟩, fun e2 => ?_⟩
      have := hsw k q'.length (by omega) (by omega) (by rw [e, hlast, e2])
      omega
    · rintro ⟨h1, h2⟩
      obtain ⟨k, hk, e⟩ := hm.2 h1
      by_cases hkq : k = q'.length
      · rw [hkq, hlast] at e
        exact absurd e.symm h2
      · exact ⟨k, by omega, e⟩
end Go.Proofs.Ytibfikadamfpdaa
