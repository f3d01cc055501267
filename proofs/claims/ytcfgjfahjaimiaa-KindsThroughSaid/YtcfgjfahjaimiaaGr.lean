/-
  Worlds that differ in new blocks and in some others.
-/
import Derived.Test.YtcfgjfahjaimiaaMem
namespace Go.Proofs.Ytcfgjfahjaimiaa
open Go.RowKit
set_option linter.unusedVariables false
set_option linter.unusedSimpArgs false

/-! ## Worlds that differ in new blocks and in the blocks of S. -/
structure Gr (S : Nat → Prop) (w w' : World) : Prop where
  os : w'.os = w.os
  tape : w'.tape = w.tape
  output : w'.output = w.output
  size : w.heap.size ≤ w'.heap.size
  block : ∀ k, k < w.heap.size → ¬ S k → w'.heap[k]? = w.heap[k]?

section
variable {S S' : Nat → Prop} {w w' w'' : World}
theorem Gr.refl (w : World) : Gr S w w := ⟨rfl, rfl, rfl, Nat.le_refl _, fun _ _ _ => rfl⟩
theorem Gr.trans (h : Gr S w w') (k : Gr S w' w'') : Gr S w w'' :=
  ⟨k.os.trans h.os, k.tape.trans h.tape, k.output.trans h.output, Nat.le_trans h.size k.size, fun n hn hs => (k.block n (Nat.lt_of_lt_of_le hn h.size) hs).trans (h.block n hn hs)⟩
theorem Gr.mono (h : Gr S w w') (hs : ∀ k, k < w.heap.size → S k → S' k) : Gr S' w w' := ⟨h.os, h.tape, h.output, h.size, fun k hk hn => h.block k hk fun h' => hn (hs k hk h')⟩
theorem Gr.alloc (h : Gr S w w') (o : Obj) : Gr S w (w'.alloc o) :=
  ⟨h.os, h.tape, h.output, Nat.le_trans h.size (by simp), fun k hk hs => (Below.heap_alloc w' o k (Nat.lt_of_lt_of_le hk h.size)).trans (h.block k hk hs)⟩
theorem Gr.setCell (h : Gr S w w') {p : Addr} (hp : w.heap.size ≤ p.block ∨ S p.block) (v : Value) : Gr S w (w'.setCell p v) :=
  ⟨h.os, h.tape, h.output, by rw [show (w'.setCell p v).heap.size = w'.heap.size by simp]; exact h.size, fun k hk hs => (Below.heap_setCell w' p v k (by
    rintro rfl
    rcases hp with hp | hp
    · omega
    · exact hs hp)).trans (h.block k hk hs)⟩
theorem Gr.drew (h : Gr S w w') : Gr S w w'.drew := ⟨h.os, h.tape, h.output, h.size, h.block⟩
theorem Gr.of_below (h : Below w.heap.size w w') : Gr S w w' := ⟨h.os, h.tape, h.output, h.size, fun k hk _ => h.block k hk⟩
theorem Gr.below (h : Gr S w w') (hs : ∀ k, k < w.heap.size → ¬ S k) : Below w.heap.size w w' := ⟨h.os, h.tape, h.output, h.size, fun k hk => h.block k hk (hs k hk)⟩
theorem Gr.of_grown {row : Option Nat} (h : w.grownBy w' row) (hs : ∀ k, row = some k → k < w.heap.size → S k) : Gr S w w' :=
  ⟨h.os, h.tape, h.output, h.size, fun k hk hn => h.block k hk (fun e => hn (hs k e.symm hk))⟩
theorem Gr.blk {g : Nat} {t : TypeId} {cs : Array Value} (h : Gr S w w') (hb : Blk w g t cs) (hs : ¬ S g) : Blk w' g t cs := (h.block g hb.lt hs).trans hb
theorem Gr.cell (h : Gr S w w') {p : Addr} (hp : p.block < w.heap.size) (hs : ¬ S p.block) : w'.cell? p = w.cell? p := World.cell?_of_block (h.block p.block hp hs)
/-- Written blocks that were not there yet when the story began. -/
theorem Gr.wide (h : Gr S w w') (k : Gr S' w' w'') (hs : ∀ n, n < w.heap.size → S' n → S n) : Gr S w w'' :=
  ⟨k.os.trans h.os, k.tape.trans h.tape, k.output.trans h.output, Nat.le_trans h.size k.size, fun n hn hS => (k.block n (Nat.lt_of_lt_of_le hn h.size) (fun h' => hS (hs n hn h'))).trans (h.block n hn hS)⟩
end

theorem Gr.belowN {S : Nat → Prop} {w w' : World} {B : Nat} (h : Gr S w w') (hB : B ≤ w.heap.size) (hs : ∀ k, k < B → ¬ S k) : Below B w w' :=
  ⟨h.os, h.tape, h.output, h.size, fun k hk => h.block k (by omega) (hs k hk)⟩
end Go.Proofs.Ytcfgjfahjaimiaa
