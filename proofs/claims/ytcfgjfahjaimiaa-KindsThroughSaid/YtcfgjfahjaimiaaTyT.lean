/-
  The document's example: walks.
-/
import Derived.Test.YtcfgjfahjaimiaaTyS
namespace Go.Proofs.Ytcfgjfahjaimiaa
open Go.RowKit
set_option linter.unusedVariables false
set_option linter.unusedSimpArgs false

theorem SlT.one {W : World} {F : Nat → Prop} {g : Nat} {t : Ty} {v0 v1 v2 v3 v4 : Value} (h : Blk W g 26 #[v0, v1, v2, v3, v4]) (hF : F g) (hr : RT W F t [v0, v1, v2, v3, v4]) : SlT W F (some ⟨g, 0, none⟩) [t] :=
  ⟨[v0, v1, v2, v3, v4], ⟨rfl, fun _ => ⟨g, 0, rfl, hF, h.lt, fun j u hu => by rw [Nat.zero_add, h.cell, ← Array.getElem?_toList]; exact hu⟩⟩, by simp only [RTs]; exact ⟨_, [], by simp, hr, rfl⟩⟩
theorem SlT.two {W : World} {F : Nat → Prop} {g : Nat} {t t' : Ty} {v0 v1 v2 v3 v4 u0 u1 u2 u3 u4 : Value} (h : Blk W g 26 #[v0, v1, v2, v3, v4, u0, u1, u2, u3, u4]) (hF : F g) (hr : RT W F t [v0, v1, v2, v3, v4]) (hr' : RT W F t' [u0, u1, u2, u3, u4]) : SlT W F (some ⟨g, 0, none⟩) [t, t'] :=
  ⟨[v0, v1, v2, v3, v4, u0, u1, u2, u3, u4], ⟨rfl, fun _ => ⟨g, 0, rfl, hF, h.lt, fun j u hu => by rw [Nat.zero_add, h.cell, ← Array.getElem?_toList]; exact hu⟩⟩, by simp only [RTs]; exact ⟨[v0, v1, v2, v3, v4], [u0, u1, u2, u3, u4], rfl, hr, [u0, u1, u2, u3, u4], [], by simp, hr', rfl⟩⟩
def kT (k : Int) : Ty := .mk k ⟨#[]⟩ ⟨#[]⟩ [] []
def aT : Ty := .mk 7 ⟨#[]⟩ ⟨#[]⟩ [kT 1, .mk 6 ⟨#[]⟩ ⟨#[]⟩ [kT 3] []] [kT 2]
def pT : Ty := .mk 6 ⟨#[]⟩ ⟨#[]⟩ [.mk 9 ⟨#[]⟩ ⟨#[84]⟩ [] []] []
def gT : Ty := .mk 6 ⟨#[]⟩ ⟨#[]⟩ [kT 1] []
theorem awake_infer : inferT [⟨#[84]⟩] [pT] [gT] = some [kT 1] := by
  simp [inferT, pT, gT, kT, tyZ, pairL_cons, pairL_nil, pairT_mk, takeP, place, thenP, foundOf, Ty.kind]
theorem awake_text : bs (txt aT) = ⟨#[102, 117, 110, 99, 40, 105, 110, 116, 44, 32, 91, 93, 115, 116, 114, 105, 110, 103, 41, 32, 98, 111, 111, 108]⟩ := by
  simp [aT, kT, txt_mk, txtF, txtJ, txtR, bs]
theorem kT_rt (W : World) (F : Nat → Prop) (k : Int) : RT W F (kT k) [.int .i64 k, .string ⟨#[]⟩, .string ⟨#[]⟩, .slice none 0 0, .slice none 0 0] := RT.mk_ (A := none) (A' := none) (c := 0) (c' := 0) (SlT.none_ W F) (SlT.none_ W F)
structure AW (w W : World) : Prop where
  bel : Below w.heap.size w W
  b0 : Blk W (w.heap.size) 26 #[.int .i64 3, .string ⟨#[]⟩, .string ⟨#[]⟩, .slice none 0 0, .slice none 0 0]
  b1 : Blk W (w.heap.size + 1) 26 #[.int .i64 1, .string ⟨#[]⟩, .string ⟨#[]⟩, .slice none 0 0, .slice none 0 0, .int .i64 6, .string ⟨#[]⟩, .string ⟨#[]⟩, .slice (some ⟨w.heap.size, 0, none⟩) 1 1, .slice none 0 0]
  b2 : Blk W (w.heap.size + 1 + 1) 26 #[.int .i64 2, .string ⟨#[]⟩, .string ⟨#[]⟩, .slice none 0 0, .slice none 0 0]
  b3 : Blk W (w.heap.size + 1 + 1 + 1) 26 #[.int .i64 7, .string ⟨#[]⟩, .string ⟨#[]⟩, .slice (some ⟨w.heap.size + 1, 0, none⟩) 2 2, .slice (some ⟨w.heap.size + 1 + 1, 0, none⟩) 1 1]
  b4 : Blk W (w.heap.size + 1 + 1 + 1 + 1) 9 #[.string ⟨#[84]⟩]
  b5 : Blk W (w.heap.size + 1 + 1 + 1 + 1 + 1) 26 #[.int .i64 9, .string ⟨#[]⟩, .string ⟨#[84]⟩, .slice none 0 0, .slice none 0 0]
  b6 : Blk W (w.heap.size + 1 + 1 + 1 + 1 + 1 + 1) 26 #[.int .i64 6, .string ⟨#[]⟩, .string ⟨#[]⟩, .slice (some ⟨w.heap.size + 1 + 1 + 1 + 1 + 1, 0, none⟩) 1 1, .slice none 0 0]
  b7 : Blk W (w.heap.size + 1 + 1 + 1 + 1 + 1 + 1 + 1) 26 #[.int .i64 1, .string ⟨#[]⟩, .string ⟨#[]⟩, .slice none 0 0, .slice none 0 0]
  b8 : Blk W (w.heap.size + 1 + 1 + 1 + 1 + 1 + 1 + 1 + 1) 26 #[.int .i64 6, .string ⟨#[]⟩, .string ⟨#[]⟩, .slice (some ⟨w.heap.size + 1 + 1 + 1 + 1 + 1 + 1 + 1, 0, none⟩) 1 1, .slice none 0 0]
theorem awake_laid (w : World) : AW w (((((((((w.alloc (.cells #[.int .i64 3, .string ⟨#[]⟩, .string ⟨#[]⟩, .slice none 0 0, .slice none 0 0] 26)).alloc (.cells #[.int .i64 1, .string ⟨#[]⟩, .string ⟨#[]⟩, .slice none 0 0, .slice none 0 0, .int .i64 6, .string ⟨#[]⟩, .string ⟨#[]⟩, .slice (some ⟨w.heap.size, 0, none⟩) 1 1, .slice none 0 0] 26)).alloc (.cells #[.int .i64 2, .string ⟨#[]⟩, .string ⟨#[]⟩, .slice none 0 0, .slice none 0 0] 26)).alloc (.cells #[.int .i64 7, .string ⟨#[]⟩, .string ⟨#[]⟩, .slice (some ⟨w.heap.size + 1, 0, none⟩) 2 2, .slice (some ⟨w.heap.size + 1 + 1, 0, none⟩) 1 1] 26)).alloc (.cells #[.string ⟨#[84]⟩] 9)).alloc (.cells #[.int .i64 9, .string ⟨#[]⟩, .string ⟨#[84]⟩, .slice none 0 0, .slice none 0 0] 26)).alloc (.cells #[.int .i64 6, .string ⟨#[]⟩, .string ⟨#[]⟩, .slice (some ⟨w.heap.size + 1 + 1 + 1 + 1 + 1, 0, none⟩) 1 1, .slice none 0 0] 26)).alloc (.cells #[.int .i64 1, .string ⟨#[]⟩, .string ⟨#[]⟩, .slice none 0 0, .slice none 0 0] 26)).alloc (.cells #[.int .i64 6, .string ⟨#[]⟩, .string ⟨#[]⟩, .slice (some ⟨w.heap.size + 1 + 1 + 1 + 1 + 1 + 1 + 1, 0, none⟩) 1 1, .slice none 0 0] 26)) where
  bel := below_one (below_one (below_one (below_one (below_one (below_one (below_one (below_one (below_one (Below.refl _ w) _) _) _) _) _) _) _) _) _
  b0 := ((((((((Blk.new w _ _).alloc _).alloc _).alloc _).alloc _).alloc _).alloc _).alloc _).alloc _
  b1 := (((((((Blk.new_at (w := (w.alloc (.cells #[.int .i64 3, .string ⟨#[]⟩, .string ⟨#[]⟩, .slice none 0 0, .slice none 0 0] 26))) (by simp)).alloc _).alloc _).alloc _).alloc _).alloc _).alloc _).alloc _
  b2 := ((((((Blk.new_at (w := ((w.alloc (.cells #[.int .i64 3, .string ⟨#[]⟩, .string ⟨#[]⟩, .slice none 0 0, .slice none 0 0] 26)).alloc (.cells #[.int .i64 1, .string ⟨#[]⟩, .string ⟨#[]⟩, .slice none 0 0, .slice none 0 0, .int .i64 6, .string ⟨#[]⟩, .string ⟨#[]⟩, .slice (some ⟨w.heap.size, 0, none⟩) 1 1, .slice none 0 0] 26))) (by simp)).alloc _).alloc _).alloc _).alloc _).alloc _).alloc _
  b3 := (((((Blk.new_at (w := (((w.alloc (.cells #[.int .i64 3, .string ⟨#[]⟩, .string ⟨#[]⟩, .slice none 0 0, .slice none 0 0] 26)).alloc (.cells #[.int .i64 1, .string ⟨#[]⟩, .string ⟨#[]⟩, .slice none 0 0, .slice none 0 0, .int .i64 6, .string ⟨#[]⟩, .string ⟨#[]⟩, .slice (some ⟨w.heap.size, 0, none⟩) 1 1, .slice none 0 0] 26)).alloc (.cells #[.int .i64 2, .string ⟨#[]⟩, .string ⟨#[]⟩, .slice none 0 0, .slice none 0 0] 26))) (by simp)).alloc _).alloc _).alloc _).alloc _).alloc _
  b4 := ((((Blk.new_at (w := ((((w.alloc (.cells #[.int .i64 3, .string ⟨#[]⟩, .string ⟨#[]⟩, .slice none 0 0, .slice none 0 0] 26)).alloc (.cells #[.int .i64 1, .string ⟨#[]⟩, .string ⟨#[]⟩, .slice none 0 0, .slice none 0 0, .int .i64 6, .string ⟨#[]⟩, .string ⟨#[]⟩, .slice (some ⟨w.heap.size, 0, none⟩) 1 1, .slice none 0 0] 26)).alloc (.cells #[.int .i64 2, .string ⟨#[]⟩, .string ⟨#[]⟩, .slice none 0 0, .slice none 0 0] 26)).alloc (.cells #[.int .i64 7, .string ⟨#[]⟩, .string ⟨#[]⟩, .slice (some ⟨w.heap.size + 1, 0, none⟩) 2 2, .slice (some ⟨w.heap.size + 1 + 1, 0, none⟩) 1 1] 26))) (by simp)).alloc _).alloc _).alloc _).alloc _
  b5 := (((Blk.new_at (w := (((((w.alloc (.cells #[.int .i64 3, .string ⟨#[]⟩, .string ⟨#[]⟩, .slice none 0 0, .slice none 0 0] 26)).alloc (.cells #[.int .i64 1, .string ⟨#[]⟩, .string ⟨#[]⟩, .slice none 0 0, .slice none 0 0, .int .i64 6, .string ⟨#[]⟩, .string ⟨#[]⟩, .slice (some ⟨w.heap.size, 0, none⟩) 1 1, .slice none 0 0] 26)).alloc (.cells #[.int .i64 2, .string ⟨#[]⟩, .string ⟨#[]⟩, .slice none 0 0, .slice none 0 0] 26)).alloc (.cells #[.int .i64 7, .string ⟨#[]⟩, .string ⟨#[]⟩, .slice (some ⟨w.heap.size + 1, 0, none⟩) 2 2, .slice (some ⟨w.heap.size + 1 + 1, 0, none⟩) 1 1] 26)).alloc (.cells #[.string ⟨#[84]⟩] 9))) (by simp)).alloc _).alloc _).alloc _
  b6 := ((Blk.new_at (w := ((((((w.alloc (.cells #[.int .i64 3, .string ⟨#[]⟩, .string ⟨#[]⟩, .slice none 0 0, .slice none 0 0] 26)).alloc (.cells #[.int .i64 1, .string ⟨#[]⟩, .string ⟨#[]⟩, .slice none 0 0, .slice none 0 0, .int .i64 6, .string ⟨#[]⟩, .string ⟨#[]⟩, .slice (some ⟨w.heap.size, 0, none⟩) 1 1, .slice none 0 0] 26)).alloc (.cells #[.int .i64 2, .string ⟨#[]⟩, .string ⟨#[]⟩, .slice none 0 0, .slice none 0 0] 26)).alloc (.cells #[.int .i64 7, .string ⟨#[]⟩, .string ⟨#[]⟩, .slice (some ⟨w.heap.size + 1, 0, none⟩) 2 2, .slice (some ⟨w.heap.size + 1 + 1, 0, none⟩) 1 1] 26)).alloc (.cells #[.string ⟨#[84]⟩] 9)).alloc (.cells #[.int .i64 9, .string ⟨#[]⟩, .string ⟨#[84]⟩, .slice none 0 0, .slice none 0 0] 26))) (by simp)).alloc _).alloc _
  b7 := (Blk.new_at (w := (((((((w.alloc (.cells #[.int .i64 3, .string ⟨#[]⟩, .string ⟨#[]⟩, .slice none 0 0, .slice none 0 0] 26)).alloc (.cells #[.int .i64 1, .string ⟨#[]⟩, .string ⟨#[]⟩, .slice none 0 0, .slice none 0 0, .int .i64 6, .string ⟨#[]⟩, .string ⟨#[]⟩, .slice (some ⟨w.heap.size, 0, none⟩) 1 1, .slice none 0 0] 26)).alloc (.cells #[.int .i64 2, .string ⟨#[]⟩, .string ⟨#[]⟩, .slice none 0 0, .slice none 0 0] 26)).alloc (.cells #[.int .i64 7, .string ⟨#[]⟩, .string ⟨#[]⟩, .slice (some ⟨w.heap.size + 1, 0, none⟩) 2 2, .slice (some ⟨w.heap.size + 1 + 1, 0, none⟩) 1 1] 26)).alloc (.cells #[.string ⟨#[84]⟩] 9)).alloc (.cells #[.int .i64 9, .string ⟨#[]⟩, .string ⟨#[84]⟩, .slice none 0 0, .slice none 0 0] 26)).alloc (.cells #[.int .i64 6, .string ⟨#[]⟩, .string ⟨#[]⟩, .slice (some ⟨w.heap.size + 1 + 1 + 1 + 1 + 1, 0, none⟩) 1 1, .slice none 0 0] 26))) (by simp)).alloc _
  b8 := Blk.new_at (w := ((((((((w.alloc (.cells #[.int .i64 3, .string ⟨#[]⟩, .string ⟨#[]⟩, .slice none 0 0, .slice none 0 0] 26)).alloc (.cells #[.int .i64 1, .string ⟨#[]⟩, .string ⟨#[]⟩, .slice none 0 0, .slice none 0 0, .int .i64 6, .string ⟨#[]⟩, .string ⟨#[]⟩, .slice (some ⟨w.heap.size, 0, none⟩) 1 1, .slice none 0 0] 26)).alloc (.cells #[.int .i64 2, .string ⟨#[]⟩, .string ⟨#[]⟩, .slice none 0 0, .slice none 0 0] 26)).alloc (.cells #[.int .i64 7, .string ⟨#[]⟩, .string ⟨#[]⟩, .slice (some ⟨w.heap.size + 1, 0, none⟩) 2 2, .slice (some ⟨w.heap.size + 1 + 1, 0, none⟩) 1 1] 26)).alloc (.cells #[.string ⟨#[84]⟩] 9)).alloc (.cells #[.int .i64 9, .string ⟨#[]⟩, .string ⟨#[84]⟩, .slice none 0 0, .slice none 0 0] 26)).alloc (.cells #[.int .i64 6, .string ⟨#[]⟩, .string ⟨#[]⟩, .slice (some ⟨w.heap.size + 1 + 1 + 1 + 1 + 1, 0, none⟩) 1 1, .slice none 0 0] 26)).alloc (.cells #[.int .i64 1, .string ⟨#[]⟩, .string ⟨#[]⟩, .slice none 0 0, .slice none 0 0] 26))) (by simp)
set_option maxRecDepth 100000 in
set_option maxHeartbeats 4000000 in
theorem awake_any (w : World) : Calls Try.prog 10 #[] w (TruthP w true) := by
  have hL := awake_laid w
  have hF : ∀ i : Nat, i < 9 → True := fun _ _ => trivial
  obtain ⟨W, hW⟩ : ∃ W, (((((((((w.alloc (.cells #[.int .i64 3, .string ⟨#[]⟩, .string ⟨#[]⟩, .slice none 0 0, .slice none 0 0] 26)).alloc (.cells #[.int .i64 1, .string ⟨#[]⟩, .string ⟨#[]⟩, .slice none 0 0, .slice none 0 0, .int .i64 6, .string ⟨#[]⟩, .string ⟨#[]⟩, .slice (some ⟨w.heap.size, 0, none⟩) 1 1, .slice none 0 0] 26)).alloc (.cells #[.int .i64 2, .string ⟨#[]⟩, .string ⟨#[]⟩, .slice none 0 0, .slice none 0 0] 26)).alloc (.cells #[.int .i64 7, .string ⟨#[]⟩, .string ⟨#[]⟩, .slice (some ⟨w.heap.size + 1, 0, none⟩) 2 2, .slice (some ⟨w.heap.size + 1 + 1, 0, none⟩) 1 1] 26)).alloc (.cells #[.string ⟨#[84]⟩] 9)).alloc (.cells #[.int .i64 9, .string ⟨#[]⟩, .string ⟨#[84]⟩, .slice none 0 0, .slice none 0 0] 26)).alloc (.cells #[.int .i64 6, .string ⟨#[]⟩, .string ⟨#[]⟩, .slice (some ⟨w.heap.size + 1 + 1 + 1 + 1 + 1, 0, none⟩) 1 1, .slice none 0 0] 26)).alloc (.cells #[.int .i64 1, .string ⟨#[]⟩, .string ⟨#[]⟩, .slice none 0 0, .slice none 0 0] 26)).alloc (.cells #[.int .i64 6, .string ⟨#[]⟩, .string ⟨#[]⟩, .slice (some ⟨w.heap.size + 1 + 1 + 1 + 1 + 1 + 1 + 1, 0, none⟩) 1 1, .slice none 0 0] 26)) = W := ⟨_, rfl⟩
  have hL' : AW w W := hW ▸ hL
  clear hL
  have F0 : Nat → Prop := fun k => k < W.heap.size
  have hn : SlS W (fun k => k < W.heap.size) (some ⟨w.heap.size + 1 + 1 + 1 + 1, 0, none⟩) [⟨#[84]⟩] := ⟨fun s hs => by rw [List.mem_singleton.1 hs]; decide, fun _ => ⟨_, 0, rfl, hL'.b4.lt, hL'.b4.lt, fun j s hs => by
    cases j with
    | zero => simp at hs; subst hs; rw [Nat.add_zero, hL'.b4.cell]; rfl
    | succ j => simp at hs⟩⟩
  have hp : SlT W (fun k => k < W.heap.size) (some ⟨w.heap.size + 1 + 1 + 1 + 1 + 1 + 1, 0, none⟩) [pT] := SlT.one hL'.b6 hL'.b6.lt (RT.mk_ (c := 1) (A' := none) (c' := 0) (SlT.one hL'.b5 hL'.b5.lt (RT.mk_ (A := none) (A' := none) (c := 0) (c' := 0) (SlT.none_ _ _) (SlT.none_ _ _))) (SlT.none_ _ _))
  have hg : SlT W (fun k => k < W.heap.size) (some ⟨w.heap.size + 1 + 1 + 1 + 1 + 1 + 1 + 1 + 1, 0, none⟩) [gT] := SlT.one hL'.b8 hL'.b8.lt (RT.mk_ (c := 1) (A' := none) (c' := 0) (SlT.one hL'.b7 hL'.b7.lt (kT_rt _ _ 1)) (SlT.none_ _ _))
  have ha : RT W (fun k => k < W.heap.size) aT [.int .i64 7, .string ⟨#[]⟩, .string ⟨#[]⟩, .slice (some ⟨w.heap.size + 1, 0, none⟩) 2 2, .slice (some ⟨w.heap.size + 1 + 1, 0, none⟩) 1 1] := RT.mk_ (c := 2) (c' := 1) (SlT.two hL'.b1 hL'.b1.lt (kT_rt _ _ 1) (RT.mk_ (c := 1) (A' := none) (c' := 0) (SlT.one hL'.b0 hL'.b0.lt (kT_rt _ _ 3)) (SlT.none_ _ _))) (SlT.one hL'.b2 hL'.b2.lt (kT_rt _ _ 2))
  have z : countL [pT] ≤ 2000000 ∧ mxL [pT] ≤ 140737488355328 ∧ countL [gT] ≤ 2000000 ∧ mxL [gT] ≤ 140737488355328 ∧ aT.sz ≤ 1500000 := by
    simp [pT, gT, aT, kT, countL_cons, countL_nil, count_mk, szL_cons, szL_nil, sz_mk, mxL_cons, mxL_nil, mx_mk]
    decide
  have HI := Lib.hid (infer_any [⟨#[84]⟩] [pT] [gT] (by simp) z.1 z.2.1 z.2.2.1 z.2.2.2.1 W _ _ _ _ _ _ 1 1 1 hn hp hg)
  rw [awake_infer] at HI
  simp only [List.length_singleton] at HI
  have HT := Lib.hid (fun w' (h : Below W.heap.size W w') => text_any aT z.2.2.2.2 w' (fun k => k < W.heap.size) _ (ha.bel h) (fun g hg => Nat.lt_of_lt_of_le hg h.size))
  rw [awake_text] at HT
  have HB3 := Lib.hid hL'.b3
  have HBW := Lib.hid hL'.bel
  have HHW := Lib.hid hW
  clear hL' hn hp hg ha z hW hF F0
  go_enter Try.func10, Try.ntmps10
  go_wp2_with (first | (go_at_call 22; go_loud (rw [HHW.out]); go_must ((refine HI.out.mono ?_); rintro e w5 ⟨hb5, A5, c5, rfl, hs5⟩; obtain ⟨g5, o5, us5, rfl, hF5, hgl5, hr5, hat5⟩ := hs5.at_ (i := 0) (u := kT 1) rfl; obtain ⟨A6, c6, A7, c7, rfl, _, _⟩ := hr5.openL; have q0 := hat5 0 _ rfl; simp only [Nat.zero_mul, Nat.add_zero] at q0; have hx := HB3.out.bel2 hb5; have x0 := hx.cell 0; have x1 := hx.cell 1; have x2 := hx.cell 2; have x3 := hx.cell 3; have x4 := hx.cell 4; have xl := hx.lt)) | (go_at_call 23; ((with_reducible refine (HT.out _ hb5).mono ?_); rintro e w6 ⟨rfl, hb6⟩; have y0 := (hb6.cell (p := ⟨g5, o5, none⟩) hgl5).trans q0)))
  go_ret
  exact ⟨rfl, (HBW.out.trans (hb5.mono HBW.out.size)).trans (hb6.mono (Nat.le_trans HBW.out.size hb5.size))⟩
end Go.Proofs.Ytcfgjfahjaimiaa
