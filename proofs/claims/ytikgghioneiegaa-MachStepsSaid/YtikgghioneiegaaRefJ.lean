/-
  The document's machine when it is new: a walk.
-/
import Derived.Test.YtikgghioneiegaaRefI
import Derived.Test.YtikgghioneiegaaReg
import Derived.Deep.DeepCutAuto
import Derived.Outline
namespace Go.Proofs.Ytikgghioneiegaa
open Go.RowKit
set_option linter.unusedVariables false

def rC (cv mv iv : Value) (E x : Int) : Array Value :=
  #[cv, mv, .int .i64 0, .int .i64 0, .int .i64 0, .int .i64 0, .int .i64 0, .int .i64 0, .int .i64 0, .int .i64 0, .int .i64 0, .int .i64 0, .int .i64 0, .int .i64 0, .int .i64 0, .int .i64 0, .int .i64 0, .int .i64 x, .int .i64 E, iv, .int .i64 0, .int .i64 0, .int .i64 0, .slice none 0 0, .int .i64 0]
section
variable (ρ : Operand → Value) (w : World) (dst : Option Tmp) (x : Operand) (ty : TypeId) (pos : String) (after : Array Edge)
theorem x_field0 (g : Nat) (hx : ρ x = .pointer (some ⟨g, 0, none⟩)) : (execOp ρ { dst := dst, op := .fieldAddr 24 x 0, type := ty, pos := pos, after := after, guard := none }).run Try.prog w = .ok (.value (.pointer (some ⟨g, 0, none⟩))) w := by
  unfold execOp; simp only [hx]; go_simp
theorem x_field2 (g : Nat) (hx : ρ x = .pointer (some ⟨g, 0, none⟩)) : (execOp ρ { dst := dst, op := .fieldAddr 24 x 2, type := ty, pos := pos, after := after, guard := none }).run Try.prog w = .ok (.value (.pointer (some ⟨g, 2, none⟩))) w := by
  unfold execOp; simp only [hx]; go_simp
theorem x_loadS (g i : Nat) (v : Value) (hx : ρ x = .pointer (some ⟨g, i, none⟩)) (hc : w.cell? ⟨g, i, none⟩ = some v) : (execOp ρ { dst := dst, op := .load 22 x, type := ty, pos := pos, after := after, guard := none }).run Try.prog w = .ok (.value v) w := by
  unfold execOp; simp only [hx]; go_simp
theorem x_loadI (g i : Nat) (v : Value) (hx : ρ x = .pointer (some ⟨g, i, none⟩)) (hc : w.cell? ⟨g, i, none⟩ = some v) : (execOp ρ { dst := dst, op := .load 3 x, type := ty, pos := pos, after := after, guard := none }).run Try.prog w = .ok (.value v) w := by
  unfold execOp; simp only [hx]; go_simp
theorem x_sliceI : (execOp ρ { dst := dst, op := .buildSlice 22 0 #[], type := ty, pos := pos, after := after, guard := none }).run Try.prog w = .ok (.value (.slice (some ⟨w.heap.size, 0, none⟩) 0 0)) (w.alloc (.cells #[] 2)) := by
  unfold execOp; go_simp
theorem x_sliceB : (execOp ρ { dst := dst, op := .buildSlice 25 0 #[], type := ty, pos := pos, after := after, guard := none }).run Try.prog w = .ok (.value (.slice (some ⟨w.heap.size, 0, none⟩) 0 0)) (w.alloc (.cells #[] 5)) := by
  unfold execOp; go_simp
theorem x_make (m : Nat) (hx : ρ x = .int .i64 (m : Int)) (v : Value) (w' : World) (hmk : (Instr.makeSlice 22 (.int .i64 (m : Int)) (.int .i64 (m : Int))).run Try.prog w = .ok v w') : (execOp ρ { dst := dst, op := .makeSlice 22 x x, type := ty, pos := pos, after := after, guard := none }).run Try.prog w = .ok (.value v) w' := by
  unfold execOp; simp only [hx]; simp only [Sem.run_bind, hmk]; rfl
theorem x_alloc : (execOp ρ { dst := dst, op := .alloc 38, type := ty, pos := pos, after := after, guard := none }).run Try.prog w = .ok (.value (.pointer (some ⟨w.heap.size, 0, none⟩))) (w.alloc (.cells (rC (.slice none 0 0) (.slice none 0 0) (.slice none 0 0) 0 0) 38)) := by
  unfold execOp rC; go_simp
theorem x_move (v : Value) (hx : ρ x = v) : (execOp ρ { dst := dst, op := .move x, type := ty, pos := pos, after := after, guard := none }).run Try.prog w = .ok (.value v) w := by
  unfold execOp; simp only [hx]; go_simp
theorem x_build (x1 x2 x3 x4 : Operand) (A1 A2 A3 : Option Addr) (n1 n2 n3 c1 c2 c3 : Nat) (E : Int)
   (h1 : ρ x1 = .slice A1 n1 c1) (h2 : ρ x2 = .slice A2 n2 c2) (h3 : ρ x3 = .int .i64 E) (h4 : ρ x4 = .slice A3 n3 c3) :
   (execOp ρ { dst := dst, op := .build 38 #[(0, x1), (1, x2), (3, x3), (4, x4)], type := ty, pos := pos, after := after, guard := none }).run Try.prog w = .ok (.value (.agg (rC (.slice A1 n1 c1) (.slice A2 n2 c2) (.slice A3 n3 c3) E 0))) w := by
  unfold execOp rC; simp only [List.map_toArray, List.map_cons, List.map_nil, h1, h2, h3, h4]; go_simp
theorem op_val {P : Program} {o : Oper} {a : Act} {w w' : World} {K : Act → World → Prop} {Q : Exit → Act → World → Prop} {v : Value} (h : (execOp a.eval o).run P w = .ok (.value v) w') (hk : K (a.put o.dst v) w') : o.wp P a w K Q := by
  unfold Oper.wp
  rw [h]
  exact hk
end
theorem rC_one (A1 A2 A3 : Option Addr) (n1 n2 n3 c1 c2 c3 : Nat) (E x : Int) : (rC (.slice A1 n1 c1) (.slice A2 n2 c2) (.slice A3 n3 c3) E x).all (·.oneCell') = true := by simp [rC, Value.oneCell']
def mixed (dds : List Value) (m k : Nat) : Array Value := (dds.take k ++ List.replicate (m - k) (Value.int .i64 0)).toArray
theorem mixed_zero (dds : List Value) (m : Nat) : mixed dds m 0 = madeCells #[Value.int .i64 0] m := by
  unfold mixed
  apply Array.ext_getElem?
  intro i
  by_cases hi : i < m
  · simp [madeCells, hi, Nat.mod_one]
  · simp [madeCells, hi]
theorem mixed_next {dds : List Value} {m k : Nat} {u : Value} (hu : dds[k]? = some u) (hm : dds.length ≤ m) : (mixed dds m k).setIfInBounds k u = mixed dds m (k + 1) := by
  have hk := (List.getElem?_eq_some_iff.1 hu).1
  unfold mixed
  rw [List.setIfInBounds_toArray]
  congr 1
  rw [List.take_add_one, hu]
  have e1 : m - k = (m - (k + 1)) + 1 := by omega
  rw [e1, List.replicate_succ, List.set_append_right _ _ (by simp; omega)]
  have e2 : k - (List.take k dds).length = 0 := by simp; omega
  rw [e2]
  simp
theorem mixed_at {dds : List Value} {m k : Nat} (h : k < m) (hd : k ≤ dds.length) : (mixed dds m k)[k]? = some (.int .i64 0) := by
  unfold mixed
  have e : m - k = (m - (k + 1)) + 1 := by omega
  rw [e, List.replicate_succ]
  simp [Nat.min_eq_left hd]
theorem mixed_end {dds : List Value} {m : Nat} : (mixed dds m dds.length).toList = dds ++ List.replicate (m - dds.length) (Value.int .i64 0) := by simp [mixed]
theorem own_drew {w : World} {base n size : Nat} {e : TypeId} {v : Value} {xs : List Value} (h : w.ownsRow base e size v n xs) : w.drew.ownsRow base e size v n xs := h
theorem rnew_res (tmps : Array Value) (w : World) (g : Nat) (cs : Array Value) (x : Int) (hp : tmps.getD 6 undef = .pointer (some ⟨g, 0, none⟩)) (hx : tmps.getD 7 undef = .int .i64 x) (hg : Blk w g 38 cs)
    (hi : (Try.prog.info? 38).map (·.size) = some cs.size) : (results Try.f18 tmps).run Try.prog w = .ok (.tuple #[.agg cs, .int .i64 x]) w := by
  have hp' : tmps[6]?.getD undef = .pointer (some ⟨g, 0, none⟩) := by simpa using hp
  have hx' : tmps[7]?.getD undef = .int .i64 x := by simpa using hx
  simp [results, hp', hx', asAddr, run_loadVar_row w g _ _ cs (0, 0) _ hg Try.underlying38 rfl hi]
theorem lt13 {i : Nat} (h : i < 13) : i = 0 ∨ i = 1 ∨ i = 2 ∨ i = 3 ∨ i = 4 ∨ i = 5 ∨ i = 6 ∨ i = 7 ∨ i = 8 ∨ i = 9 ∨ i = 10 ∨ i = 11 ∨ i = 12 := by omega
def NewF (base g : Nat) (CA IA : Option Addr) (N m I c0 c2 : Nat) (E : Int) (cds xs : List Value) (i lo hi : Nat) (v : Value) (w : World) : Prop :=
  match i with
  | 0 => ∃ b, v = .slice (some ⟨b, 0, none⟩) 0 0 ∧ Blk w b 2 #[] ∧ base ≤ b
  | 1 => v = .pointer (some ⟨g, 0, none⟩)
  | 2 => v = .slice CA N c0
  | 3 => ∃ A c, v = .slice A N c ∧ w.ownsRow base 2 1 v N cds ∧ ∃ b, v.ownBlock = some b ∧ lo ≤ b ∧ b < hi
  | 4 => v = .int .i64 (m : Int)
  | 5 => ∃ b, v = .slice (some ⟨b, 0, none⟩) m m ∧ Blk w b 2 (madeCells #[.int .i64 0] m) ∧ base ≤ b ∧ lo ≤ b ∧ b < hi
  | 6 => v = .pointer (some ⟨g, 2, none⟩)
  | 7 => v = .int .i64 E
  | 8 => ∃ b, v = .slice (some ⟨b, 0, none⟩) 0 0 ∧ Blk w b 5 #[] ∧ base ≤ b
  | 9 => v = .slice IA I c2
  | 10 => ∃ A c, v = .slice A I c ∧ w.ownsRow base 5 1 v I xs
  | 11 => ∃ A c mb A2 ic, v = .agg (rC (.slice A N c) (.slice (some ⟨mb, 0, none⟩) m m) (.slice A2 I ic) E 0) ∧ w.ownsRow base 2 1 (.slice A N c) N cds ∧ Blk w mb 2 (madeCells #[.int .i64 0] m) ∧ base ≤ mb ∧ (Value.slice A N c).ownBlock ≠ some mb ∧ w.ownsRow base 5 1 (.slice A2 I ic) I xs
  | _ => ∃ b cs, v = .pointer (some ⟨b, 0, none⟩) ∧ Blk w b 38 cs ∧ cs.size = 25 ∧ base ≤ b
theorem NewF.keep {base g : Nat} {CA IA : Option Addr} {N m I c0 c2 : Nat} {E : Int} {cds xs : List Value} : ∀ i lo hi v w w', NewF base g CA IA N m I c0 c2 E cds xs i lo hi v w → Below w.heap.size w w' → NewF base g CA IA N m I c0 c2 E cds xs i lo hi v w' := by
  intro i lo hi v w w' h hb
  by_cases hi13 : i < 13
  · rcases lt13 hi13 with rfl | rfl | rfl | rfl | rfl | rfl | rfl | rfl | rfl | rfl | rfl | rfl | rfl
    · obtain ⟨b, h1, h2, h3⟩ := h; exact ⟨b, h1, h2.below hb h2.lt, h3⟩
    · exact h
    · exact h
    · obtain ⟨A, c, h1, h2, h3⟩ := h; exact ⟨A, c, h1, own_below h2 hb, h3⟩
    · exact h
    · obtain ⟨b, h1, h2, h3⟩ := h; exact ⟨b, h1, h2.below hb h2.lt, h3⟩
    · exact h
    · exact h
    · obtain ⟨b, h1, h2, h3⟩ := h; exact ⟨b, h1, h2.below hb h2.lt, h3⟩
    · exact h
    · obtain ⟨A, c, h1, h2⟩ := h; exact ⟨A, c, h1, own_below h2 hb⟩
    · obtain ⟨A, c, mb, A2, ic, h1, h2, h3, h4, h5, h6⟩ := h; exact ⟨A, c, mb, A2, ic, h1, own_below h2 hb, h3.below hb h3.lt, h4, h5, own_below h6 hb⟩
    · obtain ⟨b, cs, h1, h2, h3⟩ := h; exact ⟨b, cs, h1, h2.below hb h2.lt, h3⟩
  · have : ∃ k, i = k + 13 := ⟨i - 13, by omega⟩
    obtain ⟨k, rfl⟩ := this
    obtain ⟨b, cs, h1, h2, h3⟩ := h; exact ⟨b, cs, h1, h2.below hb h2.lt, h3⟩

set_option maxRecDepth 100000 in
set_option maxHeartbeats 1600000 in
theorem rnew_ok (w : World) (CA DA IA : Option Addr) (B N M I m c0 c1 c2 : Nat) (E : Int) (cds dds xs : List Value)
    (hc : Reads w B 1 CA N cds) (hd : Reads w B 1 DA M dds) (hi : Reads w B 1 IA I xs) (hB : B ≤ w.heap.size) (h1 : ∀ u ∈ xs, u.oneCell' = true) (h2 : ∀ u ∈ cds, u.oneCell' = true) (h3 : ∀ u ∈ dds, ∃ n, u = .int .i64 n)
    (g0 : 0 < N) (g1 : N ≤ 65536) (g2 : M ≤ 16384) (g3 : 0 ≤ E) (g4 : E < (N : Int)) (p0 : M ≤ m) (p1 : m ≤ 262144) (p2 : I ≤ 4096) :
    Calls Try.prog 18 #[.agg #[.slice CA N c0, .slice DA M c1, .int .i64 E], .int .i64 (m : Int), .slice IA I c2] w fun e w' => ∃ A c mb A2 ic, e = .returned (.tuple #[.agg (rC (.slice A N c) (.slice (some ⟨mb, 0, none⟩) m m) (.slice A2 I ic) E m), .int .i64 0]) ∧
      w'.ownsRow w.heap.size 2 1 (.slice A N c) N cds ∧ (∃ ms, Blk w' mb 2 ms ∧ ms.toList = dds ++ List.replicate (m - M) (Value.int .i64 0)) ∧ w.heap.size ≤ mb ∧ (Value.slice A N c).ownBlock ≠ some mb ∧
      w'.ownsRow w.heap.size 5 1 (.slice A2 I ic) I xs ∧ Below w.heap.size w w' := by
  obtain ⟨i0, hi0, hz0, hz1, hz2⟩ := info_parts byte_info
  obtain ⟨j0, hj0, hy0, hy1, hy2⟩ := info_parts int_info
  have hmk : ∀ w : World, (Instr.makeSlice 22 (.int .i64 (m : Int)) (.int .i64 (m : Int))).run Try.prog w = .ok (.slice (some ⟨w.heap.size, 0, none⟩) m m) (w.alloc (.cells (madeCells #[.int .i64 0] m) 2)) := by
    intro w
    have := run_make_rowN 22 2 j0 _ Try.underlying22 hj0 hy0 .i64 .i64 m m (Nat.le_refl _) (by rw [hy2]; omega) (by omega) w
    rw [hy1, Nat.mul_one] at this
    exact this
  have n0 : ((N : Int) == 0) = false := by simp; omega
  have n1 : decide ((65536 : Int) < (N : Int)) = false := by simp; omega
  have n2 : decide ((16384 : Int) < (M : Int)) = false := by simp; omega
  have n3 : decide (E < 0) = false := by simp; omega
  have n4 : decide ((N : Int) ≤ E) = false := by simp; omega
  have m0 : decide ((m : Int) < (M : Int)) = false := by simp; omega
  have m0' : decide (m < M) = false := by simp; omega
  have m1 : decide ((262144 : Int) < (m : Int)) = false := by simp; omega
  have m2 : decide ((4096 : Int) < (I : Int)) = false := by simp; omega
  go_enter Try.func18, Try.ntmps18
  go_upto_region 5 with fail
  clear n0 n1 n2 n3 n4 m0 m0' m1 m2
  generalize hW : World.alloc _ _ = W
  have kx : Blk W w.heap.size 24 #[.slice CA N c0, .slice DA M c1, .int .i64 E] := by rw [← hW]; exact (two_new w _ _ _ _).1
  have kR : Blk W (w.heap.size + 1) 38 (rC (.slice none 0 0) (.slice none 0 0) (.slice none 0 0) 0 0) := by rw [← hW]; exact (two_new w _ _ _ _).2.1
  have kB : Below w.heap.size w W := by rw [← hW]; exact (two_new w _ _ _ _).2.2
  have kC : Reads W W.heap.size 1 CA N cds := (hc.below (kB.mono hB)).more (Nat.le_trans hB kB.size)
  have kD : Reads W W.heap.size 1 DA M dds := (hd.below (kB.mono hB)).more (Nat.le_trans hB kB.size)
  have kI : Reads W W.heap.size 1 IA I xs := (hi.below (kB.mono hB)).more (Nat.le_trans hB kB.size)
  have kS : w.heap.size < W.heap.size := kx.lt
  clear hW hc hd hi
  go_cut [8] (fun s8 wx => ∃ b A c mb A2 ic, s8 = .pointer (some ⟨b, 0, none⟩) ∧ Blk wx b 38 (rC (.slice A N c) (.slice (some ⟨mb, 0, none⟩) m m) (.slice A2 I ic) E 0) ∧ wx.ownsRow W.heap.size 2 1 (.slice A N c) N cds ∧
      Blk wx mb 2 (madeCells #[.int .i64 0] m) ∧ W.heap.size ≤ mb ∧ (Value.slice A N c).ownBlock ≠ some mb ∧ wx.ownsRow W.heap.size 5 1 (.slice A2 I ic) I xs ∧ Below W.heap.size W wx ∧ W.heap.size ≤ b)
  case first =>
    rename_i J1 K1 hJ1 hK1
    refine wp_region_grow 13 (by kernel_rfl) (by kernel_rfl) (NewF W.heap.size w.heap.size CA IA N m I c0 c2 E cds xs) NewF.keep 87 rfl (by kernel_rfl) ?_ ?_
    · intro i o ho hi a wx lo hi' hB hold hdep K hK
      rcases lt13 hi with rfl | rfl | rfl | rfl | rfl | rfl | rfl | rfl | rfl | rfl | rfl | rfl | rfl
      all_goals simp only [List.getElem?_toArray, List.getElem?_cons_zero, List.getElem?_cons_succ, Option.some.injEq] at ho
      all_goals subst ho
      · exact op_val (x_sliceI _ _ _ _ _ _) (hK _ _ ⟨_, rfl, Blk.new _ _ _, hB.size⟩ ((Below.refl _ _).alloc (Nat.le_refl _) _))
      · exact op_val (x_field0 _ _ _ _ _ _ _ _ (hold 3 (by decide))) (hK _ _ rfl (Below.refl _ _))
      · have d : a.eval (.tmp 56) = .pointer (some ⟨w.heap.size, 0, none⟩) := (hdep ⟨1, .data⟩ (by simp) rfl).1
        exact op_val (x_loadS _ _ _ _ _ _ _ _ _ _ d ((kx.below hB kx.lt).get (i := 0) rfl)) (hK _ _ rfl (Below.refl _ _))
      · have d0 : ∃ b, a.eval (.tmp 55) = .slice (some ⟨b, 0, none⟩) 0 0 ∧ Blk wx b 2 #[] ∧ W.heap.size ≤ b := (hdep ⟨0, .data⟩ (by simp) rfl).1
        have d2 : a.eval (.tmp 57) = .slice CA N c0 := (hdep ⟨2, .data⟩ (by simp) rfl).1
        obtain ⟨b, e1, e2, e3⟩ := d0
        refine wp_append_fresh _ _ _ rfl W.heap.size 2 j0 _ 1 8 Try.underlying22 hj0 hy0 hy1 hy2 rfl (by omega) b e1 e2 e3 W.heap.size CA N c0 cds d2 (kC.below hB) h2 (by simp only [maxLen]; omega) (by omega) ?_
        intro v' w' q1 q2 q3
        obtain ⟨A', c', rfl⟩ := own_shape q1
        refine hK _ _ ⟨A', c', rfl, q1, wx.heap.size, q3 g0, Nat.le_refl _, ?_⟩ q2
        exact (q1.lt _ (q3 g0)).2
      · exact op_val (x_move _ _ _ _ _ _ _ _ (hold 1 (by decide))) (hK _ _ rfl (Below.refl _ _))
      · have d : a.eval (.tmp 59) = .int .i64 (m : Int) := (hdep ⟨4, .data⟩ (by simp) rfl).1
        exact op_val (x_make _ _ _ _ _ _ _ m d _ _ (hmk wx)) (hK _ _ ⟨_, rfl, Blk.new _ _ _, hB.size, Nat.le_refl _, by simp⟩ ((Below.refl _ _).alloc (Nat.le_refl _) _))
      · exact op_val (x_field2 _ _ _ _ _ _ _ _ (hold 3 (by decide))) (hK _ _ rfl (Below.refl _ _))
      · have d : a.eval (.tmp 61) = .pointer (some ⟨w.heap.size, 2, none⟩) := (hdep ⟨6, .data⟩ (by simp) rfl).1
        exact op_val (x_loadI _ _ _ _ _ _ _ _ _ _ d ((kx.below hB kx.lt).get (i := 2) rfl)) (hK _ _ rfl (Below.refl _ _))
      · exact op_val (x_sliceB _ _ _ _ _ _) (hK _ _ ⟨_, rfl, Blk.new _ _ _, hB.size⟩ ((Below.refl _ _).alloc (Nat.le_refl _) _))
      · exact op_val (x_move _ _ _ _ _ _ _ _ (hold 2 (by decide))) (hK _ _ rfl (Below.refl _ _))
      · have d0 : ∃ b, a.eval (.tmp 63) = .slice (some ⟨b, 0, none⟩) 0 0 ∧ Blk wx b 5 #[] ∧ W.heap.size ≤ b := (hdep ⟨8, .data⟩ (by simp) rfl).1
        have d2 : a.eval (.tmp 64) = .slice IA I c2 := (hdep ⟨9, .data⟩ (by simp) rfl).1
        obtain ⟨b, e1, e2, e3⟩ := d0
        refine wp_append_fresh _ _ _ rfl W.heap.size 5 i0 _ 1 1 Try.underlying25 hi0 hz0 hz1 hz2 rfl (by omega) b e1 e2 e3 W.heap.size IA I c2 xs d2 (kI.below hB) h1 (by simp only [maxLen]; omega) (by omega) ?_
        intro v' w' q1 q2 q3
        obtain ⟨A', c', rfl⟩ := own_shape q1
        exact hK _ _ ⟨A', c', rfl, q1⟩ q2
      · have d3 := hdep ⟨3, .data⟩ (by simp) rfl
        have d5 : ∃ b, a.eval (.tmp 60) = .slice (some ⟨b, 0, none⟩) m m ∧ Blk wx b 2 (madeCells #[.int .i64 0] m) ∧ W.heap.size ≤ b ∧ lo 5 ≤ b ∧ b < hi' 5 := (hdep ⟨5, .data⟩ (by simp) rfl).1
        have d7 : a.eval (.tmp 62) = .int .i64 E := (hdep ⟨7, .data⟩ (by simp) rfl).1
        have d10 : ∃ A c, a.eval (.tmp 65) = .slice A I c ∧ wx.ownsRow W.heap.size 5 1 (a.eval (.tmp 65)) I xs := (hdep ⟨10, .data⟩ (by simp) rfl).1
        have dx : Apart2 lo hi' 3 5 := d3.2.2 ⟨5, .data⟩ (by simp) rfl
        have d3' : ∃ A c, a.eval (.tmp 58) = .slice A N c ∧ wx.ownsRow W.heap.size 2 1 (a.eval (.tmp 58)) N cds ∧ ∃ b, (a.eval (.tmp 58)).ownBlock = some b ∧ lo 3 ≤ b ∧ b < hi' 3 := d3.1
        obtain ⟨A, c, r1, r2, r3, r4, r5, r6⟩ := d3'
        obtain ⟨b, s1, s2, s3, s4, s5⟩ := d5
        obtain ⟨A2, ic, t1, t2⟩ := d10
        rw [r1] at r2 r4
        rw [t1] at t2
        refine op_val (x_build (h1 := r1) (h2 := s1) (h3 := d7) (h4 := t1) ..) (hK _ _ ⟨A, c, b, A2, ic, rfl, r2, s2, s3, ?_, t2⟩ (Below.refl _ _))
        rw [r4]
        intro e
        have e' : r3 = b := Option.some.inj e
        rcases dx (by decide) with h | h <;> omega
      · exact op_val (x_alloc _ _ _ _ _ _) (hK _ _ ⟨_, _, rfl, Blk.new _ _ _, rfl, hB.size⟩ ((Below.refl _ _).alloc (Nat.le_refl _) _))
    · intro vals lo hi' wx o a ha hev hold ho hB hf hap
      simp only [List.getElem?_toArray, List.getElem?_cons_zero, List.getElem?_cons_succ, Option.some.injEq] at ho
      subst ho
      have f11 : ∃ A c mb A2 ic, vals 11 = .agg (rC (.slice A N c) (.slice (some ⟨mb, 0, none⟩) m m) (.slice A2 I ic) E 0) ∧ wx.ownsRow W.heap.size 2 1 (.slice A N c) N cds ∧ Blk wx mb 2 (madeCells #[.int .i64 0] m) ∧ W.heap.size ≤ mb ∧ (Value.slice A N c).ownBlock ≠ some mb ∧ wx.ownsRow W.heap.size 5 1 (.slice A2 I ic) I xs := hf 11 _ 66 (by omega) rfl rfl
      have f12 : ∃ b cs, vals 12 = .pointer (some ⟨b, 0, none⟩) ∧ Blk wx b 38 cs ∧ cs.size = 25 ∧ W.heap.size ≤ b := hf 12 _ 8 (by omega) rfl rfl
      have v11 : a.eval (.tmp 66) = vals 11 := hev 11 _ 66 (by omega) rfl rfl
      have v12 : a.eval (.tmp 8) = vals 12 := hev 12 _ 8 (by omega) rfl rfl
      obtain ⟨A, c, mb, A2, ic, e11, r2, r3, r4, r5, r6⟩ := f11
      obtain ⟨b, cs, e12, s2, s3, s4⟩ := f12
      refine wp_store_row _ _ _ rfl b (rC (.slice A N c) (.slice (some ⟨mb, 0, none⟩) m m) (.slice A2 I ic) E 0) (v12.trans e12) (v11.trans e11) _ cs s2 (by kernel_rfl) s3 (rC_one _ _ _ _ _ _ _ _ _ _ _) ?_
      rw [ha]
      clear hf hap hev hold ha v11 v12
      simp only [List.take_succ_cons, List.take_zero, putAll, Nat.zero_add, Nat.reduceAdd, e11, e12]
      dsimp only [Act.put]
      simp only [List.setIfInBounds_toArray, List.set_cons_succ, List.set_cons_zero]
      refine hK1 _ _ (hJ1 _ _ ?_)
      (repeat apply Exists.intro)
      refine ⟨?rel, rfl⟩
      have nM : ∀ k, k ≠ b → (wx.setRow b (rC (.slice A N c) (.slice (some ⟨mb, 0, none⟩) m m) (.slice A2 I ic) E 0)).heap[k]? = wx.heap[k]? := fun k hk => setRow_other wx b k _ hk
      have hk : ∀ {e : TypeId} {v : Value} {n : Nat} {ys : List Value}, e ≠ 38 → wx.ownsRow W.heap.size e 1 v n ys → (wx.setRow b (rC (.slice A N c) (.slice (some ⟨mb, 0, none⟩) m m) (.slice A2 I ic) E 0)).ownsRow W.heap.size e 1 v n ys := fun he h =>
        h.kept (row := some b) ⟨rfl, rfl, rfl, by simp [World.setRow], fun k _ hk => nM k (fun e => hk (by rw [e]))⟩ (.inr (own_blk_ne h s2 he))
      refine ⟨b, A, c, mb, A2, ic, rfl, setRow_heap wx b cs _ _ _ s2, hk (by decide) r2, (nM mb (r3.ne_ s2 (by decide))).trans r3, r4, r5, hk (by decide) r6, below_setRow hB s4 _, s4⟩
  case rest =>
    obtain ⟨b, A, c, mb, A2, ic, rfl, aG, aC, aM, lm, am, aI, aB, lb⟩ := hcut
    clear hmk
    have hdl : dds.length = M := by have := kD.1; simpa using this
    go_wp2
    go_loopw [9] (fun i wr => ∃ k : Nat, i = .int .i64 k ∧ k ≤ M ∧ Blk wr b 38 (rC (.slice A N c) (.slice (some ⟨mb, 0, none⟩) m m) (.slice A2 I ic) E 0) ∧ wr.ownsRow W.heap.size 2 1 (.slice A N c) N cds ∧ Blk wr mb 2 (mixed dds m k) ∧ wr.ownsRow W.heap.size 5 1 (.slice A2 I ic) I xs ∧ Below W.heap.size W wr) (fun i _ => M - (intOf i).toNat)
    case atStart => exact ⟨0, rfl, Nat.zero_le _, aG, aC, by rw [mixed_zero]; exact aM, aI, aB⟩
    case round =>
      obtain ⟨k, rfl, hk, bG, bC, bM, bI, bB⟩ := hrel
      obtain ⟨wo, rfl⟩ : ∃ wo : World, wo = wr := ⟨_, rfl⟩
      have k0 : (0 : Int) ≤ (k : Int) := by omega
      have bx := kx.below bB kx.lt
      have q2 : wo.cell? ⟨w.heap.size, 1, none⟩ = some (.slice DA M c1) := bx.get (i := 1) rfl
      have q1 : wo.cell? ⟨b, 1, none⟩ = some (.slice (some ⟨mb, 0, none⟩) m m) := bG.get (i := 1) rfl
      by_cases hlt : k < M
      · have k1 : (k : Int) < (M : Int) := by omega
        have k2 : (k : Int) < (m : Int) := by omega
        obtain ⟨ad, u, rfl, had, hu, hcu⟩ := (kD.below bB).at_ hlt
        obtain ⟨n, rfl⟩ := h3 u (List.mem_of_getElem? hu)
        go_wp2
        refine st_tail 8 (by kernel_rfl) (by kernel_rfl) ?_
        intro U hU
        have dG : Blk U b 38 (rC (.slice A N c) (.slice (some ⟨mb, 0, none⟩) m m) (.slice A2 I ic) E 0) := by rw [← hU]; exact bG.drew
        have dM : Blk U mb 2 (mixed dds m k) := by rw [← hU]; exact bM.drew
        have dx : Blk U w.heap.size 24 #[.slice CA N c0, .slice (some ad) M c1, .int .i64 E] := by rw [← hU]; exact bx.drew
        have dC := own_drew bC
        have dI := own_drew bI
        have dB := bB.drew
        rw [hU] at dC dI dB
        have s1 : U.cell? ⟨b, 1, none⟩ = some (.slice (some ⟨mb, 0, none⟩) m m) := dG.get (i := 1) rfl
        have s2 : U.cell? ⟨w.heap.size, 1, none⟩ = some (.slice (some ad) M c1) := dx.get (i := 1) rfl
        have s3 : U.cell? (ad.add k) = some (.int .i64 n) := by rw [← hU]; exact hcu
        have s4 : U.cell? ⟨mb, k, none⟩ = some (.int .i64 0) := dM.get (mixed_at (by omega) (by omega))
        have s5 : U.frozen? ⟨mb, k, none⟩ = false := dM.frozen _
        clear hU
        simp only [List.take_succ_cons, List.take_zero, List.drop_succ_cons, List.drop_zero]
        repeat still_step
        refine wpStill_nil ?_
        go_wp2
        go_roundw
        case rel =>
          have e1 : mb ≠ b := dM.ne_ dG (by decide)
          exact ⟨k + 1, by go_num, by omega, dG.far (p := ⟨mb, k, none⟩) (Ne.symm e1) _, own_set (p := ⟨mb, k, none⟩) dC am _, by rw [← mixed_next hu (by omega)]; exact dM.set_ k _, own_set (p := ⟨mb, k, none⟩) dI (own_blk_ne dI dM (by decide)) _, dB.setCell (p := ⟨mb, k, none⟩) lm _⟩
        case measure => simp [intOf]; omega
      · have k1 : decide ((k : Int) < (M : Int)) = false := by simp; omega
        obtain rfl : k = M := by omega
        have q3 : wo.cell? ⟨b, 17, none⟩ = some (.int .i64 0) := bG.get (i := 17) rfl
        have q4 : wo.frozen? ⟨b, 17, none⟩ = false := bG.frozen _
        go_upto_region 11 with fail
        generalize hV : World.setCell _ _ _ = V
        have e1 : mb ≠ b := bM.ne_ bG (by decide)
        have vG : Blk V b 38 (rC (.slice A N c) (.slice (some ⟨mb, 0, none⟩) m m) (.slice A2 I ic) E m) := by rw [← hV]; exact bG.set_ 17 (.int .i64 (m : Int))
        have vM : Blk V mb 2 (mixed dds m k) := by rw [← hV]; exact bM.far (p := ⟨b, 17, none⟩) e1 _
        have vC : V.ownsRow W.heap.size 2 1 (.slice A N c) N cds := by rw [← hV]; exact own_set (p := ⟨b, 17, none⟩) bC (own_blk_ne bC bG (by decide)) _
        have vI : V.ownsRow W.heap.size 5 1 (.slice A2 I ic) I xs := by rw [← hV]; exact own_set (p := ⟨b, 17, none⟩) bI (own_blk_ne bI bG (by decide)) _
        have vB : Below W.heap.size W V := by rw [← hV]; exact bB.setCell (p := ⟨b, 17, none⟩) lb _
        have vR := kR.below vB kR.lt
        clear hV q1 q2 q3 q4 bx bG bC bM bI bB
        refine wp_region_lit ?_
        refine wpList_load_row rfl _ _ rfl b rfl _ _ (0, 0) _ vG Try.underlying38 rfl (by kernel_rfl) ?_
        refine wpList_store_row rfl _ _ _ rfl (w.heap.size + 1) (rC (.slice A N c) (.slice (some ⟨mb, 0, none⟩) m m) (.slice A2 I ic) E m) rfl rfl _ _ vR (by kernel_rfl) rfl (rC_one _ _ _ _ _ _ _ _ _ _ _) ?_
        have nM : ∀ k, k ≠ w.heap.size + 1 → (V.setRow (w.heap.size + 1) (rC (.slice A N c) (.slice (some ⟨mb, 0, none⟩) m m) (.slice A2 I ic) E m)).heap[k]? = V.heap[k]? := fun k hk => setRow_other V _ k _ hk
        have hkp : ∀ {e : TypeId} {v : Value} {n : Nat} {ys : List Value}, e ≠ 38 → V.ownsRow W.heap.size e 1 v n ys → (V.setRow (w.heap.size + 1) (rC (.slice A N c) (.slice (some ⟨mb, 0, none⟩) m m) (.slice A2 I ic) E m)).ownsRow W.heap.size e 1 v n ys := fun he h =>
          h.kept (row := some (w.heap.size + 1)) ⟨rfl, rfl, rfl, by simp [World.setRow], fun k _ hk => nM k (fun e => hk (by rw [e]))⟩ (.inr (own_blk_ne h vR he))
        have zR := setRow_heap V (w.heap.size + 1) _ (rC (.slice A N c) (.slice (some ⟨mb, 0, none⟩) m m) (.slice A2 I ic) E m) _ _ vR
        have zC := hkp (by decide) vC
        have zI := hkp (by decide) vI
        have zM := (nM mb (vM.ne_ vR (by decide))).trans vM
        have zB : Below w.heap.size w (V.setRow (w.heap.size + 1) (rC (.slice A N c) (.slice (some ⟨mb, 0, none⟩) m m) (.slice A2 I ic) E m)) := below_setRow (kB.trans (vB.mono kB.size)) (by omega) _
        generalize hZ : World.setRow _ _ _ = Z at *
        have HR := Lib.hid zR
        clear hZ nM hkp zR vG vM vC vI vB vR
        go_wp2
        refine bodyPost_ret (rnew_res _ _ _ _ 0 rfl rfl HR.out (by kernel_rfl)) rfl ?_
        refine ⟨A, c, mb, A2, ic, rfl, own_mono zC kB.size, ⟨_, zM, ?_⟩, by have := kB.size; omega, am, own_mono zI kB.size, zB⟩
        rw [← hdl]
        exact mixed_end
end Go.Proofs.Ytikgghioneiegaa
