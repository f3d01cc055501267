/-
  A machine that is made: a walk.
-/
import Derived.Test.YtikgghioneiegaaMachP
import Derived.Test.YtikgghioneiegaaMachR
import Derived.Test.YtikgghioneiegaaMachI
import Derived.Deep.DeepCutAuto
import Derived.Laws.CopyOwn
import Derived.Deep.RegionHeld3
import Derived.Outline
namespace Go.Proofs.Ytikgghioneiegaa
open Go.RowKit
set_option linter.unusedVariables false

theorem int_info : (Try.prog.info? 2).map (fun i => (i.zero, i.size, i.bytes)) = some (some (.int .i64 0), 1, 8) := by kernel_rfl

/-- A machine's cells when it is new, ahead of its operations. -/
def newC (D mbk N m : Nat) (E : Int) (v : Value) (dv : Value) (x : Int) : Array Value :=
  #[.slice (some ⟨D, 0, none⟩) N N, dv, .int .i64 E, .int .i64 0, .int .i64 0, .int .i64 0, .int .i64 0, .int .i64 0, .int .i64 0, .int .i64 0, .int .i64 0, .int .i64 0, .int .i64 0, .int .i64 0, .int .i64 0, .int .i64 0, .int .i64 0, .int .i64 0, .int .i64 x,
    .slice (some ⟨mbk, 0, none⟩) m m, v, .slice none 0 0, .int .i64 0, .int .i64 0, .int .i64 0]

theorem decode_at {W wx : World} {CA : Option Addr} {N c : Nat} {cd : List Int} (kC : Reads W W.heap.size 1 CA N (cd.map (Value.int .i64))) (hN : N ≤ 65536) (hcd : ∀ v ∈ cd, -9223372036854775808 ≤ v ∧ v ≤ 9223372036854775807) (hb : Below W.heap.size W wx) :
    Calls Try.prog 31 #[.slice CA N c] wx fun e w' => e = .returned (.slice (some ⟨wx.heap.size, 0, none⟩) N N) ∧ DC w' wx.heap.size N N cd ∧ Below wx.heap.size wx w' :=
  decode_list wx CA W.heap.size N c cd (kC.below hb) hb.size hN hcd

theorem own_below {w w' : World} {base n size : Nat} {e : TypeId} {v : Value} {xs : List Value} (h : w.ownsRow base e size v n xs) (hb : Below w.heap.size w w') : w'.ownsRow base e size v n xs :=
  h.kept (row := none) ⟨hb.os, hb.tape, hb.output, hb.size, fun k hk _ => hb.block k hk⟩ (by cases hv : v.ownBlock <;> simp)
theorem new_leaf {W f : World} {D mbk gv N m I c : Nat} {A : Option Addr} {E : Int} {cd : List Int} {xs : List Value} {ms : Array Value} (hdc' : ∃ D0, DC f D0 N N cd ∧ D = D0) (hmem' : ∃ mb0, Blk f mb0 2 ms ∧ mbk = mb0)
    (hown : f.ownsRow W.heap.size 5 1 (.slice A I c) I ([] ++ xs)) (hb : Below W.heap.size W f) (hm : W.heap.size ≤ mbk) (hg : gv = f.heap.size) :
    ∃ g D' mbk' iA ic, Value.pointer (some ⟨gv, 0, none⟩) = .pointer (some ⟨g, 0, none⟩) ∧ Blk (f.alloc (.cells (newC D mbk N m E (.slice A I c) (.slice none 0 0) 0) 62)) g 62 (newC D' mbk' N m E (.slice iA I ic) (.slice none 0 0) 0) ∧
      DC (f.alloc (.cells (newC D mbk N m E (.slice A I c) (.slice none 0 0) 0) 62)) D' N N cd ∧ Blk (f.alloc (.cells (newC D mbk N m E (.slice A I c) (.slice none 0 0) 0) 62)) mbk' 2 ms ∧
      (f.alloc (.cells (newC D mbk N m E (.slice A I c) (.slice none 0 0) 0) 62)).ownsRow W.heap.size 5 1 (.slice iA I ic) I xs ∧ Below W.heap.size W (f.alloc (.cells (newC D mbk N m E (.slice A I c) (.slice none 0 0) 0) 62)) ∧ W.heap.size ≤ g ∧ W.heap.size ≤ mbk' := by
  obtain ⟨D0, hdc, hD⟩ := hdc'
  obtain ⟨mb0, hmem, hM⟩ := hmem'
  subst hD hM hg
  exact ⟨f.heap.size, D, mbk, A, c, rfl, Blk.new _ _ _, hdc.below ((Below.refl _ _).alloc (Nat.le_refl _) _) hdc.lt, hmem.alloc _, by simpa using hown.alloc _, hb.alloc hb.size _, hb.size, hm⟩

set_option maxRecDepth 100000 in
set_option maxHeartbeats 6400000 in
theorem new_ok (w : World) (CA DA IA : Option Addr) (B N M I m c0 c1 c2 : Nat) (E : Int) (cd dd : List Int) (xs : List Value)
    (hc : Reads w B 1 CA N (cd.map (Value.int .i64))) (hd : Reads w B 1 DA M (dd.map (Value.int .i64))) (hi : Reads w B 1 IA I xs) (hB : B ≤ w.heap.size) (h1 : ∀ u ∈ xs, u.oneCell' = true) (hcd : ∀ v ∈ cd, -9223372036854775808 ≤ v ∧ v ≤ 9223372036854775807)
    (g0 : 0 < N) (g1 : N ≤ 65536) (g2 : M ≤ 16384) (g3 : 0 ≤ E) (g4 : E < (N : Int)) (p0 : M ≤ m) (p1 : m ≤ 262144) (p2 : I ≤ 4096) :
    Calls Try.prog 17 #[.agg #[.slice CA N c0, .slice DA M c1, .int .i64 E], .int .i64 (m : Int), .slice IA I c2] w fun e w' => ∃ g D db mbk iA ic, e = .returned (.tuple #[.pointer (some ⟨g, 0, none⟩), .int .i64 0]) ∧
      Blk w' g 62 (newC D mbk N m E (.slice iA I ic) (.slice (some ⟨db, 0, none⟩) 44 44) m) ∧ DC w' D N N cd ∧ DT w' db g 33 ∧ (∃ ms, Blk w' mbk 2 ms ∧ ms.toList = dd.map (Value.int .i64) ++ List.replicate (m - M) (Value.int .i64 0)) ∧
      w'.ownsRow w.heap.size 5 1 (.slice iA I ic) I xs ∧ Below w.heap.size w w' ∧ w.heap.size ≤ g ∧ w.heap.size ≤ mbk := by
  obtain ⟨i0, hi0, hz0, hz1, hz2⟩ := info_parts byte_info
  obtain ⟨j0, hj0, hy0, hy1, hy2⟩ := info_parts int_info
  have hmk : ∀ w : World, (Instr.makeSlice 22 (.int .i64 (m : Int)) (.int .i64 (m : Int))).run Try.prog w = .ok (.slice (some ⟨w.heap.size, 0, none⟩) m m) (w.alloc (.cells (madeCells #[.int .i64 0] m) 2)) := by
    intro w
    have := run_make_rowN 22 2 j0 _ Try.underlying22 hj0 hy0 .i64 .i64 m m (Nat.le_refl _) (by rw [hy2]; omega) (by omega) w
    rw [hy1, Nat.mul_one] at this
    exact this
  have n0 : ((N : Int) == 0) = false := by simp; omega
  have n1 : decide ((65536 : Int) < (N : Int)) = false := by simp; omega
  have n2 : decide ((16384 : Int) < (M : Int)) = false := by simp; omega
  have n3 : decide (E < 0) = false := by simp; omega
  have n4 : decide ((N : Int) ≤ E) = false := by simp; omega
  have m0 : decide ((m : Int) < (M : Int)) = false := by simp; omega
  have m0' : decide (m < M) = false := by simp; omega
  have m1 : decide ((262144 : Int) < (m : Int)) = false := by simp; omega
  have m2 : decide ((4096 : Int) < (I : Int)) = false := by simp; omega
  go_enter Try.func17, Try.ntmps17
  go_upto_region 5 with fail
  clear n0 n1 n2 n3 n4 m0 m0' m1 m2
  generalize hW : World.alloc _ _ = W
  have kx : Blk W w.heap.size 24 #[.slice CA N c0, .slice DA M c1, .int .i64 E] := by rw [← hW]; exact Blk.new w _ _
  have kB : Below w.heap.size w W := by rw [← hW]; exact (Below.refl _ w).alloc (Nat.le_refl _) _
  have kC : Reads W W.heap.size 1 CA N (cd.map (Value.int .i64)) := (hc.below (kB.mono hB)).more (Nat.le_trans hB kB.size)
  have kD : Reads W W.heap.size 1 DA M (dd.map (Value.int .i64)) := (hd.below (kB.mono hB)).more (Nat.le_trans hB kB.size)
  have kI : Reads W W.heap.size 1 IA I xs := (hi.below (kB.mono hB)).more (Nat.le_trans hB kB.size)
  have kS : w.heap.size < W.heap.size := kx.lt
  clear hW hc hd hi
  go_cut [8] (fun s8 wx => ∃ g D mbk iA ic, s8 = .pointer (some ⟨g, 0, none⟩) ∧ Blk wx g 62 (newC D mbk N m E (.slice iA I ic) (.slice none 0 0) 0) ∧ DC wx D N N cd ∧ Blk wx mbk 2 (madeCells #[.int .i64 0] m) ∧
      wx.ownsRow W.heap.size 5 1 (.slice iA I ic) I xs ∧ Below W.heap.size W wx ∧ W.heap.size ≤ g ∧ W.heap.size ≤ mbk)
  case first =>
    have q1 : W.cell? ⟨w.heap.size, 0, none⟩ = some (.slice CA N c0) := kx.get (i := 0) rfl
    have q2 : W.cell? ⟨w.heap.size, 2, none⟩ = some (.int .i64 E) := kx.get (i := 2) rfl
    go_region_held3 (fun w' => w'.cell? ⟨w.heap.size, 0, none⟩ = some (.slice CA N c0) ∧ w'.cell? ⟨w.heap.size, 2, none⟩ = some (.int .i64 E))
      (first
        | go_keep
        | exact ⟨q3, q4⟩
        | exact ⟨q5, q6⟩
        | trace_state)
      (first
        | (refine step_append_as _ (by rfl) _ _ _ (by rfl) W.heap.size 5 i0 _ 1 1 Try.underlying25 hi0 hz0 hz1 hz2 rfl (by omega) (.slice none 0 0) 0 [] (by rfl) ⟨by simp, .inl ⟨rfl, rfl⟩⟩ W.heap.size IA I c2 xs (by rfl) (kI.below (by first | exact Below.drew (Below.refl _ W) | exact ((Below.drew (Below.refl _ W)).alloc (Nat.le_refl _) _) | exact hC2 | exact hC2.alloc hC2.size _)) h1 (by simp only [maxLen]; omega) (by omega) (by first | exact Nat.le_refl _ | (simp; done) | exact hC2.size | (have := hC2.size; simp; omega)) I (by omega) ?_
           intro A1 c3 w2 hown2 hg2 hat2
           have hA1 := (Below.refl _ _).grown hg2 (Nat.le_refl _) (by simp [Value.ownBlock])
           have hA2 : Below W.heap.size W w2 := (by first | exact below_next' (Below.drew (Below.refl _ W)) hA1 | exact below_next' ((Below.drew (Below.refl _ W)).alloc (Nat.le_refl _) _) hA1 | exact below_next' hC2 hA1 | exact below_next' (hC2.alloc hC2.size _) hA1)
           have q5 : w2.cell? ⟨w.heap.size, 0, none⟩ = some (.slice CA N c0) := (hA2.cell (p := ⟨w.heap.size, 0, none⟩) kS).trans q1
           have q6 : w2.cell? ⟨w.heap.size, 2, none⟩ = some (.int .i64 E) := (hA2.cell (p := ⟨w.heap.size, 2, none⟩) kS).trans q2)
        | (go_at_call 31
           refine (decode_at kC g1 hcd (by first | exact Below.drew (Below.refl _ W) | exact ((Below.drew (Below.refl _ W)).alloc (Nat.le_refl _) _) | exact hA2 | exact hA2.alloc hA2.size _)).mono ?_
           rintro e w1 ⟨rfl, hDC, hC1⟩
           have hC2 : Below W.heap.size W w1 := (by first | exact below_next' (Below.drew (Below.refl _ W)) hC1 | exact below_next' ((Below.drew (Below.refl _ W)).alloc (Nat.le_refl _) _) hC1 | exact below_next' hA2 hC1 | exact below_next' (hA2.alloc hA2.size _) hC1)
           have q3 : w1.cell? ⟨w.heap.size, 0, none⟩ = some (.slice CA N c0) := (hC2.cell (p := ⟨w.heap.size, 0, none⟩) kS).trans q1
           have q4 : w1.cell? ⟨w.heap.size, 2, none⟩ = some (.int .i64 E) := (hC2.cell (p := ⟨w.heap.size, 2, none⟩) kS).trans q2))
    all_goals
      go_wp2_with fail
      go_meet
      refine new_leaf (ms := madeCells #[.int .i64 0] m) ?_ ?_ ?_ ?_ ?_ ?_
      · first
          | exact ⟨_, hDC, by first | rfl | (simp; done)⟩
          | exact ⟨_, hDC.below ((Below.refl _ _).alloc (Nat.le_refl _) _) hDC.lt, by first | rfl | (simp; done)⟩
          | exact ⟨_, hDC.below hA1 hDC.lt, by first | rfl | (simp; done)⟩
          | exact ⟨_, hDC.below (below_next' ((Below.refl _ _).alloc (Nat.le_refl _) _) hA1) hDC.lt, by first | rfl | (simp; done)⟩
          | exact ⟨_, hDC.below (hA1.alloc hA1.size _) hDC.lt, by first | rfl | (simp; done)⟩
      · first
          | exact ⟨_, Blk.new _ _ _, by first | rfl | (simp; done)⟩
          | exact ⟨_, (Blk.new _ _ _).below hA1 (Blk.new _ _ _).lt, by first | rfl | (simp; done)⟩
          | exact ⟨_, (Blk.new _ _ _).below hC1 (Blk.new _ _ _).lt, by first | rfl | (simp; done)⟩
          | exact ⟨_, (Blk.new _ _ _).drew, by first | rfl | (simp; done)⟩
          | exact ⟨_, (Blk.new _ _ _).drew.below hA1 (Blk.new _ _ _).drew.lt, by first | rfl | (simp; done)⟩
          | exact ⟨_, (Blk.new _ _ _).drew.below hC1 (Blk.new _ _ _).drew.lt, by first | rfl | (simp; done)⟩
          | exact ⟨_, ((Blk.new _ _ _).drew.below hC1 (Blk.new _ _ _).drew.lt).below hA1 ((Blk.new _ _ _).drew.below hC1 (Blk.new _ _ _).drew.lt).lt, by first | rfl | (simp; done)⟩
          | exact ⟨_, ((Blk.new _ _ _).drew.below hA1 (Blk.new _ _ _).drew.lt).below hC1 ((Blk.new _ _ _).drew.below hA1 (Blk.new _ _ _).drew.lt).lt, by first | rfl | (simp; done)⟩
          | exact ⟨_, ((Blk.new _ _ _).below hC1 (Blk.new _ _ _).lt).below hA1 ((Blk.new _ _ _).below hC1 (Blk.new _ _ _).lt).lt, by first | rfl | (simp; done)⟩
          | exact ⟨_, ((Blk.new _ _ _).below hA1 (Blk.new _ _ _).lt).below hC1 ((Blk.new _ _ _).below hA1 (Blk.new _ _ _).lt).lt, by first | rfl | (simp; done)⟩
      · first
          | exact hown2
          | exact hown2.alloc _
          | exact own_below hown2 hC1
          | exact own_below (hown2.alloc _) hC1
          | exact (own_below hown2 hC1).alloc _
      · first
          | exact hA2
          | exact hC2
          | exact hA2.alloc hA2.size _
          | exact hC2.alloc hC2.size _
      · first
          | exact Nat.le_refl _
          | exact hA2.size
          | exact hC2.size
      · first
          | rfl
          | (simp; done)
  case rest =>
    obtain ⟨g, D, mbk, iA, ic, rfl, aG, aD, aM, aI, aB, lg, lm⟩ := hcut
    clear hmk
    go_wp2_with fail
    refine (operations_any wc g).mono ?_
    rintro e w3 ⟨rfl, hDT, hB3⟩
    have bG := aG.below hB3 aG.lt
    have bD := aD.below hB3 aD.lt
    have bM := aM.below hB3 aM.lt
    have bI := own_below aI hB3
    have bB : Below W.heap.size W w3 := below_next' aB hB3
    have bx := kx.below bB kx.lt
    have r1 : w3.cell? ⟨g, 1, none⟩ = some (.slice none 0 0) := bG.get (i := 1) rfl
    have r2 : w3.cell? ⟨g, 18, none⟩ = some (.int .i64 0) := bG.get (i := 18) rfl
    have rf : ∀ i, w3.frozen? ⟨g, i, none⟩ = false := bG.frozen
    go_wp2
    refine st_tail 6 (by kernel_rfl) (by kernel_rfl) ?_
    intro U hU
    have cG : Blk U g 62 (newC D mbk N m E (.slice iA I ic) (.slice (some ⟨wc.heap.size, 0, none⟩) 44 44) m) := by
      have h := (bG.set_ 1 (.slice (some ⟨wc.heap.size, 0, none⟩) 44 44)).set_ 18 (.int .i64 (m : Int))
      rw [← hU]
      exact h
    have nG : ∀ k, k ≠ g → U.heap[k]? = w3.heap[k]? := fun k hk => by
      rw [← hU]
      exact (Below.heap_setCell _ ⟨g, 18, none⟩ _ k hk).trans (Below.heap_setCell _ ⟨g, 1, none⟩ _ k hk)
    have e1 : mbk ≠ g := bM.ne_ bG (by decide)
    have cD : DC U D N N cd := by
      obtain ⟨cur, h1, h2, h3⟩ := bD
      exact ⟨cur, (nG D (h1.ne_ bG (by decide))).trans h1, h2, h3⟩
    have cT : DT U wc.heap.size g 33 := by
      obtain ⟨cur, h1, h2, h3⟩ := hDT
      exact ⟨cur, (nG _ (h1.ne_ bG (by decide))).trans h1, h2, h3⟩
    have cM : Blk U mbk 2 (madeCells #[.int .i64 0] m) := (nG mbk e1).trans bM
    have cI : U.ownsRow W.heap.size 5 1 (.slice iA I ic) I xs := by
      have q := own_blk_ne bI bG (by decide)
      rw [← hU]
      exact own_set (p := ⟨g, 18, none⟩) (own_set (p := ⟨g, 1, none⟩) bI q _) q _
    have cB : Below W.heap.size W U := by
      rw [← hU]
      exact ((bB.setCell (p := ⟨g, 1, none⟩) lg _).setCell (p := ⟨g, 18, none⟩) lg _).drew
    have cx : Blk U w.heap.size 24 #[.slice CA N c0, .slice DA M c1, .int .i64 E] := (nG _ (by omega)).trans bx
    have q1 : U.cell? ⟨g, 19, none⟩ = some (.slice (some ⟨mbk, 0, none⟩) m m) := cG.get (i := 19) rfl
    have q2 : U.cell? ⟨w.heap.size, 1, none⟩ = some (.slice DA M c1) := cx.get (i := 1) rfl
    have dD := kD.below cB
    have hsz : (Try.prog.info? 2).map (·.size) = some 1 := by rw [hj0]; simp [hy1]
    have wB : Below w.heap.size w U := below_next' kB cB
    clear r1 r2 rf bG bD bM bI bB bx hDT hB3 aG aD aM aI aB kx kC kD kI hU nG cx
    simp only [List.take_succ_cons, List.take_zero, List.drop_succ_cons, List.drop_zero]
    repeat still_step
    refine wpStill_nil ?_
    have hdl : dd.length = M := by have := dD.1; simpa using this
    have hmz : (madeCells #[Value.int .i64 0] m).toList = List.replicate m (.int .i64 0) := by
      apply List.ext_getElem
      · simp [madeCells]
      · intro i h2 h3
        simp [madeCells, Nat.mod_one]
    by_cases hM0 : M = 0
    · subst hM0
      refine wpList_copy_nothing rfl (.tmp 76) (.tmp 78) _ _ rfl 2 Try.underlying22 hsz _ _ _ _ _ _ rfl rfl (by simp) ?_
      clear q1 q2 hsz
      go_wp2
      go_ret2
      refine ⟨g, D, wc.heap.size, mbk, iA, ic, rfl, cG, cD, cT, ⟨_, cM, ?_⟩, own_mono cI kB.size, wB, by omega, by omega⟩
      rw [hmz]
      obtain rfl : dd = [] := List.eq_nil_of_length_eq_zero hdl
      simp
    · obtain ⟨ad, rfl, had, hcells⟩ := dD.2 (by omega)
      refine wpList_copy_own rfl (.tmp 76) (.tmp 78) _ _ rfl 2 Try.underlying22 hsz mbk 0 m m ad M c1 rfl rfl (madeCells #[.int .i64 0] m) 2 cM (dd.map (Value.int .i64)) (by rw [List.length_map, hdl]; exact (Nat.min_eq_left p0).symm) hcells (by simp [madeCells]; omega) (by simp [Value.oneCell']) ?_
      generalize hV : World.setRow U mbk _ = V
      have nM : ∀ k, k ≠ mbk → V.heap[k]? = U.heap[k]? := fun k hk => by rw [← hV]; exact setRow_other U mbk k _ hk
      have vG := (nM g (Ne.symm e1)).trans cG
      have vD : DC V D N N cd := by
        obtain ⟨cur, h1, h2, h3⟩ := cD
        exact ⟨cur, (nM D (h1.ne_ cM (by decide))).trans h1, h2, h3⟩
      have vT : DT V wc.heap.size g 33 := by
        obtain ⟨cur, h1, h2, h3⟩ := cT
        exact ⟨cur, (nM _ (h1.ne_ cM (by decide))).trans h1, h2, h3⟩
      have vM := setRow_heap U mbk _ ((madeCells #[Value.int .i64 0] m).toList.take 0 ++ (dd.map (Value.int .i64) ++ (madeCells #[Value.int .i64 0] m).toList.drop (0 + (dd.map (Value.int .i64)).length))).toArray _ _ cM
      rw [hV] at vM
      have vI : V.ownsRow W.heap.size 5 1 (.slice iA I ic) I xs := cI.kept (row := some mbk) ⟨by rw [← hV]; rfl, by rw [← hV]; rfl, by rw [← hV]; rfl, by rw [← hV]; simp [World.setRow], fun k _ hk => nM k (fun e => hk (by rw [e]))⟩ (.inr (own_blk_ne cI cM (by decide)))
      have vB : Below w.heap.size w V := by rw [← hV]; exact below_setRow wB (by omega) _
      clear q1 q2 hsz cG cD cT cM cI cB hV
      go_wp2
      go_ret2
      refine ⟨g, D, wc.heap.size, mbk, iA, ic, rfl, vG, vD, vT, ⟨_, vM, ?_⟩, own_mono vI kB.size, vB, by omega, by omega⟩
      rw [hmz]
      simp [hdl]
end Go.Proofs.Ytikgghioneiegaa
