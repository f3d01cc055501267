/-
  Steps one behind the other, and what is told at the end.
-/
import Derived.Test.YtikgghioneiegaaMachX
import Derived.LoopTactic
namespace Go.Proofs.Ytikgghioneiegaa
open Go.RowKit
set_option linter.unusedVariables false

def iter (cd : List Int) : Nat → St → St
  | 0, s => s
  | n + 1, s => step cd (iter cd n s)
theorem step_idle {cd : List Int} {s : St} (h : s.kind ≠ 0) : step cd s = s := by
  unfold step
  rw [if_neg h]
theorem iter_idle {cd : List Int} {s : St} {k : Nat} (h : (iter cd k s).kind ≠ 0) : ∀ n, k ≤ n → iter cd n s = iter cd k s := by
  intro n hn
  induction n with
  | zero => obtain rfl : k = 0 := by omega
            rfl
  | succ m ih =>
    by_cases e : k = m + 1
    · rw [e]
    · have := ih (by omega)
      show step cd (iter cd m s) = _
      rw [this]
      exact step_idle h
/-- What an answer is in memory. -/
def Told (w : World) (base : Nat) (s : St) (v : Value) : Prop := ∃ v', v = .agg #[.int .i64 s.kind, .int .i64 s.code, v', .int .i64 s.steps] ∧ w.ownsRow base 5 1 v' s.out.length (s.out.map (Value.int .u8))
theorem u8_one (l : List Int) : ∀ u ∈ l.map (Value.int .u8), u.oneCell' = true := by
  intro u hu
  obtain ⟨x, _, rfl⟩ := List.mem_map.1 hu
  rfl
section
variable {w : World} {B : Nat} {L : Lay} {cd : List Int} {s : St} {iv ov : Value}
theorem outcome_rep (h : Rep w B L cd s iv ov) : Calls Try.prog 22 #[.pointer (some ⟨L.g, 0, none⟩)] w fun e w' => ∃ A c, e = .returned (.agg #[.int .i64 s.kind, .int .i64 s.code, .slice A s.out.length c, .int .i64 s.steps]) ∧
    w'.ownsRow w.heap.size 5 1 (.slice A s.out.length c) s.out.length (s.out.map (Value.int .u8)) ∧ Below w.heap.size w w' := by
  obtain ⟨A, c, rfl⟩ := own_shape h.out
  refine (outcome_any w L.g _ h.mach s.kind s.code s.steps A w.heap.size s.out.length c _ rfl rfl rfl rfl (Reads.of_own h.out) (Nat.le_refl _) (u8_one _) h.outl).mono ?_
  rintro e w' ⟨v', rfl, hown, hb⟩
  obtain ⟨A', c', rfl⟩ := own_shape hown
  exact ⟨A', c', rfl, hown, hb⟩
theorem Post.below {w' : World} {s' : St} (h : Rep w B L cd s iv ov) (p : Post B L cd iv ov w s' w') : Below B w w' := by
  obtain ⟨iv', ov', r, f, _⟩ := p
  exact f.toBelow h.gB h.mB (fun k hk => (h.out.lt k hk).1) (by have := h.gB; have := h.mach.lt; omega)
end
theorem below_set {B : Nat} {a b : World} (h : Below B a b) (p : Addr) (u : Value) : Below B (a.setCell p u) (b.setCell p u) := by
  refine ⟨h.os, h.tape, h.output, by simpa [World.setCell] using h.size, fun k hk => ?_⟩
  by_cases e : k = p.block
  · subst e
    have := h.block p.block hk
    simp only [World.setCell, Array.getElem?_modify, this]
  · rw [Below.heap_setCell b p u k e, Below.heap_setCell a p u k e]
    exact h.block k hk
/-- Whatever keeps all blocks but those that are answers. -/
theorem Rep.other {w w' : World} {B : Nat} {L : Lay} {cd : List Int} {s : St} {iv ov : Value} (h : Rep w B L cd s iv ov) {T : TypeId} (h1 : T ≠ 62) (h2 : T ≠ 52) (h3 : T ≠ 65) (h4 : T ≠ 2) (h5 : T ≠ 5)
    (k : ∀ b t cs, Blk w b t cs → t ≠ T → Blk w' b t cs) : Rep w' B L cd s iv ov := by
  refine ⟨k _ _ _ h.mach (Ne.symm h1), ?_, ?_, k _ _ _ h.mem (Ne.symm h4), ?_, ?_, h.outl, h.meml, h.codel, h.gB, h.mB⟩
  · obtain ⟨cur, q1, q2, q3⟩ := h.code
    exact ⟨cur, k _ _ _ q1 (Ne.symm h2), q2, q3⟩
  · obtain ⟨cur, q1, q2, q3⟩ := h.doing
    exact ⟨cur, k _ _ _ q1 (Ne.symm h3), q2, q3⟩
  · obtain ⟨A, c, q1, q2, q3, q4, q5⟩ := h.inn
    refine ⟨A, c, q1, q2, q3, q4, fun hl => ?_⟩
    obtain ⟨ib, off, cur, r1, r2, r3, r4⟩ := q5 hl
    exact ⟨ib, off, cur, r1, k _ _ _ r2 (Ne.symm h5), r3, r4⟩
  · refine ⟨h.out.1, ?_⟩
    rcases h.out.2 with hn | ⟨g, cap, cur, hv, hb, hgg, rest⟩
    · exact .inl hn
    · exact .inr ⟨g, cap, cur, hv, hb, k _ _ _ hgg (Ne.symm h5), rest⟩
theorem far_all {w : World} {r : Nat} {T : TypeId} {cs0 : Array Value} (hr : Blk w r T cs0) (p : Addr) (hp : p.block = r) (u : Value) : ∀ b t cs, Blk w b t cs → t ≠ T → Blk (w.setCell p u) b t cs :=
  fun b t cs hb hne => hb.far (p := p) (by rw [hp]; exact hb.ne_ hr hne) u
/-- The answer laid into its block: the machine stands as it stood. -/
theorem laid_end {w w1 w2 : World} {B r : Nat} {L : Lay} {cd : List Int} {s : St} {iv ov : Value} (h : Rep w1 B L cd s iv ov) (hX : Blk w1 r 29 #[.int .i64 0, .int .i64 0, .slice none 0 0, .int .i64 0]) (hB : Below B w w1) (hr : B ≤ r) (hb : Below w1.heap.size w1 w2)
    {A : Option Addr} {n c : Nat} {xs : List Value} (hown : w2.ownsRow w1.heap.size 5 1 (.slice A n c) n xs) (a0 a1 a2 a3 : Value) :
    ∃ w3, (((((w2.setCell ⟨r, 0, none⟩ a0).setCell ⟨r, 1, none⟩ a1).setCell ⟨r, 2, none⟩ a2).setCell ⟨r, 3, none⟩ a3)).ownsRow w3.heap.size 5 1 (.slice A n c) n xs ∧ Rep w3 B L cd s iv ov ∧ Below B w w3 ∧
      Below w3.heap.size w3 (((((w2.setCell ⟨r, 0, none⟩ a0).setCell ⟨r, 1, none⟩ a1).setCell ⟨r, 2, none⟩ a2).setCell ⟨r, 3, none⟩ a3)) := by
  refine ⟨((((w1.setCell ⟨r, 0, none⟩ a0).setCell ⟨r, 1, none⟩ a1).setCell ⟨r, 2, none⟩ a2).setCell ⟨r, 3, none⟩ a3), ?_, ?_, ?_, ?_⟩
  · have hlt := hX.lt
    simp only [show ∀ (w : World) (p : Addr) (u : Value), (w.setCell p u).heap.size = w.heap.size from fun w p u => by simp [World.setCell]]
    exact ownsRow_setCell_below (ownsRow_setCell_below (ownsRow_setCell_below (ownsRow_setCell_below hown hlt _) hlt _) hlt _) hlt _
  · have d : (29 : TypeId) ≠ 62 ∧ (29 : TypeId) ≠ 52 ∧ (29 : TypeId) ≠ 65 ∧ (29 : TypeId) ≠ 2 ∧ (29 : TypeId) ≠ 5 := by decide
    have x1 := hX.set_ 0 a0
    have x2 := x1.set_ 1 a1
    have x3 := x2.set_ 2 a2
    have r1 := h.other d.1 d.2.1 d.2.2.1 d.2.2.2.1 d.2.2.2.2 (far_all hX ⟨r, 0, none⟩ rfl a0)
    have r2 := r1.other d.1 d.2.1 d.2.2.1 d.2.2.2.1 d.2.2.2.2 (far_all x1 ⟨r, 1, none⟩ rfl a1)
    have r3 := r2.other d.1 d.2.1 d.2.2.1 d.2.2.2.1 d.2.2.2.2 (far_all x2 ⟨r, 2, none⟩ rfl a2)
    exact r3.other d.1 d.2.1 d.2.2.1 d.2.2.2.1 d.2.2.2.2 (far_all x3 ⟨r, 3, none⟩ rfl a3)
  · exact (((hB.setCell (p := ⟨r, 0, none⟩) hr _).setCell (p := ⟨r, 1, none⟩) hr _).setCell (p := ⟨r, 2, none⟩) hr _).setCell (p := ⟨r, 3, none⟩) hr _
  · simp only [show ∀ (w : World) (p : Addr) (u : Value), (w.setCell p u).heap.size = w.heap.size from fun w p u => by simp [World.setCell]]
    exact below_set (below_set (below_set (below_set hb _ _) _ _) _ _) _ _
set_option maxHeartbeats 1000000 in
theorem runm_any (w : World) (B : Nat) (L : Lay) (cd : List Int) (s : St) (iv ov : Value) (h : Rep w B L cd s iv ov) (n : Int) (hn : n ≤ 9223372036854775807) :
    Calls Try.prog 27 #[.pointer (some ⟨L.g, 0, none⟩), .int .i64 n] w fun e w' => ∃ A c w1 iv' ov', e = .returned (.agg #[.int .i64 (iter cd n.toNat s).kind, .int .i64 (iter cd n.toNat s).code, .slice A (iter cd n.toNat s).out.length c, .int .i64 (iter cd n.toNat s).steps]) ∧
      w'.ownsRow w1.heap.size 5 1 (.slice A (iter cd n.toNat s).out.length c) (iter cd n.toNat s).out.length ((iter cd n.toNat s).out.map (Value.int .u8)) ∧ Rep w1 B L cd (iter cd n.toNat s) iv' ov' ∧ Below B w w1 ∧ Below w1.heap.size w1 w' := by
  have hBs : B ≤ w.heap.size := by have := h.gB; have := h.mach.lt; omega
  have H := Lib.hid h
  clear h
  go_enter Try.func27, Try.ntmps27
  go_wp2
  go_loopw [5] (fun i wr => ∃ (k : Nat) (iv' ov' : Value), i = .int .i64 k ∧ k ≤ n.toNat ∧ Rep wr B L cd (iter cd k s) iv' ov' ∧ Below B w wr ∧ Blk wr w.heap.size 29 #[.int .i64 0, .int .i64 0, .slice none 0 0, .int .i64 0]) (fun i _ => n.toNat - (intOf i).toNat)
  case atStart => exact ⟨0, iv, ov, rfl, Nat.zero_le _, H.out.keep ((Below.refl _ w).alloc (Nat.le_refl _) _), (Below.refl _ w).alloc hBs _, Blk.new _ _ _⟩
  case round =>
    obtain ⟨k, iv', ov', rfl, hk, hR, hB, hX⟩ := hrel
    obtain ⟨wo, rfl⟩ : ∃ wo : World, wo = wr := ⟨_, rfl⟩
    have HR := Lib.hid hR
    have HX := Lib.hid hX
    have k0 : (0 : Int) ≤ (k : Int) := by omega
    by_cases hlt : (k : Int) < n
    · by_cases hz : (iter cd k s).kind = 0
      · have HZ := Lib.hid hz
        have k1 : (k : Int) ≤ 9223372036854775806 := by omega
        clear hR hX hz
        go_wp2_with fail
        refine (step_any HR.out HZ.out).mono ?_
        rintro e w1 ⟨rfl, hp⟩
        have hb1 := Post.below HR.out hp
        obtain ⟨iv2, ov2, hR2, hF2, hat⟩ := hp
        have hX2 : Blk w1 w.heap.size 29 #[.int .i64 0, .int .i64 0, .slice none 0 0, .int .i64 0] := HX.out.fr hF2 (HX.out.ne_ HR.out.mach (by decide)) (HX.out.ne_ HR.out.mem (by decide)) (own_not HR.out.out HX.out (by decide))
        have HR2 := Lib.hid hR2
        have HX2 := Lib.hid hX2
        clear hR2 hX2 hF2 hat
        go_wp2
        go_roundw
        case rel => exact ⟨k + 1, iv2, ov2, by go_num, by omega, HR2.out, hB.trans hb1, HX2.out⟩
        case measure => simp [intOf]; omega
      · have HZ := Lib.hid hz
        clear hX hz
        go_wp2_with fail
        refine (step_over HR.out HZ.out).mono ?_
        rintro e w1 ⟨rfl, hb1⟩
        have hR1 := HR.out.keep hb1
        have hX1 := HX.out.below hb1 HX.out.lt
        have HR1 := Lib.hid hR1
        have HX1 := Lib.hid hX1
        have hBB : Below B w w1 := hB.trans (hb1.mono (by have := hR.gB; have := hR.mach.lt; omega))
        have HE := Lib.hid (iter_idle HZ.out n.toNat hk)
        clear hR1 hX1 hR
        go_wp2_with fail
        refine (outcome_rep HR1.out).mono ?_
        rintro e w2 ⟨A, c, rfl, hown, hb2⟩
        have hX2 := HX1.out.below hb2 HX1.out.lt
        have f0 := hX2.get (i := 0) rfl
        have f1 := hX2.get (i := 1) rfl
        have f2 := hX2.get (i := 2) rfl
        have f3 := hX2.get (i := 3) rfl
        have ff := hX2.frozen
        go_wp2
        obtain ⟨w3, o1, o2, o3, o4⟩ := laid_end HR1.out HX1.out hBB hBs hb2 hown (.int .i64 (iter cd k s).kind) (.int .i64 (iter cd k s).code) (.slice A (iter cd k s).out.length c) (.int .i64 (iter cd k s).steps)
        refine bodyPost_ret (v := .agg #[.int .i64 (iter cd k s).kind, .int .i64 (iter cd k s).code, .slice A (iter cd k s).out.length c, .int .i64 (iter cd k s).steps]) (by simp [results, Try.results27, go_sem, f0, f1, f2, f3]) rfl ?_
        rw [HE.out]
        exact ⟨A, c, w3, _, _, rfl, o1, o2, o3, o4⟩
    · have k1 : decide ((k : Int) < n) = false := by simp; omega
      have HE := Lib.hid (show iter cd n.toNat s = iter cd k s by rw [show n.toNat = k by omega])
      have HR1 := HR
      have HX1 := HX
      have hBB := hB
      clear hR hX
      go_wp2_with fail
      refine (outcome_rep HR1.out).mono ?_
      rintro e w2 ⟨A, c, rfl, hown, hb2⟩
      have hX2 := HX1.out.below hb2 HX1.out.lt
      have f0 := hX2.get (i := 0) rfl
      have f1 := hX2.get (i := 1) rfl
      have f2 := hX2.get (i := 2) rfl
      have f3 := hX2.get (i := 3) rfl
      have ff := hX2.frozen
      go_wp2
      obtain ⟨w3, o1, o2, o3, o4⟩ := laid_end HR1.out HX1.out hBB hBs hb2 hown (.int .i64 (iter cd k s).kind) (.int .i64 (iter cd k s).code) (.slice A (iter cd k s).out.length c) (.int .i64 (iter cd k s).steps)
      refine bodyPost_ret (v := .agg #[.int .i64 (iter cd k s).kind, .int .i64 (iter cd k s).code, .slice A (iter cd k s).out.length c, .int .i64 (iter cd k s).steps]) (by simp [results, Try.results27, go_sem, f0, f1, f2, f3]) rfl ?_
      rw [HE.out]
      exact ⟨A, c, w3, _, _, rfl, o1, o2, o3, o4⟩
end Go.Proofs.Ytikgghioneiegaa
