/-
  A step that is made.
-/
import Derived.Test.YtikgghioneiegaaMachU
namespace Go.Proofs.Ytikgghioneiegaa
open Go.RowKit
set_option linter.unusedVariables false

section
variable {w : World} {B : Nat} {L : Lay} {cd : List Int} {s : St} {iv ov : Value}
/-- The steps counted, a box beside. -/
theorem Rep.counted (h : Rep w B L cd s iv ov) (v : Int) (o : Obj) : Rep ((w.setCell ⟨L.g, 24, none⟩ (.int .i64 v)).alloc o) B L cd { s with steps := v } iv ov :=
  h.next (((Fr.refl L.g L.mb none w).set_ (p := ⟨L.g, 24, none⟩) (.inl rfl) _).alloc _) ((h.mach.set_ 24 _).alloc _) ((h.mem.far (p := ⟨L.g, 24, none⟩) (Ne.symm h.ne) _).alloc _) h.inn rfl rfl
theorem Rep.ended (h : Rep w B L cd s iv ov) (k c : Int) : Rep ((w.drew.setCell ⟨L.g, 22, none⟩ (.int .i64 k)).setCell ⟨L.g, 23, none⟩ (.int .i64 c)) B L cd { s with kind := k, code := c } iv ov :=
  h.next (((Fr.refl L.g L.mb none w).drew.set_ (p := ⟨L.g, 22, none⟩) (.inl rfl) _).set_ (p := ⟨L.g, 23, none⟩) (.inl rfl) _) ((h.mach.drew.set_ 22 _).set_ 23 _) ((h.mem.drew.far (p := ⟨L.g, 22, none⟩) (Ne.symm h.ne) _).far (p := ⟨L.g, 23, none⟩) (Ne.symm h.ne) _) h.inn rfl rfl
theorem Rep.placed (h : Rep w B L cd s iv ov) (v : Int) (o : Obj) : Rep ((w.setCell ⟨L.g, 2, none⟩ (.int .i64 v)).alloc o).drew B L cd { s with pc := v } iv ov :=
  h.next (((Fr.refl L.g L.mb none w).set_ (p := ⟨L.g, 2, none⟩) (.inl rfl) _).alloc _).drew ((h.mach.set_ 2 _).alloc _).drew ((h.mem.far (p := ⟨L.g, 2, none⟩) (Ne.symm h.ne) _).alloc _).drew h.inn rfl rfl
theorem Fr.counted (g mb : Nat) (ov : Option Nat) (w : World) (v : Int) (o : Obj) : Fr g mb ov w ((w.setCell ⟨g, 24, none⟩ (.int .i64 v)).alloc o) := ((Fr.refl g mb ov w).set_ (p := ⟨g, 24, none⟩) (.inl rfl) _).alloc _
theorem Fr.ended {g mb : Nat} {ov : Option Nat} {w w' : World} (h : Fr g mb ov w w') (k c : Int) : Fr g mb ov w ((w'.drew.setCell ⟨g, 22, none⟩ (.int .i64 k)).setCell ⟨g, 23, none⟩ (.int .i64 c)) := (h.drew.set_ (p := ⟨g, 22, none⟩) (.inl rfl) _).set_ (p := ⟨g, 23, none⟩) (.inl rfl) _
end

theorem step_none (w : World) (B : Nat) (L : Lay) (cd : List Int) (s : St) (iv ov : Value) (h : Rep w B L cd s iv ov) (hk : s.kind = 0) (hf : fetch cd s.pc = none) :
    Calls Try.prog 23 #[.pointer (some ⟨L.g, 0, none⟩)] w fun e w' => e = .returned (.bool true) ∧ Post B L cd iv ov w (step cd s) w' := by
  have hmf : ∀ (fn : Fn) (first cap : Array Value) (w : World), (Instr.makeFunc fn first cap).run Try.prog w = .ok (.func fn first cap) w := fun _ _ _ _ => rfl
  have q1 : w.cell? ⟨L.g, 22, none⟩ = some (.int .i64 0) := by rw [← hk]; exact h.mach.get (i := 22) rfl
  have q2 : w.cell? ⟨L.g, 24, none⟩ = some (.int .i64 s.steps) := h.mach.get (i := 24) rfl
  have q3 : w.frozen? ⟨L.g, 24, none⟩ = false := h.mach.frozen _
  have hlt := h.mach.lt
  have H := Lib.hid h
  have HK := Lib.hid hk
  have HF := Lib.hid hf
  clear h hk hf
  go_enter_defers Try.func23, Try.ntmps23
  go_wp2_with fail
  have h := H.out
  have hk := HK.out
  have hf := HF.out
  have R1 := h.counted (wrap64 (s.steps + 1)) (.cells #[.pointer (some ⟨L.g, 0, none⟩)] 32)
  have F1 := Fr.counted L.g L.mb ov.ownBlock w (wrap64 (s.steps + 1)) (.cells #[.pointer (some ⟨L.g, 0, none⟩)] 32)
  have px : Blk ((w.setCell ⟨L.g, 24, none⟩ (.int .i64 (wrap64 (s.steps + 1)))).alloc (.cells #[.pointer (some ⟨L.g, 0, none⟩)] 32)) w.heap.size 32 #[.pointer (some ⟨L.g, 0, none⟩)] := by
    have := Blk.new (w.setCell ⟨L.g, 24, none⟩ (.int .i64 (wrap64 (s.steps + 1)))) 32 #[.pointer (some ⟨L.g, 0, none⟩)]
    simpa [World.setCell] using this
  refine (fetch_none_any R1 hf).mono ?_
  rintro e w2 ⟨rfl, hb⟩
  have R2 := R1.keep hb
  have F2 := F1.below hb
  have px2 := px.below hb px.lt
  refine leaves_cons (f := 33) (args := #[.pointer (some ⟨w.heap.size, 0, none⟩)]) (by simp) (by simp [go_sem]) ?_
  refine (caught w.heap.size L.g 5 0 _ w2 (px2.get (i := 0) rfl) R2.mach _ _ rfl rfl).mono ?_
  rintro e u' w3 ⟨rfl, rfl, rfl⟩
  have es : step cd s = { s with steps := wrap64 (s.steps + 1), kind := 5, code := 0 } := by simp [step, hk, hf]
  refine ⟨_, results_tmp rfl _ _ _, rfl, ?_⟩
  rw [es]
  exact ⟨iv, ov, R2.ended 5 0, F2.ended 5 0, .inl rfl, fun _ hk => hk⟩

theorem step_some (w : World) (B : Nat) (L : Lay) (cd : List Int) (s : St) (iv ov : Value) (h : Rep w B L cd s iv ov) (hk : s.kind = 0) (o n : Int) (a b c : Nat) (hf : fetch cd s.pc = some (o, a, b, c, n)) :
    Calls Try.prog 23 #[.pointer (some ⟨L.g, 0, none⟩)] w fun e w' => e = .returned (.bool true) ∧ Post B L cd iv ov w (step cd s) w' := by
  have hmf : ∀ (fn : Fn) (first cap : Array Value) (w : World), (Instr.makeFunc fn first cap).run Try.prog w = .ok (.func fn first cap) w := fun _ _ _ _ => rfl
  have q1 : w.cell? ⟨L.g, 22, none⟩ = some (.int .i64 0) := by rw [← hk]; exact h.mach.get (i := 22) rfl
  have q2 : w.cell? ⟨L.g, 24, none⟩ = some (.int .i64 s.steps) := h.mach.get (i := 24) rfl
  have q3 : w.frozen? ⟨L.g, 24, none⟩ = false := h.mach.frozen _
  have hlt := h.mach.lt
  have H := Lib.hid h
  have HK := Lib.hid hk
  have HF := Lib.hid hf
  clear h hk hf
  go_enter_defers Try.func23, Try.ntmps23
  go_wp2_with fail
  clear q1 q2 q3
  have h := H.out
  have hk := HK.out
  have hf := HF.out
  have R1 := h.counted (wrap64 (s.steps + 1)) (.cells #[.pointer (some ⟨L.g, 0, none⟩)] 32)
  have F1 := Fr.counted L.g L.mb ov.ownBlock w (wrap64 (s.steps + 1)) (.cells #[.pointer (some ⟨L.g, 0, none⟩)] 32)
  have px : Blk ((w.setCell ⟨L.g, 24, none⟩ (.int .i64 (wrap64 (s.steps + 1)))).alloc (.cells #[.pointer (some ⟨L.g, 0, none⟩)] 32)) w.heap.size 32 #[.pointer (some ⟨L.g, 0, none⟩)] := by
    have := Blk.new (w.setCell ⟨L.g, 24, none⟩ (.int .i64 (wrap64 (s.steps + 1)))) 32 #[.pointer (some ⟨L.g, 0, none⟩)]
    simpa [World.setCell] using this
  refine (fetch_some_any R1 hf).mono ?_
  rintro e w2 ⟨rfl, hb⟩
  obtain ⟨hK, ha, hb2, hc, hp0, hp1⟩ := fetch_some hf
  have hcl := h.codel
  have R2 := R1.keep hb
  have F2 := F1.below hb
  have px2 := px.below hb px.lt
  have hp2 : s.pc ≤ 65536 := by omega
  have q1 : w2.cell? ⟨w.heap.size, 0, none⟩ = some (.pointer (some ⟨L.g, 0, none⟩)) := px2.get (i := 0) rfl
  have q2 : w2.cell? ⟨L.g, 2, none⟩ = some (.int .i64 s.pc) := R2.mach.get (i := 2) rfl
  have q3 : w2.frozen? ⟨L.g, 2, none⟩ = false := R2.mach.frozen _
  have hlt2 : L.g < w2.heap.size := R2.mach.lt
  have hlt3 : w.heap.size < w2.heap.size := px2.lt
  have HR := Lib.hid R2
  have HX := Lib.hid px2
  have HF2 := Lib.hid F2
  clear h hk hf R1 F1 px hb R2 F2 px2 hmf
  go_wp2
  refine st_tail 9 (by kernel_rfl) (by kernel_rfl) ?_
  intro W hW
  have R3 := HR.out.placed (s.pc + 1) (.cells #[.int .i64 o, .int .i64 a, .int .i64 b, .int .i64 c, .int .i64 n] 52)
  have F3 : Fr L.g L.mb ov.ownBlock w W := by rw [← hW]; exact ((HF2.out.set_ (p := ⟨L.g, 2, none⟩) (.inl rfl) _).alloc _).drew
  rw [hW] at R3
  have jx : Blk W w2.heap.size 52 #[.int .i64 o, .int .i64 a, .int .i64 b, .int .i64 c, .int .i64 n] := by
    rw [← hW]
    have := Blk.new (w2.setCell ⟨L.g, 2, none⟩ (.int .i64 (s.pc + 1))) 52 #[.int .i64 o, .int .i64 a, .int .i64 b, .int .i64 c, .int .i64 n]
    exact Blk.drew (by simpa [World.setCell] using this)
  have px3 : Blk W w.heap.size 32 #[.pointer (some ⟨L.g, 0, none⟩)] := by
    rw [← hW]
    exact ((HX.out.far (p := ⟨L.g, 2, none⟩) (by simp; omega) _).alloc _).drew
  have ob := K_bd hK
  obtain ⟨i, rfl⟩ : ∃ i : Nat, o = i := ⟨o.toNat, by omega⟩
  obtain ⟨f, hfv, hent, hcall⟩ := op_any (n := n) hK ha hb2 hc L.g
  obtain ⟨cur, d1, d2, d3⟩ := R3.doing
  have hdo := d3 i (by omega)
  rw [Int.toNat_natCast] at hfv
  rw [hfv] at hdo
  have q1 : W.cell? ⟨w.heap.size, 0, none⟩ = some (.pointer (some ⟨L.g, 0, none⟩)) := px3.get (i := 0) rfl
  have q2 : W.cell? ⟨L.g, 1, none⟩ = some (.slice (some ⟨L.db, 0, none⟩) 44 44) := R3.mach.get (i := 1) rfl
  have q3 : W.cell? ⟨L.db, i, none⟩ = some (.func (.func f) #[.pointer (some ⟨L.g, 0, none⟩)] #[]) := d1.get hdo
  have k0 : W.cell? ⟨w2.heap.size, 0, none⟩ = some (.int .i64 (i : Int)) := jx.get (i := 0) rfl
  have k1 : W.cell? ⟨w2.heap.size, 1, none⟩ = some (.int .i64 a) := jx.get (i := 1) rfl
  have k2 : W.cell? ⟨w2.heap.size, 2, none⟩ = some (.int .i64 b) := jx.get (i := 2) rfl
  have k3 : W.cell? ⟨w2.heap.size, 3, none⟩ = some (.int .i64 c) := jx.get (i := 3) rfl
  have k4 : W.cell? ⟨w2.heap.size, 4, none⟩ = some (.int .i64 n) := jx.get (i := 4) rfl
  have hi44 : (i : Int) < 44 := by omega
  have HR3 := Lib.hid R3
  have HPX := Lib.hid px3
  have HF3 := Lib.hid F3
  have HC := Lib.hid hcall
  clear hW HR HX HF2 R3 F3 jx px3 d1 d2 d3 hdo hfv hcall
  simp only [List.take_succ_cons, List.take_zero, List.drop_succ_cons, List.drop_zero]
  repeat still_step
  refine wpStill_nil ?_
  clear q1 q2 q3 k0 k1 k2 k3 k4 hi44
  go_wp2_with fail
  refine (HC.out W B L cd _ iv ov HR3.out).mono ?_
  intro e w4 hop
  have es : step cd s = (match act { s with steps := wrap64 (s.steps + 1), pc := s.pc + 1 } i a b c n with | .did s' => s' | .gave k c => { s with steps := wrap64 (s.steps + 1), pc := s.pc + 1, kind := k, code := c }) := by
    unfold step
    rw [if_pos HK.out, HF.out]
    rfl
  cases hact : act { s with steps := wrap64 (s.steps + 1), pc := s.pc + 1 } i a b c n with
  | did s' =>
    have es2 := Lib.hid (show step cd s = s' by rw [es, hact])
    rw [hact] at hop
    obtain ⟨rfl, iv', ov', R4, F4, hat, hia⟩ := hop
    have hsz := HF3.out.size
    have HR4 := Lib.hid R4
    have HF4 := Lib.hid F4
    clear hact R4 F4 es
    go_wp2
    refine leaves_cons (f := 33) (args := #[.pointer (some ⟨w.heap.size, 0, none⟩)]) (by simp) (by simp [go_sem]) ?_
    refine (caught_idle ⟨w.heap.size, 0, none⟩ _).mono ?_
    rintro e u' w5 ⟨rfl, rfl, rfl⟩
    refine ⟨_, results_tmp rfl _ _ _, rfl, ?_⟩
    rw [es2.out]
    refine ⟨iv', ov', HR4.out, HF3.out.trans HF4.out, ?_, hia⟩
    rcases hat with q | q
    · exact .inl q
    · exact .inr fun k hk => Nat.le_trans hsz (q k hk)
  | gave k c =>
    have es2 : step cd s = { s with steps := wrap64 (s.steps + 1), pc := s.pc + 1, kind := k, code := c } := by rw [es, hact]
    rw [hact] at hop
    obtain ⟨rfl, R4, F4⟩ := hop
    have px4 := HPX.out.fr F4 (by omega) (HPX.out.ne_ HR3.out.mem (by decide)) (own_not HR3.out.out HPX.out (by decide))
    refine leaves_cons (f := 33) (args := #[.pointer (some ⟨w.heap.size, 0, none⟩)]) (by simp) (by simp [go_sem]) ?_
    refine (caught w.heap.size L.g k c _ w4 (px4.get (i := 0) rfl) R4.mach _ _ rfl rfl).mono ?_
    rintro e u' w5 ⟨rfl, rfl, rfl⟩
    refine ⟨_, results_tmp rfl _ _ _, rfl, ?_⟩
    rw [es2]
    exact ⟨iv, ov, R4.ended k c, (HF3.out.trans F4).ended k c, .inl rfl, fun _ hk => hk⟩
theorem step_any {w : World} {B : Nat} {L : Lay} {cd : List Int} {s : St} {iv ov : Value} (h : Rep w B L cd s iv ov) (hk : s.kind = 0) :
    Calls Try.prog 23 #[.pointer (some ⟨L.g, 0, none⟩)] w fun e w' => e = .returned (.bool true) ∧ Post B L cd iv ov w (step cd s) w' := by
  cases hf : fetch cd s.pc with
  | none => exact step_none w B L cd s iv ov h hk hf
  | some t =>
    obtain ⟨o, a, b, c, n⟩ := t
    exact step_some w B L cd s iv ov h hk o n a b c hf
end Go.Proofs.Ytikgghioneiegaa
