/-
  The document's machine: a step: a walk.
-/
import Derived.Test.YtikgghioneiegaaRefG
import Derived.IntWalk
import Derived.Deep.DeepCutAuto
import Derived.Deep.RegionWith
import Derived.Deep.RegionHeld3
namespace Go.Proofs.Ytikgghioneiegaa
open Go.RowKit
set_option linter.unusedVariables false

def instZ : Array Value := #[.int .i64 0, .int .i64 0, .int .i64 0, .int .i64 0, .int .i64 0]
theorem inst_box {w w1 : World} (hb : Below (w.alloc (.cells instZ 52)).heap.size (w.alloc (.cells instZ 52)) w1) : Blk w1 w.heap.size 52 instZ ∧ Below w.heap.size w w1 :=
  ⟨(Blk.new w 52 instZ).below hb (Blk.new w 52 instZ).lt, ((Below.refl _ w).alloc (Nat.le_refl _) _).trans (hb.mono (by simp))⟩
theorem inst_box_drew {w w1 : World} (hb : Below ((w.alloc (.cells instZ 52)).drew).heap.size ((w.alloc (.cells instZ 52)).drew) w1) : Blk w1 w.heap.size 52 instZ ∧ Below w.heap.size w w1 :=
  inst_box ⟨hb.os, hb.tape, hb.output, hb.size, hb.block⟩
theorem five_cells {b : Nat} {w w1 : World} (h : Below b w w1) (v0 v1 v2 v3 v4 : Value) : Below b w (((((w1.setCell ⟨b, 0, none⟩ v0).setCell ⟨b, 1, none⟩ v1).setCell ⟨b, 2, none⟩ v2).setCell ⟨b, 3, none⟩ v3).setCell ⟨b, 4, none⟩ v4) :=
  ((((h.setCell (p := ⟨b, 0, none⟩) (Nat.le_refl _) _).setCell (p := ⟨b, 1, none⟩) (Nat.le_refl _) _).setCell (p := ⟨b, 2, none⟩) (Nat.le_refl _) _).setCell (p := ⟨b, 3, none⟩) (Nat.le_refl _) _).setCell (p := ⟨b, 4, none⟩) (Nat.le_refl _) _
theorem PostR.from_ {w w' w1 : World} {B : Nat} {L : RLay} {cd bs : List Int} {s' : St} {iv ov : Value} (h : PostR B L cd bs iv ov w1 s' w') (f : Fr L.g L.mb ov.ownBlock w w1) : PostR B L cd bs iv ov w s' w' := by
  obtain ⟨j', ov', h1, h2, h3⟩ := h
  refine ⟨j', ov', h1, f.trans h2, ?_⟩
  rcases h3 with h3 | h3
  · exact .inl h3
  · exact .inr fun k hk => Nat.le_trans f.size (h3 k hk)
set_option maxRecDepth 100000 in
set_option maxHeartbeats 8000000 in
theorem rstep_in {w : World} {B : Nat} {L : RLay} {cd bs : List Int} {s : St} {j : Nat} {iv ov : Value} (h : RepR w B L cd bs s j iv ov) (hk : s.kind = 0) (p : Nat) (hp : s.pc = p) (hpl : p < cd.length) (v : Int) (hv : cd[p]? = some v)
    (x0 : Int) (a b c : Nat) (x4 er : Int) (ha : a < 16) (hb2 : b < 16) (hc2 : c < 16)
    (hdec : ∀ w, Calls Try.prog 35 #[.int .i64 v] w fun e w' => e = .returned (.tuple #[.agg #[.int .i64 x0, .int .i64 (a : Int), .int .i64 (b : Int), .int .i64 (c : Int), .int .i64 x4], .int .i64 er]) ∧ Below w.heap.size w w') (hop : er = 0 → (0 ≤ x0 ∧ x0 ≤ 15) ∨ (17 ≤ x0 ∧ x0 ≤ 32) ∨ (41 ≤ x0 ∧ x0 ≤ 43)) :
    Calls Try.prog 24 #[.pointer (some ⟨L.g, 0, none⟩)] w fun e w' => e = .returned (.bool true) ∧ PostR B L cd bs iv ov w (if er = 0 then resOf { s with steps := wrap64 (s.steps + 1), pc := s.pc + 1 } (act { s with steps := wrap64 (s.steps + 1), pc := s.pc + 1 } x0 a b c x4) else { s with steps := wrap64 (s.steps + 1), kind := 5, code := 0 }) w' := by
  obtain ⟨ccs, hcc, hcv⟩ := h.code
  have hb := h.mach
  have z1 : w.cell? ⟨L.g, 21, none⟩ = some (.int .i64 0) := hb.get (by rw [← hk]; rfl)
  have z2 : w.cell? ⟨L.g, 24, none⟩ = some (.int .i64 s.steps) := hb.get rfl
  have z3 : w.frozen? ⟨L.g, 24, none⟩ = false := hb.frozen _
  have hlt := hb.lt
  have hgc : L.cb ≠ L.g := hcc.ne_ hb (by decide)
  have d1 : decide ((p : Int) < 0) = false := by simp
  have d2 : decide (cd.length ≤ p) = false := by simp; omega
  have d3 : (p : Int) < (cd.length : Int) := by omega
  have HD := Lib.hid hdec
  have HO := Lib.hid hop
  clear hdec hop
  obtain ⟨S', hS⟩ : ∃ S', (if er = 0 then resOf { s with steps := wrap64 (s.steps + 1), pc := s.pc + 1 } (act { s with steps := wrap64 (s.steps + 1), pc := s.pc + 1 } x0 a b c x4) else { s with steps := wrap64 (s.steps + 1), kind := 5, code := 0 }) = S' := ⟨_, rfl⟩
  rw [hS]
  have HS := Lib.hid hS
  clear hS
  go_enter Try.func24, Try.ntmps24
  go_wp2_with fail
  generalize hW : World.setCell _ _ _ = W
  have kh : RepR W B L cd bs { s with steps := wrap64 (s.steps + 1) } j iv ov := by
    rw [← hW]
    exact h.next ((Fr.refl L.g L.mb none w).set_ (p := ⟨L.g, 24, none⟩) (.inl rfl) _) (hb.set_ 24 _) (h.mem.far (p := ⟨L.g, 24, none⟩) h.ne.symm _) rfl rfl h.innj h.jle h.k0
  have kF : Fr L.g L.mb ov.ownBlock w W := by rw [← hW]; exact (Fr.refl L.g L.mb ov.ownBlock w).set_ (p := ⟨L.g, 24, none⟩) (.inl rfl) _
  have q1 : W.cell? ⟨L.g, 18, none⟩ = some (.int .i64 (p : Int)) := kh.mach.get (by rw [← hp]; rfl)
  have q4 : W.cell? ⟨L.g, 0, none⟩ = some (.slice (some ⟨L.cb, 0, none⟩) cd.length L.cc) := kh.mach.get rfl
  clear hW z1 z2 z3
  go_quiet (fail)
  generalize hV : World.drewN _ _ = V
  have vh : RepR V B L cd bs { s with steps := wrap64 (s.steps + 1) } j iv ov := by
    rw [← hV]
    exact kh.next ((Fr.refl L.g L.mb none W).drewN _) (kh.mach.drewN _) (kh.mem.drewN _) rfl rfl h.innj h.jle h.k0
  have vF : Fr L.g L.mb ov.ownBlock w V := by rw [← hV]; exact kF.drewN _
  have v1 : V.cell? ⟨L.g, 18, none⟩ = some (.int .i64 (p : Int)) := vh.mach.get (by rw [← hp]; rfl)
  have v4 : V.cell? ⟨L.g, 0, none⟩ = some (.slice (some ⟨L.cb, 0, none⟩) cd.length L.cc) := vh.mach.get rfl
  obtain ⟨vcs, vcc, vcv⟩ := vh.code
  have v5 : V.cell? ⟨L.cb, p, none⟩ = some (.int .i64 v) := vcc.get (vcv p v hv)
  have lg : L.g < V.heap.size := vh.mach.lt
  have lc : L.cb < V.heap.size := vcc.lt
  clear q1 q4 kh kF hV hb hlt hcc
  go_upto_region 7 with fail
  go_cut [3, 4] (fun s3 s4 wx => ∃ N : Nat, s3 = .pointer (some ⟨N, 0, none⟩) ∧ s4 = .int .i64 er ∧ Blk wx N 52 #[.int .i64 x0, .int .i64 (a : Int), .int .i64 (b : Int), .int .i64 (c : Int), .int .i64 x4] ∧ V.heap.size ≤ N ∧ Below V.heap.size V wx)
  case first =>
    go_region_with (go_at_call 35; refine (HD.out _).mono ?_; rintro e w1 ⟨rfl, hb1⟩; (first | (obtain ⟨hN, hB1⟩ := inst_box_drew hb1; have c0 := hN.get (i := 0) rfl; have c1 := hN.get (i := 1) rfl; have c2 := hN.get (i := 2) rfl; have c3 := hN.get (i := 3) rfl; have c4 := hN.get (i := 4) rfl; have f0 := hN.frozen) | (obtain ⟨hN, hB1⟩ := inst_box hb1; have c0 := hN.get (i := 0) rfl; have c1 := hN.get (i := 1) rfl; have c2 := hN.get (i := 2) rfl; have c3 := hN.get (i := 3) rfl; have c4 := hN.get (i := 4) rfl; have f0 := hN.frozen) | (have hB1 : Below V.heap.size V w1 := ⟨hb1.os, hb1.tape, hb1.output, hb1.size, hb1.block⟩)))
    all_goals
      go_wp2_with fail
      go_meet
      refine ⟨_, rfl, rfl, ?_, ?_, ?_⟩
      · first
          | (with_reducible exact Blk.new _ _ _)
          | (with_reducible exact (Blk.new _ _ _).drew)
          | (with_reducible exact ((((hN.set_ 0 _).set_ 1 _).set_ 2 _).set_ 3 _).set_ 4 _)
          | (have := ((((hN.set_ 0 (.int .i64 x0)).set_ 1 (.int .i64 (a : Int))).set_ 2 (.int .i64 (b : Int))).set_ 3 (.int .i64 (c : Int))).set_ 4 (.int .i64 x4); simpa [instZ] using this)
      · first
          | (with_reducible exact hB1.size)
          | (with_reducible exact Nat.le_refl _)
      · first
          | (with_reducible exact hB1.alloc hB1.size _)
          | (with_reducible exact five_cells hB1 _ _ _ _ _)
  case rest =>
    obtain ⟨N, rfl, rfl, kI, hNV, hBx⟩ := hcut
    have xh : RepR wc B L cd bs { s with steps := wrap64 (s.steps + 1) } j iv ov := vh.next (Fr.one hBx) (vh.mach.below hBx vh.mach.lt) (vh.mem.below hBx vh.mem.lt) rfl rfl h.innj h.jle h.k0
    have xF : Fr L.g L.mb ov.ownBlock w wc := vF.trans (Fr.one hBx).widen
    have hob : ∀ k, ov.ownBlock = some k → k < wc.heap.size := xh.ob
    have hNg : N ≠ L.g := by omega
    have lgx := xh.mach.lt
    have lNx := kI.lt
    have i0 : wc.cell? ⟨N, 0, none⟩ = some (.int .i64 x0) := kI.get (i := 0) rfl
    clear v1 v4 v5 vh vF lg lc vcc vcv d1 d2
    by_cases her : er = 0
    · have hS := HS.out
      rw [if_pos her] at hS
      have her0 : (er != 0) = false := by simpa using her
      have y1 : wc.cell? ⟨L.g, 18, none⟩ = some (.int .i64 (p : Int)) := xh.mach.get (by rw [← hp]; rfl)
      have y2 : wc.frozen? ⟨L.g, 18, none⟩ = false := xh.mach.frozen _
      have pw : (p : Int) ≤ 65536 := by have := h.codel; omega
      have hopp := HO.out her
      have HER := Lib.hid her
      have HSS := Lib.hid hS
      clear her hS
      go_upto_region 13 with fail
      generalize hU : World.setCell _ _ _ = U
      have uh : RepR U B L cd bs { s with steps := wrap64 (s.steps + 1), pc := s.pc + 1 } j iv ov := by
        rw [← hU]
        have e1 : (.int .i64 ((p : Int) + 1) : Value) = .int .i64 (s.pc + 1) := by rw [hp]
        rw [e1]
        exact xh.next ((Fr.refl L.g L.mb none wc).set_ (p := ⟨L.g, 18, none⟩) (.inl rfl) _) (xh.mach.set_ 18 _) (xh.mem.far (p := ⟨L.g, 18, none⟩) xh.ne.symm _) rfl rfl h.innj h.jle h.k0
      have uF : Fr L.g L.mb ov.ownBlock w U := by rw [← hU]; exact xF.set_ (p := ⟨L.g, 18, none⟩) (.inl rfl) _
      have uI : Blk U N 52 #[.int .i64 x0, .int .i64 (a : Int), .int .i64 (b : Int), .int .i64 (c : Int), .int .i64 x4] := by rw [← hU]; exact kI.far (p := ⟨L.g, 18, none⟩) hNg _
      have u0 : U.cell? ⟨N, 0, none⟩ = some (.int .i64 x0) := uI.get (i := 0) rfl
      clear hU y1 y2 i0 kI xh xF lgx lNx hBx hNV hob
      rcases hopp with ⟨o0, o1⟩ | ⟨o0, o1⟩ | ⟨o0, o1⟩
      · have u1 : U.cell? ⟨N, 1, none⟩ = some (.int .i64 (a : Int)) := uI.get (i := 1) rfl
        have u2 : U.cell? ⟨N, 2, none⟩ = some (.int .i64 (b : Int)) := uI.get (i := 2) rfl
        have u3 : U.cell? ⟨N, 3, none⟩ = some (.int .i64 (c : Int)) := uI.get (i := 3) rfl
        have u4 : U.cell? ⟨N, 4, none⟩ = some (.int .i64 x4) := uI.get (i := 4) rfl
        go_wp2_with fail
        refine (plain_any uh (h.k0 hk) hk x0 o0 o1 a b c x4 ha hb2).mono ?_
        rintro e w5 ⟨rfl, hp5⟩
        have HP5 := Lib.hid hp5
        clear hp5 u0 u1 u2 u3 u4
        go_wp2
        go_ret
        refine ⟨rfl, ?_⟩
        rw [← HSS.out]
        exact HP5.out.from_ uF
      · have u2 : U.cell? ⟨N, 2, none⟩ = some (.int .i64 (b : Int)) := uI.get (i := 2) rfl
        have u3 : U.cell? ⟨N, 3, none⟩ = some (.int .i64 (c : Int)) := uI.get (i := 3) rfl
        have g2 : U.cell? ⟨L.g, 2 + b, none⟩ = some (.int .i64 (s.r b)) := uh.mach.get (rcells_reg _ _ _ _ _ _ hb2)
        have g3 : U.cell? ⟨L.g, 2 + c, none⟩ = some (.int .i64 (s.r c)) := uh.mach.get (rcells_reg _ _ _ _ _ _ hc2)
        have b1 : (b : Int) < 16 := by omega
        have c1 : (c : Int) < 16 := by omega
        have n40 : ¬ 40 < x0 := by omega
        have n16 : 16 < x0 := by omega
        have w16 : IntKind.i64.wrap (x0 - 16) = x0 - 16 := IntWalk.i64_in _ (by omega)
        have wo : wrap64 (x0 - 16) = x0 - 16 := by unfold wrap64; omega
        obtain ⟨vv, hvv⟩ : ∃ vv, Go.Proofs.Ytikgghioneiegaa.V (x0 - 16) (s.r b) (s.r c) = vv := ⟨_, rfl⟩
        obtain ⟨ec, hec⟩ : ∃ ec, C (x0 - 16) (s.r c) = ec := ⟨_, rfl⟩
        have hcall : ∀ w, Calls Try.prog 37 #[.int .i64 (x0 - 16), .int .i64 (s.r b), .int .i64 (s.r c)] w fun e w' => e = .returned (.tuple #[.int .i64 vv, .int .i64 ec]) ∧ w = w' := by
          intro w
          rw [← hvv, ← hec]
          exact ref_any _ _ _ w
        have hact : resOf { s with steps := wrap64 (s.steps + 1), pc := s.pc + 1 } (act { s with steps := wrap64 (s.steps + 1), pc := s.pc + 1 } x0 a b c x4) = if ec = 0 then { s with steps := wrap64 (s.steps + 1), pc := s.pc + 1, r := upd s.r a vv } else { s with steps := wrap64 (s.steps + 1), pc := s.pc + 1, kind := 2, code := ec } := by
          unfold act
          repeat rw [if_neg (by omega)]
          rw [if_pos o1]
          dsimp only
          rw [wo, hvv, hec]
          by_cases h0 : ec = 0
          · rw [if_pos h0, if_pos h0]; rfl
          · rw [if_neg h0, if_neg h0]; rfl
        have HCA := Lib.hid hcall
        have HA := Lib.hid hact
        clear hcall hact hvv hec wo
        go_wp2_with fail
        go_quiet ((go_at_call 37; exact Calls.quiet_of_same (same_left (HCA.out _))))
        generalize hZ : World.drewN _ _ = Z
        have zh : RepR Z B L cd bs { s with steps := wrap64 (s.steps + 1), pc := s.pc + 1 } j iv ov := by rw [← hZ]; exact uh.next ((Fr.refl L.g L.mb none U).drewN _) (uh.mach.drewN _) (uh.mem.drewN _) rfl rfl h.innj h.jle h.k0
        have zF : Fr L.g L.mb ov.ownBlock w Z := by rw [← hZ]; exact uF.drewN _
        have zI : Blk Z N 52 #[.int .i64 x0, .int .i64 (a : Int), .int .i64 (b : Int), .int .i64 (c : Int), .int .i64 x4] := by rw [← hZ]; exact uI.drewN _
        clear hZ u0 u2 u3 g2 g3 uh uF uI w16
        by_cases h0 : ec = 0
        · have e0 : (ec != 0) = false := by simpa using h0
          have hact := HA.out
          rw [if_pos h0] at hact
          have HACT := Lib.hid hact
          clear hact h0
          go_wp2
          refine st_tail 7 (by kernel_rfl) (by kernel_rfl) ?_
          intro Y hY
          have yh : RepR Y B L cd bs { s with steps := wrap64 (s.steps + 1), pc := s.pc + 1 } j iv ov := by rw [← hY]; exact zh.next ((Fr.refl L.g L.mb none Z).drew) zh.mach.drew zh.mem.drew rfl rfl h.innj h.jle h.k0
          have yF : Fr L.g L.mb ov.ownBlock w Y := by rw [← hY]; exact zF.drew
          have yI : Blk Y N 52 #[.int .i64 x0, .int .i64 (a : Int), .int .i64 (b : Int), .int .i64 (c : Int), .int .i64 x4] := by rw [← hY]; exact zI.drew
          have y1 : Y.cell? ⟨N, 1, none⟩ = some (.int .i64 (a : Int)) := yI.get (i := 1) rfl
          have y2 : Y.cell? ⟨L.g, 2 + a, none⟩ = some (.int .i64 (s.r a)) := yh.mach.get (rcells_reg _ _ _ _ _ _ ha)
          have y3 : Y.frozen? ⟨L.g, 2 + a, none⟩ = false := yh.mach.frozen _
          have a1 : (a : Int) < 16 := by omega
          clear hY zh zF zI yI
          simp only [List.take_succ_cons, List.take_zero, List.drop_succ_cons, List.drop_zero]
          repeat still_step
          refine wpStill_nil ?_
          go_wp2
          go_ret
          refine ⟨rfl, ?_⟩
          rw [← HSS.out, HACT.out]
          have hm := yh.mach.set_ (2 + a) (.int .i64 (vv))
          rw [rcells_set _ _ _ _ _ _ ha] at hm
          exact (yh.own_ (s' := { s with steps := wrap64 (s.steps + 1), pc := s.pc + 1, r := upd s.r a (vv) }) ((Fr.refl L.g L.g none Y).set_ (p := ⟨L.g, 2 + a, none⟩) (.inl rfl) _) hm rfl rfl rfl h.k0).from_ yF
        · have e0 : (ec != 0) = true := by simpa using h0
          have hact := HA.out
          rw [if_neg h0] at hact
          have HACT := Lib.hid hact
          have z1 : Z.cell? ⟨L.g, 21, none⟩ = some (.int .i64 0) := zh.mach.get (by rw [← hk]; rfl)
          have z2 : Z.frozen? ⟨L.g, 21, none⟩ = false := zh.mach.frozen _
          have z3 : Z.cell? ⟨L.g, 22, none⟩ = some (.int .i64 s.code) := zh.mach.get rfl
          have z4 : Z.frozen? ⟨L.g, 22, none⟩ = false := zh.mach.frozen _
          clear hact h0
          go_wp2
          go_ret
          refine ⟨rfl, ?_⟩
          rw [← HSS.out, HACT.out]
          exact (zh.own_ (s' := { s with steps := wrap64 (s.steps + 1), pc := s.pc + 1, kind := 2, code := ec }) (((Fr.refl L.g L.g none Z).set_ (p := ⟨L.g, 21, none⟩) (.inl rfl) _).set_ (p := ⟨L.g, 22, none⟩) (.inl rfl) _) ((zh.mach.set_ 21 _).set_ 22 _) rfl rfl rfl (fun h => by cases h)).from_ zF
      · have u2 : U.cell? ⟨N, 2, none⟩ = some (.int .i64 (b : Int)) := uI.get (i := 2) rfl
        have g2 : U.cell? ⟨L.g, 2 + b, none⟩ = some (.int .i64 (s.r b)) := uh.mach.get (rcells_reg _ _ _ _ _ _ hb2)
        have b1 : (b : Int) < 16 := by omega
        have n40 : 40 < x0 := by omega
        have w40 : IntKind.i64.wrap (x0 - 40) = x0 - 40 := IntWalk.i64_in _ (by omega)
        have wo : wrap64 (x0 - 40) = x0 - 40 := by unfold wrap64; omega
        obtain ⟨vv, hvv⟩ : ∃ vv, VU (x0 - 40) (s.r b) = vv := ⟨_, rfl⟩
        have hcall : ∀ w, Calls Try.prog 36 #[.int .i64 (x0 - 40), .int .i64 (s.r b)] w fun e w' => e = .returned (.tuple #[.int .i64 vv, .int .i64 (CU (x0 - 40))]) ∧ w = w' := by
          intro w
          rw [← hvv]
          exact run_any _ _ w
        have hact : resOf { s with steps := wrap64 (s.steps + 1), pc := s.pc + 1 } (act { s with steps := wrap64 (s.steps + 1), pc := s.pc + 1 } x0 a b c x4) = { s with steps := wrap64 (s.steps + 1), pc := s.pc + 1, r := upd s.r a vv } := by
          unfold act
          repeat rw [if_neg (by omega)]
          dsimp only
          rw [wo, hvv]; rfl
        have HCA := Lib.hid hcall
        have HACT := Lib.hid hact
        clear hcall hact hvv wo
        go_wp2_with fail
        go_quiet ((go_at_call 36; exact Calls.quiet_of_same (same_left (HCA.out _))))
        generalize hZ : World.drewN _ _ = Z
        have zh : RepR Z B L cd bs { s with steps := wrap64 (s.steps + 1), pc := s.pc + 1 } j iv ov := by rw [← hZ]; exact uh.next ((Fr.refl L.g L.mb none U).drewN _) (uh.mach.drewN _) (uh.mem.drewN _) rfl rfl h.innj h.jle h.k0
        have zF : Fr L.g L.mb ov.ownBlock w Z := by rw [← hZ]; exact uF.drewN _
        have zI : Blk Z N 52 #[.int .i64 x0, .int .i64 (a : Int), .int .i64 (b : Int), .int .i64 (c : Int), .int .i64 x4] := by rw [← hZ]; exact uI.drewN _
        clear hZ u0 u2 g2 uh uF uI w40
        go_wp2
        refine st_tail 7 (by kernel_rfl) (by kernel_rfl) ?_
        intro Y hY
        have yh : RepR Y B L cd bs { s with steps := wrap64 (s.steps + 1), pc := s.pc + 1 } j iv ov := by rw [← hY]; exact zh.next ((Fr.refl L.g L.mb none Z).drew) zh.mach.drew zh.mem.drew rfl rfl h.innj h.jle h.k0
        have yF : Fr L.g L.mb ov.ownBlock w Y := by rw [← hY]; exact zF.drew
        have yI : Blk Y N 52 #[.int .i64 x0, .int .i64 (a : Int), .int .i64 (b : Int), .int .i64 (c : Int), .int .i64 x4] := by rw [← hY]; exact zI.drew
        have y1 : Y.cell? ⟨N, 1, none⟩ = some (.int .i64 (a : Int)) := yI.get (i := 1) rfl
        have y2 : Y.cell? ⟨L.g, 2 + a, none⟩ = some (.int .i64 (s.r a)) := yh.mach.get (rcells_reg _ _ _ _ _ _ ha)
        have y3 : Y.frozen? ⟨L.g, 2 + a, none⟩ = false := yh.mach.frozen _
        have a1 : (a : Int) < 16 := by omega
        clear hY zh zF zI yI
        simp only [List.take_succ_cons, List.take_zero, List.drop_succ_cons, List.drop_zero]
        repeat still_step
        refine wpStill_nil ?_
        go_wp2
        go_ret
        refine ⟨rfl, ?_⟩
        rw [← HSS.out, HACT.out]
        have hm := yh.mach.set_ (2 + a) (.int .i64 (vv))
        rw [rcells_set _ _ _ _ _ _ ha] at hm
        exact (yh.own_ (s' := { s with steps := wrap64 (s.steps + 1), pc := s.pc + 1, r := upd s.r a (vv) }) ((Fr.refl L.g L.g none Y).set_ (p := ⟨L.g, 2 + a, none⟩) (.inl rfl) _) hm rfl rfl rfl h.k0).from_ yF
    · have hS := HS.out
      rw [if_neg her] at hS
      have er1 : (er != 0) = true := by simpa using her
      have y1 : wc.cell? ⟨L.g, 21, none⟩ = some (.int .i64 0) := xh.mach.get (by rw [← hk]; rfl)
      have y2 : wc.frozen? ⟨L.g, 21, none⟩ = false := xh.mach.frozen _
      have HSS := Lib.hid hS
      clear hS her
      go_wp2
      go_ret
      refine ⟨rfl, ?_⟩
      rw [← HSS.out]
      have hm := xh.mach.set_ 21 (.int .i64 5)
      rw [rcells_kind _ _ { s with steps := wrap64 (s.steps + 1) } _ _ _ (h.k0 hk)] at hm
      exact (xh.own_ (s' := { s with steps := wrap64 (s.steps + 1), kind := 5, code := 0 }) ((Fr.refl L.g L.g none wc).set_ (p := ⟨L.g, 21, none⟩) (.inl rfl) _) hm rfl rfl rfl (fun h => by cases h)).from_ xF
end Go.Proofs.Ytikgghioneiegaa
