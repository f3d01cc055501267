/-
  The document's machine: a run from where it is: a walk.
-/
import Derived.Test.YtikgghioneiegaaRefH
namespace Go.Proofs.Ytikgghioneiegaa
open Go.RowKit
set_option linter.unusedVariables false

section
variable {w w' : World} {B : Nat} {L : RLay} {cd bs : List Int} {s : St} {j : Nat} {iv ov : Value}
theorem RepR.keep (h : RepR w B L cd bs s j iv ov) (hb : Below w.heap.size w w') : RepR w' B L cd bs s j iv ov :=
  h.next (Fr.one hb) (h.mach.below hb h.mach.lt) (h.mem.below hb h.mem.lt) rfl rfl h.innj h.jle h.k0
theorem RepR.other (h : RepR w B L cd bs s j iv ov) {T : TypeId} (h1 : T ≠ 38) (h4 : T ≠ 2) (h5 : T ≠ 5)
    (k : ∀ b t cs, Blk w b t cs → t ≠ T → Blk w' b t cs) : RepR w' B L cd bs s j iv ov := by
  refine ⟨k _ _ _ h.mach (Ne.symm h1), ?_, h.cne, h.cwf, k _ _ _ h.mem (Ne.symm h4), ?_, h.innj, h.jle, ?_, h.outl, h.meml, h.codel, h.gB, h.mB, h.k0⟩
  · obtain ⟨ccs, q1, q2⟩ := h.code
    exact ⟨ccs, k _ _ _ q1 (Ne.symm h4), q2⟩
  · obtain ⟨A, c, q1, q2, q3, q4⟩ := h.inn
    refine ⟨A, c, q1, q2, q3, fun hl => ?_⟩
    obtain ⟨ib, cur, r1, r2, r3, r4⟩ := q4 hl
    exact ⟨ib, cur, r1, k _ _ _ r2 (Ne.symm h5), r3, r4⟩
  · refine ⟨h.out.1, ?_⟩
    rcases h.out.2 with hn | ⟨g, cap, cur, hv, hb, hgg, rest⟩
    · exact .inl hn
    · exact .inr ⟨g, cap, cur, hv, hb, k _ _ _ hgg (Ne.symm h5), rest⟩
end
theorem out_ne : (29 : TypeId) ≠ 38 ∧ (29 : TypeId) ≠ 2 ∧ (29 : TypeId) ≠ 5 := by decide
theorem byte_own (l : List Int) : ∀ u ∈ l.map (Value.int .u8), u.oneCell' = true := by
  intro u hu
  simp only [List.mem_map] at hu
  obtain ⟨x, _, rfl⟩ := hu
  rfl
theorem Fr.far {g mb : Nat} {o o' : Option Nat} {w w1 w2 : World} (h : Fr g mb o w w1) (k : Fr g mb o' w1 w2) (hat : o' = o ∨ ∀ k, o' = some k → w.heap.size ≤ k) : Fr g mb o w w2 := by
  rcases hat with rfl | hat
  · exact h.trans k
  · refine ⟨k.os.trans h.os, k.tape.trans h.tape, k.output.trans h.output, Nat.le_trans h.size k.size, fun i hi h1 h2 h3 => ?_⟩
    refine (k.block i (Nat.lt_of_lt_of_le hi h.size) h1 h2 (fun e => ?_)).trans (h.block i hi h1 h2 h3)
    have := hat i e.symm
    omega
theorem made0 (wo : World) (c : Array Value) (base : Nat) (hb : base ≤ wo.heap.size) : (((wo.alloc (.cells c 29)).alloc (.cells #[] 5))).ownsRow base 5 1 (.slice (some ⟨wo.heap.size + 1, 0, none⟩) 0 0) 0 [] := by
  have := World.ownsRow_made (e := 5) (size := 1) (wo.alloc (.cells c 29)) #[] 0 (base := base) (by simp; omega) (by simp [maxLen]) rfl
  simpa using this
theorem laid_endR {w w2 : World} {B r q : Nat} {L : RLay} {cd bs : List Int} {s : St} {j : Nat} {iv ov : Value} {g mb : Nat} {o : Option Nat} {base n : Nat} {v : Value} {xs : List Value} {cq cr : Array Value} (h : RepR w2 B L cd bs s j iv ov) (hown : w2.ownsRow base 5 1 v n xs) (f : Fr g mb o w w2)
    (hq : Blk w2 q 29 cq) (hr : Blk w2 r 29 cr) (hne : r ≠ q) (u a0 a1 a2 a3 : Value) :
    RepR (((((w2.setCell ⟨q, 2, none⟩ u).setCell ⟨r, 0, none⟩ a0).setCell ⟨r, 1, none⟩ a1).setCell ⟨r, 2, none⟩ a2).setCell ⟨r, 3, none⟩ a3) B L cd bs s j iv ov ∧
    (((((w2.setCell ⟨q, 2, none⟩ u).setCell ⟨r, 0, none⟩ a0).setCell ⟨r, 1, none⟩ a1).setCell ⟨r, 2, none⟩ a2).setCell ⟨r, 3, none⟩ a3).ownsRow base 5 1 v n xs ∧
    (w.heap.size ≤ q → w.heap.size ≤ r → Fr g mb o w (((((w2.setCell ⟨q, 2, none⟩ u).setCell ⟨r, 0, none⟩ a0).setCell ⟨r, 1, none⟩ a1).setCell ⟨r, 2, none⟩ a2).setCell ⟨r, 3, none⟩ a3)) := by
  obtain ⟨d1, d2, d3⟩ := out_ne
  have x0 := hr.far (p := ⟨q, 2, none⟩) hne u
  have x1 := x0.set_ 0 a0
  have x2 := x1.set_ 1 a1
  have x3 := x2.set_ 2 a2
  refine ⟨?_, ?_, fun hq' hr' => ?_⟩
  · exact ((((h.other d1 d2 d3 (far_all hq ⟨q, 2, none⟩ rfl u)).other d1 d2 d3 (far_all x0 ⟨r, 0, none⟩ rfl a0)).other d1 d2 d3 (far_all x1 ⟨r, 1, none⟩ rfl a1)).other d1 d2 d3 (far_all x2 ⟨r, 2, none⟩ rfl a2)).other d1 d2 d3 (far_all x3 ⟨r, 3, none⟩ rfl a3)
  · have e0 := own_set (p := ⟨q, 2, none⟩) hown (own_blk_ne hown hq (Ne.symm d3)) u
    have e1 := own_set (p := ⟨r, 0, none⟩) e0 (own_blk_ne e0 x0 (Ne.symm d3)) a0
    have e2 := own_set (p := ⟨r, 1, none⟩) e1 (own_blk_ne e1 x1 (Ne.symm d3)) a1
    have e3 := own_set (p := ⟨r, 2, none⟩) e2 (own_blk_ne e2 x2 (Ne.symm d3)) a2
    exact own_set (p := ⟨r, 3, none⟩) e3 (own_blk_ne e3 x3 (Ne.symm d3)) a3
  · exact ((((f.set_ (p := ⟨q, 2, none⟩) (.inr (.inr (.inr hq'))) u).set_ (p := ⟨r, 0, none⟩) (.inr (.inr (.inr hr'))) a0).set_ (p := ⟨r, 1, none⟩) (.inr (.inr (.inr hr'))) a1).set_ (p := ⟨r, 2, none⟩) (.inr (.inr (.inr hr'))) a2).set_ (p := ⟨r, 3, none⟩) (.inr (.inr (.inr hr'))) a3
set_option maxHeartbeats 4000000 in
theorem rrunm_any (w : World) (B : Nat) (L : RLay) (cd bs : List Int) (s : St) (j : Nat) (iv ov : Value) (h : RepR w B L cd bs s j iv ov) (n : Int) (hn : n ≤ 9223372036854775807) :
    Calls Try.prog 26 #[.pointer (some ⟨L.g, 0, none⟩), .int .i64 n] w fun e w' => ∃ A c, e = .returned (.agg #[.int .i64 (iter cd n.toNat s).kind, .int .i64 (iter cd n.toNat s).code, .slice A (iter cd n.toNat s).out.length c, .int .i64 (iter cd n.toNat s).steps]) ∧
      w'.ownsRow w.heap.size 5 1 (.slice A (iter cd n.toNat s).out.length c) (iter cd n.toNat s).out.length ((iter cd n.toNat s).out.map (Value.int .u8)) ∧ PostR B L cd bs iv ov w (iter cd n.toNat s) w' := by
  obtain ⟨i0, hi0, hz0, hz1, hz2⟩ := info_parts byte_info
  have hob := h.ob
  have H := Lib.hid h
  clear h
  go_enter Try.func26, Try.ntmps26
  go_wp2
  go_loopw [5] (fun i wr => ∃ (k j' : Nat) (ov' : Value), i = .int .i64 k ∧ k ≤ n.toNat ∧ RepR wr B L cd bs (iter cd k s) j' iv ov' ∧ Fr L.g L.mb ov.ownBlock w wr ∧ (ov'.ownBlock = ov.ownBlock ∨ ∀ k, ov'.ownBlock = some k → w.heap.size ≤ k) ∧ Blk wr w.heap.size 29 #[.int .i64 0, .int .i64 0, .slice none 0 0, .int .i64 0]) (fun i _ => n.toNat - (intOf i).toNat)
  case atStart => exact ⟨0, j, ov, rfl, Nat.zero_le _, H.out.keep ((Below.refl _ w).alloc (Nat.le_refl _) _), (Fr.refl _ _ _ w).alloc _, .inl rfl, Blk.new _ _ _⟩
  case round =>
    obtain ⟨k, j', ov', rfl, hk, hR, hF, hat, hX⟩ := hrel
    obtain ⟨wo, rfl⟩ : ∃ wo : World, wo = wr := ⟨_, rfl⟩
    have HR := Lib.hid hR
    have HX := Lib.hid hX
    have HF := Lib.hid hF
    have HAT := Lib.hid hat
    have k0 : (0 : Int) ≤ (k : Int) := by omega
    have c21 : wo.cell? ⟨L.g, 21, none⟩ = some (.int .i64 (iter cd k s).kind) := hR.mach.get rfl
    clear hR hX hF hat
    by_cases hgo : (k : Int) < n ∧ (iter cd k s).kind = 0
    · obtain ⟨hlt, hz⟩ := hgo
      have HZ := Lib.hid hz
      have k1 : (k : Int) ≤ 9223372036854775806 := by omega
      have kz : ((iter cd k s).kind == 0) = true := by simpa using hz
      clear hz
      go_wp2_with fail
      refine (rstep_any HR.out HZ.out).mono ?_
      rintro e w1 ⟨rfl, hp⟩
      obtain ⟨j2, ov2, hR2, hF2, hat2⟩ := hp
      have hX2 : Blk w1 w.heap.size 29 #[.int .i64 0, .int .i64 0, .slice none 0 0, .int .i64 0] := HX.out.fr hF2 (HX.out.ne_ HR.out.mach (by decide)) (HX.out.ne_ HR.out.mem (by decide)) (own_not HR.out.out HX.out (by decide))
      have hF3 : Fr L.g L.mb ov.ownBlock w w1 := HF.out.far hF2 HAT.out
      have hat3 : ov2.ownBlock = ov.ownBlock ∨ ∀ k, ov2.ownBlock = some k → w.heap.size ≤ k := by
        rcases hat2 with h2 | h2
        · rw [h2]; exact HAT.out
        · exact .inr fun k hk => Nat.le_trans HF.out.size (h2 k hk)
      have HR2 := Lib.hid hR2
      have HX2 := Lib.hid hX2
      have HF3 := Lib.hid hF3
      have HAT3 := Lib.hid hat3
      clear hR2 hX2 hF2 hat2 hF3 hat3 c21
      go_wp2
      go_roundw
      case rel => exact ⟨k + 1, j2, ov2, by go_num, by omega, HR2.out, HF3.out, HAT3.out, HX2.out⟩
      case measure => simp [intOf]; omega
    · have HE := Lib.hid (show iter cd n.toNat s = iter cd k s by
        by_cases hlt : (k : Int) < n
        · exact iter_idle (fun e => hgo ⟨hlt, e⟩) n.toNat hk
        · rw [show n.toNat = k by omega])
      have HR1 := HR
      have HX1 := HX
      have ovs := own_shape HR1.out.out
      obtain ⟨AO, cO, hov⟩ := ovs
      subst hov
      have m0 : wo.cell? ⟨L.g, 21, none⟩ = some (.int .i64 (iter cd k s).kind) := HR1.out.mach.get rfl
      have m1 : wo.cell? ⟨L.g, 22, none⟩ = some (.int .i64 (iter cd k s).code) := HR1.out.mach.get rfl
      have m2 : wo.cell? ⟨L.g, 23, none⟩ = some (.slice AO (iter cd k s).out.length cO) := HR1.out.mach.get rfl
      have m3 : wo.cell? ⟨L.g, 24, none⟩ = some (.int .i64 (iter cd k s).steps) := HR1.out.mach.get rfl
      have lg := HR1.out.mach.lt
      have kR := Reads.of_own HR1.out.out
      have hol : (iter cd k s).out.length ≤ 4096 := HR1.out.outl
      have hte : decide ((k : Int) < n) = false ∨ ((k : Int) < n ∧ ((iter cd k s).kind == 0) = false) := by
        by_cases hlt : (k : Int) < n
        · exact .inr ⟨hlt, by simpa using fun e => hgo ⟨hlt, e⟩⟩
        · exact .inl (by simpa using hlt)
      clear hgo c21
      rcases hte with hte | ⟨hte, hkz⟩
      all_goals
        go_wp2_with (at_builtin; refine wpList_append_any _ rfl (.tmp 26) (.tmp 31) _ rfl w.heap.size 5 i0 _ 1 1 Try.underlying25 hi0 hz0 hz1 hz2 rfl (by omega) (.slice (some ⟨wo.heap.size + 1, 0, none⟩) 0 0) 0 [] rfl (made0 wo _ _ HF.out.size) wo.heap.size AO (iter cd k s).out.length cO _ rfl ((kR.alloc (Nat.le_refl _) _).alloc (by simp; try omega) _) (byte_own _) (by simp only [maxLen]; omega) (by omega) (by have := HF.out.size; simp; omega) ?_; intro v2 w2 hown2 hg2 hat2; have hT : ∃ A2 c2, v2 = .slice A2 (iter cd k s).out.length c2 := (by obtain ⟨A2, c2, e⟩ := own_shape hown2; exact ⟨A2, c2, by rw [e, Nat.zero_add]⟩); obtain ⟨A2, c2, rfl⟩ := hT; have hB2 : Below wo.heap.size wo w2 := ((((Below.refl _ wo).alloc (Nat.le_refl _) _).alloc (by simp) _).grown hg2 (by simp; try omega) (by intro q hq; simp [Value.ownBlock] at hq; omega)); have hO2 : Blk w2 wo.heap.size 29 #[.int .i64 (iter cd k s).kind, .int .i64 (iter cd k s).code, .slice AO (iter cd k s).out.length cO, .int .i64 (iter cd k s).steps] := (((Blk.new wo _ _).alloc _).grown hg2 (by simp [Value.ownBlock])); have hX2 := HX1.out.below hB2 HX1.out.lt; have o0 := hO2.get (i := 0) rfl; have o1 := hO2.get (i := 1) rfl; have o2 := hO2.get (i := 2) rfl; have o3 := hO2.get (i := 3) rfl; have of := hO2.frozen; have f0 := hX2.get (i := 0) rfl; have f1 := hX2.get (i := 1) rfl; have f2 := hX2.get (i := 2) rfl; have f3 := hX2.get (i := 3) rfl; have ff := hX2.frozen; have hwx : w.heap.size ≠ wo.heap.size := (by have := HX1.out.lt; omega); have hxw : wo.heap.size ≠ w.heap.size := Ne.symm hwx)
        have HOWN := Lib.hid hown2
        have HR2 := Lib.hid (HR1.out.keep hB2)
        have HF2 := Lib.hid (HF.out.below hB2)
        clear hown2 hg2 hat2
        have hX4 := hX2.far (p := ⟨wo.heap.size, 2, none⟩) hwx (.slice A2 (iter cd k s).out.length c2)
        obtain ⟨e1, e2, e3⟩ := laid_endR HR2.out HOWN.out HF2.out hO2 hX2 hwx (.slice A2 (iter cd k s).out.length c2) (.int .i64 (iter cd k s).kind) (.int .i64 (iter cd k s).code) (.slice A2 (iter cd k s).out.length c2) (.int .i64 (iter cd k s).steps)
        have E1 := Lib.hid e1
        have E2 := Lib.hid e2
        have E3 := Lib.hid e3
        clear e1 e2 e3 hX4
        refine bodyPost_ret (v := .agg #[.int .i64 (iter cd k s).kind, .int .i64 (iter cd k s).code, .slice A2 (iter cd k s).out.length c2, .int .i64 (iter cd k s).steps]) (by simp [results, Try.results26, go_sem, f0, f1, f2, f3]) rfl ?_
        rw [HE.out]
        refine ⟨A2, c2, rfl, ?_, j', _, E1.out, E3.out HF.out.size (Nat.le_refl _), HAT.out⟩
        have := E2.out
        simpa using this
end Go.Proofs.Ytikgghioneiegaa
