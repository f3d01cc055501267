/-
  kinds' unitOf and find: walks.
-/
import Derived.Test.YtcfgjfahjaimiaaUf
namespace Go.Proofs.Ytcfgjfahjaimiaa
open Go.RowKit
set_option linter.unusedVariables false
set_option linter.unusedSimpArgs false

def fndP (us : List Un) (p n : ByteArray) : Option Dl := declP ((unitP us p).getD unZ).decls n
theorem unitP_mem {us : List Un} {p : ByteArray} {u : Un} (h : unitP us p = some u) : u ∈ us := by
  induction us with
  | nil => cases h
  | cons a r ih =>
    rw [unitP] at h
    split at h
    · cases h; exact List.mem_cons_self
    · exact List.mem_cons_of_mem _ (ih h)
theorem declP_mem {l : List Dl} {n : ByteArray} {d : Dl} (h : declP l n = some d) : d ∈ l := by
  induction l with
  | nil => cases h
  | cons a r ih =>
    rw [declP] at h
    split at h
    · cases h; exact List.mem_cons_self
    · exact List.mem_cons_of_mem _ (ih h)
theorem decls_len {us : List Un} (hok : ∀ u ∈ us, u.ok 140737488355328) (p : ByteArray) : ((unitP us p).getD unZ).decls.length ≤ 140737488355328 := by
  cases h : unitP us p with
  | none => simp [unZ]
  | some u => exact (hok u (unitP_mem h)).2.2.1.1
set_option maxRecDepth 100000 in
set_option maxHeartbeats 4000000 in
theorem unitOf_any (us : List Un) (p : ByteArray) (hlen : us.length ≤ 140737488355328) (w : World) (F : Nat → Prop) (A : Option Addr) (c : Nat) (hr : SlG 4 RUn w F A us) (hF : ∀ k, F k → k < w.heap.size) :
    Calls Try.prog 72 #[.slice A us.length c, .string p] w fun e w' => (∃ vs : List Value, e = .returned (.agg vs.toArray) ∧ UnV F ((unitP us p).getD unZ) w' vs) ∧ Below w.heap.size w w' := by
  have hb1 := ((Below.refl _ w).alloc (Nat.le_refl _) (.cells #[.string p] 9))
  have hb2 := hb1.alloc hb1.size (.cells #[.string ⟨#[]⟩, .slice none 0 0, .slice none 0 0, .slice none 0 0] 47)
  have hc := ((Blk.new w 9 #[.string p]).alloc (.cells #[.string ⟨#[]⟩, .slice none 0 0, .slice none 0 0, .slice none 0 0] 47)).cell 0
  have hcl := ((Blk.new w 9 #[.string p]).alloc (.cells #[.string ⟨#[]⟩, .slice none 0 0, .slice none 0 0, .slice none 0 0] 47)).lt
  have hk := Blk.new (w.alloc (.cells #[.string p] 9)) 47 #[.string ⟨#[]⟩, .slice none 0 0, .slice none 0 0, .slice none 0 0]
  rw [show (w.alloc (.cells #[.string p] 9)).heap.size = w.heap.size + 1 from by simp] at hk
  have HC := Lib.hid (firstu_any us p hlen ((w.alloc (.cells #[.string p] 9)).alloc (.cells #[.string ⟨#[]⟩, .slice none 0 0, .slice none 0 0, .slice none 0 0] 47)) F A c w.heap.size (hr.bel RUn_keeps hb2) hc hcl (fun k h => Nat.lt_of_lt_of_le (hF k h) hb2.size))
  generalize (unitP us p).getD unZ = u at HC ⊢
  generalize (unitP us p).isSome = b at HC
  have HB2 := Lib.hid hb2
  have HLT := Lib.hid hF
  have HK := Lib.hid hk
  clear hb1 hb2 hc hcl hk hr hF
  go_enter Try.func72, Try.ntmps72
  go_wp2_with (go_at_call 81; refine HC.out.mono ?_; rintro e w5 ⟨⟨vs, rfl, hv⟩, hb5⟩; obtain ⟨A1, a1, B1, b1, C1, c1, rfl, hs⟩ := hv; have hw5 := HB2.out.trans (hb5.mono HB2.out.size); have HW5 := Lib.hid hw5; have HS := Lib.hid hs; have hk5 := HK.out.bel2 hb5; have m0 := hk5.cell 0; have mf0 := hk5.frozen 0; have m1 := hk5.cell 1; have mf1 := hk5.frozen 1; have m2 := hk5.cell 2; have mf2 := hk5.frozen 2; have m3 := hk5.cell 3; have mf3 := hk5.frozen 3; have ml := hk5.lt; have HK5 := Lib.hid hk5; clear hb5 hw5 hk5 hs)
  have hV := (putCs_blk0 (vs := [.string u.pkg, .slice A1 u.imps.length a1, .slice B1 u.decls.length b1, .slice C1 u.funs.length c1]) HK5.out rfl).alloc (.cells #[.string u.pkg, .slice A1 u.imps.length a1, .slice B1 u.decls.length b1, .slice C1 u.funs.length c1] 47)
  have hVg : Below w.heap.size w (putCs w5 (w.heap.size + 1) 0 [.string u.pkg, .slice A1 u.imps.length a1, .slice B1 u.decls.length b1, .slice C1 u.funs.length c1]) := HW5.out.trans ((putCs_gr (w.heap.size + 1) [.string u.pkg, .slice A1 u.imps.length a1, .slice B1 u.decls.length b1, .slice C1 u.funs.length c1] 0 w5).belowN HW5.out.size (fun k hk e => by have e2 : k = w.heap.size + 1 := e; omega))
  have HV := Lib.hid (hVg.alloc hVg.size (.cells #[.string u.pkg, .slice A1 u.imps.length a1, .slice B1 u.decls.length b1, .slice C1 u.funs.length c1] 47))
  have hq : SlG 10 RDl (putCs w5 (w.heap.size + 1) 0 [.string u.pkg, .slice A1 u.imps.length a1, .slice B1 u.decls.length b1, .slice C1 u.funs.length c1]) F B1 u.decls := HS.out.clear RDl_keeps (putCs_gr _ _ 0 w5) (fun k h => Nat.lt_succ_of_lt (HLT.out k h))
  have HVR := Lib.hid (show UnV F u ((putCs w5 (w.heap.size + 1) 0 [.string u.pkg, .slice A1 u.imps.length a1, .slice B1 u.decls.length b1, .slice C1 u.funs.length c1]).alloc (.cells #[.string u.pkg, .slice A1 u.imps.length a1, .slice B1 u.decls.length b1, .slice C1 u.funs.length c1] 47)) [.string u.pkg, .slice A1 u.imps.length a1, .slice B1 u.decls.length b1, .slice C1 u.funs.length c1] from ⟨A1, a1, B1, b1, C1, c1, rfl, hq.bel RDl_keeps ((Below.refl _ _).alloc (Nat.le_refl _) _)⟩)
  have y0 := hV.cell 0
  have y1 := hV.cell 1
  have y2 := hV.cell 2
  have y3 := hV.cell 3
  clear hV hVg hq m0 mf0 m1 mf1 m2 mf2 m3 mf3
  show bodyPost _ _ _ _ _ ((putCs w5 (w.heap.size + 1) 0 [.string u.pkg, .slice A1 u.imps.length a1, .slice B1 u.decls.length b1, .slice C1 u.funs.length c1]).alloc (.cells #[.string u.pkg, .slice A1 u.imps.length a1, .slice B1 u.decls.length b1, .slice C1 u.funs.length c1] 47))
  generalize (putCs w5 (w.heap.size + 1) 0 [.string u.pkg, .slice A1 u.imps.length a1, .slice B1 u.decls.length b1, .slice C1 u.funs.length c1]).alloc (.cells #[.string u.pkg, .slice A1 u.imps.length a1, .slice B1 u.decls.length b1, .slice C1 u.funs.length c1] 47) = V at HV HVR y0 y1 y2 y3 ⊢
  exact bodyPost_ret (v := .agg #[.string u.pkg, .slice A1 u.imps.length a1, .slice B1 u.decls.length b1, .slice C1 u.funs.length c1]) (by simp [results, Try.results72, go_sem, y0, y1, y2, y3]) rfl ⟨⟨_, rfl, HVR.out⟩, HV.out⟩
set_option maxRecDepth 100000 in
set_option maxHeartbeats 4000000 in
theorem find_any (us : List Un) (hok : ∀ u ∈ us, u.ok 140737488355328) (p n : ByteArray) (hlen : us.length ≤ 140737488355328) (w : World) (F : Nat → Prop) (A : Option Addr) (c : Nat) (hr : SlG 4 RUn w F A us) (hF : ∀ k, F k → k < w.heap.size) :
    Calls Try.prog 55 #[.slice A us.length c, .string p, .string n] w fun e w' => (∃ vs : List Value, e = .returned (.tuple #[.agg vs.toArray, .bool (fndP us p n).isSome]) ∧ DlV F ((fndP us p n).getD dlZ) w' vs) ∧ Below w.heap.size w w' := by
  have hb1 := ((Below.refl _ w).alloc (Nat.le_refl _) (.cells #[.string n] 9))
  have hb2 := hb1.alloc hb1.size (.cells #[.int .i64 0, .string ⟨#[]⟩, .string ⟨#[]⟩, .int .i64 0, .int .i64 0, .string ⟨#[]⟩, .string ⟨#[]⟩, .slice none 0 0, .slice none 0 0, .slice none 0 0] 57)
  have hc := ((Blk.new w 9 #[.string n]).alloc (.cells #[.int .i64 0, .string ⟨#[]⟩, .string ⟨#[]⟩, .int .i64 0, .int .i64 0, .string ⟨#[]⟩, .string ⟨#[]⟩, .slice none 0 0, .slice none 0 0, .slice none 0 0] 57))
  have hk := Blk.new (w.alloc (.cells #[.string n] 9)) 57 #[.int .i64 0, .string ⟨#[]⟩, .string ⟨#[]⟩, .int .i64 0, .int .i64 0, .string ⟨#[]⟩, .string ⟨#[]⟩, .slice none 0 0, .slice none 0 0, .slice none 0 0]
  rw [show (w.alloc (.cells #[.string n] 9)).heap.size = w.heap.size + 1 from by simp] at hk
  have HC := Lib.hid (unitOf_any us p hlen ((w.alloc (.cells #[.string n] 9)).alloc (.cells #[.int .i64 0, .string ⟨#[]⟩, .string ⟨#[]⟩, .int .i64 0, .int .i64 0, .string ⟨#[]⟩, .string ⟨#[]⟩, .slice none 0 0, .slice none 0 0, .slice none 0 0] 57)) F A c (hr.bel RUn_keeps hb2) (fun k h => Nat.lt_of_lt_of_le (hF k h) hb2.size))
  have hdl := decls_len hok p
  rw [show fndP us p n = declP ((unitP us p).getD unZ).decls n from rfl]
  generalize (unitP us p).getD unZ = u at HC hdl ⊢
  have HD := Lib.hid (fun (w5 : World) (B1 : Option Addr) (b1 : Nat) (h5 : Below ((w.alloc (.cells #[.string n] 9)).alloc (.cells #[.int .i64 0, .string ⟨#[]⟩, .string ⟨#[]⟩, .int .i64 0, .int .i64 0, .string ⟨#[]⟩, .string ⟨#[]⟩, .slice none 0 0, .slice none 0 0, .slice none 0 0] 57)).heap.size ((w.alloc (.cells #[.string n] 9)).alloc (.cells #[.int .i64 0, .string ⟨#[]⟩, .string ⟨#[]⟩, .int .i64 0, .int .i64 0, .string ⟨#[]⟩, .string ⟨#[]⟩, .slice none 0 0, .slice none 0 0, .slice none 0 0] 57)) w5) (hs : SlG 10 RDl w5 F B1 u.decls) => firstd_any u.decls n hdl w5 F B1 b1 w.heap.size hs ((hc.bel2 h5).cell 0) (hc.bel2 h5).lt (fun k h => Nat.lt_of_lt_of_le (hF k h) (Nat.le_trans hb2.size h5.size)))
  generalize (declP u.decls n).getD dlZ = d at HD ⊢
  generalize (declP u.decls n).isSome = b at HD ⊢
  have HB2 := Lib.hid hb2
  have HLT := Lib.hid hF
  have HK := Lib.hid hk
  clear hb1 hb2 hc hk hr hF
  have hfd : ∀ (q : ByteArray) (A1 B1 C1 : Option Addr) (i a1 j b1 k c1 : Nat) (W : World), (Instr.field 47 (.agg #[.string q, .slice A1 i a1, .slice B1 j b1, .slice C1 k c1]) 2).run Try.prog W = .ok (.slice B1 j b1) W := fun _ _ _ _ _ _ _ _ _ _ _ => by kernel_rfl
  go_enter Try.func55, Try.ntmps55
  go_wp2_with (first | (go_at_call 72; refine HC.out.mono ?_; rintro e w5 ⟨⟨vs, rfl, hv⟩, hb5⟩; obtain ⟨A1, a1, B1, b1, C1, c1, rfl, hs⟩ := hv; have HS := Lib.hid hs; have HB5 := Lib.hid hb5; clear hb5 hs) | (go_at_call 71; refine (HD.out _ _ _ HB5.out HS.out).mono ?_; rintro e w6 ⟨⟨vs, rfl, hv⟩, hb6⟩; obtain ⟨dk, dn, dof, dv, dt, fs⟩ := d; have HDV := Lib.hid hv; obtain ⟨tv, Af, cf, rfl, hrt, hfs⟩ := hv; dsimp only at hrt hfs; obtain ⟨tk, tp, tn, A3, a3', a3, B3, b3', b3, rfl⟩ := hrt.shape; simp only [tyC, List.cons_append, List.nil_append] at HDV ⊢; have hw6 := HB2.out.trans ((HB5.out.trans (hb6.mono HB5.out.size)).mono HB2.out.size); have HW6 := Lib.hid hw6; have hk6 := (HK.out.bel2 HB5.out).bel2 hb6; have m0 := hk6.cell 0; have mf0 := hk6.frozen 0; have m1 := hk6.cell 1; have mf1 := hk6.frozen 1; have m2 := hk6.cell 2; have mf2 := hk6.frozen 2; have m3 := hk6.cell 3; have mf3 := hk6.frozen 3; have m4 := hk6.cell 4; have mf4 := hk6.frozen 4; have m5 := hk6.cell 5; have mf5 := hk6.frozen 5; have m6 := hk6.cell 6; have mf6 := hk6.frozen 6; have m7 := hk6.cell 7; have mf7 := hk6.frozen 7; have m8 := hk6.cell 8; have mf8 := hk6.frozen 8; have m9 := hk6.cell 9; have mf9 := hk6.frozen 9; have ml := hk6.lt; have HK6 := Lib.hid hk6; clear hb6 hw6 hk6 hrt hfs))
  have hV := putCs_blk0 (vs := [.int .i64 dk, .string dn, .string dof, .int .i64 dv, .int .i64 tk, .string tp, .string tn, .slice A3 a3' a3, .slice B3 b3' b3, .slice Af fs.length cf]) HK6.out rfl
  have hVg : Below w.heap.size w (putCs w6 (w.heap.size + 1) 0 [.int .i64 dk, .string dn, .string dof, .int .i64 dv, .int .i64 tk, .string tp, .string tn, .slice A3 a3' a3, .slice B3 b3' b3, .slice Af fs.length cf]) := HW6.out.trans ((putCs_gr (w.heap.size + 1) [.int .i64 dk, .string dn, .string dof, .int .i64 dv, .int .i64 tk, .string tp, .string tn, .slice A3 a3' a3, .slice B3 b3' b3, .slice Af fs.length cf] 0 w6).belowN HW6.out.size (fun k hk e => by have e2 : k = w.heap.size + 1 := e; omega))
  have HV := Lib.hid hVg
  have HVR := Lib.hid (show DlV F ⟨dk, dn, dof, dv, dt, fs⟩ (putCs w6 (w.heap.size + 1) 0 [.int .i64 dk, .string dn, .string dof, .int .i64 dv, .int .i64 tk, .string tp, .string tn, .slice A3 a3' a3, .slice B3 b3' b3, .slice Af fs.length cf]) [.int .i64 dk, .string dn, .string dof, .int .i64 dv, .int .i64 tk, .string tp, .string tn, .slice A3 a3' a3, .slice B3 b3' b3, .slice Af fs.length cf] from RDl.clear HDV.out (putCs_gr _ _ 0 w6) (fun k h => Nat.lt_succ_of_lt (HLT.out k h)))
  have y0 := hV.cell 0
  have y1 := hV.cell 1
  have y2 := hV.cell 2
  have y3 := hV.cell 3
  have y4 := hV.cell 4
  have y5 := hV.cell 5
  have y6 := hV.cell 6
  have y7 := hV.cell 7
  have y8 := hV.cell 8
  have y9 := hV.cell 9
  clear hV hVg m0 mf0 m1 mf1 m2 mf2 m3 mf3 m4 mf4 m5 mf5 m6 mf6 m7 mf7 m8 mf8 m9 mf9
  show bodyPost _ _ _ _ _ (putCs w6 (w.heap.size + 1) 0 [.int .i64 dk, .string dn, .string dof, .int .i64 dv, .int .i64 tk, .string tp, .string tn, .slice A3 a3' a3, .slice B3 b3' b3, .slice Af fs.length cf])
  generalize putCs w6 (w.heap.size + 1) 0 [.int .i64 dk, .string dn, .string dof, .int .i64 dv, .int .i64 tk, .string tp, .string tn, .slice A3 a3' a3, .slice B3 b3' b3, .slice Af fs.length cf] = V at HV HVR y0 y1 y2 y3 y4 y5 y6 y7 y8 y9 ⊢
  exact bodyPost_ret (v := .tuple #[.agg #[.int .i64 dk, .string dn, .string dof, .int .i64 dv, .int .i64 tk, .string tp, .string tn, .slice A3 a3' a3, .slice B3 b3' b3, .slice Af fs.length cf], .bool b]) (by simp [results, Try.results55, go_sem, y0, y1, y2, y3, y4, y5, y6, y7, y8, y9]) rfl ⟨⟨_, rfl, HVR.out⟩, HV.out⟩
end Go.Proofs.Ytcfgjfahjaimiaa
