/-
  KindsFinds: the walk.
-/
import Derived.Test.YtkgilhdoahkakaaUh
import Derived.Test.YtkgilhdoahkakaaUl
namespace Go.Proofs.Ytkgilhdoahkakaa
open Go.RowKit
set_option linter.unusedVariables false
set_option linter.unusedSimpArgs false

set_option maxRecDepth 100000 in
set_option maxHeartbeats 4000000 in
theorem kfinds_any (us : List Un) (hok : ∀ u ∈ us, u.ok 140737488355328) (hlen : us.length ≤ 140737488355328) (p n : ByteArray) (w : World) (F : Nat → Prop) (A : Option Addr) (c : Nat) (hr : SlG 4 RUn w F A us) :
    Calls Try.prog 4 #[.slice A us.length c, .string p, .string n] w (TruthP w true) := by
  have HA := Lib.hid (hr.low RUn_keeps)
  have HU := Lib.hid (units_any us hok hlen w F A c hr)
  have HG := Lib.hid (fun hcn => dl_good hok hcn p n)
  have HC := Lib.hid (fun w5 (h : Below w.heap.size w w5) hcn => kfind_any us hok hcn p n hlen w5 (fun k => k < w.heap.size) A c (HA.out.bel RUn_keeps h))
  have HR := Lib.hid (fun w' (h : Below w.heap.size w w') => rfind_any us hok p n hlen w' (fun k => k < w.heap.size) A c (HA.out.bel RUn_keeps h) (fun k hk => Nat.lt_of_lt_of_le hk h.size))
  generalize (fndP us p n).isSome = b2 at HC HR
  generalize (fndP us p n).getD dlZ = d at HC HR HG
  have HS := Lib.hid (fun (hgc : d.cnt ≤ 2000) w' F' F'' vs us h h2 => rsamed_any d hgc w' F' F'' vs us h h2)
  clear hok hr
  go_enter Try.func4, Try.ntmps4
  go_wp2_with (first
    | (go_at_call 18; refine HU.out.mono ?_; rintro e w5 ⟨b, rfl, hcn, hb5⟩; have HB5 := Lib.hid hb5; have HCN := Lib.hid hcn; clear hb5 hcn)
    | (go_at_call 19; have hcn := HCN.out (by assumption); have HGC := Lib.hid (HG.out hcn).2; refine (HC.out _ HB5.out hcn).mono ?_; rintro e w6 ⟨⟨vs, rfl, hv⟩, hb6⟩; have HS2 := Lib.hid (HS.out HGC.out); clear HS HG HGC hcn; obtain ⟨dk, dn, dof, dv, dt, fs⟩ := d; have hv2 := hv; obtain ⟨tv, Af, cf, rfl, hrt, hfs⟩ := hv; dsimp only at hrt hfs; obtain ⟨k1, p1, n1', A1, m1, c1, B1, l1, d1, rfl⟩ := hrt.shape; simp only [tyC, List.cons_append, List.nil_append] at hv2 ⊢; have h7 := (Below.refl _ w6).alloc (Nat.le_refl _) (.cells #[.int .i64 dk, .string dn, .string dof, .int .i64 dv, .int .i64 k1, .string p1, .string n1', .slice A1 m1 c1, .slice B1 l1 d1, .slice Af fs.length cf] 33); have HB7 := Lib.hid (HB5.out.trans ((hb6.trans (h7.mono hb6.size)).mono HB5.out.size)); have HX := Lib.hid (Blk.new w6 33 #[.int .i64 dk, .string dn, .string dof, .int .i64 dv, .int .i64 k1, .string p1, .string n1', .slice A1 m1 c1, .slice B1 l1 d1, .slice Af fs.length cf]); have HD := Lib.hid (RDl.bel hv2 h7); clear hb6 hrt hfs hv2 h7)
    | (go_at_call 20; refine (HR.out _ HB7.out).mono ?_; rintro e w8 ⟨⟨vs, rfl, hv⟩, hb8⟩; have hv2 := hv; obtain ⟨tv, Ag, cg, rfl, hrt, hfs⟩ := hv; dsimp only at hrt hfs; obtain ⟨k2, p2, n2', A2, m2, c2, B2, l2, d2, rfl⟩ := hrt.shape; simp only [tyC, List.cons_append, List.nil_append] at hv2 ⊢; have h9 := (Below.refl _ w8).alloc (Nat.le_refl _) (.cells #[.int .i64 dk, .string dn, .string dof, .int .i64 dv, .int .i64 k2, .string p2, .string n2', .slice A2 m2 c2, .slice B2 l2 d2, .slice Ag fs.length cg] 33); have hx8 := HX.out.bel2 hb8; have x0 := hx8.cell 0; have x1 := hx8.cell 1; have x2 := hx8.cell 2; have x3 := hx8.cell 3; have x4 := hx8.cell 4; have x5 := hx8.cell 5; have x6 := hx8.cell 6; have x7 := hx8.cell 7; have x8 := hx8.cell 8; have x9 := hx8.cell 9; have xl := hx8.lt; have HB9 := Lib.hid (HB7.out.trans ((hb8.trans (h9.mono hb8.size)).mono HB7.out.size)); have HS9 := Lib.hid (HS2.out _ _ _ _ _ (RDl.bel (RDl.bel HD.out hb8) h9) (RDl.bel hv2 h9)); clear hb8 hrt hfs hv2 h9 hx8)
    | (go_at_call 21; refine HS9.out.mono ?_; rintro e w10 ⟨rfl, hb10⟩; have HB10 := Lib.hid (HB9.out.trans (hb10.mono HB9.out.size)); clear hb10)
    | (go_at_call 13; refine (awake_any _).mono ?_; rintro e w11 ⟨rfl, hb11⟩; first | have HB11 := Lib.hid (HB10.out.trans (hb11.mono HB10.out.size)) | have HB11 := Lib.hid (HB5.out.trans (hb11.mono HB5.out.size)); clear hb11))
  all_goals (go_ret; exact ⟨by simp, HB11.out⟩)
end Go.Proofs.Ytkgilhdoahkakaa
