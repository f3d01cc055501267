/-
  The order is the document's: the walk.
-/
import Derived.Test.YtibfikadamfpdaaRo
import Derived.Test.YtibfikadamfpdaaAk
namespace Go.Proofs.Ytibfikadamfpdaa
open Go.RowKit
set_option linter.unusedVariables false
set_option linter.unusedSimpArgs false

theorem resN_len (N : List ByteArray) (R : List (List ByteArray)) (hn : N.length ≤ 12) : (resN N R).1.length ≤ 100 := by
  unfold resN
  split
  · simp
  · split
    · simp
    · split
      · simp
      · split
        · simp
        · have := ordN_len N (lk N R); simp; omega
set_option maxRecDepth 100000 in
set_option maxHeartbeats 2000000 in
theorem gorders_any (w : World) (A D : Option Addr) (c d : Nat) (N : List ByteArray) (R : List (List ByteArray)) (hc : N.length ≤ c) (hN : SlV w w.heap.size A (N.map Value.string)) (hR : SlN w w.heap.size D (R.map fun r => r.map Value.string)) :
    Calls Try.prog 3 #[.slice A N.length c, .slice D R.length d] w (TruthP w true) := by
  have HV := heavy_any w w.heap.size A D c d N R hR
  have HAW := Lib.hid awake_any
  cases hh : heavyB N R with
  | true =>
    rw [hh] at HV
    clear hN hR hh
    go_enter Try.func3, Try.ntmps3
    go_wp2_with (first
      | (go_at_call 9; (with_reducible refine (HAW.out _).mono ?_); rintro e w2 ⟨rfl, hb2⟩)
      | (go_at_call 8; (with_reducible refine HV.mono ?_); rintro e w2 ⟨rfl, rfl⟩))
    go_ret
    exact ⟨rfl, hb2⟩
  | false =>
    rw [hh] at HV
    obtain ⟨n12, r20, r40⟩ := heavy_no hh
    have HG := gorder_any w w.heap.size A D c d N R hN hR (Nat.le_refl _) hc n12 (by omega) (fun r hr => by have := r40 r hr; omega)
    have HR := Lib.hid (fun (w1 : World) (hb : Below w.heap.size w w1) => rorder_any w1 w.heap.size A D c d N R (hN.below hb) (hR.below hb) hb.size n12 (by omega) (fun r hr => by have := r40 r hr; omega))
    have HLN := Lib.hid (resN_len N R n12)
    unfold Ord3 at HG HR
    obtain ⟨⟨L, at_, er⟩, hr⟩ : ∃ r, resN N R = r := ⟨_, rfl⟩
    rw [hr] at HG HR HLN
    simp only at HG HR HLN
    have HNUM := Lib.hid (num_any (er : Int))
    clear hN hR hh hr r40
    go_enter Try.func3, Try.ntmps3
    go_wp2_with (first
      | (go_at_call 9; (with_reducible refine (HAW.out _).mono ?_); rintro e w5 ⟨rfl, hb5⟩; have HB5 := Lib.hid hb5; clear hb5)
      | (go_at_call 13; (with_reducible refine (HNUM.out _).mono ?_); rintro e w5 ⟨rfl, rfl⟩)
      | (go_at_call 12; have hsm := same_any w3 _ _ A2 A3 c2 c3 L L (HS2.out.below HB3.out) HS3.out (by have := HLN.out; omega) (by have := HLN.out; omega); rw [show decide (L = L) = true from decide_eq_true rfl] at hsm; (with_reducible refine hsm.mono ?_); rintro e w4 ⟨rfl, hb4⟩; have HB4 := Lib.hid hb4; clear hb4 hsm)
      | (go_at_call 11; (with_reducible refine (HR.out _ HB2.out).mono ?_); rintro e w3 ⟨⟨A3, c3, rfl, hs3⟩, hb3⟩; have HS3 := Lib.hid hs3; have HB3 := Lib.hid hb3; clear hs3 hb3)
      | (go_at_call 10; (with_reducible refine HG.mono ?_); rintro e w2 ⟨⟨A2, c2, rfl, hs2⟩, hb2⟩; have HS2 := Lib.hid hs2; have HB2 := Lib.hid hb2; clear hs2 hb2)
      | (go_at_call 8; (with_reducible refine HV.mono ?_); rintro e w2 ⟨rfl, rfl⟩))
    go_ret
    have h3 := below_next HB2.out HB3.out
    have h4 := below_next h3 HB4.out
    exact ⟨rfl, below_next h4 HB5.out⟩
end Go.Proofs.Ytibfikadamfpdaa
