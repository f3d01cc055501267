/-
  A reader: its memory, bytes taken, numbers, texts: walks.
-/
import Derived.Test.YtnkojjkijkhlbaaRp
import Derived.Laws.Bits64b
import Derived.WalkSmall
namespace Go.Proofs.Ytnkojjkijkhlbaa
open Go.RowKit
set_option linter.unusedVariables false
set_option linter.unusedSimpArgs false

/-- A reader, what is left of its bytes. -/
structure Rdr (w : World) (lo g : Nat) (A : Option Addr) (c : Nat) (bs : List Int) : Prop where
  blk : Blk w g 69 #[.slice A bs.length c]
  sl : SlB w lo A bs
  cap : bs.length ≤ c
  none_ : A = none → c = 0
  len : bs.length ≤ 262144
  log : lo ≤ g
theorem Rdr.bel {w w' : World} {lo g : Nat} {A : Option Addr} {c : Nat} {bs : List Int} (h : Rdr w lo g A c bs) (hb : Below w.heap.size w w') : Rdr w' lo g A c bs :=
  ⟨h.blk.bel2 hb, ⟨h.sl.1, h.sl.2.below (hb.mono (by have := h.blk.lt; have := h.log; omega))⟩, h.cap, h.none_, h.len, h.log⟩
/-- What is read, or the reader gives up. -/
def RdP {β : Type} (lo g : Nat) (o : Option (β × List Int)) (V : World → World → β → Value → Prop) (w : World) (e : Ending) (w' : World) : Prop :=
  match o with
  | none => e = (Ending.panicked [{ v := .iface 30 (.int .i64 4), recovered := false }]) ∧ Gr (fun x => x = g) w w'
  | some (x, rest) => ∃ v A c, e = .returned v ∧ V w w' x v ∧ Rdr w' lo g A c rest ∧ Gr (fun x => x = g) w w'
theorem RdP.bad {β : Type} {lo g : Nat} {V : World → World → β → Value → Prop} {w w' : World} {e : Ending} {o : Option (β × List Int)} (ho : o = none) : RdP lo g o V w e w' ↔ (e = (Ending.panicked [{ v := .iface 30 (.int .i64 4), recovered := false }]) ∧ Gr (fun x => x = g) w w') := by subst ho; exact Iff.rfl
theorem RdP.good {β : Type} {lo g : Nat} {V : World → World → β → Value → Prop} {w w' : World} {e : Ending} {o : Option (β × List Int)} {x : β} {rest : List Int} (ho : o = some (x, rest)) : RdP lo g o V w e w' ↔ (∃ v A c, e = .returned v ∧ V w w' x v ∧ Rdr w' lo g A c rest ∧ Gr (fun x => x = g) w w') := by subst ho; exact Iff.rfl
theorem post_bad {P : Program} {fn : Func} {R : Ending → World → Prop} {a : Act} {w : World} {c : List PanicEntry} (hd : a.defers = []) (h : R (.panicked c) w) : bodyPost P fn R (.panic c) a w := ⟨hd, h⟩
set_option maxRecDepth 100000 in
set_option maxHeartbeats 2000000 in
theorem refuse_any (w : World) : Calls Try.prog 35 #[] w fun e w' => e = (Ending.panicked [{ v := .iface 30 (.int .i64 4), recovered := false }]) ∧ w = w' := by
  go_enter Try.func35, Try.ntmps35
  go_wp2
  exact post_bad rfl ⟨rfl, rfl⟩
def VSl (lo : Nat) (w w' : World) (x : List Int) (v : Value) : Prop := ∃ A c, v = .slice A x.length c ∧ SlB w' lo A x ∧ x.length ≤ c
theorem SlB.keep1 {w w' : World} {lo g : Nat} {A : Option Addr} {bs : List Int} (h : SlB w lo A bs) (hg : Gr (fun x => x = g) w w') (hl : lo ≤ g) (hs : lo ≤ w.heap.size) : SlB w' lo A bs :=
  ⟨h.1, h.2.keep fun p hp => hg.cell (by omega) (fun e => by have e2 : p.block = g := e; omega)⟩
theorem SlB.take_ {w : World} {lo : Nat} {A : Option Addr} {bs : List Int} (h : SlB w lo A bs) (k : Nat) (hk : k ≤ bs.length) : SlB w lo A (bs.take k) := by
  refine ⟨fun c hc => h.1 c (List.mem_of_mem_take hc), by simp, fun hn => ?_⟩
  have hl : (bs.take k).length = k := by rw [List.length_take]; omega
  rw [hl] at hn
  obtain ⟨ad, e, hb, hc⟩ := h.2.2 (by omega)
  refine ⟨ad, e, hb, fun j u hu => hc j u ?_⟩
  rw [List.map_take, List.getElem?_take] at hu
  split at hu
  · exact hu
  · cases hu
set_option maxRecDepth 100000 in
set_option maxHeartbeats 2000000 in
theorem take_bad (n : Int) (w : World) (lo g : Nat) (A : Option Addr) (c : Nat) (bs : List Int) (h : Rdr w lo g A c bs) (hn : n < 0 ∨ (bs.length : Int) < n) :
    Calls Try.prog 55 #[.pointer (some ⟨g, 0, none⟩), .int .i64 n] w fun e w' => e = (Ending.panicked [{ v := .iface 30 (.int .i64 4), recovered := false }]) ∧ w = w' := by
  have b0 := h.blk.cell 0
  have bl := h.blk.lt
  have n0 : (0 : Int) ≤ (bs.length : Int) := by omega
  have n1 : (bs.length : Int) ≤ 262144 := by have := h.len; omega
  clear h
  by_cases h1 : n < 0
  · clear hn
    go_enter Try.func55, Try.ntmps55
    go_wp2_with (go_at_call 35; ((with_reducible refine (refuse_any _).mono ?_); rintro e w1 ⟨rfl, rfl⟩))
    exact post_bad rfl ⟨rfl, rfl⟩
  · have h2 : (bs.length : Int) < n := by omega
    have h3 : ¬ n < 0 := h1
    have h0 : 0 ≤ n := by omega
    clear hn h1
    go_enter Try.func55, Try.ntmps55
    go_wp2_with (go_at_call 35; ((with_reducible refine (refuse_any _).mono ?_); rintro e w1 ⟨rfl, rfl⟩))
    exact post_bad rfl ⟨rfl, rfl⟩
set_option maxRecDepth 100000 in
set_option maxHeartbeats 2000000 in
theorem take_ok (k : Nat) (w : World) (lo g : Nat) (A : Option Addr) (c : Nat) (bs : List Int) (h : Rdr w lo g A c bs) (hk : k ≤ bs.length) :
    Calls Try.prog 55 #[.pointer (some ⟨g, 0, none⟩), .int .i64 k] w fun e w' => e = .returned (.slice A k c) ∧ ∃ A' c', Rdr w' lo g A' c' (bs.drop k) ∧ Gr (fun x => x = g) w w' := by
  have b0 := h.blk.cell 0
  have bl := h.blk.lt
  have bf := h.blk.frozen 0
  have n0 : (0 : Int) ≤ (bs.length : Int) := by omega
  have n1 : (bs.length : Int) ≤ 262144 := by have := h.len; omega
  have k0 : (0 : Int) ≤ (k : Int) := by omega
  have k1 : (k : Int) ≤ (bs.length : Int) := by omega
  have kc : bs.length ≤ c := h.cap
  have kn : k ≤ bs.length := hk
  have kk : k ≤ c := by omega
  have HH := Lib.hid h
  have hdl : (bs.drop k).length = bs.length - k := by simp
  have HD := Lib.hid hdl
  have HG : ∀ v, Gr (fun x => x = g) w (w.setCell ⟨g, 0, none⟩ v) := fun v => (Gr.refl (S := fun x => x = g) w).setCell (p := ⟨g, 0, none⟩) (Or.inr (show g = g from rfl)) _
  have HGH := Lib.hid HG
  have HS := Lib.hid (h.sl.2.cut hk h.cap)
  have fin : ∀ A', (A' = if c = k then A else A.map (·.add (k * 1))) → Rdr (w.setCell ⟨g, 0, none⟩ (.slice A' (bs.length - k) (c - k))) lo g A' (c - k) (bs.drop k) := fun A' e => by
    refine ⟨by rw [hdl]; exact h.blk.set_ 0 _, ⟨fun x hx => h.sl.1 x (List.mem_of_mem_drop hx), ?_⟩, by rw [hdl]; omega, fun hA => ?_, by rw [hdl]; have := h.len; omega, h.log⟩
    · have hr := (h.sl.2.cut hk h.cap).setCell (p := ⟨g, 0, none⟩) h.log (.slice A' (bs.length - k) (c - k))
      rw [← e] at hr
      rw [hdl, List.map_drop]
      simpa using hr
    · subst hA
      split at e
      · have := h.none_ e.symm; omega
      · cases hA2 : A with
        | none => have := h.none_ hA2; omega
        | some a => rw [hA2] at e; cases e
  have FIN := Lib.hid fin
  clear h HG hdl fin
  by_cases hck : c = k
  · subst hck
    have hcc : c - c = 0 := by omega
    have HF1 := Lib.hid (FIN.out A (by simp))
    have hz : bs.length - c = 0 := by omega
    rw [hcc, hz] at HF1
    clear hcc hz FIN HS
    go_enter Try.func55, Try.ntmps55
    go_wp2
    go_ret
    exact ⟨rfl, A, 0, HF1.out, HGH.out _⟩
  · cases A with
    | none => exact absurd (by have := HH.out.none_ rfl; omega) hck
    | some a =>
    have HF1 := Lib.hid (FIN.out (some (a.add k)) (by rw [if_neg hck]; simp))
    clear FIN HS
    go_enter Try.func55, Try.ntmps55
    go_wp2
    go_ret
    exact ⟨rfl, some (a.add k), c - k, HF1.out, HGH.out _⟩
end Go.Proofs.Ytnkojjkijkhlbaa
