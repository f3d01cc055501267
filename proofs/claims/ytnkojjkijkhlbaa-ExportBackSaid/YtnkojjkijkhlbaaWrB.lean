/-
  A writer's texts, empty lists, a unit without anything; the document's example; ExportSums.
-/
import Derived.Test.YtnkojjkijkhlbaaWrA
namespace Go.Proofs.Ytnkojjkijkhlbaa
open Go.RowKit
set_option linter.unusedVariables false
set_option linter.unusedSimpArgs false

/-- A text's bytes. -/
def sB (s : ByteArray) : List Int := s.data.toList.map (fun c => (c.toNat : Int))
theorem sB_len (s : ByteArray) : (sB s).length = s.size := by simp [sB]
theorem sB_ok (s : ByteArray) : ∀ x ∈ sB s, 0 ≤ x ∧ x ≤ 255 := by
  intro x hx
  obtain ⟨c, _, rfl⟩ := List.mem_map.1 hx
  have := c.toNat_lt
  omega
theorem info_parts {t : TypeId} {z : Option Value} {s b : Nat} (h : (Try.prog.info? t).map (fun i => (i.zero, i.size, i.bytes)) = some (z, s, b)) : ∃ i, Try.prog.info? t = some i ∧ i.zero = z ∧ i.size = s ∧ i.bytes = b := by
  obtain ⟨i, hi, hzz⟩ := Option.map_eq_some_iff.1 h
  simp only [Prod.mk.injEq] at hzz
  exact ⟨i, hi, hzz.1, hzz.2.1, hzz.2.2⟩
set_option maxRecDepth 100000 in
theorem app_str {w : World} {lo : Nat} {v : Value} {bs : List Int} (hown : Bys w lo v bs.length (bs.map (Value.int .u8))) (ty : TypeId) (s : ByteArray) (hs0 : 0 < s.size) (hn : bs.length + s.size ≤ 100000000) (hbase : lo ≤ w.heap.size) :
    ∃ v' w', (Builtin.append_ #[29, 9] ty #[v, .string s]).run Try.prog w = .ok v' w' ∧ w'.ownsRow lo 5 1 v' (bs.length + (sB s).length) ((bs ++ sB s).map (Value.int .u8)) ∧ w.grownBy w' v.ownBlock ∧ ∀ q, v'.ownBlock = some q → v.ownBlock = some q ∨ w.heap.size ≤ q := by
  obtain ⟨i0, hi0, hz0, hz1, hz2⟩ := info_parts info_u8
  have e8 : (sB s).map (Value.int .u8) = s.data.toList.map (fun c => Value.int .u8 c.toNat) := by simp [sB]
  rcases hown with hown | hown
  case inr =>
    obtain ⟨v', w', h1, h2, h3⟩ := run_full (P := Try.prog) w lo 29 9 ty 5 i0 Try.underlying29 hi0 hz0 hz1 hz2 v bs.length _ hown (.string s) s.size (byteCells s) (by rw [hz1]; exact Src.ofString w Try.underlying9 s) hs0 (by simp only [maxLen]; omega) (by omega)
    refine ⟨v', w', h1, ?_, ⟨h3.os, h3.tape, h3.output, h3.size, fun k hk _ => h3.block k hk⟩, fun q hq => .inr (h2.lt q hq).1⟩
    rw [sB_len, List.map_append, e8]
    exact own_mono h2 hbase
  obtain ⟨v', w', h1, h2, h3, h4⟩ := Lib.run_append_own_string (P := Try.prog) w lo 29 9 ty 5 i0 Try.underlying29 Try.underlying9 hi0 hz0 hz1 hz2 v bs.length _ hown s (by simp only [maxLen]; omega) (by omega) hbase
  refine ⟨v', w', h1, ?_, h3, ?_⟩
  · rw [sB_len, List.map_append]
    have e : (sB s).map (Value.int .u8) = s.data.toList.map (fun c => Value.int .u8 c.toNat) := by simp [sB]
    rw [e]
    exact h2
  · intro q hq
    rcases hown.2 with ⟨rfl, hl⟩ | ⟨g, cap, cur, rfl, hbg, hg, hnc, hcm, hcs, htake⟩
    · right
      rcases Nat.lt_or_ge q w.heap.size with hlt | hge
      · exfalso
        by_cases hm : s.size = 0
        · have h5 := h4.2 ⟨rfl, hm⟩
          subst h5
          simp [Value.ownBlock] at hq
        · have hr := run_append_nil_string (P := Try.prog) w 29 9 ty 5 i0 (.int .u8 0) Try.underlying29 Try.underlying9 hi0 hz0 s (by omega) (by omega) (by rw [hz2]; omega)
          have he := hr.symm.trans h1
          injection he with e1 e2
          subst e1
          simp [Value.ownBlock] at hq
          omega
      · exact hge
    · by_cases hroom : bs.length + s.size ≤ cap
      · left
        have hr := Lib.run_append_room_string (P := Try.prog) w 29 9 ty 5 i0 Try.underlying29 Try.underlying9 hi0 hz1 g bs.length cap cur hg s hroom (by omega)
        have he := hr.symm.trans h1
        injection he with e1 e2
        subst e1
        exact hq
      · right
        have hr := Lib.run_append_grow_string (P := Try.prog) w 29 9 ty 5 i0 (.int .u8 0) Try.underlying29 Try.underlying9 hi0 hz0 ⟨g, 0, none⟩ bs.length cap _ (by rw [hz1]; simp) (hown.cells (g := g) rfl) s (by omega) (by omega) (by rw [hz2]; exact growslice_fits (by omega) (by omega))
        have he := hr.symm.trans h1
        injection he with e1 e2
        subst e1
        simp [Value.ownBlock] at hq
        omega
theorem wpList_app {ops : Array Oper} {rest : List Oper} {o : Oper} {a : Act} {Q : Exit → Act → World → Prop} {w : World} (hgd : o.guard = none) (sl x : Operand) (t u : TypeId)
    (ho : o.op = .call { callee := .builtin .append, args := #[sl, x], argTypes := #[t, u] }) (v xv : Value) (hs : a.eval sl = v) (hx : a.eval x = xv) (R : Value → World → Prop)
    (hrun : ∃ v' w', (Builtin.append_ #[t, u] o.type #[v, xv]).run Try.prog w = .ok v' w' ∧ R v' w')
    (h : ∀ v' w', R v' w' → wpList Try.prog ops Q rest (a.put o.dst v') w') : wpList Try.prog ops Q (o :: rest) a w := by
  refine wpList_plain hgd fun K hK => ?_
  obtain ⟨v', w', hr, h2⟩ := hrun
  unfold Oper.wp execOp
  simp only [ho, resolve, invoke, builtin, Sem.run_bind, Sem.run_pure, Result.andThen_ok, List.map_toArray, List.map_cons, List.map_nil, hs, hx, hr]
  exact hK _ _ (h v' w' h2)
/-- Something was written. -/
def WP (lo wb : Nat) (o : Option Nat) (bs : List Int) (w : World) (e : Ending) (w' : World) : Prop := (∃ x, e = .returned x) ∧ ∃ A c, Wr w' lo wb A c bs false ∧ WrN w w' wb o (Value.slice A bs.length c).ownBlock
set_option maxRecDepth 100000 in
set_option maxHeartbeats 2000000 in
theorem number_some (v : Int) (w : World) (lo wb : Nat) (A : Option Addr) (c : Nat) (bs : List Int) (h : Wr w lo wb A c bs false) (hroom : bs.length + 8 ≤ 262144) :
    Calls Try.prog 74 #[.pointer (some ⟨wb, 0, none⟩), .int .i64 v] w (WP lo wb (Value.slice A bs.length c).ownBlock (bs ++ le8 v) w) := by
  have HR := Lib.hid (word_some v w lo wb A c bs h hroom)
  clear h
  go_enter Try.func74, Try.ntmps74
  go_wp2_with (go_at_call 23; ((with_reducible refine HR.out.mono ?_); rintro e w1 ⟨⟨x, rfl⟩, hw1⟩); have HW1 := Lib.hid hw1; clear hw1)
  refine bodyPost_end (results_none rfl _ _ _) rfl ?_
  exact ⟨⟨_, rfl⟩, HW1.out⟩
set_option maxRecDepth 100000 in
set_option maxHeartbeats 2000000 in
theorem text_some (s : ByteArray) (hs0 : 0 < s.size) (w : World) (lo wb : Nat) (A : Option Addr) (c : Nat) (bs : List Int) (h : Wr w lo wb A c bs false) (hroom : bs.length + 8 + s.size ≤ 262144) :
    Calls Try.prog 44 #[.pointer (some ⟨wb, 0, none⟩), .string s] w (WP lo wb (Value.slice A bs.length c).ownBlock (bs ++ le8 s.size ++ sB s) w) := by
  have HR := Lib.hid (number_some s.size w lo wb A c bs h (by omega))
  have hlen : (bs ++ le8 (s.size : Int)).length = bs.length + 8 := by rw [List.length_append]; unfold le8; rw [bytesTo_len]
  have HRM := Lib.hid (fun w' A' c' (h' : Wr w' lo wb A' c' (bs ++ le8 (s.size : Int)) false) => room_any s.size w' lo wb A' c' (bs ++ le8 (s.size : Int)) false h')
  have hrm : roomP s.size (bs ++ le8 (s.size : Int)) false = false := by simp [roomP, hlen]; omega
  rw [hrm] at HRM
  obtain ⟨b8, hb8⟩ : ∃ b, bs ++ le8 (s.size : Int) = b := ⟨_, rfl⟩
  rw [hb8] at HR HRM hlen ⊢
  have s0 : (0 : Int) ≤ (s.size : Int) := by omega
  have s1 : (s.size : Int) ≤ 262144 := by omega
  have HL := Lib.hid hlen
  clear h hrm hlen hb8
  go_enter Try.func44, Try.ntmps44
  go_wp2_with (first
    | (at_builtin; refine wpList_app rfl _ _ _ _ rfl _ _ rfl rfl _ (app_str HW2.out.own 29 s hs0 (by have := HL.out; omega) HW2.out.lob) ?_; rintro v3 w3 ⟨ho3, hg3, hn3⟩; obtain ⟨A3, c3, rfl⟩ := own_shape ho3; have hb3 : Blk w3 wb 52 #[.slice A1 b8.length c1, .bool false] := HW2.out.blk.grown hg3 (fun e => HW2.out.ne e.symm); have v0 := hb3.cell 0; have vl := hb3.lt; have vf := hb3.frozen 0; have HO3 := Lib.hid ho3; have HG3 := Lib.hid hg3; have HN3 := Lib.hid hn3; clear ho3 hg3 hn3 hb3)
    | (go_at_call 74; ((with_reducible refine HR.out.mono ?_); rintro e w1 ⟨⟨x, rfl⟩, A1, c1, hw1, hn1⟩); have HW1 := Lib.hid hw1; have HN1 := Lib.hid hn1; clear hw1 hn1)
    | (go_at_call 51; ((with_reducible refine (HRM.out _ _ _ HW1.out).mono ?_); rintro e w2 ⟨rfl, hw2, hn2⟩); have HW2 := Lib.hid hw2; have HN2 := Lib.hid (HN1.out.trans hn2); have y0 := hw2.blk.cell 0; have yl := hw2.blk.lt; clear hw2 hn2))
  refine bodyPost_end (results_none rfl _ _ _) rfl ?_
  have hV := HW2.out.grow (news := sB s) HG3.out HO3.out (sB_ok s) (by have := HL.out; rw [List.length_append, sB_len]; omega)
  · refine ⟨⟨_, rfl⟩, A3, c3, hV, ?_⟩
    rw [List.length_append]
    exact HN2.out.trans ⟨(Gr.of_grown (S := fun x => x = wb ∨ (Value.slice A1 b8.length c1).ownBlock = some x) HG3.out (fun k e _ => Or.inr e)).setCell (p := ⟨wb, 0, none⟩) (Or.inr (Or.inl (show wb = wb from rfl))) _, HN3.out⟩
set_option maxRecDepth 100000 in
set_option maxHeartbeats 2000000 in
theorem num_any (e : Int) (w : World) : Calls Try.prog 13 #[.int .i64 e] w fun x w' => x = .returned (.int .i64 e) ∧ w = w' := by
  go_enter Try.func13, Try.ntmps13
  go_wp2
  go_ret
  exact ⟨rfl, rfl⟩
set_option maxRecDepth 100000 in
set_option maxHeartbeats 2000000 in
theorem put_imp (w : World) (lo wb : Nat) (A : Option Addr) (c : Nat) (bs : List Int) (h : Wr w lo wb A c bs false) (hroom : bs.length + 8 ≤ 262144) (fv : Value) :
    Calls Try.prog 45 #[.pointer (some ⟨wb, 0, none⟩), .slice none 0 0, fv] w (WP lo wb (Value.slice A bs.length c).ownBlock (bs ++ le8 0) w) := by
  have HR := Lib.hid (number_some 0 w lo wb A c bs h hroom)
  clear h
  go_enter Try.func45, Try.ntmps45
  go_wp2_with (go_at_call 74; ((with_reducible refine HR.out.mono ?_); rintro e w1 ⟨⟨x, rfl⟩, hw1⟩); have HW1 := Lib.hid hw1; clear hw1)
  go_loopg [14] 0 (fun gk v14 wr => v14 = .int .i64 0 ∧ wr = w1)
  case atStart => exact ⟨rfl, rfl⟩
  case round =>
    obtain ⟨rfl, rfl⟩ := hrel
    go_wp2
    refine bodyPost_end (results_none rfl _ _ _) rfl ?_
    exact ⟨⟨_, rfl⟩, HW1.out⟩
set_option maxRecDepth 100000 in
set_option maxHeartbeats 2000000 in
theorem put_decl (w : World) (lo wb : Nat) (A : Option Addr) (c : Nat) (bs : List Int) (h : Wr w lo wb A c bs false) (hroom : bs.length + 8 ≤ 262144) (fv : Value) :
    Calls Try.prog 47 #[.pointer (some ⟨wb, 0, none⟩), .slice none 0 0, fv] w (WP lo wb (Value.slice A bs.length c).ownBlock (bs ++ le8 0) w) := by
  have HR := Lib.hid (number_some 0 w lo wb A c bs h hroom)
  clear h
  go_enter Try.func47, Try.ntmps47
  go_wp2_with (go_at_call 74; ((with_reducible refine HR.out.mono ?_); rintro e w1 ⟨⟨x, rfl⟩, hw1⟩); have HW1 := Lib.hid hw1; clear hw1)
  go_loopg [14] 0 (fun gk v14 wr => v14 = .int .i64 0 ∧ wr = w1)
  case atStart => exact ⟨rfl, rfl⟩
  case round =>
    obtain ⟨rfl, rfl⟩ := hrel
    go_wp2
    refine bodyPost_end (results_none rfl _ _ _) rfl ?_
    exact ⟨⟨_, rfl⟩, HW1.out⟩
set_option maxRecDepth 100000 in
set_option maxHeartbeats 2000000 in
theorem put_func (w : World) (lo wb : Nat) (A : Option Addr) (c : Nat) (bs : List Int) (h : Wr w lo wb A c bs false) (hroom : bs.length + 8 ≤ 262144) (fv : Value) :
    Calls Try.prog 49 #[.pointer (some ⟨wb, 0, none⟩), .slice none 0 0, fv] w (WP lo wb (Value.slice A bs.length c).ownBlock (bs ++ le8 0) w) := by
  have HR := Lib.hid (number_some 0 w lo wb A c bs h hroom)
  clear h
  go_enter Try.func49, Try.ntmps49
  go_wp2_with (go_at_call 74; ((with_reducible refine HR.out.mono ?_); rintro e w1 ⟨⟨x, rfl⟩, hw1⟩); have HW1 := Lib.hid hw1; clear hw1)
  go_loopg [14] 0 (fun gk v14 wr => v14 = .int .i64 0 ∧ wr = w1)
  case atStart => exact ⟨rfl, rfl⟩
  case round =>
    obtain ⟨rfl, rfl⟩ := hrel
    go_wp2
    refine bodyPost_end (results_none rfl _ _ _) rfl ?_
    exact ⟨⟨_, rfl⟩, HW1.out⟩
set_option maxRecDepth 100000 in
set_option maxHeartbeats 2000000 in
theorem idx_decl (w : World) (fv : Value) : Calls Try.prog 67 #[.slice none 0 0, fv] w fun e w' => e = .returned (.int .i64 (-1)) ∧ w = w' := by
  go_enter Try.func67, Try.ntmps67
  go_wp2
  go_loopg [8] 0 (fun gk v8 wr => v8 = .int .i64 0 ∧ wr = w)
  case atStart => exact ⟨rfl, rfl⟩
  case round =>
    obtain ⟨rfl, rfl⟩ := hrel
    go_wp2
    go_ret
    exact ⟨rfl, rfl⟩
set_option maxRecDepth 100000 in
set_option maxHeartbeats 2000000 in
theorem con_decl (w : World) (fv : Value) : Calls Try.prog 40 #[.slice none 0 0, fv] w fun e w' => e = .returned (.bool false) ∧ w = w' := by
  go_enter Try.func40, Try.ntmps40
  go_wp2_with (go_at_call 67; ((with_reducible refine (idx_decl _ _).mono ?_); rintro e w1 ⟨rfl, rfl⟩))
  go_ret
  exact ⟨rfl, rfl⟩
set_option maxRecDepth 100000 in
set_option maxHeartbeats 2000000 in
theorem idx_func (w : World) (fv : Value) : Calls Try.prog 71 #[.slice none 0 0, fv] w fun e w' => e = .returned (.int .i64 (-1)) ∧ w = w' := by
  go_enter Try.func71, Try.ntmps71
  go_wp2
  go_loopg [8] 0 (fun gk v8 wr => v8 = .int .i64 0 ∧ wr = w)
  case atStart => exact ⟨rfl, rfl⟩
  case round =>
    obtain ⟨rfl, rfl⟩ := hrel
    go_wp2
    go_ret
    exact ⟨rfl, rfl⟩
set_option maxRecDepth 100000 in
set_option maxHeartbeats 2000000 in
theorem con_func (w : World) (fv : Value) : Calls Try.prog 42 #[.slice none 0 0, fv] w fun e w' => e = .returned (.bool false) ∧ w = w' := by
  go_enter Try.func42, Try.ntmps42
  go_wp2_with (go_at_call 71; ((with_reducible refine (idx_func _ _).mono ?_); rintro e w1 ⟨rfl, rfl⟩))
  go_ret
  exact ⟨rfl, rfl⟩
set_option maxRecDepth 100000 in
set_option maxHeartbeats 2000000 in
theorem deep_none (s : ByteArray) (w : World) : Calls Try.prog 21 #[.agg #[.string s, .slice none 0 0, .slice none 0 0, .slice none 0 0]] w fun e w' => e = .returned (.bool false) ∧ Below w.heap.size w w' := by
  go_enter Try.func21, Try.ntmps21
  go_wp2_with (first | (go_at_call 40; ((with_reducible refine (con_decl _ _).mono ?_); rintro e w1 ⟨rfl, rfl⟩)) | (go_at_call 42; ((with_reducible refine (con_func _ _).mono ?_); rintro e w1 ⟨rfl, rfl⟩)))
  go_ret
  exact ⟨rfl, (Below.refl _ w).alloc (Nat.le_refl _) _⟩
end Go.Proofs.Ytnkojjkijkhlbaa
