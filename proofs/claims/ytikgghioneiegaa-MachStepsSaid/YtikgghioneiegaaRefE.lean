/-
  The document's machine as a state: what its plain instructions make of it.
-/
import Derived.Test.YtikgghioneiegaaRefD
import Derived.Test.YtikgghioneiegaaMachU
namespace Go.Proofs.Ytikgghioneiegaa
open Go.RowKit
set_option linter.unusedVariables false

structure RLay where
  g : Nat
  cb : Nat
  cc : Nat
  mb : Nat
  m2 : Nat
def rcells (L : RLay) (N : Nat) (s : St) (j : Nat) (iv ov : Value) : Array Value :=
  #[.slice (some ⟨L.cb, 0, none⟩) N L.cc, .slice (some ⟨L.mb, 0, none⟩) s.mem.length L.m2,
    .int .i64 (s.r 0), .int .i64 (s.r 1), .int .i64 (s.r 2), .int .i64 (s.r 3), .int .i64 (s.r 4), .int .i64 (s.r 5), .int .i64 (s.r 6), .int .i64 (s.r 7),
    .int .i64 (s.r 8), .int .i64 (s.r 9), .int .i64 (s.r 10), .int .i64 (s.r 11), .int .i64 (s.r 12), .int .i64 (s.r 13), .int .i64 (s.r 14), .int .i64 (s.r 15),
    .int .i64 s.pc, iv, .int .i64 (j : Int), .int .i64 s.kind, .int .i64 s.code, ov, .int .i64 s.steps]
theorem rcells_reg (L : RLay) (N : Nat) (s : St) (j : Nat) (iv ov : Value) {a : Nat} (h : a < 16) : (rcells L N s j iv ov)[2 + a]? = some (.int .i64 (s.r a)) := by
  rcases lt16 h with rfl | rfl | rfl | rfl | rfl | rfl | rfl | rfl | rfl | rfl | rfl | rfl | rfl | rfl | rfl | rfl <;> rfl
theorem rcells_set (L : RLay) (N : Nat) (s : St) (j : Nat) (iv ov : Value) {a : Nat} (h : a < 16) (v : Int) : (rcells L N s j iv ov).setIfInBounds (2 + a) (.int .i64 v) = rcells L N { s with r := upd s.r a v } j iv ov := by
  rcases lt16 h with rfl | rfl | rfl | rfl | rfl | rfl | rfl | rfl | rfl | rfl | rfl | rfl | rfl | rfl | rfl | rfl <;> rfl
theorem rcells_kind (L : RLay) (N : Nat) (s : St) (j : Nat) (iv ov : Value) (h : s.code = 0) (k : Int) : (rcells L N s j iv ov).setIfInBounds 21 (.int .i64 k) = rcells L N { s with kind := k, code := 0 } j iv ov := by
  obtain ⟨_, _, _, _, _, _, _, _⟩ := s
  subst h
  rfl
def InRR (w : World) (iv ov : Value) (bs : List Int) : Prop :=
  ∃ A c, iv = .slice A bs.length c ∧ bs.length ≤ 4096 ∧ (∀ x ∈ bs, 0 ≤ x ∧ x ≤ 255) ∧
    (0 < bs.length → ∃ ib cur, A = some ⟨ib, 0, none⟩ ∧ Blk w ib 5 cur ∧ some ib ≠ ov.ownBlock ∧ ∀ (i : Nat) (x : Int), bs[i]? = some x → cur[i]? = some (.int .u8 x))
structure RepR (w : World) (B : Nat) (L : RLay) (cd bs : List Int) (s : St) (j : Nat) (iv ov : Value) : Prop where
  mach : Blk w L.g 38 (rcells L cd.length s j iv ov)
  code : ∃ ccs, Blk w L.cb 2 ccs ∧ ∀ (i : Nat) (v : Int), cd[i]? = some v → ccs[i]? = some (.int .i64 v)
  cne : L.cb ≠ L.mb
  cwf : ∀ v ∈ cd, -9223372036854775808 ≤ v ∧ v ≤ 9223372036854775807
  mem : Blk w L.mb 2 (s.mem.map (Value.int .i64)).toArray
  inn : InRR w iv ov bs
  innj : s.inn = bs.drop j
  jle : j ≤ bs.length
  out : w.ownsRow B 5 1 ov s.out.length (s.out.map (Value.int .u8))
  outl : s.out.length ≤ 4096
  meml : s.mem.length ≤ 262144
  codel : cd.length ≤ 65536
  gB : B ≤ L.g
  mB : B ≤ L.mb
  k0 : s.kind = 0 → s.code = 0
def PostR (B : Nat) (L : RLay) (cd bs : List Int) (iv ov : Value) (w : World) (s' : St) (w' : World) : Prop :=
  ∃ j' ov', RepR w' B L cd bs s' j' iv ov' ∧ Fr L.g L.mb ov.ownBlock w w' ∧ (ov'.ownBlock = ov.ownBlock ∨ ∀ k, ov'.ownBlock = some k → w.heap.size ≤ k)
def resOf (s : St) : Res → St
  | .did s' => s'
  | .gave k c => { s with kind := k, code := c }
section
variable {w w' : World} {B : Nat} {L : RLay} {cd bs : List Int} {s s' : St} {j j' : Nat} {iv ov : Value}
theorem RepR.ne (h : RepR w B L cd bs s j iv ov) : L.g ≠ L.mb := h.mach.ne_ h.mem (by decide)
theorem RepR.next (h : RepR w B L cd bs s j iv ov) (f : Fr L.g L.mb none w w') (hm : Blk w' L.g 38 (rcells L cd.length s' j' iv ov)) (hmem : Blk w' L.mb 2 (s'.mem.map (Value.int .i64)).toArray)
    (hout : s'.out = s.out) (hml : s'.mem.length = s.mem.length) (hj : s'.inn = bs.drop j') (hjl : j' ≤ bs.length) (hk : s'.kind = 0 → s'.code = 0) : RepR w' B L cd bs s' j' iv ov := by
  have e0 := h.ne
  refine ⟨hm, ?_, h.cne, h.cwf, hmem, ?_, hj, hjl, ?_, by rw [hout]; exact h.outl, by rw [hml]; exact h.meml, h.codel, h.gB, h.mB, hk⟩
  · obtain ⟨ccs, q1, q2⟩ := h.code
    exact ⟨ccs, q1.fr f (q1.ne_ h.mach (by decide)) h.cne (by simp), q2⟩
  · obtain ⟨A, c, q1, q2, q3, q4⟩ := h.inn
    refine ⟨A, c, q1, q2, q3, fun hl => ?_⟩
    obtain ⟨ib, cur, r1, r2, r3, r4⟩ := q4 hl
    exact ⟨ib, cur, r1, r2.fr f (r2.ne_ h.mach (by decide)) (r2.ne_ h.mem (by decide)) (by simp), r3, r4⟩
  · rw [hout]
    have k1 := own_blk_ne h.out h.mach (by decide)
    have k2 := own_blk_ne h.out h.mem (by decide)
    refine ⟨h.out.1, ?_⟩
    rcases h.out.2 with hn | ⟨g, cap, cur, rfl, hb, hgg, rest⟩
    · exact .inl hn
    · refine .inr ⟨g, cap, cur, rfl, hb, ?_, rest⟩
      have k3 : Blk w g 5 cur := hgg
      exact k3.fr f (by rintro rfl; exact k1 rfl) (by rintro rfl; exact k2 rfl) (by simp)
theorem RepR.post (h : RepR w B L cd bs s j iv ov) (f : Fr L.g L.mb none w w') (hm : Blk w' L.g 38 (rcells L cd.length s' j' iv ov)) (hmem : Blk w' L.mb 2 (s'.mem.map (Value.int .i64)).toArray)
    (hout : s'.out = s.out) (hml : s'.mem.length = s.mem.length) (hj : s'.inn = bs.drop j') (hjl : j' ≤ bs.length) (hk : s'.kind = 0 → s'.code = 0) : PostR B L cd bs iv ov w s' w' :=
  ⟨j', ov, h.next f hm hmem hout hml hj hjl hk, f.widen, .inl rfl⟩
/-- Only the machine's own block has turned. -/
theorem RepR.own_ (h : RepR w B L cd bs s j iv ov) (f : Fr L.g L.g none w w') (hm : Blk w' L.g 38 (rcells L cd.length s' j iv ov)) (hmem : s'.mem = s.mem) (hout : s'.out = s.out) (hi : s'.inn = s.inn) (hk : s'.kind = 0 → s'.code = 0) : PostR B L cd bs iv ov w s' w' := by
  refine h.post (f.to rfl) hm ?_ hout (by rw [hmem]) (by rw [hi]; exact h.innj) h.jle hk
  rw [hmem]
  exact h.mem.fr (f.to (g' := L.g) (mb := L.g) rfl) h.ne.symm h.ne.symm (by simp)
theorem Fr.one {g mb : Nat} {w w' : World} (h : Below w.heap.size w w') : Fr g mb none w w' := ⟨h.os, h.tape, h.output, h.size, fun k hk _ _ _ => h.block k hk⟩
end
section
variable {w w' : World} {B : Nat} {L : RLay} {cd bs : List Int} {s : St} {j : Nat} {iv ov : Value}
theorem ro_0 (h : RepR w B L cd bs s j iv ov) (hc0 : s.code = 0) (hk0 : s.kind = 0) (a b c : Nat) (n : Int) (ha : a < 16) (hb : b < 16) : Calls Try.prog 38 #[.pointer (some ⟨L.g, 0, none⟩), .agg #[.int .i64 0, .int .i64 a, .int .i64 b, .int .i64 c, .int .i64 n]] w fun e w' => e = .returned (.tuple #[]) ∧ PostR B L cd bs iv ov w (resOf s (act s 0 a b c n)) w' := by
  refine (rp_halt w L.g _ h.mach a b c n _ rfl).mono fun e w' ⟨he, hm, f⟩ => ⟨he, ?_⟩
  rw [rcells_kind _ _ _ _ _ _ hc0] at hm
  exact h.own_ f hm rfl rfl rfl (fun h => by cases h)
theorem ro_2 (h : RepR w B L cd bs s j iv ov) (hc0 : s.code = 0) (hk0 : s.kind = 0) (a b c : Nat) (n : Int) (ha : a < 16) (hb : b < 16) : Calls Try.prog 38 #[.pointer (some ⟨L.g, 0, none⟩), .agg #[.int .i64 2, .int .i64 a, .int .i64 b, .int .i64 c, .int .i64 n]] w fun e w' => e = .returned (.tuple #[]) ∧ PostR B L cd bs iv ov w (resOf s (act s 2 a b c n)) w' := by
  refine (rp_move w L.g _ h.mach a b c n _ _ ha (rcells_reg _ _ _ _ _ _ ha) hb (rcells_reg _ _ _ _ _ _ hb)).mono fun e w' ⟨he, hm, f⟩ => ⟨he, ?_⟩
  rw [rcells_set _ _ _ _ _ _ ha] at hm
  exact h.own_ f hm rfl rfl rfl h.k0
theorem ro_3 (h : RepR w B L cd bs s j iv ov) (hc0 : s.code = 0) (hk0 : s.kind = 0) (a b c : Nat) (n : Int) (ha : a < 16) (hb : b < 16) : Calls Try.prog 38 #[.pointer (some ⟨L.g, 0, none⟩), .agg #[.int .i64 3, .int .i64 a, .int .i64 b, .int .i64 c, .int .i64 n]] w fun e w' => e = .returned (.tuple #[]) ∧ PostR B L cd bs iv ov w (resOf s (act s 3 a b c n)) w' := by
  refine (rp_const w L.g _ h.mach a b c n _ ha (rcells_reg _ _ _ _ _ _ ha)).mono fun e w' ⟨he, hm, f⟩ => ⟨he, ?_⟩
  rw [rcells_set _ _ _ _ _ _ ha] at hm
  exact h.own_ f hm rfl rfl rfl h.k0
theorem ro_4 (h : RepR w B L cd bs s j iv ov) (hc0 : s.code = 0) (hk0 : s.kind = 0) (a b c : Nat) (n : Int) (ha : a < 16) (hb : b < 16) : Calls Try.prog 38 #[.pointer (some ⟨L.g, 0, none⟩), .agg #[.int .i64 4, .int .i64 a, .int .i64 b, .int .i64 c, .int .i64 n]] w fun e w' => e = .returned (.tuple #[]) ∧ PostR B L cd bs iv ov w (resOf s (act s 4 a b c n)) w' := by
  refine (rp_high w L.g _ h.mach a b c n _ ha (rcells_reg _ _ _ _ _ _ ha)).mono fun e w' ⟨he, hm, f⟩ => ⟨he, ?_⟩
  rw [rcells_set _ _ _ _ _ _ ha] at hm
  have e1 : wrap64 (n % 4294967296) = n % 4294967296 := by unfold wrap64; omega
  have e2 : resOf s (act s 4 a b c n) = { s with r := upd s.r a (wrap64 (wrap64 (s.r a * 4294967296) + n % 4294967296)) } := by
    show { s with r := upd s.r a (wrap64 (wrap64 (s.r a * 4294967296) + wrap64 (n % 4294967296))) } = _
    rw [e1]
  rw [e2]
  exact h.own_ f hm rfl rfl rfl h.k0
theorem ro_5 (h : RepR w B L cd bs s j iv ov) (hc0 : s.code = 0) (hk0 : s.kind = 0) (a b c : Nat) (n : Int) (ha : a < 16) (hb : b < 16) : Calls Try.prog 38 #[.pointer (some ⟨L.g, 0, none⟩), .agg #[.int .i64 5, .int .i64 a, .int .i64 b, .int .i64 c, .int .i64 n]] w fun e w' => e = .returned (.tuple #[]) ∧ PostR B L cd bs iv ov w (resOf s (act s 5 a b c n)) w' := by
  show Calls _ _ _ _ fun e w' => e = .returned (.tuple #[]) ∧ PostR B L cd bs iv ov w (resOf s (match cellAt s.mem (wrap64 (s.r b + n)) with | some y => .did { s with r := upd s.r a y } | none => .gave 5 0)) w'
  cases hc : cellAt s.mem (wrap64 (s.r b + n)) with
  | some y =>
    obtain ⟨i, e1, e2, e3⟩ := cellAt_some hc
    refine (rp_load w L.g _ h.mach a b c n _ y hb ha (rcells_reg _ _ _ _ _ _ hb) _ (rcells_reg _ _ _ _ _ _ ha) L.mb s.mem.length L.m2 i _ h.mem rfl e2 (memGet e3) e1).mono fun e w' ⟨he, hm, hmm, f⟩ => ⟨he, ?_⟩
    rw [rcells_set _ _ _ _ _ _ ha] at hm
    exact h.post (s' := { s with r := upd s.r a y }) f hm hmm rfl rfl h.innj h.jle h.k0
  | none =>
    refine (rp_load_out w L.g _ h.mach a b c n _ hb (rcells_reg _ _ _ _ _ _ hb) _ s.mem.length L.m2 rfl _ (cellAt_none hc) rfl _ rfl).mono fun e w' ⟨he, hm, f⟩ => ⟨he, ?_⟩
    rw [rcells_kind _ _ _ _ _ _ hc0] at hm
    exact h.own_ f hm rfl rfl rfl (fun h => by cases h)
theorem ro_6 (h : RepR w B L cd bs s j iv ov) (hc0 : s.code = 0) (hk0 : s.kind = 0) (a b c : Nat) (n : Int) (ha : a < 16) (hb : b < 16) : Calls Try.prog 38 #[.pointer (some ⟨L.g, 0, none⟩), .agg #[.int .i64 6, .int .i64 a, .int .i64 b, .int .i64 c, .int .i64 n]] w fun e w' => e = .returned (.tuple #[]) ∧ PostR B L cd bs iv ov w (resOf s (act s 6 a b c n)) w' := by
  show Calls _ _ _ _ fun e w' => e = .returned (.tuple #[]) ∧ PostR B L cd bs iv ov w (resOf s (match cellAt s.mem (wrap64 (s.r b + n)) with | some _ => .did { s with mem := s.mem.set (wrap64 (s.r b + n)).toNat (s.r a) } | none => .gave 5 0)) w'
  cases hc : cellAt s.mem (wrap64 (s.r b + n)) with
  | some y =>
    obtain ⟨i, e1, e2, e3⟩ := cellAt_some hc
    refine (rp_store w L.g _ h.mach a b c n _ _ hb ha (rcells_reg _ _ _ _ _ _ hb) _ (rcells_reg _ _ _ _ _ _ ha) L.mb s.mem.length L.m2 i _ h.mem rfl e2 (memGet e3) e1).mono fun e w' ⟨he, hm, hmm, f⟩ => ⟨he, ?_⟩
    rw [e1]
    have hj : ((i : Int)).toNat = i := by simp
    rw [hj]
    rw [memSet] at hmm
    have q : rcells L cd.length { s with mem := s.mem.set i (s.r a) } j iv ov = rcells L cd.length s j iv ov := by simp [rcells]
    exact h.post (s' := { s with mem := s.mem.set i (s.r a) }) f (by rw [q]; exact hm) hmm rfl (by simp) h.innj h.jle h.k0
  | none =>
    refine (rp_store_out w L.g _ h.mach a b c n _ hb (rcells_reg _ _ _ _ _ _ hb) _ s.mem.length L.m2 rfl _ (cellAt_none hc) rfl _ rfl).mono fun e w' ⟨he, hm, f⟩ => ⟨he, ?_⟩
    rw [rcells_kind _ _ _ _ _ _ hc0] at hm
    exact h.own_ f hm rfl rfl rfl (fun h => by cases h)
theorem ro_7 (h : RepR w B L cd bs s j iv ov) (hc0 : s.code = 0) (hk0 : s.kind = 0) (a b c : Nat) (n : Int) (ha : a < 16) (hb : b < 16) : Calls Try.prog 38 #[.pointer (some ⟨L.g, 0, none⟩), .agg #[.int .i64 7, .int .i64 a, .int .i64 b, .int .i64 c, .int .i64 n]] w fun e w' => e = .returned (.tuple #[]) ∧ PostR B L cd bs iv ov w (resOf s (act s 7 a b c n)) w' := by
  refine (rp_jump w L.g _ h.mach a b c n _ rfl).mono fun e w' ⟨he, hm, f⟩ => ⟨he, ?_⟩
  exact h.own_ (s' := { s with pc := wrap64 (s.pc + n) }) f hm rfl rfl rfl h.k0
theorem ro_8 (h : RepR w B L cd bs s j iv ov) (hc0 : s.code = 0) (hk0 : s.kind = 0) (a b c : Nat) (n : Int) (ha : a < 16) (hb : b < 16) : Calls Try.prog 38 #[.pointer (some ⟨L.g, 0, none⟩), .agg #[.int .i64 8, .int .i64 a, .int .i64 b, .int .i64 c, .int .i64 n]] w fun e w' => e = .returned (.tuple #[]) ∧ PostR B L cd bs iv ov w (resOf s (act s 8 a b c n)) w' := by
  show Calls _ _ _ _ fun e w' => e = .returned (.tuple #[]) ∧ PostR B L cd bs iv ov w (resOf s (if s.r a = 0 then .did { s with pc := wrap64 (s.pc + n) } else .did s)) w'
  by_cases hz : s.r a = 0
  · rw [if_pos hz]
    refine (rp_zero_yes w L.g _ h.mach a b c n _ _ ha (rcells_reg _ _ _ _ _ _ ha) rfl (by simpa using hz)).mono fun e w' ⟨he, hm, f⟩ => ⟨he, ?_⟩
    exact h.own_ (s' := { s with pc := wrap64 (s.pc + n) }) f hm rfl rfl rfl h.k0
  · rw [if_neg hz]
    refine (rp_zero_no w L.g _ h.mach a b c n _ ha (rcells_reg _ _ _ _ _ _ ha) (by simpa using hz)).mono fun e w' ⟨he, hm, f⟩ => ⟨he, ?_⟩
    exact h.own_ (s' := s) f hm rfl rfl rfl h.k0
theorem ro_9 (h : RepR w B L cd bs s j iv ov) (hc0 : s.code = 0) (hk0 : s.kind = 0) (a b c : Nat) (n : Int) (ha : a < 16) (hb : b < 16) : Calls Try.prog 38 #[.pointer (some ⟨L.g, 0, none⟩), .agg #[.int .i64 9, .int .i64 a, .int .i64 b, .int .i64 c, .int .i64 n]] w fun e w' => e = .returned (.tuple #[]) ∧ PostR B L cd bs iv ov w (resOf s (act s 9 a b c n)) w' := by
  show Calls _ _ _ _ fun e w' => e = .returned (.tuple #[]) ∧ PostR B L cd bs iv ov w (resOf s (if s.r a = 0 then .did s else .did { s with pc := wrap64 (s.pc + n) })) w'
  by_cases hz : s.r a = 0
  · rw [if_pos hz]
    refine (rp_some_no w L.g _ h.mach a b c n _ ha (rcells_reg _ _ _ _ _ _ ha) (by simpa using hz)).mono fun e w' ⟨he, hm, f⟩ => ⟨he, ?_⟩
    exact h.own_ (s' := s) f hm rfl rfl rfl h.k0
  · rw [if_neg hz]
    refine (rp_some_yes w L.g _ h.mach a b c n _ _ ha (rcells_reg _ _ _ _ _ _ ha) rfl (by simpa using hz)).mono fun e w' ⟨he, hm, f⟩ => ⟨he, ?_⟩
    exact h.own_ (s' := { s with pc := wrap64 (s.pc + n) }) f hm rfl rfl rfl h.k0
theorem ro_10 (h : RepR w B L cd bs s j iv ov) (hc0 : s.code = 0) (hk0 : s.kind = 0) (a b c : Nat) (n : Int) (ha : a < 16) (hb : b < 16) : Calls Try.prog 62 #[.pointer (some ⟨L.g, 0, none⟩), .agg #[.int .i64 10, .int .i64 a, .int .i64 b, .int .i64 c, .int .i64 n]] w fun e w' => e = .returned (.tuple #[]) ∧ PostR B L cd bs iv ov w (resOf s (act s 10 a b c n)) w' := by
  show Calls _ _ _ _ fun e w' => e = .returned (.tuple #[]) ∧ PostR B L cd bs iv ov w (resOf s (match cellAt s.mem (wrap64 (s.r 15 - 1)) with | some _ => .did { s with mem := s.mem.set (wrap64 (s.r 15 - 1)).toNat s.pc, r := upd s.r 15 (wrap64 (s.r 15 - 1)), pc := n } | none => .gave 5 0)) w'
  cases hc : cellAt s.mem (wrap64 (s.r 15 - 1)) with
  | some y =>
    obtain ⟨i, e1, e2, e3⟩ := cellAt_some hc
    refine (rc_call w L.g _ h.mach a b c n (s.r 15) s.pc rfl rfl L.mb s.mem.length L.m2 i _ h.mem rfl e2 _ (memGet e3) e1).mono fun e w' ⟨he, hm, hmm, f⟩ => ⟨he, ?_⟩
    rw [e1]
    have hj : ((i : Int)).toNat = i := by simp
    rw [hj]
    rw [memSet] at hmm
    have q : rcells L cd.length { s with mem := s.mem.set i s.pc, r := upd s.r 15 (i : Int), pc := n } j iv ov = ((rcells L cd.length s j iv ov).setIfInBounds 17 (.int .i64 (i : Int))).setIfInBounds 18 (.int .i64 n) := by simp [rcells, upd]
    exact h.post (s' := { s with mem := s.mem.set i s.pc, r := upd s.r 15 (i : Int), pc := n }) f (by rw [q]; exact hm) hmm rfl (by simp) h.innj h.jle h.k0
  | none =>
    refine (rc_call_out w L.g _ h.mach a b c n _ rfl _ s.mem.length L.m2 rfl _ (cellAt_none hc) rfl _ rfl).mono fun e w' ⟨he, hm, f⟩ => ⟨he, ?_⟩
    rw [rcells_kind _ _ _ _ _ _ hc0] at hm
    exact h.own_ f hm rfl rfl rfl (fun h => by cases h)
theorem ro_11 (h : RepR w B L cd bs s j iv ov) (hc0 : s.code = 0) (hk0 : s.kind = 0) (a b c : Nat) (n : Int) (ha : a < 16) (hb : b < 16) : Calls Try.prog 62 #[.pointer (some ⟨L.g, 0, none⟩), .agg #[.int .i64 11, .int .i64 a, .int .i64 b, .int .i64 c, .int .i64 n]] w fun e w' => e = .returned (.tuple #[]) ∧ PostR B L cd bs iv ov w (resOf s (act s 11 a b c n)) w' := by
  show Calls _ _ _ _ fun e w' => e = .returned (.tuple #[]) ∧ PostR B L cd bs iv ov w (resOf s (match cellAt s.mem (wrap64 (s.r 15 - 1)) with | some _ => .did { s with mem := s.mem.set (wrap64 (s.r 15 - 1)).toNat s.pc, r := upd s.r 15 (wrap64 (s.r 15 - 1)), pc := upd s.r 15 (wrap64 (s.r 15 - 1)) a } | none => .gave 5 0)) w'
  cases hc : cellAt s.mem (wrap64 (s.r 15 - 1)) with
  | some y =>
    obtain ⟨i, e1, e2, e3⟩ := cellAt_some hc
    have hca : ((rcells L cd.length s j iv ov).setIfInBounds 17 (.int .i64 (i : Int)))[2 + a]? = some (.int .i64 (upd s.r 15 (i : Int) a)) := by
      have := rcells_set L cd.length s j iv ov (a := 15) (by omega) (i : Int)
      rw [show 17 = 2 + 15 from rfl, this]
      exact rcells_reg _ _ _ _ _ _ ha
    refine (rc_far w L.g _ h.mach a b c n (s.r 15) s.pc rfl rfl L.mb s.mem.length L.m2 i _ h.mem rfl e2 _ (memGet e3) e1 _ ha hca).mono fun e w' ⟨he, hm, hmm, f⟩ => ⟨he, ?_⟩
    rw [e1]
    have hj : ((i : Int)).toNat = i := by simp
    rw [hj]
    rw [memSet] at hmm
    have q : rcells L cd.length { s with mem := s.mem.set i s.pc, r := upd s.r 15 (i : Int), pc := upd s.r 15 (i : Int) a } j iv ov = (((rcells L cd.length s j iv ov).setIfInBounds 17 (.int .i64 (i : Int))).setIfInBounds 18 (.int .i64 n)).setIfInBounds 18 (.int .i64 (upd s.r 15 (i : Int) a)) := by simp [rcells, upd]
    exact h.post (s' := { s with mem := s.mem.set i s.pc, r := upd s.r 15 (i : Int), pc := upd s.r 15 (i : Int) a }) f (by rw [q]; exact hm) hmm rfl (by simp) h.innj h.jle h.k0
  | none =>
    refine (rc_far_out w L.g _ h.mach a b c n _ rfl _ s.mem.length L.m2 rfl _ (cellAt_none hc) rfl _ rfl).mono fun e w' ⟨he, hm, f⟩ => ⟨he, ?_⟩
    rw [rcells_kind _ _ _ _ _ _ hc0] at hm
    exact h.own_ f hm rfl rfl rfl (fun h => by cases h)
theorem ro_12 (h : RepR w B L cd bs s j iv ov) (hc0 : s.code = 0) (hk0 : s.kind = 0) (a b c : Nat) (n : Int) (ha : a < 16) (hb : b < 16) : Calls Try.prog 62 #[.pointer (some ⟨L.g, 0, none⟩), .agg #[.int .i64 12, .int .i64 a, .int .i64 b, .int .i64 c, .int .i64 n]] w fun e w' => e = .returned (.tuple #[]) ∧ PostR B L cd bs iv ov w (resOf s (act s 12 a b c n)) w' := by
  show Calls _ _ _ _ fun e w' => e = .returned (.tuple #[]) ∧ PostR B L cd bs iv ov w (resOf s (match cellAt s.mem (s.r 15) with | some y => .did { s with pc := y, r := upd s.r 15 (wrap64 (s.r 15 + 1)) } | none => .gave 5 0)) w'
  cases hc : cellAt s.mem (s.r 15) with
  | some y =>
    obtain ⟨i, e1, e2, e3⟩ := cellAt_some hc
    have hi : i ≤ 262144 := by have := h.meml; omega
    refine (rc_ret w L.g _ h.mach a b c n _ L.mb s.mem.length L.m2 i (by rw [← e1]; rfl) rfl _ h.mem rfl e2 h.meml y (memGet e3)).mono fun e w' ⟨he, hm, f⟩ => ⟨he, ?_⟩
    rw [e1]
    have hw : wrap64 ((i : Int) + 1) = (i : Int) + 1 := by unfold wrap64; omega
    rw [hw]
    exact h.own_ (s' := { s with pc := y, r := upd s.r 15 ((i : Int) + 1) }) f hm rfl rfl rfl h.k0
  | none =>
    refine (rc_ret_out w L.g _ h.mach a b c n _ rfl _ s.mem.length L.m2 rfl (cellAt_none hc) _ rfl).mono fun e w' ⟨he, hm, f⟩ => ⟨he, ?_⟩
    rw [rcells_kind _ _ _ _ _ _ hc0] at hm
    exact h.own_ f hm rfl rfl rfl (fun h => by cases h)
theorem ro_13 (h : RepR w B L cd bs s j iv ov) (hc0 : s.code = 0) (hk0 : s.kind = 0) (a b c : Nat) (n : Int) (ha : a < 16) (hb : b < 16) : Calls Try.prog 62 #[.pointer (some ⟨L.g, 0, none⟩), .agg #[.int .i64 13, .int .i64 a, .int .i64 b, .int .i64 c, .int .i64 n]] w fun e w' => e = .returned (.tuple #[]) ∧ PostR B L cd bs iv ov w (resOf s (act s 13 a b c n)) w' := by
  obtain ⟨A, ic, hiv, hil, hib, hbl⟩ := h.inn
  have hinn := h.innj
  by_cases hlt : j < bs.length
  · obtain ⟨ib, cur, r1, r2, r3, r4⟩ := hbl (by omega)
    subst r1 hiv
    obtain ⟨x, hx⟩ : ∃ x, bs[j]? = some x := ⟨_, List.getElem?_eq_getElem hlt⟩
    obtain ⟨x0, x1⟩ := hib x (List.mem_of_getElem? hx)
    have hd : s.inn = x :: bs.drop (j + 1) := by
      rw [hinn, List.drop_eq_getElem_cons hlt]
      congr 1
      rw [List.getElem?_eq_getElem hlt] at hx
      exact Option.some.inj hx
    have e1 : resOf s (act s 13 a b c n) = { s with r := upd s.r a x, inn := bs.drop (j + 1) } := by
      show resOf s (match s.inn with | [] => .did { s with r := upd s.r a (-1) } | x :: t => .did { s with r := upd s.r a x, inn := t }) = _
      rw [hd]; rfl
    rw [e1]
    refine (rc_read w L.g _ h.mach a b c n _ ha (rcells_reg _ _ _ _ _ _ ha) bs.length j ic rfl ib rfl cur r2 x (r4 j x hx) x0 x1 hlt hil).mono fun e w' ⟨he, hm, f⟩ => ⟨he, ?_⟩
    rw [rcells_set _ _ _ _ _ _ ha, rcells_set _ _ _ _ _ _ ha] at hm
    have hu : upd (upd s.r a (-1)) a x = upd s.r a x := by funext k; unfold upd; split <;> rfl
    refine h.post (s' := { s with r := upd s.r a x, inn := bs.drop (j + 1) }) (j' := j + 1) (f.to rfl) ?_ (h.mem.fr (f.to (g' := L.g) (mb := L.g) rfl) h.ne.symm h.ne.symm (by simp)) rfl rfl rfl hlt h.k0
    dsimp only at hm
    rw [hu] at hm
    have hjj : ((j : Int) + 1) = ((j + 1 : Nat) : Int) := by omega
    rw [hjj] at hm
    exact hm
  · have hd : s.inn = [] := by rw [hinn]; exact List.drop_eq_nil_of_le (by omega)
    have e1 : resOf s (act s 13 a b c n) = { s with r := upd s.r a (-1) } := by
      show resOf s (match s.inn with | [] => .did { s with r := upd s.r a (-1) } | x :: t => .did { s with r := upd s.r a x, inn := t }) = _
      rw [hd]; rfl
    rw [e1]
    refine (rc_read_no w L.g _ h.mach a b c n _ ha (rcells_reg _ _ _ _ _ _ ha) bs.length j ic rfl A (by rw [hiv]; rfl) (by omega)).mono fun e w' ⟨he, hm, f⟩ => ⟨he, ?_⟩
    rw [rcells_set _ _ _ _ _ _ ha] at hm
    exact h.own_ f hm rfl rfl rfl h.k0
theorem ro_14 (h : RepR w B L cd bs s j iv ov) (hc0 : s.code = 0) (hk0 : s.kind = 0) (a b c : Nat) (n : Int) (ha : a < 16) (hb : b < 16) : Calls Try.prog 62 #[.pointer (some ⟨L.g, 0, none⟩), .agg #[.int .i64 14, .int .i64 a, .int .i64 b, .int .i64 c, .int .i64 n]] w fun e w' => e = .returned (.tuple #[]) ∧ PostR B L cd bs iv ov w (resOf s (act s 14 a b c n)) w' := by
  show Calls _ _ _ _ fun e w' => e = .returned (.tuple #[]) ∧ PostR B L cd bs iv ov w (resOf s (if s.out.length < 4096 then .did { s with out := s.out ++ [s.r a % 256] } else .did s)) w'
  obtain ⟨A, c2, hov⟩ := own_shape h.out
  subst hov
  by_cases hl : s.out.length < 4096
  · rw [if_pos hl]
    refine (rc_write w L.g _ h.mach n a b c ha (s.r a) (rcells_reg _ _ _ _ _ _ ha) B A s.out.length c2 _ rfl h.out hl (by have := h.gB; have := h.mach.lt; omega)).mono ?_
    rintro e w' ⟨rfl, A', c', hm, hown, f, hat⟩
    have kk : ∀ {b : Nat} {t : TypeId} {cs : Array Value}, Blk w b t cs → b ≠ L.g → some b ≠ (Value.slice A s.out.length c2).ownBlock → Blk w' b t cs := fun hb h1 h2 => hb.fr f h1 h1 h2
    refine ⟨rfl, j, .slice A' (s.out.length + 1) c', ⟨?_, ?_, h.cne, h.cwf, ?_, ?_, h.innj, h.jle, ?_, ?_, h.meml, h.codel, h.gB, h.mB, h.k0⟩, ⟨f.os, f.tape, f.output, f.size, fun k q1 q2 _ q4 => f.block k q1 q2 q2 q4⟩, hat⟩
    · exact hm
    · obtain ⟨ccs, q1, q2⟩ := h.code
      exact ⟨ccs, kk q1 (q1.ne_ h.mach (by decide)) (own_not h.out q1 (by decide)), q2⟩
    · exact kk h.mem (Ne.symm h.ne) (own_not h.out h.mem (by decide))
    · obtain ⟨A0, c0, q1, q2, q3, q4⟩ := h.inn
      refine ⟨A0, c0, q1, q2, q3, fun hl' => ?_⟩
      obtain ⟨ib, cur, r1, r2, r3, r4⟩ := q4 hl'
      refine ⟨ib, cur, r1, kk r2 (r2.ne_ h.mach (by decide)) r3, ?_, r4⟩
      rcases hat with e | e
      · rw [e]; exact r3
      · intro e'
        have := e ib e'.symm
        have := r2.lt
        omega
    · simpa [resOf] using hown
    · simp [resOf]; omega
  · rw [if_neg hl]
    refine (rc_write_full w L.g _ h.mach n a b c A s.out.length c2 rfl (by omega)).mono ?_
    rintro e w' ⟨rfl, hbw⟩
    exact ⟨rfl, h.own_ (s' := s) (Fr.one hbw) (h.mach.below hbw h.mach.lt) rfl rfl rfl h.k0⟩
theorem ro_15 (h : RepR w B L cd bs s j iv ov) (hc0 : s.code = 0) (hk0 : s.kind = 0) (a b c : Nat) (n : Int) (ha : a < 16) (hb : b < 16) : Calls Try.prog 62 #[.pointer (some ⟨L.g, 0, none⟩), .agg #[.int .i64 15, .int .i64 a, .int .i64 b, .int .i64 c, .int .i64 n]] w fun e w' => e = .returned (.tuple #[]) ∧ PostR B L cd bs iv ov w (resOf s (act s 15 a b c n)) w' := by
  refine (rc_room w L.g _ h.mach a b c n _ ha (rcells_reg _ _ _ _ _ _ ha) _ s.mem.length L.m2 rfl).mono fun e w' ⟨he, hm, f⟩ => ⟨he, ?_⟩
  rw [rcells_set _ _ _ _ _ _ ha] at hm
  exact h.own_ f hm rfl rfl rfl h.k0
end
end Go.Proofs.Ytikgghioneiegaa
