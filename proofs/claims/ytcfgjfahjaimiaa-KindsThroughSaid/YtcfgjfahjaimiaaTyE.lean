/-
  Types' texts, plainly; bytes that are appended to.
-/
import Derived.Test.YtcfgjfahjaimiaaTyD
import Derived.Lib.AppendStr
import Derived.Laws.BytesArg
import Derived.Laws.IdiomStrings
namespace Go.Proofs.Ytcfgjfahjaimiaa
open Go.RowKit
set_option linter.unusedVariables false
set_option linter.unusedSimpArgs false

def byteV (c : UInt8) : Value := .int .u8 c.toNat
def bs (l : List UInt8) : ByteArray := ⟨l.toArray⟩
theorem bs_size (l : List UInt8) : (bs l).size = l.length := by simp [bs, ByteArray.size]
theorem bs_list (l : List UInt8) : (bs l).data.toList = l := by simp [bs]
theorem bs_of (s : ByteArray) : bs s.data.toList = s := by
  refine ByteArray.ext ?_
  simp [bs]
mutual
def txt : Ty → List UInt8
  | .mk k p n la lr =>
    if k = 0 then [110, 111, 110, 101] else if k = 1 then [105, 110, 116] else if k = 2 then [98, 111, 111, 108] else if k = 3 then [115, 116, 114, 105, 110, 103] else if k = 4 then [110, 105, 108]
    else if k = 5 then [42] ++ (p.data.toList ++ ([46] ++ n.data.toList)) else if k = 8 then p.data.toList ++ ([46] ++ n.data.toList)
    else if k = 6 then [91, 93] ++ txtF la
    else if k = 7 then [102, 117, 110, 99, 40] ++ (txtJ la ++ ([41] ++ (if lr.length = 0 then [] else [32] ++ txtF lr)))
    else if k = 9 then n.data.toList else []
def txtF : List Ty → List UInt8
  | [] => []
  | t :: _ => txt t
def txtJ : List Ty → List UInt8
  | [] => []
  | t :: r => txt t ++ txtR r
def txtR : List Ty → List UInt8
  | [] => []
  | t :: r => [44, 32] ++ (txt t ++ txtR r)
end
theorem txt_mk (k : Int) (p n : ByteArray) (la lr : List Ty) : txt (.mk k p n la lr) = if k = 0 then [110, 111, 110, 101] else if k = 1 then [105, 110, 116] else if k = 2 then [98, 111, 111, 108] else if k = 3 then [115, 116, 114, 105, 110, 103] else if k = 4 then [110, 105, 108]
    else if k = 5 then [42] ++ (p.data.toList ++ ([46] ++ n.data.toList)) else if k = 8 then p.data.toList ++ ([46] ++ n.data.toList)
    else if k = 6 then [91, 93] ++ txtF la
    else if k = 7 then [102, 117, 110, 99, 40] ++ (txtJ la ++ ([41] ++ (if lr.length = 0 then [] else [32] ++ txtF lr)))
    else if k = 9 then n.data.toList else [] := by simp only [txt]
theorem txtR_append (a b : List Ty) : txtR (a ++ b) = txtR a ++ txtR b := by
  induction a with
  | nil => simp [txtR]
  | cons x a ih => simp only [List.cons_append, txtR, ih, List.append_assoc]
theorem txtJ_snoc (a : List Ty) (t : Ty) : txtJ (a ++ [t]) = txtJ a ++ ((if a.length = 0 then [] else [44, 32]) ++ txt t) := by
  cases a with
  | nil => simp [txtJ, txtR]
  | cons x a => simp [txtJ, txtR_append, txtR]
mutual
theorem txt_len : ∀ t : Ty, (txt t).length + 2 ≤ 10 * t.sz
  | .mk k p n la lr => by
    rw [txt_mk, sz_mk]
    have h1 := txtF_len la
    have h2 := txtF_len lr
    have h3 := txtJ_len la
    have hp : p.data.toList.length = p.size := by simp
    have hn : n.data.toList.length = n.size := by simp
    repeat' split
    all_goals (simp only [List.length_append, List.length_cons, List.length_nil, hp, hn]; omega)
theorem txtF_len : ∀ l : List Ty, (txtF l).length ≤ 10 * szL l
  | [] => by simp [txtF]
  | t :: r => by rw [szL_cons]; simp only [txtF]; have := txt_len t; omega
theorem txtJ_len : ∀ l : List Ty, (txtJ l).length ≤ 10 * szL l
  | [] => by simp [txtJ]
  | t :: r => by rw [szL_cons]; simp only [txtJ, List.length_append]; have := txt_len t; have := txtR_len r; omega
theorem txtR_len : ∀ l : List Ty, (txtR l).length ≤ 10 * szL l
  | [] => by simp [txtR]
  | t :: r => by rw [szL_cons]; simp only [txtR, List.length_append, List.length_cons, List.length_nil]; have := txt_len t; have := txtR_len r; omega
end
theorem own_string {w : World} {base : Nat} {v : Value} {l : List UInt8} (h : w.ownsRow base 5 1 v l.length (l.map byteV)) : (convert 79 9 v).run Try.prog w = .ok (.string (bs l)) w := by
  rcases h.2 with ⟨rfl, hl⟩ | ⟨g, cap, cur, rfl, _⟩
  · have : l = [] := List.eq_nil_of_length_eq_zero hl
    subst this
    exact run_convert_bytes_nil (w := w) 79 5 Try.underlying79 Try.underlying5 0 0 9 Try.underlying9
  · exact run_convert_bytes_back (P := Try.prog) w 79 9 5 ⟨g, 0, none⟩ cap l Try.underlying79 Try.underlying5 Try.underlying9 (fun j hj => by
      refine h.cells (g := g) rfl j _ ?_
      simp [hj, byteV])
theorem byte_info : (Try.prog.info? 5).map (fun i => (i.zero, i.size, i.bytes)) = some (some (.int .u8 0), 1, 1) := by kernel_rfl
/-- What an append of bytes comes to. -/
def AppP (base : Nat) (w : World) (v : Value) (l : List UInt8) (v' : Value) (w' : World) : Prop :=
  w'.ownsRow base 5 1 v' l.length (l.map byteV) ∧ Gr (fun q => v.ownBlock = some q) w w' ∧ ∀ q, v'.ownBlock = some q → v.ownBlock = some q ∨ w.heap.size ≤ q
set_option maxRecDepth 100000 in
theorem app_string {w : World} {base : Nat} {v : Value} {l : List UInt8} (hown : w.ownsRow base 5 1 v l.length (l.map byteV)) (ty : TypeId) (s : ByteArray) (hn : l.length + s.size ≤ 100000000) (hbase : base ≤ w.heap.size) :
    ∃ v' w', (Builtin.append_ #[79, 9] ty #[v, .string s]).run Try.prog w = .ok v' w' ∧ AppP base w v (l ++ s.data.toList) v' w' := by
  obtain ⟨i0, hi0, hz0, hz1, hz2⟩ := info_parts byte_info
  obtain ⟨v', w', h1, h2, h3, h4⟩ := Lib.run_append_own_string (P := Try.prog) w base 79 9 ty 5 i0 Try.underlying79 Try.underlying9 hi0 hz0 hz1 hz2 v l.length _ hown s (by simp only [maxLen]; omega) (by omega) hbase
  have hsl : s.data.toList.length = s.size := by simp
  refine ⟨v', w', h1, ?_, Gr.of_grown h3 (fun k hk _ => hk), ?_⟩
  · rw [List.length_append, hsl, List.map_append]
    exact h2
  · intro q hq
    rcases hown.2 with ⟨rfl, hl⟩ | ⟨g, cap, cur, rfl, hbg, hg, hnc, hcm, hcs, htake⟩
    · right
      have := (h2.lt q hq).2
      rcases Nat.lt_or_ge q w.heap.size with hlt | hge
      · exfalso
        by_cases hm : s.size = 0
        · have h5 := h4.2 ⟨rfl, hm⟩
          subst h5
          simp [Value.ownBlock] at hq
        · have hr := run_append_nil_string (P := Try.prog) w 79 9 ty 5 i0 (.int .u8 0) Try.underlying79 Try.underlying9 hi0 hz0 s (by omega) (by omega) (by rw [hz2]; omega)
          have hl0 : l.length = 0 := hl
          have he := hr.symm.trans h1
          injection he with e1 e2
          subst e1
          simp [Value.ownBlock] at hq
          omega
      · exact hge
    · by_cases hroom : l.length + s.size ≤ cap
      · left
        have hcs' : cur.size = cap := by simpa using hcs
        have hr := Lib.run_append_room_string (P := Try.prog) w 79 9 ty 5 i0 Try.underlying79 Try.underlying9 hi0 hz1 g l.length cap cur hg s hroom (by omega)
        have he := hr.symm.trans h1
        injection he with e1 e2
        subst e1
        exact hq
      · right
        have hr := Lib.run_append_grow_string (P := Try.prog) w 79 9 ty 5 i0 (.int .u8 0) Try.underlying79 Try.underlying9 hi0 hz0 ⟨g, 0, none⟩ l.length cap _ (by rw [hz1]; simp) (hown.cells (g := g) rfl) s (by omega) (by omega) (by rw [hz2]; exact growslice_fits (by omega) (by omega))
        have he := hr.symm.trans h1
        injection he with e1 e2
        subst e1
        simp [Value.ownBlock] at hq
        omega
theorem app_one {w : World} {base : Nat} {v : Value} {l : List UInt8} (hown : w.ownsRow base 5 1 v l.length (l.map byteV)) (ty : TypeId) (g : Nat) (c : UInt8) (hg : Blk w g 5 #[.int .u8 c.toNat]) (hn : l.length + 1 ≤ 100000000) (hbase : base ≤ w.heap.size) :
    ∃ v' w', (Builtin.append_ #[79, 79] ty #[v, .slice (some ⟨g, 0, none⟩) 1 1]).run Try.prog w = .ok v' w' ∧ AppP base w v (l ++ [c]) v' w' := by
  obtain ⟨i0, hi0, hz0, hz1, hz2⟩ := info_parts byte_info
  obtain ⟨v', w', h1, h2, h3, h4⟩ := run_append_any (P := Try.prog) w base 79 ty 5 i0 _ 1 1 Try.underlying79 hi0 hz0 hz1 hz2 rfl (by omega) v l.length _ hown w.heap.size (some ⟨g, 0, none⟩) 1 1 [.int .u8 c.toNat] ⟨rfl, fun _ => ⟨_, rfl, hg.lt, fun j u hu => by
    cases j with
    | zero => simp at hu; subst hu; exact hg.cell 0
    | succ j => simp at hu⟩⟩ (by simp [Value.oneCell']) (by simp only [maxLen]; omega) (by omega) hbase
  refine ⟨v', w', h1, ?_, Gr.of_grown h3 (fun k hk _ => hk), ?_⟩
  · rw [List.length_append, List.map_append]
    exact h2
  · intro q hq
    rcases h4 with h4 | h4
    · left; rw [← h4]; exact hq
    · right; rw [h4] at hq; injection hq with hq; omega
theorem wpList_app {ops : Array Oper} {rest : List Oper} {o : Oper} {a : Act} {Q : Exit → Act → World → Prop} {w : World} (hgd : o.guard = none) (sl x : Operand) (t u : TypeId)
    (ho : o.op = .call { callee := .builtin .append, args := #[sl, x], argTypes := #[t, u] }) (v xv : Value) (hs : a.eval sl = v) (hx : a.eval x = xv) (R : Value → World → Prop)
    (hrun : ∃ v' w', (Builtin.append_ #[t, u] o.type #[v, xv]).run Try.prog w = .ok v' w' ∧ R v' w')
    (h : ∀ v' w', R v' w' → wpList Try.prog ops Q rest (a.put o.dst v') w') : wpList Try.prog ops Q (o :: rest) a w := by
  refine wpList_plain hgd fun K hK => ?_
  obtain ⟨v', w', hr, h2⟩ := hrun
  unfold Oper.wp execOp
  simp only [ho, resolve, invoke, builtin, Sem.run_bind, Sem.run_pure, Result.andThen_ok, List.map_toArray, List.map_cons, List.map_nil, hs, hx, hr]
  exact hK _ _ (h v' w' h2)
theorem op_app {o : Oper} {a : Act} {K : Act → World → Prop} {Q : Exit → Act → World → Prop} {w : World} (sl x : Operand) (t u : TypeId)
    (ho : o.op = .call { callee := .builtin .append, args := #[sl, x], argTypes := #[t, u] }) (v xv : Value) (hs : a.eval sl = v) (hx : a.eval x = xv) (R : Value → World → Prop)
    (hrun : ∃ v' w', (Builtin.append_ #[t, u] o.type #[v, xv]).run Try.prog w = .ok v' w' ∧ R v' w')
    (h : ∀ v' w', R v' w' → K (a.put o.dst v') w') : o.wp Try.prog a w K Q := by
  obtain ⟨v', w', hr, h2⟩ := hrun
  unfold Oper.wp execOp
  simp only [ho, resolve, invoke, builtin, Sem.run_bind, Sem.run_pure, Result.andThen_ok, List.map_toArray, List.map_cons, List.map_nil, hs, hx, hr]
  exact h v' w' h2
end Go.Proofs.Ytcfgjfahjaimiaa
