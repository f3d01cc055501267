/-
  kinds' each over fields, copiedDecl and Find: walks.
-/
import Derived.Test.YtcfgjfahjaimiaaUj
import Derived.Test.YtcfgjfahjaimiaaUi
namespace Go.Proofs.Ytcfgjfahjaimiaa
open Go.RowKit
set_option linter.unusedVariables false
set_option linter.unusedSimpArgs false

def fiZ : Fi := ⟨⟨#[]⟩, tyZ⟩
def z6 : Array Value := #[.string ⟨#[]⟩, .int .i64 0, .string ⟨#[]⟩, .string ⟨#[]⟩, .slice none 0 0, .slice none 0 0]
theorem RFi.zero (w : World) (F : Nat → Prop) : RFi w F fiZ z6.toList := ⟨z5.toList, rfl, RT.zero w F⟩
theorem made6 (m : Nat) : (madeCells z6 (6 + m)).toList = z6.toList ++ (madeCells z6 m).toList := by
  have e : ∀ n, (madeCells z6 n).toList = (List.range n).map (fun i => z6[i % z6.size]!) := fun n => by simp [madeCells]
  rw [e, e, List.range_add, List.map_append]
  congr 1
  rw [List.map_map]
  apply List.map_congr_left
  intro i _
  simp [z6]
theorem rows_zeros (w : World) (F : Nat → Prop) : ∀ n : Nat, RowsOf RFi w F (List.replicate n fiZ) (madeCells z6 (n * 6)).toList
  | 0 => by
    show _ = _
    simp [madeCells]
  | n + 1 => by
    rw [show (n + 1) * 6 = 6 + n * 6 by omega, made6]
    simp only [List.replicate_succ]
    exact ⟨_, _, rfl, RFi.zero w F, rows_zeros w F n⟩
theorem info_field : (Try.prog.info? 40).map (fun i => (i.zero, i.size, i.bytes)) = some (some (.agg z6), 6, 104) := by kernel_rfl
theorem run_mkf (n : Nat) (hn : n ≤ 2000000) (w : World) : (Instr.makeSlice 23 (.int .i64 n) (.int .i64 n)).run Try.prog w = .ok (.slice (some ⟨w.heap.size, 0, none⟩) n n) (w.alloc (.cells (madeCells z6 (n * 6)) 40)) := by
  obtain ⟨i, hi, hzz⟩ := Option.map_eq_some_iff.1 info_field
  simp only [Prod.mk.injEq] at hzz
  obtain ⟨hz, hs, hb⟩ := hzz
  have hr := run_make (P := Try.prog) w 23 40 i (.agg z6) Try.underlying23 hi hz .i64 .i64 n n (by omega) (Int.le_refl _) (by rw [hb]; omega) (by omega)
  simp only [Int.toNat_natCast, hs] at hr
  exact hr
theorem FdG.made (w : World) (F : Nat → Prop) (n : Nat) (hF : ¬ F w.heap.size) : FdG 6 40 RFi (w.alloc (.cells (madeCells z6 (n * 6)) 40)) F w.heap.size (List.replicate n fiZ) :=
  ⟨_, Blk.new _ _ _, hF, rows_zeros _ _ _⟩
theorem set_zeroG {α : Type} (z : α) (l : List α) (j f : Nat) (u : α) (h : l[j]? = some u) : (l.take j ++ List.replicate (f + 1) z).set j u = l.take (j + 1) ++ List.replicate f z := by
  have hj := (List.getElem?_eq_some_iff.1 h).1
  have hl : (l.take j).length = j := by simp; omega
  rw [List.set_append_right _ _ (by omega), hl, Nat.sub_self, List.replicate_succ, List.set_cons_zero, List.take_add_one, h, Option.toList_some, List.append_assoc]
  rfl
theorem at_zeroG {α : Type} (z : α) (l : List α) (j f : Nat) (h : j < l.length) : (l.take j ++ List.replicate (f + 1) z)[j]? = some z := by
  have hl : (l.take j).length = j := by simp; omega
  rw [List.getElem?_append_right (by omega), hl, Nat.sub_self, List.replicate_succ]
  rfl
def NewFsP (l : List Fi) (w : World) (e : Ending) (w' : World) : Prop := ∃ A c, e = .returned (.slice A l.length c) ∧ SlG 6 RFi w' (fun k => w.heap.size ≤ k) A l ∧ Below w.heap.size w w'
set_option maxRecDepth 100000 in
set_option maxHeartbeats 4000000 in
theorem cfields_any (l : List Fi) (hl : l.length ≤ 2000) (hc : ∀ f ∈ l, f.ty.count ≤ 2000000) (hok : ∀ f ∈ l, f.ok 140737488355328) (w : World) (F : Nat → Prop) (A : Option Addr) (c : Nat) (ha : SlG 6 RFi w F A l) :
    Calls Try.prog 24 #[.slice A l.length c, .func (Fn.func 26) #[] #[]] w (NewFsP l w) := by
  have HA := Lib.hid ha
  have HCT := Lib.hid hc
  have HOK := Lib.hid hok
  have n0 : (0 : Int) ≤ (l.length : Int) := by omega
  have n1 : (l.length : Int) ≤ 2000000 := by omega
  by_cases hl0 : l.length = 0
  · obtain rfl : l = [] := List.length_eq_zero_iff.1 hl0
    clear ha hl0 HA n0 n1 hl hc hok HCT HOK
    go_enter Try.func24, Try.ntmps24
    go_wp2
    go_loopg [16] 0 (fun gk v16 wr => v16 = .int .i64 0 ∧ wr = w)
    case atStart => exact ⟨rfl, rfl⟩
    case round =>
      obtain ⟨rfl, rfl⟩ := hrel
      go_wp2
      go_ret
      exact ⟨_, _, rfl, SlG.none_ _ _, Below.refl _ _⟩
  · have n2 : (0 : Int) < (l.length : Int) := by omega
    have n3 : decide (0 < l.length) = true := decide_eq_true (by omega)
    have hmk := fun W => run_mkf l.length (by omega) W
    clear ha hl0 hc hok
    go_enter Try.func24, Try.ntmps24
    go_wp2
    go_loopg [16] l.length (fun gk v16 wr => ∃ j : Nat, j + gk = l.length ∧ v16 = .int .i64 j ∧ Below w.heap.size w wr ∧ FdG 6 40 RFi wr (fun k => w.heap.size < k) w.heap.size (l.take j ++ List.replicate gk fiZ))
    case atStart => exact ⟨0, by simp, rfl, (Below.refl _ w).alloc (Nat.le_refl _) _, by simpa using FdG.made w (fun k => w.heap.size < k) l.length (by simp)⟩
    case round =>
      obtain ⟨j, hj, rfl, hb, hfd⟩ := hrel
      have HB := Lib.hid hb
      have HF := Lib.hid hfd
      cases gk with
      | zero =>
        obtain rfl : j = l.length := by omega
        clear hj hfd hb
        go_wp2
        go_ret
        refine ⟨_, _, rfl, ?_, HB.out⟩
        have := HF.out
        rw [List.take_length, List.replicate_zero, List.append_nil] at this
        exact this.slice RFi_keeps RFi_sized (fun k hk => Nat.le_of_lt hk) (Nat.le_refl _)
      | succ f =>
        have hjl : j < l.length := by omega
        obtain ⟨u, hu⟩ : ∃ u, l[j]? = some u := ⟨_, List.getElem?_eq_getElem hjl⟩
        obtain ⟨q, o, vs, rfl, hFq, hgl, hrep, hat⟩ := (HA.out.bel RFi_keeps hb).at_ RFi_sized hu
        have hm := List.mem_of_getElem? hu
        have HI := Lib.hid (fun w' (hb' : Below wr.heap.size wr w') => cfield_any u (HCT.out u hm) (HOK.out u hm) w' F vs (RFi_keeps _ _ _ _ _ _ (fun k _ hl => hb'.block k hl) hb'.size (fun _ _ h => h) hrep))
        obtain ⟨tv, rfl, hrt⟩ := hrep
        obtain ⟨k1, p1, n1', A1, m1', c1, B1, l1, d1, rfl⟩ := hrt.shape
        obtain ⟨nm, hnm⟩ : ∃ nm, u.name = nm := ⟨_, rfl⟩
        simp only [tyC, hnm] at HI hat
        have q0 := hat 0 _ rfl
        have q1 := hat 1 _ rfl
        have q2 := hat 2 _ rfl
        have q3 := hat 3 _ rfl
        have q4 := hat 4 _ rfl
        have q5 := hat 5 _ rfl
        have j1 : (j : Int) < (l.length : Int) := by omega
        simp only [Nat.add_zero] at q0
        have HU := Lib.hid hu
        have HNM := Lib.hid hnm
        clear hat hb hfd hrt hu hm hnm
        go_wp2_with (go_at_call 26; refine (HI.out _ ((Below.refl _ wr).alloc (Nat.le_refl _) _)).mono ?_; rintro e w5 ⟨k2, p2, n2, A2, m2, c2, B2, l2, d2, rfl, hr5, hb5⟩; rw [HNM.out] at hr5 ⊢; have hB5 := ((Below.refl _ wr).alloc (Nat.le_refl wr.heap.size) (.cells #[.string nm, .int .i64 k1, .string p1, .string n1', .slice A1 m1' c1, .slice B1 l1 d1] 40)).trans (hb5.mono (by simp)); have hF5 := HF.out.bel RFi_keeps hB5; obtain ⟨zz, hzr, hat5⟩ := hF5.at_ RFi_sized (at_zeroG fiZ l j f hjl); obtain ⟨zt, rfl, hzr⟩ := hzr; obtain ⟨k3, p3, n3', A3, m3, c3, B3, l3, d3, rfl⟩ := hzr.shape; simp only [tyC] at hat5; have x0 := hat5 0 _ rfl; have x1 := hat5 1 _ rfl; have x2 := hat5 2 _ rfl; have x3 := hat5 3 _ rfl; have x4 := hat5 4 _ rfl; have x5 := hat5 5 _ rfl; rw [Nat.add_zero] at x0; have f0 := hF5.thaw (j * 6); have f1 := hF5.thaw (j * 6 + 1); have f2 := hF5.thaw (j * 6 + 2); have f3 := hF5.thaw (j * 6 + 3); have f4 := hF5.thaw (j * 6 + 4); have f5 := hF5.thaw (j * 6 + 5);  have HR5 := Lib.hid hr5; have HF5 := Lib.hid hF5; have HB5 := Lib.hid hB5; clear hr5 hF5 hB5 hat5 hb5)
        go_roundg f
        case measure => omega
        case rel =>
          have hBl := HB.out.size
          have hP := HF5.out.put RFi_keeps RFi_sized (i := j) (a := u) (by have := List.length_replicate (n := f + 1) (a := fiZ); simp; omega) (RFi_keeps _ _ _ _ _ _ (fun _ _ _ => rfl) (Nat.le_refl _) (fun k _ hk => by simp at hk; show w.heap.size < k; omega) HR5.out)
          rw [set_zeroG fiZ l j f u HU.out] at hP
          exact ⟨j + 1, by omega, by go_num, (HB.out.trans (HB5.out.mono hBl)).trans ((putCs_gr w.heap.size [.string nm, .int .i64 k2, .string p2, .string n2, .slice A2 m2 c2, .slice B2 l2 d2] (j * 6) w5).belowN (HB.out.trans (HB5.out.mono hBl)).size (fun k hk e => by have e2 : k = w.heap.size := e; omega)), hP⟩
end Go.Proofs.Ytcfgjfahjaimiaa
