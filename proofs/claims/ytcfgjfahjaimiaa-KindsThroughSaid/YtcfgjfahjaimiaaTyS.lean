/-
  Infer: walks.
-/
import Derived.Test.YtcfgjfahjaimiaaTyR
namespace Go.Proofs.Ytcfgjfahjaimiaa
open Go.RowKit
set_option linter.unusedVariables false
set_option linter.unusedSimpArgs false

def inferT (l : List ByteArray) (ps ss : List Ty) : Option (List Ty) :=
  if (pairL l ps ss (List.replicate l.length tyZ)).1 = true then
    if (l.any fun s => (foundOf l (pairL l ps ss (List.replicate l.length tyZ)).2 s).kind == 0) = true then none
    else some (l.map (foundOf l (pairL l ps ss (List.replicate l.length tyZ)).2))
  else none
def InferP (r : Option (List Ty)) (w : World) (e : Ending) (w' : World) : Prop :=
  Below w.heap.size w w' ∧ match r with
  | none => e = .returned (.tuple #[.slice none 0 0, .bool false])
  | some ts => ∃ A c, e = .returned (.tuple #[.slice A ts.length c, .bool true]) ∧ SlT w' (fun k => w.heap.size ≤ k) A ts
theorem wpAnyH_three {P : Program} {ops : Array Oper} {Q : Exit → Act → World → Prop} {S : World → Prop} {n i j k : Nat} {L : Array Bool} {a : Act} {w : World} {o u x : Oper} (hr : Region.ready .any ops L = [i, j, k]) (ho : ops[i]? = some o) (hg : o.guard = none) (hu : ops[j]? = some u) (hk : u.guard = none) (hx : ops[k]? = some x) (hy : x.guard = none)
    (h : o.wp P a w (fun a' w' => S w' ∧ wpAnyH P .any ops Q S n (L.setIfInBounds i true) a' w') Q) (h2 : u.wp P a w (fun a' w' => S w' ∧ wpAnyH P .any ops Q S n (L.setIfInBounds j true) a' w') Q) (h3 : x.wp P a w (fun a' w' => S w' ∧ wpAnyH P .any ops Q S n (L.setIfInBounds k true) a' w') Q) : wpAnyH P .any ops Q S (n + 1) L a w := by
  refine wpAnyH_all hr (by simp) fun m hm => ?_
  have hm : m = i ∨ m = j ∨ m = k := by simpa using hm
  have key : ∀ (q : Nat) (p : Oper), ops[q]? = some p → p.guard = none → p.wp P a w (fun a' w' => S w' ∧ wpAnyH P .any ops Q S n (L.setIfInBounds q true) a' w') Q → wpOp P ops Q q (fun a' w' => S w' ∧ wpAnyH P .any ops Q S n (L.setIfInBounds q true) a' w') a w := by
    intro q p hp hpg hpw
    unfold wpOp
    have hw : Region.wanted p (yielded ops a.tmps) = true := by simp [Region.wanted, hpg]
    simp only [hp, hw, if_true]
    exact .inl hpw
  rcases hm with rfl | rfl | rfl
  · exact key _ _ ho hg h
  · exact key _ _ hu hk h2
  · exact key _ _ hx hy h3
/-- The three that a search is made of. -/
structure Three (w W : World) (n : Nat) (l : List ByteArray) (mb gb sb : Nat) : Prop where
  bel : Below w.heap.size w W
  map : PlMap W mb l
  row : Blk W gb 26 (madeCells z5 (n * 5))
  box : Blk W sb 72 #[.map none, .slice none 0 0]
  m0 : w.heap.size ≤ mb
  g0 : w.heap.size ≤ gb
  s0 : w.heap.size ≤ sb
  mg : mb ≠ gb
  sg : sb ≠ gb
  sm : sb ≠ mb
theorem below_one {w W : World} (h : Below w.heap.size w W) (o : Obj) : Below w.heap.size w (W.alloc o) := h.alloc h.size o
theorem PlMap.al {w : World} {b : Nat} {l : List ByteArray} (h : PlMap w b l) (o : Obj) : PlMap (w.alloc o) b l := h.keep (Below.heap_alloc w o b h.lt)
theorem PlMap.bel {w w' : World} {b : Nat} {l : List ByteArray} (h : PlMap w b l) (hb : Below w.heap.size w w') : PlMap w' b l := h.keep (hb.block b h.lt)
theorem takeP_small {l : List ByteArray} {fd : List Ty} {s : ByteArray} {a : Ty} (h : Small fd) (ha : a.count ≤ 2000000 ∧ a.mx ≤ 140737488355328) : Small (takeP l fd s a).2 := by
  unfold takeP
  cases place l s with
  | none => exact h
  | some i =>
    cases hf : fd[i]? with
    | none => simp only [hf]; exact h
    | some u =>
      by_cases hk : u.kind = 0
      · simp only [hf, hk, if_true]
        intro x hx
        rcases List.mem_or_eq_of_mem_set hx with hx | hx
        · exact h x hx
        · rw [hx]; exact ha
      · simp only [hf, hk, if_false]; exact h
theorem thenP_small {r : Bool × List Ty} {f : List Ty → Bool × List Ty} (h : Small r.2) (hf : ∀ fd, Small fd → Small (f fd).2) : Small (thenP r f).2 := by
  unfold thenP
  by_cases h1 : r.1 = true
  · simp only [h1, if_true]; exact hf _ h
  · simp only [h1]; exact h
mutual
theorem pairT_small (l : List ByteArray) : ∀ (a b : Ty) (fd : List Ty), b.count ≤ 2000000 → b.mx ≤ 140737488355328 → Small fd → Small (pairT l a b fd).2
  | .mk k p n la lr, .mk k' p' n' la' lr', fd, hc, hz, h => by
    rw [pairT_mk]
    by_cases h9 : k = 9
    · simp only [h9, if_true]; exact takeP_small h ⟨hc, hz⟩
    · simp only [h9, if_false]
      rw [count_mk] at hc
      rw [mx_mk] at hz
      by_cases h2 : k = k' ∧ (k = 6 ∨ k = 7)
      · rw [if_pos h2]
        exact thenP_small (pairL_small l la la' fd (by omega) (by omega) h) (fun fd1 h1 => pairL_small l lr lr' fd1 (by omega) (by omega) h1)
      · rw [if_neg h2]; exact h
theorem pairL_small (l : List ByteArray) : ∀ (a b : List Ty) (fd : List Ty), countL b ≤ 2000000 → mxL b ≤ 140737488355328 → Small fd → Small (pairL l a b fd).2
  | a :: r, b :: s, fd, hc, hz, h => by
    rw [pairL_cons]
    rw [countL_cons] at hc
    rw [mxL_cons] at hz
    exact thenP_small (pairT_small l a b fd (by omega) (by omega) h) (fun fd1 h1 => pairL_small l r s fd1 (by omega) (by omega) h1)
  | [], s, fd, hc, hz, h => by rw [pairL_nil]; exact h
  | _ :: _, [], fd, hc, hz, h => by rw [pairL_nil2]; exact h
end
theorem small_zero (n : Nat) : Small (List.replicate n tyZ) := by
  intro u hu
  rw [List.eq_of_mem_replicate hu]
  unfold tyZ
  rw [count_mk, mx_mk, countL_nil, mxL_nil]
  exact ⟨by omega, by show max (max 0 0) (max 0 0) ≤ _; omega⟩
theorem SlT.old {w : World} {F : Nat → Prop} {A : Option Addr} {l : List Ty} (h : SlT w F A l) : SlT w (fun k => k < w.heap.size) A l := h.keep (fun _ _ _ => rfl) (Nat.le_refl _) (fun _ hg _ => hg)
theorem SlS.old {w : World} {F : Nat → Prop} {A : Option Addr} {l : List ByteArray} (h : SlS w F A l) : SlS w (fun k => k < w.heap.size) A l := h.keep (fun _ _ _ => rfl) (Nat.le_refl _) (fun _ hg _ => hg)
theorem SlS.gr {w w' : World} {F : Nat → Prop} {g : Nat} {A : Option Addr} {l : List ByteArray} (h : SlS w F A l) (hg : Gr (fun x => x = g) w w') (hF : ¬ F g) : SlS w' F A l :=
  h.keep (fun k hk hl => hg.block k hl (fun e => hF (by rw [← (show k = g from e)]; exact hk))) hg.size (fun _ _ h => h)
set_option maxRecDepth 100000 in
set_option maxHeartbeats 4000000 in
theorem infer_any (l : List ByteArray) (ps ss : List Ty) (hl : l.length ≤ 100000) (hps : countL ps ≤ 2000000) (hpz : mxL ps ≤ 140737488355328) (has : countL ss ≤ 2000000) (haz : mxL ss ≤ 140737488355328) (w : World) (F F' F'' : Nat → Prop) (A B D : Option Addr) (c d f : Nat) (hs : SlS w F A l) (hp : SlT w F' B ps) (ha : SlT w F'' D ss) :
    Calls Try.prog 22 #[.slice A l.length c, .slice B ps.length d, .slice D ss.length f] w (InferP (inferT l ps ss) w) := by
  have HS := Lib.hid (fun w' (h : Below w.heap.size w w') => places_any w' F A c l (hs.bel h) hl)
  have hmk := fun W => run_mk l.length (by omega) W
  have n0 : (0 : Int) ≤ (l.length : Int) := by omega
  have n1 : (l.length : Int) ≤ 100000 := by omega
  go_enter Try.func22, Try.ntmps22
  go_wp2
  rename_i K hK
  have tail : ∀ (mb gb sb : Nat) (V W : World), Three w W l.length l mb gb sb → (W.setCell ⟨sb, 0, none⟩ (.map (some mb))).setCell ⟨sb, 1, none⟩ (.slice (some ⟨gb, 0, none⟩) l.length l.length) = V → K { tmps := #[.slice A l.length c, .slice B ps.length d, .slice D ss.length f, undef, undef, undef, .slice none 0 0, .bool false, .pointer (some ⟨sb, 0, none⟩), undef, undef, .slice A l.length c, .map (some mb), .slice A l.length c, .int .i64 l.length, .slice (some ⟨gb, 0, none⟩) l.length l.length, .agg #[.map (some mb), .slice (some ⟨gb, 0, none⟩) l.length l.length], undef, undef, undef, undef, undef, undef, undef, undef, undef, undef, undef, undef, undef, undef, undef, undef, undef, undef], defers := [] } V := by
    intro mb gb sb V W h3 hV
    refine hK _ _ ?_
    clear hK
    have hsV := (h3.bel.setCell (p := ⟨sb, 0, none⟩) h3.s0 (.map (some mb))).setCell (p := ⟨sb, 1, none⟩) h3.s0 (.slice (some ⟨gb, 0, none⟩) l.length l.length)
    have hbV : Blk V sb 72 #[.map (some mb), .slice (some ⟨gb, 0, none⟩) l.length l.length] := by
      rw [← hV]
      exact (h3.box.set_ 0 _).set_ 1 _
    have hgV : Gr (fun x => x = sb) W V := by
      rw [← hV]
      exact ((Gr.refl W).in_ _ _).in_ _ _
    rw [hV] at hsV
    have hmV : PlMap V mb l := h3.map.keep (hgV.block mb h3.map.lt (fun e => h3.sm (show sb = mb from (show mb = sb from e).symm)))
    have hrV : Blk V gb 26 (madeCells z5 (l.length * 5)) := hgV.blk h3.row (fun e => h3.sg (show sb = gb from (show gb = sb from e).symm))
    have hg0 : ¬ (fun k => k < w.heap.size) gb := by have := h3.g0; show ¬ gb < w.heap.size; omega
    have hscV : Sc V (fun k => k < w.heap.size) mb gb l (List.replicate l.length tyZ) := ⟨hmV, h3.mg, by simp, _, hrV, hg0, RTs.zeros _ _ _⟩
    have hP := pairs_pair l 2000000 (pair_all l hl 2000000 (Nat.le_refl _)) (Nat.le_refl _) ps ss hps (by unfold maxLen; omega) V _ _ mb gb l.length (List.replicate l.length tyZ) B D d f hscV (hp.old.bel hsV) hg0 hg0 (ha.old.bel hsV) has
    have hPl := pairL_len l ps ss (List.replicate l.length tyZ)
    have hPs := pairL_small l ps ss (List.replicate l.length tyZ) has haz (small_zero _)
    obtain ⟨r, hr⟩ : ∃ r, pairL l ps ss (List.replicate l.length tyZ) = r := ⟨_, rfl⟩
    have hI : inferT l ps ss = if r.1 = true then if (l.any fun s => (foundOf l r.2 s).kind == 0) = true then none else some (l.map (foundOf l r.2)) else none := by unfold inferT; rw [hr]
    rw [hr] at hP hPl hPs
    obtain ⟨b1, fd⟩ := r
    have HP := Lib.hid hP
    have x0 := hbV.cell 0
    have x1 := hbV.cell 1
    have xl := hbV.lt
    have HSV := Lib.hid hsV
    have HI := Lib.hid hI
    have HAF := Lib.hid (fun w' (h : Gr (fun x => x = gb) V w') (hf : Fd w' (fun k => k < w.heap.size) gb fd) => first_any w' _ _ A c mb gb l.length l fd (hscV.gr h hf hPl) ((hs.old.bel hsV).gr h hg0) hl)
    have HAE := Lib.hid (fun w' (h : Gr (fun x => x = gb) V w') (hf : Fd w' (fun k => k < w.heap.size) gb fd) w'' (h2 : Below w'.heap.size w' w'') => each_typeOf w'' _ _ A c mb gb l.length l fd ((hscV.gr h hf hPl).bel h2) (((hs.old.bel hsV).gr h hg0).bel h2) hl hPs)
    have HB5 := Lib.hid hbV
    have HSG := Lib.hid h3.sg
    have HG0 := Lib.hid h3.g0
    obtain ⟨b2, hb2⟩ : ∃ b, (l.any fun s => (foundOf l fd s).kind == 0) = b := ⟨_, rfl⟩
    simp only [hb2] at HAF HI
    have HBW := Lib.hid (fun w' (h : Gr (fun x => x = gb) V w') => (show Below w.heap.size w w' from ⟨h.os.trans hsV.os, h.tape.trans hsV.tape, h.output.trans hsV.output, Nat.le_trans hsV.size h.size, fun k hk => (h.block k (Nat.lt_of_lt_of_le hk hsV.size) (fun e => by have := h3.g0; have : k = gb := e; omega)).trans (hsV.block k hk)⟩))
    clear hsV hbV hgV hmV hrV hg0 hscV hP hPl hPs hI h3 hV hb2 hr HS hmk hs hp ha
    cases b1 with
    | false =>
      go_wp2_with (go_at_call 41; refine HP.out.mono ?_; rintro e w5 ⟨rfl, hf5, hg5⟩)
      go_ret2
      refine ⟨HBW.out _ hg5, ?_⟩
      rw [HI.out]
      rfl
    | true =>
      cases b2 with
      | true =>
        go_wp2_with (first | (go_at_call 41; ((with_reducible refine HP.out.mono ?_); rintro e w5 ⟨rfl, hf5, hg5⟩; have hb5 := hg5.blk HB5.out HSG.out; have y0 := hb5.cell 0; have y1 := hb5.cell 1; have yl := hb5.lt)) | (go_at_call 43; ((with_reducible refine (HAF.out _ hg5 hf5).mono ?_); rintro e w6 ⟨⟨s6, rfl⟩, hl6⟩)))
        go_ret2
        refine ⟨(HBW.out _ hg5).trans (hl6.mono (HBW.out _ hg5).size), ?_⟩
        rw [HI.out]
        rfl
      | false =>
        go_wp2_with (first | (go_at_call 41; ((with_reducible refine HP.out.mono ?_); rintro e w5 ⟨rfl, hf5, hg5⟩; have hb5 := hg5.blk HB5.out HSG.out; have y0 := hb5.cell 0; have y1 := hb5.cell 1; have yl := hb5.lt)) | (go_at_call 43; ((with_reducible refine (HAF.out _ hg5 hf5).mono ?_); rintro e w6 ⟨⟨s6, rfl⟩, hl6⟩; have hb6 := hb5.bel2 hl6; have z0 := hb6.cell 0; have z1 := hb6.cell 1; have zl := hb6.lt)) | (go_at_call 45; ((with_reducible refine (HAE.out _ hg5 hf5 _ hl6).mono ?_); rintro e w7 ⟨A7, c7, rfl, hs7, hl7⟩)))
        go_ret2
        have hB6 := (HBW.out _ hg5).trans (hl6.mono (HBW.out _ hg5).size)
        refine ⟨hB6.trans (hl7.mono hB6.size), ?_⟩
        rw [HI.out]
        exact ⟨A7, c7, by rw [List.length_map]; rfl, hs7.keep (fun _ _ _ => rfl) (Nat.le_refl _) (fun k _ hk => by have : w6.heap.size ≤ k := hk; have := hB6.size; show w.heap.size ≤ k; omega)⟩
  clear hK
  have HTL := Lib.hid tail
  clear tail
  refine wp_region_held_drew (S := fun V => Below w.heap.size w V) (by kernel_rfl) (Below.refl _ w).drew (fun hS0 => ?_)
  refine wpAnyH_take (i := 0) (v := .slice A l.length c) rfl (by kernel_rfl) (by kernel_rfl) (by kernel_rfl) (fun _ _ _ h => h) (Or.inl ⟨rfl, fun w' hS => by (unfold execOp; go_simp)⟩) hS0 ?_
  simp only [Act.put, List.getElem_toArray, List.getElem_cons_zero, List.getElem_cons_succ, List.setIfInBounds_toArray, List.set_cons_zero, List.set_cons_succ]
  refine wpAnyH_take (i := 2) (v := .slice A l.length c) rfl (by kernel_rfl) (by kernel_rfl) (by kernel_rfl) (fun _ _ _ h => h) (Or.inl ⟨rfl, fun w' hS => by (unfold execOp; go_simp)⟩) hS0 ?_
  simp only [Act.put, List.getElem_toArray, List.getElem_cons_zero, List.getElem_cons_succ, List.setIfInBounds_toArray, List.set_cons_zero, List.set_cons_succ]
  refine wpAnyH_take (i := 3) (v := .int .i64 l.length) rfl (by kernel_rfl) (by kernel_rfl) (by kernel_rfl) (fun _ _ _ h => h) (Or.inl ⟨rfl, fun w' hS => by (unfold execOp; go_simp)⟩) hS0 ?_
  simp only [Act.put, List.getElem_toArray, List.getElem_cons_zero, List.getElem_cons_succ, List.setIfInBounds_toArray, List.set_cons_zero, List.set_cons_succ]
  generalize w.drew = W0 at hS0 ⊢
  refine wpAnyH_three (i := 1) (j := 4) (k := 6) (by kernel_rfl) rfl rfl rfl rfl rfl rfl (op_call (args := #[.slice A l.length c]) (f := 40) (by unfold execOp; go_simp) ((HS.out _ hS0).mono ?_)) (op_val (w' := W0.alloc (.cells (madeCells z5 (l.length * 5)) 26)) (v := .slice (some ⟨W0.heap.size, 0, none⟩) l.length l.length) (by unfold execOp; go_simp) ?_) (op_val (w' := W0.alloc (.cells #[.map none, .slice none 0 0] 72)) (v := .pointer (some ⟨W0.heap.size, 0, none⟩)) (by unfold execOp; go_simp) ?_)
  · rintro e w1 ⟨rfl, hp1, hl1⟩
    have hb1 := hS0.trans (hl1.mono hS0.size)
    refine And.intro hb1 ?_
    simp only [Act.put, List.getElem_toArray, List.getElem_cons_zero, List.getElem_cons_succ, List.setIfInBounds_toArray, List.set_cons_zero, List.set_cons_succ]
    refine wpAnyH_two (i := 4) (j := 6) (by kernel_rfl) rfl rfl rfl rfl (op_val (w' := w1.alloc (.cells (madeCells z5 (l.length * 5)) 26)) (v := .slice (some ⟨w1.heap.size, 0, none⟩) l.length l.length) (by unfold execOp; go_simp) ?_) (op_val (w' := w1.alloc (.cells #[.map none, .slice none 0 0] 72)) (v := .pointer (some ⟨w1.heap.size, 0, none⟩)) (by unfold execOp; go_simp) ?_)
    · have hr4 := Blk.new w1 26 (madeCells z5 (l.length * 5))
      have hl4 := (Below.refl w1.heap.size w1).alloc (Nat.le_refl _) (.cells (madeCells z5 (l.length * 5)) 26)
      have hb4 := below_one hb1 (.cells (madeCells z5 (l.length * 5)) 26)
      generalize w1.alloc (.cells (madeCells z5 (l.length * 5)) 26) = w4 at hr4 hl4 hb4 ⊢
      refine And.intro hb4 ?_
      simp only [Act.put, List.getElem_toArray, List.getElem_cons_zero, List.getElem_cons_succ, List.setIfInBounds_toArray, List.set_cons_zero, List.set_cons_succ]
      refine wpAnyH_take (i := 5) (v := .agg #[.map (some W0.heap.size), .slice (some ⟨w1.heap.size, 0, none⟩) l.length l.length]) rfl (by kernel_rfl) (by kernel_rfl) (by kernel_rfl) (fun _ _ _ h => h) (Or.inl ⟨rfl, fun w' hS => by (unfold execOp; go_simp)⟩) hb4 ?_
      simp only [Act.put, List.getElem_toArray, List.getElem_cons_zero, List.getElem_cons_succ, List.setIfInBounds_toArray, List.set_cons_zero, List.set_cons_succ]
      refine wpAnyH_one (i := 6) (by kernel_rfl) rfl rfl (op_val (w' := w4.alloc (.cells #[.map none, .slice none 0 0] 72)) (v := .pointer (some ⟨w4.heap.size, 0, none⟩)) (by unfold execOp; go_simp) ?_)
      have hr6 := Blk.new w4 72 #[.map none, .slice none 0 0]
      have hl6 := (Below.refl w4.heap.size w4).alloc (Nat.le_refl _) (.cells #[.map none, .slice none 0 0] 72)
      have hb6 := below_one hb4 (.cells #[.map none, .slice none 0 0] 72)
      generalize w4.alloc (.cells #[.map none, .slice none 0 0] 72) = w6 at hr6 hl6 hb6 ⊢
      refine And.intro hb6 ?_
      simp only [Act.put, List.getElem_toArray, List.getElem_cons_zero, List.getElem_cons_succ, List.setIfInBounds_toArray, List.set_cons_zero, List.set_cons_succ]
      have hp1lt := hp1.lt
      have hr4lt := hr4.lt
      have hr6lt := hr6.lt
      have hz1 := hl1.size
      have hz4 := hl4.size
      have hz6 := hl6.size
      have hy1 := hb1.size
      have hy4 := hb4.size
      have hy6 := hb6.size
      have hyS := hS0.size
      have h3 : Three w w6 l.length l W0.heap.size w1.heap.size w4.heap.size := ⟨hb6, ((hp1.bel hl4).bel hl6), (hr4.bel2 hl6), hr6, by omega, by omega, by omega, by omega, by omega, by omega⟩
      clear hz1 hy1 hz4 hy4 hz6 hy6 hyS hp1lt hr4lt hr6lt
      have x0 := h3.box.cell 0
      have x1 := h3.box.cell 1
      have f0 := h3.box.frozen 0
      have f1 := h3.box.frozen 1
      obtain ⟨V, hVe⟩ : ∃ V, (w6.setCell ⟨w4.heap.size, 0, none⟩ (.map (some W0.heap.size))).setCell ⟨w4.heap.size, 1, none⟩ (.slice (some ⟨w1.heap.size, 0, none⟩) l.length l.length) = V := ⟨_, rfl⟩
      refine wpAnyH_one (i := 7) (by kernel_rfl) rfl rfl (op_skip (w' := V) (by rw [← hVe]; unfold execOp; go_simp) (And.intro (by rw [← hVe]; exact (hb6.setCell (p := ⟨w4.heap.size, 0, none⟩) h3.s0 _).setCell (p := ⟨w4.heap.size, 1, none⟩) h3.s0 _) ?_))
      simp only [Act.put, List.getElem_toArray, List.getElem_cons_zero, List.getElem_cons_succ, List.setIfInBounds_toArray, List.set_cons_zero, List.set_cons_succ]
      refine wpAnyH_done (by kernel_rfl) ?_ _
      exact HTL.out _ _ _ _ _ h3 hVe
    · have hr6 := Blk.new w1 72 #[.map none, .slice none 0 0]
      have hl6 := (Below.refl w1.heap.size w1).alloc (Nat.le_refl _) (.cells #[.map none, .slice none 0 0] 72)
      have hb6 := below_one hb1 (.cells #[.map none, .slice none 0 0] 72)
      generalize w1.alloc (.cells #[.map none, .slice none 0 0] 72) = w6 at hr6 hl6 hb6 ⊢
      refine And.intro hb6 ?_
      simp only [Act.put, List.getElem_toArray, List.getElem_cons_zero, List.getElem_cons_succ, List.setIfInBounds_toArray, List.set_cons_zero, List.set_cons_succ]
      refine wpAnyH_one (i := 4) (by kernel_rfl) rfl rfl (op_val (w' := w6.alloc (.cells (madeCells z5 (l.length * 5)) 26)) (v := .slice (some ⟨w6.heap.size, 0, none⟩) l.length l.length) (by unfold execOp; go_simp) ?_)
      have hr4 := Blk.new w6 26 (madeCells z5 (l.length * 5))
      have hl4 := (Below.refl w6.heap.size w6).alloc (Nat.le_refl _) (.cells (madeCells z5 (l.length * 5)) 26)
      have hb4 := below_one hb6 (.cells (madeCells z5 (l.length * 5)) 26)
      generalize w6.alloc (.cells (madeCells z5 (l.length * 5)) 26) = w4 at hr4 hl4 hb4 ⊢
      refine And.intro hb4 ?_
      simp only [Act.put, List.getElem_toArray, List.getElem_cons_zero, List.getElem_cons_succ, List.setIfInBounds_toArray, List.set_cons_zero, List.set_cons_succ]
      refine wpAnyH_take (i := 5) (v := .agg #[.map (some W0.heap.size), .slice (some ⟨w6.heap.size, 0, none⟩) l.length l.length]) rfl (by kernel_rfl) (by kernel_rfl) (by kernel_rfl) (fun _ _ _ h => h) (Or.inl ⟨rfl, fun w' hS => by (unfold execOp; go_simp)⟩) hb4 ?_
      simp only [Act.put, List.getElem_toArray, List.getElem_cons_zero, List.getElem_cons_succ, List.setIfInBounds_toArray, List.set_cons_zero, List.set_cons_succ]
      have hp1lt := hp1.lt
      have hr4lt := hr4.lt
      have hr6lt := hr6.lt
      have hz1 := hl1.size
      have hz6 := hl6.size
      have hz4 := hl4.size
      have hy1 := hb1.size
      have hy6 := hb6.size
      have hy4 := hb4.size
      have hyS := hS0.size
      have h3 : Three w w4 l.length l W0.heap.size w6.heap.size w1.heap.size := ⟨hb4, ((hp1.bel hl6).bel hl4), hr4, (hr6.bel2 hl4), by omega, by omega, by omega, by omega, by omega, by omega⟩
      clear hz1 hy1 hz6 hy6 hz4 hy4 hyS hp1lt hr4lt hr6lt
      have x0 := h3.box.cell 0
      have x1 := h3.box.cell 1
      have f0 := h3.box.frozen 0
      have f1 := h3.box.frozen 1
      obtain ⟨V, hVe⟩ : ∃ V, (w4.setCell ⟨w1.heap.size, 0, none⟩ (.map (some W0.heap.size))).setCell ⟨w1.heap.size, 1, none⟩ (.slice (some ⟨w6.heap.size, 0, none⟩) l.length l.length) = V := ⟨_, rfl⟩
      refine wpAnyH_one (i := 7) (by kernel_rfl) rfl rfl (op_skip (w' := V) (by rw [← hVe]; unfold execOp; go_simp) (And.intro (by rw [← hVe]; exact (hb4.setCell (p := ⟨w1.heap.size, 0, none⟩) h3.s0 _).setCell (p := ⟨w1.heap.size, 1, none⟩) h3.s0 _) ?_))
      simp only [Act.put, List.getElem_toArray, List.getElem_cons_zero, List.getElem_cons_succ, List.setIfInBounds_toArray, List.set_cons_zero, List.set_cons_succ]
      refine wpAnyH_done (by kernel_rfl) ?_ _
      exact HTL.out _ _ _ _ _ h3 hVe
  · have hr4 := Blk.new W0 26 (madeCells z5 (l.length * 5))
    have hl4 := (Below.refl W0.heap.size W0).alloc (Nat.le_refl _) (.cells (madeCells z5 (l.length * 5)) 26)
    have hb4 := below_one hS0 (.cells (madeCells z5 (l.length * 5)) 26)
    generalize W0.alloc (.cells (madeCells z5 (l.length * 5)) 26) = w4 at hr4 hl4 hb4 ⊢
    refine And.intro hb4 ?_
    simp only [Act.put, List.getElem_toArray, List.getElem_cons_zero, List.getElem_cons_succ, List.setIfInBounds_toArray, List.set_cons_zero, List.set_cons_succ]
    refine wpAnyH_two (i := 1) (j := 6) (by kernel_rfl) rfl rfl rfl rfl (op_call (args := #[.slice A l.length c]) (f := 40) (by unfold execOp; go_simp) ((HS.out _ hb4).mono ?_)) (op_val (w' := w4.alloc (.cells #[.map none, .slice none 0 0] 72)) (v := .pointer (some ⟨w4.heap.size, 0, none⟩)) (by unfold execOp; go_simp) ?_)
    · rintro e w1 ⟨rfl, hp1, hl1⟩
      have hb1 := hb4.trans (hl1.mono hb4.size)
      refine And.intro hb1 ?_
      simp only [Act.put, List.getElem_toArray, List.getElem_cons_zero, List.getElem_cons_succ, List.setIfInBounds_toArray, List.set_cons_zero, List.set_cons_succ]
      refine wpAnyH_take (i := 5) (v := .agg #[.map (some w4.heap.size), .slice (some ⟨W0.heap.size, 0, none⟩) l.length l.length]) rfl (by kernel_rfl) (by kernel_rfl) (by kernel_rfl) (fun _ _ _ h => h) (Or.inl ⟨rfl, fun w' hS => by (unfold execOp; go_simp)⟩) hb1 ?_
      simp only [Act.put, List.getElem_toArray, List.getElem_cons_zero, List.getElem_cons_succ, List.setIfInBounds_toArray, List.set_cons_zero, List.set_cons_succ]
      refine wpAnyH_one (i := 6) (by kernel_rfl) rfl rfl (op_val (w' := w1.alloc (.cells #[.map none, .slice none 0 0] 72)) (v := .pointer (some ⟨w1.heap.size, 0, none⟩)) (by unfold execOp; go_simp) ?_)
      have hr6 := Blk.new w1 72 #[.map none, .slice none 0 0]
      have hl6 := (Below.refl w1.heap.size w1).alloc (Nat.le_refl _) (.cells #[.map none, .slice none 0 0] 72)
      have hb6 := below_one hb1 (.cells #[.map none, .slice none 0 0] 72)
      generalize w1.alloc (.cells #[.map none, .slice none 0 0] 72) = w6 at hr6 hl6 hb6 ⊢
      refine And.intro hb6 ?_
      simp only [Act.put, List.getElem_toArray, List.getElem_cons_zero, List.getElem_cons_succ, List.setIfInBounds_toArray, List.set_cons_zero, List.set_cons_succ]
      have hp1lt := hp1.lt
      have hr4lt := hr4.lt
      have hr6lt := hr6.lt
      have hz4 := hl4.size
      have hz1 := hl1.size
      have hz6 := hl6.size
      have hy4 := hb4.size
      have hy1 := hb1.size
      have hy6 := hb6.size
      have hyS := hS0.size
      have h3 : Three w w6 l.length l w4.heap.size W0.heap.size w1.heap.size := ⟨hb6, (hp1.bel hl6), ((hr4.bel2 hl1).bel2 hl6), hr6, by omega, by omega, by omega, by omega, by omega, by omega⟩
      clear hz4 hy4 hz1 hy1 hz6 hy6 hyS hp1lt hr4lt hr6lt
      have x0 := h3.box.cell 0
      have x1 := h3.box.cell 1
      have f0 := h3.box.frozen 0
      have f1 := h3.box.frozen 1
      obtain ⟨V, hVe⟩ : ∃ V, (w6.setCell ⟨w1.heap.size, 0, none⟩ (.map (some w4.heap.size))).setCell ⟨w1.heap.size, 1, none⟩ (.slice (some ⟨W0.heap.size, 0, none⟩) l.length l.length) = V := ⟨_, rfl⟩
      refine wpAnyH_one (i := 7) (by kernel_rfl) rfl rfl (op_skip (w' := V) (by rw [← hVe]; unfold execOp; go_simp) (And.intro (by rw [← hVe]; exact (hb6.setCell (p := ⟨w1.heap.size, 0, none⟩) h3.s0 _).setCell (p := ⟨w1.heap.size, 1, none⟩) h3.s0 _) ?_))
      simp only [Act.put, List.getElem_toArray, List.getElem_cons_zero, List.getElem_cons_succ, List.setIfInBounds_toArray, List.set_cons_zero, List.set_cons_succ]
      refine wpAnyH_done (by kernel_rfl) ?_ _
      exact HTL.out _ _ _ _ _ h3 hVe
    · have hr6 := Blk.new w4 72 #[.map none, .slice none 0 0]
      have hl6 := (Below.refl w4.heap.size w4).alloc (Nat.le_refl _) (.cells #[.map none, .slice none 0 0] 72)
      have hb6 := below_one hb4 (.cells #[.map none, .slice none 0 0] 72)
      generalize w4.alloc (.cells #[.map none, .slice none 0 0] 72) = w6 at hr6 hl6 hb6 ⊢
      refine And.intro hb6 ?_
      simp only [Act.put, List.getElem_toArray, List.getElem_cons_zero, List.getElem_cons_succ, List.setIfInBounds_toArray, List.set_cons_zero, List.set_cons_succ]
      refine wpAnyH_one (i := 1) (by kernel_rfl) rfl rfl (op_call (args := #[.slice A l.length c]) (f := 40) (by unfold execOp; go_simp) ((HS.out _ hb6).mono ?_))
      rintro e w1 ⟨rfl, hp1, hl1⟩
      have hb1 := hb6.trans (hl1.mono hb6.size)
      refine And.intro hb1 ?_
      simp only [Act.put, List.getElem_toArray, List.getElem_cons_zero, List.getElem_cons_succ, List.setIfInBounds_toArray, List.set_cons_zero, List.set_cons_succ]
      refine wpAnyH_take (i := 5) (v := .agg #[.map (some w6.heap.size), .slice (some ⟨W0.heap.size, 0, none⟩) l.length l.length]) rfl (by kernel_rfl) (by kernel_rfl) (by kernel_rfl) (fun _ _ _ h => h) (Or.inl ⟨rfl, fun w' hS => by (unfold execOp; go_simp)⟩) hb1 ?_
      simp only [Act.put, List.getElem_toArray, List.getElem_cons_zero, List.getElem_cons_succ, List.setIfInBounds_toArray, List.set_cons_zero, List.set_cons_succ]
      have hp1lt := hp1.lt
      have hr4lt := hr4.lt
      have hr6lt := hr6.lt
      have hz4 := hl4.size
      have hz6 := hl6.size
      have hz1 := hl1.size
      have hy4 := hb4.size
      have hy6 := hb6.size
      have hy1 := hb1.size
      have hyS := hS0.size
      have h3 : Three w w1 l.length l w6.heap.size W0.heap.size w4.heap.size := ⟨hb1, hp1, ((hr4.bel2 hl6).bel2 hl1), (hr6.bel2 hl1), by omega, by omega, by omega, by omega, by omega, by omega⟩
      clear hz4 hy4 hz6 hy6 hz1 hy1 hyS hp1lt hr4lt hr6lt
      have x0 := h3.box.cell 0
      have x1 := h3.box.cell 1
      have f0 := h3.box.frozen 0
      have f1 := h3.box.frozen 1
      obtain ⟨V, hVe⟩ : ∃ V, (w1.setCell ⟨w4.heap.size, 0, none⟩ (.map (some w6.heap.size))).setCell ⟨w4.heap.size, 1, none⟩ (.slice (some ⟨W0.heap.size, 0, none⟩) l.length l.length) = V := ⟨_, rfl⟩
      refine wpAnyH_one (i := 7) (by kernel_rfl) rfl rfl (op_skip (w' := V) (by rw [← hVe]; unfold execOp; go_simp) (And.intro (by rw [← hVe]; exact (hb1.setCell (p := ⟨w4.heap.size, 0, none⟩) h3.s0 _).setCell (p := ⟨w4.heap.size, 1, none⟩) h3.s0 _) ?_))
      simp only [Act.put, List.getElem_toArray, List.getElem_cons_zero, List.getElem_cons_succ, List.setIfInBounds_toArray, List.set_cons_zero, List.set_cons_succ]
      refine wpAnyH_done (by kernel_rfl) ?_ _
      exact HTL.out _ _ _ _ _ h3 hVe
  · have hr6 := Blk.new W0 72 #[.map none, .slice none 0 0]
    have hl6 := (Below.refl W0.heap.size W0).alloc (Nat.le_refl _) (.cells #[.map none, .slice none 0 0] 72)
    have hb6 := below_one hS0 (.cells #[.map none, .slice none 0 0] 72)
    generalize W0.alloc (.cells #[.map none, .slice none 0 0] 72) = w6 at hr6 hl6 hb6 ⊢
    refine And.intro hb6 ?_
    simp only [Act.put, List.getElem_toArray, List.getElem_cons_zero, List.getElem_cons_succ, List.setIfInBounds_toArray, List.set_cons_zero, List.set_cons_succ]
    refine wpAnyH_two (i := 1) (j := 4) (by kernel_rfl) rfl rfl rfl rfl (op_call (args := #[.slice A l.length c]) (f := 40) (by unfold execOp; go_simp) ((HS.out _ hb6).mono ?_)) (op_val (w' := w6.alloc (.cells (madeCells z5 (l.length * 5)) 26)) (v := .slice (some ⟨w6.heap.size, 0, none⟩) l.length l.length) (by unfold execOp; go_simp) ?_)
    · rintro e w1 ⟨rfl, hp1, hl1⟩
      have hb1 := hb6.trans (hl1.mono hb6.size)
      refine And.intro hb1 ?_
      simp only [Act.put, List.getElem_toArray, List.getElem_cons_zero, List.getElem_cons_succ, List.setIfInBounds_toArray, List.set_cons_zero, List.set_cons_succ]
      refine wpAnyH_one (i := 4) (by kernel_rfl) rfl rfl (op_val (w' := w1.alloc (.cells (madeCells z5 (l.length * 5)) 26)) (v := .slice (some ⟨w1.heap.size, 0, none⟩) l.length l.length) (by unfold execOp; go_simp) ?_)
      have hr4 := Blk.new w1 26 (madeCells z5 (l.length * 5))
      have hl4 := (Below.refl w1.heap.size w1).alloc (Nat.le_refl _) (.cells (madeCells z5 (l.length * 5)) 26)
      have hb4 := below_one hb1 (.cells (madeCells z5 (l.length * 5)) 26)
      generalize w1.alloc (.cells (madeCells z5 (l.length * 5)) 26) = w4 at hr4 hl4 hb4 ⊢
      refine And.intro hb4 ?_
      simp only [Act.put, List.getElem_toArray, List.getElem_cons_zero, List.getElem_cons_succ, List.setIfInBounds_toArray, List.set_cons_zero, List.set_cons_succ]
      refine wpAnyH_take (i := 5) (v := .agg #[.map (some w6.heap.size), .slice (some ⟨w1.heap.size, 0, none⟩) l.length l.length]) rfl (by kernel_rfl) (by kernel_rfl) (by kernel_rfl) (fun _ _ _ h => h) (Or.inl ⟨rfl, fun w' hS => by (unfold execOp; go_simp)⟩) hb4 ?_
      simp only [Act.put, List.getElem_toArray, List.getElem_cons_zero, List.getElem_cons_succ, List.setIfInBounds_toArray, List.set_cons_zero, List.set_cons_succ]
      have hp1lt := hp1.lt
      have hr4lt := hr4.lt
      have hr6lt := hr6.lt
      have hz6 := hl6.size
      have hz1 := hl1.size
      have hz4 := hl4.size
      have hy6 := hb6.size
      have hy1 := hb1.size
      have hy4 := hb4.size
      have hyS := hS0.size
      have h3 : Three w w4 l.length l w6.heap.size w1.heap.size W0.heap.size := ⟨hb4, (hp1.bel hl4), hr4, ((hr6.bel2 hl1).bel2 hl4), by omega, by omega, by omega, by omega, by omega, by omega⟩
      clear hz6 hy6 hz1 hy1 hz4 hy4 hyS hp1lt hr4lt hr6lt
      have x0 := h3.box.cell 0
      have x1 := h3.box.cell 1
      have f0 := h3.box.frozen 0
      have f1 := h3.box.frozen 1
      obtain ⟨V, hVe⟩ : ∃ V, (w4.setCell ⟨W0.heap.size, 0, none⟩ (.map (some w6.heap.size))).setCell ⟨W0.heap.size, 1, none⟩ (.slice (some ⟨w1.heap.size, 0, none⟩) l.length l.length) = V := ⟨_, rfl⟩
      refine wpAnyH_one (i := 7) (by kernel_rfl) rfl rfl (op_skip (w' := V) (by rw [← hVe]; unfold execOp; go_simp) (And.intro (by rw [← hVe]; exact (hb4.setCell (p := ⟨W0.heap.size, 0, none⟩) h3.s0 _).setCell (p := ⟨W0.heap.size, 1, none⟩) h3.s0 _) ?_))
      simp only [Act.put, List.getElem_toArray, List.getElem_cons_zero, List.getElem_cons_succ, List.setIfInBounds_toArray, List.set_cons_zero, List.set_cons_succ]
      refine wpAnyH_done (by kernel_rfl) ?_ _
      exact HTL.out _ _ _ _ _ h3 hVe
    · have hr4 := Blk.new w6 26 (madeCells z5 (l.length * 5))
      have hl4 := (Below.refl w6.heap.size w6).alloc (Nat.le_refl _) (.cells (madeCells z5 (l.length * 5)) 26)
      have hb4 := below_one hb6 (.cells (madeCells z5 (l.length * 5)) 26)
      generalize w6.alloc (.cells (madeCells z5 (l.length * 5)) 26) = w4 at hr4 hl4 hb4 ⊢
      refine And.intro hb4 ?_
      simp only [Act.put, List.getElem_toArray, List.getElem_cons_zero, List.getElem_cons_succ, List.setIfInBounds_toArray, List.set_cons_zero, List.set_cons_succ]
      refine wpAnyH_one (i := 1) (by kernel_rfl) rfl rfl (op_call (args := #[.slice A l.length c]) (f := 40) (by unfold execOp; go_simp) ((HS.out _ hb4).mono ?_))
      rintro e w1 ⟨rfl, hp1, hl1⟩
      have hb1 := hb4.trans (hl1.mono hb4.size)
      refine And.intro hb1 ?_
      simp only [Act.put, List.getElem_toArray, List.getElem_cons_zero, List.getElem_cons_succ, List.setIfInBounds_toArray, List.set_cons_zero, List.set_cons_succ]
      refine wpAnyH_take (i := 5) (v := .agg #[.map (some w4.heap.size), .slice (some ⟨w6.heap.size, 0, none⟩) l.length l.length]) rfl (by kernel_rfl) (by kernel_rfl) (by kernel_rfl) (fun _ _ _ h => h) (Or.inl ⟨rfl, fun w' hS => by (unfold execOp; go_simp)⟩) hb1 ?_
      simp only [Act.put, List.getElem_toArray, List.getElem_cons_zero, List.getElem_cons_succ, List.setIfInBounds_toArray, List.set_cons_zero, List.set_cons_succ]
      have hp1lt := hp1.lt
      have hr4lt := hr4.lt
      have hr6lt := hr6.lt
      have hz6 := hl6.size
      have hz4 := hl4.size
      have hz1 := hl1.size
      have hy6 := hb6.size
      have hy4 := hb4.size
      have hy1 := hb1.size
      have hyS := hS0.size
      have h3 : Three w w1 l.length l w4.heap.size w6.heap.size W0.heap.size := ⟨hb1, hp1, (hr4.bel2 hl1), ((hr6.bel2 hl4).bel2 hl1), by omega, by omega, by omega, by omega, by omega, by omega⟩
      clear hz6 hy6 hz4 hy4 hz1 hy1 hyS hp1lt hr4lt hr6lt
      have x0 := h3.box.cell 0
      have x1 := h3.box.cell 1
      have f0 := h3.box.frozen 0
      have f1 := h3.box.frozen 1
      obtain ⟨V, hVe⟩ : ∃ V, (w1.setCell ⟨W0.heap.size, 0, none⟩ (.map (some w4.heap.size))).setCell ⟨W0.heap.size, 1, none⟩ (.slice (some ⟨w6.heap.size, 0, none⟩) l.length l.length) = V := ⟨_, rfl⟩
      refine wpAnyH_one (i := 7) (by kernel_rfl) rfl rfl (op_skip (w' := V) (by rw [← hVe]; unfold execOp; go_simp) (And.intro (by rw [← hVe]; exact (hb1.setCell (p := ⟨W0.heap.size, 0, none⟩) h3.s0 _).setCell (p := ⟨W0.heap.size, 1, none⟩) h3.s0 _) ?_))
      simp only [Act.put, List.getElem_toArray, List.getElem_cons_zero, List.getElem_cons_succ, List.setIfInBounds_toArray, List.set_cons_zero, List.set_cons_succ]
      refine wpAnyH_done (by kernel_rfl) ?_ _
      exact HTL.out _ _ _ _ _ h3 hVe
end Go.Proofs.Ytcfgjfahjaimiaa
