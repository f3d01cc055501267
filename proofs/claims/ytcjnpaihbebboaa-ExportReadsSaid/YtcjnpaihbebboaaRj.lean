/-
  How large what was read can be.
-/
import Derived.Test.YtcjnpaihbebboaaRi
namespace Go.Proofs.Ytcjnpaihbebboaa
open Go.RowKit
set_option linter.unusedVariables false
set_option linter.unusedSimpArgs false

theorem encS8_len (s : ByteArray) : (encS8 s).length = 8 + s.size := by unfold encS8; rw [List.length_append, le8_len, sB_len]
theorem encLn_len {α : Type} (enc : α → List Int) (l : List α) : (encLn enc l).length = 8 + (encL enc l).length := by unfold encLn; rw [List.length_append, le8_len]
theorem encL_mem {α : Type} (enc : α → List Int) : ∀ (l : List α) (a : α), a ∈ l → (enc a).length ≤ (encL enc l).length
  | [], a, h => by cases h
  | b :: r, a, h => by
    have e : encL enc (b :: r) = enc b ++ encL enc r := rfl
    rw [e, List.length_append]
    rcases List.mem_cons.1 h with rfl | h
    · omega
    · have := encL_mem enc r a h; omega
theorem encL_sum {α : Type} (enc : α → List Int) (m : α → Nat) : ∀ l : List α, (∀ a ∈ l, m a + 1 ≤ (enc a).length) → l.length + sumL m l ≤ (encL enc l).length
  | [], _ => by simp [sumL]
  | b :: r, h => by
    have e : encL enc (b :: r) = enc b ++ encL enc r := rfl
    have h1 := h b (by simp)
    have h2 := encL_sum enc m r (fun a ha => h a (by simp [ha]))
    rw [e, List.length_append]
    simp only [sumL, List.length_cons]
    omega
mutual
theorem szT : ∀ t : Ty, t.count ≤ (encT t).length ∧ t.mx ≤ (encT t).length
  | .mk k p n la lr => by
    have h1 := szTs la
    have h2 := szTs lr
    rw [encT_mk, count_mk, mx_mk]
    simp only [List.length_append, le8_len, encS8_len, encLn_len]
    omega
theorem szTs : ∀ l : List Ty, countL l ≤ (encL encT l).length ∧ mxL l ≤ (encL encT l).length
  | [] => by simp [countL, mxL]
  | t :: r => by
    have h1 := szT t
    have h2 := szTs r
    have e : encL encT (t :: r) = encT t ++ encL encT r := rfl
    rw [e, mxL_cons, List.length_append]
    simp only [countL]
    omega
end
mutual
theorem szE (B : Nat) : ∀ t : Ex, (encE t).length ≤ B → t.cnt + 1 ≤ (encE t).length ∧ t.ok B
  | .mk op n s kids => fun h => by
    rw [encE_mk] at h ⊢
    simp only [List.length_append, le8_len, encS8_len, encLn_len] at h ⊢
    have h1 := szEs B kids (by omega)
    simp only [Ex.cnt, Ex.ok]
    exact ⟨by omega, by omega, by omega, h1.2.2⟩
theorem szEs (B : Nat) : ∀ l : List Ex, (encL encE l).length ≤ B → cntEs l ≤ (encL encE l).length ∧ l.length ≤ (encL encE l).length ∧ okEs B l
  | [], _ => by simp [cntEs, okEs]
  | t :: r, h => by
    have e : encL encE (t :: r) = encE t ++ encL encE r := rfl
    rw [e, List.length_append] at h ⊢
    have h1 := szE B t (by omega)
    have h2 := szEs B r (by omega)
    simp only [cntEs, okEs, List.length_cons]
    exact ⟨by omega, by omega, h1.2, h2.2.2⟩
end
mutual
theorem szS (B : Nat) : ∀ t : St, (encS t).length ≤ B → t.cnt + 1 ≤ (encS t).length ∧ t.ok B
  | .mk op n es bo el => fun h => by
    rw [encS_mk] at h ⊢
    simp only [List.length_append, le8_len, encLn_len] at h ⊢
    have h1 := szEs B es (by omega)
    have h2 := szSs B bo (by omega)
    have h3 := szSs B el (by omega)
    simp only [St.cnt, St.ok]
    exact ⟨by omega, ⟨by omega, h1.2.2⟩, ⟨by omega, h2.2.2⟩, ⟨by omega, h3.2.2⟩⟩
theorem szSs (B : Nat) : ∀ l : List St, (encL encS l).length ≤ B → cntSs l ≤ (encL encS l).length ∧ l.length ≤ (encL encS l).length ∧ okSs B l
  | [], _ => by simp [cntSs, okSs]
  | t :: r, h => by
    have e : encL encS (t :: r) = encS t ++ encL encS r := rfl
    rw [e, List.length_append] at h ⊢
    have h1 := szS B t (by omega)
    have h2 := szSs B r (by omega)
    simp only [cntSs, okSs, List.length_cons]
    exact ⟨by omega, by omega, h1.2, h2.2.2⟩
end
theorem szIm (B : Nat) (a : Im) (h : (encIm a).length ≤ B) : 1 ≤ (encIm a).length ∧ a.ok B := by
  rw [encIm_mk] at h ⊢
  simp only [List.length_append, le8_len, encS8_len] at h ⊢
  exact ⟨by omega, by unfold Im.ok; omega⟩
theorem szFi (B : Nat) (a : Fi) (h : (encF a).length ≤ B) : a.ty.count + 1 ≤ (encF a).length ∧ a.ok B := by
  rw [encF_mk] at h ⊢
  simp only [List.length_append, le8_len, encS8_len] at h ⊢
  have := szT a.ty
  exact ⟨by omega, by omega, by omega⟩
theorem szDl (B : Nat) (d : Dl) (h : (encD d).length ≤ B) : d.cnt + 1 ≤ (encD d).length ∧ d.ok B := by
  rw [encD_mk] at h ⊢
  simp only [List.length_append, le8_len, encS8_len, encLn_len] at h ⊢
  have h1 := szT d.ty
  have h2 := encL_sum encF (fun f => f.ty.count) d.fields (fun a ha => (szFi B a (Nat.le_trans (encL_mem encF _ a ha) (by omega))).1)
  unfold Dl.cnt
  exact ⟨by omega, by omega, by omega, by omega, by omega, fun f hf => (szFi B f (Nat.le_trans (encL_mem encF _ f hf) (by omega))).2⟩
theorem szFn (B : Nat) (f : Fn8) (h : (encFn f).length ≤ B) : cntSs f.body + 1 ≤ (encFn f).length ∧ f.ok B := by
  rw [encFn_mk] at h ⊢
  simp only [List.length_append, le8_len, encS8_len, encLn_len] at h ⊢
  have h1 := szSs B f.body (by omega)
  exact ⟨by omega, by omega, by omega, (okSs_iff _).1 h1.2.2⟩
theorem szU (B : Nat) (u : Un) (h : (encU u).length ≤ B) : u.cnt ≤ (encU u).length ∧ u.ok B := by
  rw [encU_mk] at h ⊢
  simp only [List.length_append, le8_len, encS8_len, encLn_len] at h ⊢
  have h1 := encL_sum encIm (fun _ => 0) u.imps (fun a ha => (szIm B a (Nat.le_trans (encL_mem encIm _ a ha) (by omega))).1)
  have h2 := encL_sum encD Dl.cnt u.decls (fun a ha => (szDl B a (Nat.le_trans (encL_mem encD _ a ha) (by omega))).1)
  have h3 := encL_sum encFn (fun f => cntSs f.body) u.funs (fun a ha => (szFn B a (Nat.le_trans (encL_mem encFn _ a ha) (by omega))).1)
  unfold Un.cnt
  refine ⟨by omega, by omega, ⟨by omega, fun a ha => (szIm B a (Nat.le_trans (encL_mem encIm _ a ha) (by omega))).2⟩, ⟨by omega, fun a ha => (szDl B a (Nat.le_trans (encL_mem encD _ a ha) (by omega))).2⟩, ⟨by omega, fun a ha => (szFn B a (Nat.le_trans (encL_mem encFn _ a ha) (by omega))).2⟩⟩
theorem Un.ok_mono {B C : Nat} (u : Un) (h : (encU u).length ≤ B) (hB : B ≤ C) : u.ok C := (szU C u (by omega)).2
end Go.Proofs.Ytcjnpaihbebboaa
