/-
  Numerals, names and texts of instructions, in the program and in the document's reading: walks.
-/
import Derived.Test.YtfdmoafncbjonaaDoorIsaC
import Derived.Test.YtfdmoafncbjonaaDoorShelf
import Derived.Lib.ItoaLen
import Derived.WalkKit
import Derived.Lib.Hide
import Derived.Deep.QuietTactic
import Derived.BigQuiet
import Derived.LoopTactic
import Derived.Outline
import Derived.Great.Walk
import Derived.Laws.Tables
import Derived.StillTailTactics
namespace Go.Proofs.YtfdmoafncbjonaaDoor
open Go.RowKit Go.Great
set_option linter.unusedVariables false


def nameCells : Array Value := #[.string ⟨#[104, 97, 108, 116]⟩, .string ⟨#[116, 114, 97, 112]⟩, .string ⟨#[109, 111, 118, 101]⟩, .string ⟨#[99, 111, 110, 115, 116]⟩, .string ⟨#[104, 105, 103, 104]⟩, .string ⟨#[108, 111, 97, 100]⟩, .string ⟨#[115, 116, 111, 114, 101]⟩, .string ⟨#[106, 117, 109, 112]⟩, .string ⟨#[122, 101, 114, 111]⟩, .string ⟨#[115, 111, 109, 101]⟩, .string ⟨#[99, 97, 108, 108]⟩, .string ⟨#[97, 116]⟩, .string ⟨#[114, 101, 116]⟩, .string ⟨#[105, 110]⟩, .string ⟨#[111, 117, 116]⟩, .string ⟨#[114, 111, 111, 109]⟩, .string ⟨#[]⟩, .string ⟨#[97, 100, 100]⟩, .string ⟨#[115, 117, 98]⟩, .string ⟨#[109, 117, 108]⟩, .string ⟨#[100, 105, 118]⟩, .string ⟨#[114, 101, 109]⟩, .string ⟨#[97, 110, 100]⟩, .string ⟨#[111, 114]⟩, .string ⟨#[120, 111, 114]⟩, .string ⟨#[115, 104, 108]⟩, .string ⟨#[115, 104, 114]⟩, .string ⟨#[101, 113]⟩, .string ⟨#[110, 101]⟩, .string ⟨#[108, 116]⟩, .string ⟨#[108, 101]⟩, .string ⟨#[103, 116]⟩, .string ⟨#[103, 101]⟩, .string ⟨#[]⟩, .string ⟨#[]⟩, .string ⟨#[]⟩, .string ⟨#[]⟩, .string ⟨#[]⟩, .string ⟨#[]⟩, .string ⟨#[]⟩, .string ⟨#[]⟩, .string ⟨#[110, 101, 103]⟩, .string ⟨#[102, 108, 105, 112]⟩, .string ⟨#[98, 97, 110, 103]⟩]
def zeroCells : Array Value := #[.string ⟨#[]⟩, .string ⟨#[]⟩, .string ⟨#[]⟩, .string ⟨#[]⟩, .string ⟨#[]⟩, .string ⟨#[]⟩, .string ⟨#[]⟩, .string ⟨#[]⟩, .string ⟨#[]⟩, .string ⟨#[]⟩, .string ⟨#[]⟩, .string ⟨#[]⟩, .string ⟨#[]⟩, .string ⟨#[]⟩, .string ⟨#[]⟩, .string ⟨#[]⟩, .string ⟨#[]⟩, .string ⟨#[]⟩, .string ⟨#[]⟩, .string ⟨#[]⟩, .string ⟨#[]⟩, .string ⟨#[]⟩, .string ⟨#[]⟩, .string ⟨#[]⟩, .string ⟨#[]⟩, .string ⟨#[]⟩, .string ⟨#[]⟩, .string ⟨#[]⟩, .string ⟨#[]⟩, .string ⟨#[]⟩, .string ⟨#[]⟩, .string ⟨#[]⟩, .string ⟨#[]⟩, .string ⟨#[]⟩, .string ⟨#[]⟩, .string ⟨#[]⟩, .string ⟨#[]⟩, .string ⟨#[]⟩, .string ⟨#[]⟩, .string ⟨#[]⟩, .string ⟨#[]⟩, .string ⟨#[]⟩, .string ⟨#[]⟩, .string ⟨#[]⟩]
theorem name_at {op : Int} (h : K op = true) : ∃ k : Nat, op = k ∧ k < 44 ∧ nameCells[k]? = some (.string (nmS op)) := by
  rcases K_cases h with rfl | rfl | rfl | rfl | rfl | rfl | rfl | rfl | rfl | rfl | rfl | rfl | rfl | rfl | rfl | rfl | rfl | rfl | rfl | rfl | rfl | rfl | rfl | rfl | rfl | rfl | rfl | rfl | rfl | rfl | rfl | rfl | rfl | rfl | rfl
  · exact ⟨0, rfl, by decide, rfl⟩
  · exact ⟨1, rfl, by decide, rfl⟩
  · exact ⟨2, rfl, by decide, rfl⟩
  · exact ⟨3, rfl, by decide, rfl⟩
  · exact ⟨4, rfl, by decide, rfl⟩
  · exact ⟨5, rfl, by decide, rfl⟩
  · exact ⟨6, rfl, by decide, rfl⟩
  · exact ⟨7, rfl, by decide, rfl⟩
  · exact ⟨8, rfl, by decide, rfl⟩
  · exact ⟨9, rfl, by decide, rfl⟩
  · exact ⟨10, rfl, by decide, rfl⟩
  · exact ⟨11, rfl, by decide, rfl⟩
  · exact ⟨12, rfl, by decide, rfl⟩
  · exact ⟨13, rfl, by decide, rfl⟩
  · exact ⟨14, rfl, by decide, rfl⟩
  · exact ⟨15, rfl, by decide, rfl⟩
  · exact ⟨17, rfl, by decide, rfl⟩
  · exact ⟨18, rfl, by decide, rfl⟩
  · exact ⟨19, rfl, by decide, rfl⟩
  · exact ⟨20, rfl, by decide, rfl⟩
  · exact ⟨21, rfl, by decide, rfl⟩
  · exact ⟨22, rfl, by decide, rfl⟩
  · exact ⟨23, rfl, by decide, rfl⟩
  · exact ⟨24, rfl, by decide, rfl⟩
  · exact ⟨25, rfl, by decide, rfl⟩
  · exact ⟨26, rfl, by decide, rfl⟩
  · exact ⟨27, rfl, by decide, rfl⟩
  · exact ⟨28, rfl, by decide, rfl⟩
  · exact ⟨29, rfl, by decide, rfl⟩
  · exact ⟨30, rfl, by decide, rfl⟩
  · exact ⟨31, rfl, by decide, rfl⟩
  · exact ⟨32, rfl, by decide, rfl⟩
  · exact ⟨41, rfl, by decide, rfl⟩
  · exact ⟨42, rfl, by decide, rfl⟩
  · exact ⟨43, rfl, by decide, rfl⟩
theorem name_any (op : Int) (h : K op = true) (w : World) : Calls Tryd.prog 23 #[.int .i64 op] w fun e w' => e = .returned (.string (nmS op)) ∧ Below w.heap.size w w' := by
  obtain ⟨k, rfl, hk, hn⟩ := name_at h
  clear h
  go_enter Tryd.func23, Tryd.ntmps23
  refine wp_seq (wp_region_lit ?_)
  refine wpList_readTo rfl (some 2) rfl (.string ⟨#[]⟩) (by kernel_rfl) ?_
  refine wpList_nil ?_
  refine wp_seq (wp_region_lit ?_)
  refine wpList_readTo rfl (some 4) rfl (.agg nameCells) (by kernel_rfl) ?_
  refine wpList_allocTo rfl (some 3) rfl (.pointer (some ⟨w.heap.size, 0, none⟩)) (.cells zeroCells 50) (by kernel_rfl) ?_
  refine wpList_store_row rfl 50 (.tmp 3) (.tmp 4) rfl w.heap.size nameCells rfl rfl 50 zeroCells (MapKept.heap_alloc w _).1 (by kernel_rfl) (by kernel_rfl) (by kernel_rfl) ?_
  refine wpList_nil ?_
  obtain ⟨W2, hW2⟩ : ∃ W2, W2 = (w.alloc (.cells zeroCells 50)).setRow w.heap.size nameCells := ⟨_, rfl⟩
  have hb : Below w.heap.size w W2 := by
    rw [hW2]
    refine ⟨rfl, rfl, rfl, by simp, fun i hi => ?_⟩
    rw [setRow_other _ _ _ _ (by omega)]
    exact Below.heap_alloc _ _ _ hi
  have hc : W2.cell? ⟨w.heap.size, k, none⟩ = some (.string (nmS k)) := by
    rw [hW2, cell_setRow_same _ _ _ zeroCells _ 50 (0, 0) (MapKept.heap_alloc w _).1]
    exact hn
  rw [← hW2]
  clear hW2 hn
  go_wp2
  go_ret
  exact ⟨rfl, hb⟩
end Go.Proofs.YtfdmoafncbjonaaDoor
