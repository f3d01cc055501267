/-
  Trees as deep as they may be, by the kernel.
-/
import Derived.Test.YtihnnbeepfgphaaGreatDoorParK
namespace Go.Proofs.YtihnnbeepfgphaaGreatDoor
open Go.RowKit
set_option linter.unusedVariables false
set_option linter.unusedSimpArgs false

set_option maxRecDepth 100000 in
theorem deep_ok : ∀ k, k < 130 → chkDeep k (parseD (deepP k)) = true := by decide +kernel
end Go.Proofs.YtihnnbeepfgphaaGreatDoor
