/-
  The contract of systab.upToL.
-/
import Derived.Test.YtlninlempefjcaaDoorSa
namespace Go.Proofs.YtlninlempefjcaaDoor
open Go.RowKit
set_option linter.unusedVariables false
set_option maxRecDepth 100000

set_option maxHeartbeats 4000000 in
theorem upToL_any (w : World) : Calls Tryd.prog 23 #[] w fun e w' => e = .returned (.slice (some ⟨w.heap.size, 0, none⟩) 31 31) ∧ w' = w.alloc (.cells upA 36) := by
  go_enter Tryd.func23, Tryd.ntmps23
  go_wp2
  refine wp_buildSlice _ _ _ (by rfl) upV (by first | rfl | kernel_rfl) (upS_run w) ?_
  go_wp2
  go_ret
  exact ⟨rfl, rfl⟩
end Go.Proofs.YtlninlempefjcaaDoor
