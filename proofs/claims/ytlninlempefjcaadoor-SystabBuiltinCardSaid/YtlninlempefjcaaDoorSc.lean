/-
  The contract of systab.fromM.
-/
import Derived.Test.YtlninlempefjcaaDoorSa
namespace Go.Proofs.YtlninlempefjcaaDoor
open Go.RowKit
set_option linter.unusedVariables false
set_option maxRecDepth 100000

set_option maxHeartbeats 16000000 in
theorem fromM_any (w : World) : Calls Tryd.prog 24 #[] w fun e w' => e = .returned (.slice (some ⟨w.heap.size, 0, none⟩) 52 52) ∧ w' = w.alloc (.cells frA 36) := by
  go_enter Tryd.func24, Tryd.ntmps24
  go_wp2
  refine wp_buildSlice _ _ _ (by rfl) frV (by first | rfl | kernel_rfl) (frS_run w) ?_
  go_wp2
  go_ret
  exact ⟨rfl, rfl⟩
end Go.Proofs.YtlninlempefjcaaDoor
