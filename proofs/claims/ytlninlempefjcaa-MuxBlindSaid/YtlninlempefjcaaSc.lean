/-
  The contract of systab.fromM.
-/
import Derived.Test.YtlninlempefjcaaSa
namespace Go.Proofs.Ytlninlempefjcaa
open Go.RowKit
set_option linter.unusedVariables false
set_option maxRecDepth 100000

set_option maxHeartbeats 16000000 in
theorem fromM_any (w : World) : Calls Try.prog 44 #[] w fun e w' => e = .returned (.slice (some ⟨w.heap.size, 0, none⟩) 52 52) ∧ w' = w.alloc (.cells frA 33) := by
  go_enter Try.func44, Try.ntmps44
  go_wp2
  refine wp_buildSlice _ _ _ (by rfl) frV (by first | rfl | kernel_rfl) (frS_run w) ?_
  go_wp2
  go_ret
  exact ⟨rfl, rfl⟩
end Go.Proofs.Ytlninlempefjcaa
