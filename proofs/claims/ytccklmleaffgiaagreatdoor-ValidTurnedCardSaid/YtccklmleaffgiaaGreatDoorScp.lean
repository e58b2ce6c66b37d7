/-
  The contract of systab.fromM.
-/
import Derived.Test.YtccklmleaffgiaaGreatDoorSap
namespace Go.Proofs.YtccklmleaffgiaaGreatDoor
open Go.RowKit
set_option linter.unusedVariables false
set_option maxRecDepth 100000

set_option maxHeartbeats 16000000 in
theorem fromM_any (w : World) : Calls Tryz.prog 53 #[] w fun e w' => e = .returned (.slice (some ⟨w.heap.size, 0, none⟩) 52 52) ∧ w' = w.alloc (.cells frA 73) := by
  go_enter Tryz.func53, Tryz.ntmps53
  go_wp2
  refine wp_buildSlice _ _ _ (by rfl) frV (by first | rfl | kernel_rfl) (frS_run w) ?_
  go_wp2
  go_ret
  exact ⟨rfl, rfl⟩
end Go.Proofs.YtccklmleaffgiaaGreatDoor
