/-
  The contract of systab.upToL.
-/
import Derived.Test.YtccklmleaffgiaaGreatDoorSap
namespace Go.Proofs.YtccklmleaffgiaaGreatDoor
open Go.RowKit
set_option linter.unusedVariables false
set_option maxRecDepth 100000

set_option maxHeartbeats 4000000 in
theorem upToL_any (w : World) : Calls Tryz.prog 52 #[] w fun e w' => e = .returned (.slice (some ⟨w.heap.size, 0, none⟩) 31 31) ∧ w' = w.alloc (.cells upA 73) := by
  go_enter Tryz.func52, Tryz.ntmps52
  go_wp2
  refine wp_buildSlice _ _ _ (by rfl) upV (by first | rfl | kernel_rfl) (upS_run w) ?_
  go_wp2
  go_ret
  exact ⟨rfl, rfl⟩
end Go.Proofs.YtccklmleaffgiaaGreatDoor
