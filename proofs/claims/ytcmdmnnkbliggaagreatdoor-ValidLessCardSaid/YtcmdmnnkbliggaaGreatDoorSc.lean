/-
  The contract of systab.fromM.
-/
import Derived.Test.YtcmdmnnkbliggaaGreatDoorSa
namespace Go.Proofs.YtcmdmnnkbliggaaGreatDoor
open Go.RowKit
set_option linter.unusedVariables false
set_option maxRecDepth 100000

set_option maxHeartbeats 16000000 in
theorem fromM_any (w : World) : Calls Tryz.prog 108 #[] w fun e w' => e = .returned (.slice (some ⟨w.heap.size, 0, none⟩) 52 52) ∧ w' = w.alloc (.cells frA 114) := by
  go_enter Tryz.func108, Tryz.ntmps108
  go_wp2
  refine wp_buildSlice _ _ _ (by rfl) frV (by first | rfl | kernel_rfl) (frS_run w) ?_
  go_wp2
  go_ret
  exact ⟨rfl, rfl⟩
end Go.Proofs.YtcmdmnnkbliggaaGreatDoor
