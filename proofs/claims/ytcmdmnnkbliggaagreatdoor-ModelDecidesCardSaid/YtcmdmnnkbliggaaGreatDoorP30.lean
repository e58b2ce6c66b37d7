/-
  Layer 14: the laws' own told: is a policy of the program the document's?
-/
import Derived.Test.YtcmdmnnkbliggaaGreatDoorP7
import Derived.Test.YtcmdmnnkbliggaaGreatDoorP8
import Derived.Deep.RegionHeld3
import Derived.Deep.Cut
import Derived.Deep.CutRange
namespace Go.Proofs.YtcmdmnnkbliggaaGreatDoor
open Go.RowKit Go.Shelf
set_option linter.unusedVariables false

theorem RowC.next {w : World} {cs : Array Value} {T : TypeId} {o : Obj} : RowC ((w.alloc o).alloc (.cells cs T)) (w.heap.size + 1) cs T := RowC.new _ _ _ _ (by simp)
end Go.Proofs.YtcmdmnnkbliggaaGreatDoor
