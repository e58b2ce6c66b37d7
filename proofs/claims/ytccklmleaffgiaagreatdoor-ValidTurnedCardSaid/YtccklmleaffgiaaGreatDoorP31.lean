/-
  Layer 15: the document's own words: in (a condition among others), alike (two rows of the same ones).
-/
import Derived.Test.YtccklmleaffgiaaGreatDoorP8
import Derived.RegionTactic
import Derived.Deep.RegionWith
import Derived.Deep.RegionHeld3
namespace Go.Proofs.YtccklmleaffgiaaGreatDoor
open Go.RowKit Go.Shelf
set_option linter.unusedVariables false

/-- Are two rows of conditions the same ones? -/
def alkF (l m : List CD) : Bool := l.all (fun x => decide (x ∈ m)) && m.all (fun x => decide (x ∈ l))
end Go.Proofs.YtccklmleaffgiaaGreatDoor
