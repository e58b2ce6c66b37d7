/-
  The contract of cond.Holds.
-/
import Derived.Test.YtlpcallgkciklaaGreatDoorGd
import Derived.RegionTactic
namespace Go.Proofs.YtlpcallgkciklaaGreatDoor
open Go.RowKit Go.Shelf
set_option linter.unusedVariables false

abbrev argsA (f : Nat → Nat) : Array Value := #[.int .u64 (f 0), .int .u64 (f 1), .int .u64 (f 2), .int .u64 (f 3), .int .u64 (f 4), .int .u64 (f 5)]
theorem argsA_at (f : Nat → Nat) (i : Nat) (hi : i < 6) : (argsA f)[i]? = some (.int .u64 (f i)) := by
  have h : i = 0 ∨ i = 1 ∨ i = 2 ∨ i = 3 ∨ i = 4 ∨ i = 5 := by omega
  rcases h with rfl | rfl | rfl | rfl | rfl | rfl <;> rfl
end Go.Proofs.YtlpcallgkciklaaGreatDoor
