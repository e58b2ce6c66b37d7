/-
  systab.Find, numberOf, isABI and Number of any table.
-/
import Derived.Test.YtcembcicpmhpkaaGreatDoorSd
import Derived.Deep.Cut
namespace Go.Proofs.YtcembcicpmhpkaaGreatDoor
open Go.RowKit
set_option linter.unusedVariables false

abbrev isN (T : Nat → SR) (s : ByteArray) (k : Nat) : Bool := (T k).nm.toList == s.toList
/-- A row's number in an ABI. -/
def numI (r : SR) : Nat → Int
  | 0 => r.n0
  | 1 => r.n1
  | 2 => r.n2
  | 3 => r.n3
  | _ => r.n4
def numAt (r : SR) (k a : Nat) : Int := if numI r a = -1 then -1 - (k : Int) else numI r a
theorem srow_num (r : SR) (a : Nat) (ha : a < 5) : (#[.string r.nm, .int .i64 r.n0, .int .i64 r.n1, .int .i64 r.n2, .int .i64 r.n3, .int .i64 r.n4, .int .i64 r.mx, .int .i64 r.sb] : Array Value)[1 + a]? = some (.int .i64 (numI r a)) := by
  have h : a = 0 ∨ a = 1 ∨ a = 2 ∨ a = 3 ∨ a = 4 := by omega
  rcases h with rfl | rfl | rfl | rfl | rfl <;> rfl
end Go.Proofs.YtcembcicpmhpkaaGreatDoor
