/-
  The document's Digits; cond.Number of a number in figures 0 to f, and of a number's text behind a nought.
-/
import Derived.Test.YtlajmdfebnicnaaDoorGg
import Derived.Test.YtlajmdfebnicnaaDoorGq
import Derived.Test.YtlajmdfebnicnaaDoorGr
import Derived.Deep.RegionWith
namespace Go.Proofs.YtlajmdfebnicnaaDoor
open Go.RowKit
set_option linter.unusedVariables false

theorem dig_piece {n : Int} (h0 : 0 ≤ n) (h1 : n < 10) : (ByteArray.mk #[48, 49, 50, 51, 52, 53, 54, 55, 56, 57]).extract n.toNat (n + 1).toNat = ⟨(Lib.decDigits n.toNat).toArray⟩ := by
  obtain ⟨u, rfl⟩ := Int.eq_ofNat_of_zero_le h0
  have hu : u < 10 := by omega
  rw [Lib.decDigits_one (by simpa using hu)]
  have h : u = 0 ∨ u = 1 ∨ u = 2 ∨ u = 3 ∨ u = 4 ∨ u = 5 ∨ u = 6 ∨ u = 7 ∨ u = 8 ∨ u = 9 := by omega
  rcases h with rfl | rfl | rfl | rfl | rfl | rfl | rfl | rfl | rfl | rfl <;> rfl
end Go.Proofs.YtlajmdfebnicnaaDoor
