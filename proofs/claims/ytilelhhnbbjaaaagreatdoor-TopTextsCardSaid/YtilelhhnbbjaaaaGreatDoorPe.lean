/-
  The laws' own of and awake of layer 3.
-/
import Derived.Test.YtilelhhnbbjaaaaGreatDoorPd
import Derived.Shelf.Vars
namespace Go.Proofs.YtilelhhnbbjaaaaGreatDoor
open Go.RowKit Go.Shelf
set_option linter.unusedVariables false

theorem lineX1 : (⟨(lineL 21 1 2 3).toArray⟩ : ByteArray) = ⟨#[106, 101, 113, 32, 35, 51, 32, 49, 32, 50]⟩ := by
  have h : lineL 21 1 2 3 = [106, 101, 113, 32, 35, 51, 32, 49, 32, 50] := by
    unfold lineL
    rw [show atP 21 41 = some 33 by decide +kernel]
    simp only
    rw [if_pos (by decide +kernel), show patP 33 = [106, 101, 113, 32, 35, 75, 32, 84, 32, 70] by decide +kernel]
    simp [subst, mkv, dd, Lib.decDigits]
  rw [h]
theorem lineX2 : (⟨(lineL 6 1 0 0).toArray⟩ : ByteArray) = ⟨#[46, 99, 111, 100, 101, 32, 54, 32, 49, 32, 48, 32, 48]⟩ := by
  have h : lineL 6 1 0 0 = [46, 99, 111, 100, 101, 32, 54, 32, 49, 32, 48, 32, 48] := by
    unfold lineL
    rw [show atP 6 41 = some 13 by decide +kernel]
    simp only
    rw [if_neg (by decide +kernel)]
    simp [subst, anyP, mkv, dd, Lib.decDigits]
  rw [h]
/-- What a card's list and the world's shape give. -/
theorem env_of {W : World} (ht : TabP W) (hSh : W.ShapedOpen Tryz.prog) : EnvL W :=
  ⟨ht, cell_of_shapedOpen_int (P := Tryz.prog) (g := 0) (t := 3) (zero := #[.int .i64 0]) hSh (of_decide_eq_true (by kernel_rfl)) (by kernel_rfl) rfl (by kernel_rfl) (by kernel_rfl) Tryz.underlying3⟩
end Go.Proofs.YtilelhhnbbjaaaaGreatDoor
