/-
  The contracts of cond.Right and of cond.Holds.
-/
import Derived.Test.YtlajmdfebnicnaaDoorGc
import Derived.Shelf.Abstract
import Derived.RegionTactic
namespace Go.Proofs.YtlajmdfebnicnaaDoor
open Go.RowKit Go.Shelf
set_option linter.unusedVariables false

theorem fnO_enter (j : Nat) (hj : j < 7) : ∃ F, fnO j = .func (.func F) #[] #[] ∧ ∀ args w, (callFunc F args).run Tryd.prog w = .ok (.enter F args) w := by
  match j, hj with
  | 0, _ => exact ⟨_, rfl, enters_of Tryd.func34 (by kernel_rfl) rfl⟩
  | 1, _ => exact ⟨_, rfl, enters_of Tryd.func35 (by kernel_rfl) rfl⟩
  | 2, _ => exact ⟨_, rfl, enters_of Tryd.func36 (by kernel_rfl) rfl⟩
  | 3, _ => exact ⟨_, rfl, enters_of Tryd.func37 (by kernel_rfl) rfl⟩
  | 4, _ => exact ⟨_, rfl, enters_of Tryd.func38 (by kernel_rfl) rfl⟩
  | 5, _ => exact ⟨_, rfl, enters_of Tryd.func39 (by kernel_rfl) rfl⟩
  | 6, _ => exact ⟨_, rfl, enters_of Tryd.func40 (by kernel_rfl) rfl⟩

end Go.Proofs.YtlajmdfebnicnaaDoor
