/-
  The document's own Right of layer 11, the laws' light of layer 12.
-/
import Derived.Test.YtcembcicpmhpkaaGreatDoorSo
namespace Go.Proofs.YtcembcicpmhpkaaGreatDoor
open Go.RowKit
set_option linter.unusedVariables false

/-- How a look at all rows ends: a place and an error's number. -/
def RightP (T : Nat → SR) (n p q : Nat) : Prop :=
  (n > 400 ∧ p = 0 ∧ q = 3) ∨ (n ≤ 400 ∧ p < n ∧ (∀ j, j < p → rowF T j = 0) ∧ rowF T p ≠ 0 ∧ q = rowF T p) ∨ (n ≤ 400 ∧ (∀ j, j < n → rowF T j = 0) ∧ p = 0 ∧ q = 0)
theorem RightP.uniq {T : Nat → SR} {n p q p' q' : Nat} (h : RightP T n p q) (h' : RightP T n p' q') : p = p' ∧ q = q' := by
  rcases h with ⟨a1, a2, a3⟩ | ⟨a1, a2, a3, a4, a5⟩ | ⟨a1, a2, a3, a4⟩ <;> rcases h' with ⟨b1, b2, b3⟩ | ⟨b1, b2, b3, b4, b5⟩ | ⟨b1, b2, b3, b4⟩
  · omega
  · omega
  · omega
  · omega
  · have e : p = p' := by
      rcases Nat.lt_trichotomy p p' with h | h | h
      · exact absurd (b3 p h) a4
      · exact h
      · exact absurd (a3 p' h) b4
    subst e
    exact ⟨rfl, a5.trans b5.symm⟩
  · exact absurd (b2 p a2) a4
  · omega
  · exact absurd (a2 p' b2) b4
  · omega
/-- Which tables the laws of layer 12 speak of. -/
def OkT (n : Nat) (T : Nat → SR) : Prop := n ≤ 40 ∧ ∀ j, j < n → rowF T j = 0
end Go.Proofs.YtcembcicpmhpkaaGreatDoor
