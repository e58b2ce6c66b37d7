/-
  The document's own Find, Number, At and Sub of layer 11.
-/
import Derived.Test.YtcembcicpmhpkaaGreatDoorSe
namespace Go.Proofs.YtcembcicpmhpkaaGreatDoor
open Go.RowKit
set_option linter.unusedVariables false

/-- How a look for a place ends. -/
def FindP (P : Nat → Bool) (n : Nat) (w : World) (e : Ending) (w' : World) : Prop :=
  ((∃ j, j < n ∧ P j = true ∧ (∀ i, i < j → P i = false) ∧ e = .returned (.int .i64 j)) ∨
   ((∀ i, i < n → P i = false) ∧ e = .returned (.int .i64 (-1)))) ∧ w = w'
theorem Tb.num {w : World} {b o n : Nat} {T : Nat → SR} (h : Tb w b o n T) (i : Nat) (hi : i < n) (a : Nat) (ha : a < 5) : w.cell? ⟨b, o + i * 8 + 1 + a, none⟩ = some (.int .i64 (numI (T i) a)) := by
  obtain ⟨h0, h1, h2, h3, h4, h5, h6, h7⟩ := h.2 i hi
  have hc : a = 0 ∨ a = 1 ∨ a = 2 ∨ a = 3 ∨ a = 4 := by omega
  rcases hc with rfl | rfl | rfl | rfl | rfl
  · exact h1
  · exact h2
  · exact h3
  · exact h4
  · exact h5
def numR (r : SR) (k a : Nat) : Int := if 0 ≤ numI r a then numI r a else -1 - (k : Int)
abbrev subR (T : Nat → SR) (mx sb : Int) (k : Nat) : Bool := (decide (mx ≥ 1) && decide (mx ≤ 2)) && ((T k).mx == mx) && ((T k).sb == sb)
end Go.Proofs.YtcembcicpmhpkaaGreatDoor
