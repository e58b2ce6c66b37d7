/-
  A row of a call's own, cell by cell.
-/
import Derived.Test.YtlpcallgkciklaaGreatDoorMem
namespace Go.Proofs.YtlpcallgkciklaaGreatDoor
open Go.RowKit
set_option linter.unusedVariables false

theorem own_atz {w : World} {base n c z : Nat} {E : TypeId} {A : Option Addr} {F : Nat → Value} (h : OwnC w base E z A n c F) (hn : 0 < n) : ∃ b, A = some ⟨b, 0, none⟩ ∧ base ≤ b ∧ b < w.heap.size ∧ ∀ i, i < n * z → w.cell? ⟨b, i, none⟩ = some (F i) := by
  have hown := h
  obtain ⟨gg, cap, hv, hg, hl⟩ := World.ownsRow.form hown hn
  injection hv with e1 e2 e3
  subst e1 e3
  refine ⟨gg, rfl, hg, hl, fun i hi => ?_⟩
  have hc := World.ownsRow.cells hown rfl i (F i) (by simp [hi])
  have e : (⟨gg, 0, none⟩ : Addr).add i = ⟨gg, i, none⟩ := by unfold Addr.add; split <;> simp_all
  rw [e] at hc
  exact hc
end Go.Proofs.YtlpcallgkciklaaGreatDoor
