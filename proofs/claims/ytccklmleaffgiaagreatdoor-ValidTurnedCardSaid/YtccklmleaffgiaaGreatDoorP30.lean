/-
  Layer 14: the laws' own light and of.
-/
import Derived.Test.YtccklmleaffgiaaGreatDoorP7
import Derived.Test.YtccklmleaffgiaaGreatDoorP8
namespace Go.Proofs.YtccklmleaffgiaaGreatDoor
open Go.RowKit Go.Shelf
set_option linter.unusedVariables false

theorem ownC_setX {W : World} {base z n c b : Nat} {E T : TypeId} {A : Option Addr} {F : Nat → Value} {D : Array Value} (h : OwnC W base E z A n c F) (hb : RowC W b D T) (hne : T ≠ E) (i : Nat) (v : Value) : OwnC (W.setCell ⟨b, i, none⟩ v) base E z A n c F := by
  obtain ⟨h1, h2⟩ := h
  refine ⟨h1, ?_⟩
  rcases h2 with h2 | ⟨gg, cap, cur, hv, hgb, hh, r⟩
  · exact .inl h2
  · refine .inr ⟨gg, cap, cur, hv, hgb, (Below.heap_setCell _ _ _ _ ?_).trans hh, r⟩
    intro e
    subst e
    rw [show W.heap[gg]? = _ from hb] at hh
    injection hh with hh
    injection hh with _ h3
    exact hne h3
end Go.Proofs.YtccklmleaffgiaaGreatDoor
