/-
  The contract of vm.Run.
-/
import Derived.Test.YtiofgaadfbjnoaaVj
import Derived.Test.YtiofgaadfbjnoaaDa
namespace Go.Proofs.Ytiofgaadfbjnoaa
open Go.RowKit

theorem OwnC.setRow_ {w : World} {base z n c g : Nat} {E : TypeId} {A : Option Addr} {F : Nat → Value} (h : OwnC w base E z A n c F) (hg : g < base) (cs : Array Value) : OwnC (w.setRow g cs) base E z A n c F := by
  obtain ⟨h1, h2⟩ := h
  refine ⟨h1, ?_⟩
  rcases h2 with h2 | ⟨gg, cap, cur, hv, hgg, hh, r⟩
  · exact Or.inl h2
  · exact Or.inr ⟨gg, cap, cur, hv, hgg, by rw [setRow_other w g gg cs (by omega)]; exact hh, r⟩
end Go.Proofs.Ytiofgaadfbjnoaa
