/-
  Layer 16: slices.Equal at conditions; norm.unhidden.
-/
import Derived.Test.YtccklmleaffgiaaGreatDoorP7
import Derived.Test.YtccklmleaffgiaaGreatDoorRgp
import Derived.Maps.AppendAt
namespace Go.Proofs.YtccklmleaffgiaaGreatDoor
open Go.RowKit Go.Shelf
set_option linter.unusedVariables false

theorem ConA.four {w : World} {A : Option Addr} {n : Nat} {C : Nat → CD} (h : ConA w A n C) {i : Nat} (hi : i < n) {x : CD} (hx : C i = x) : ∃ b o, A = some ⟨b, o, none⟩ ∧
    w.cell? ⟨b, o + i * 4, none⟩ = some (.int .i64 x.a) ∧ w.cell? ⟨b, o + i * 4 + 1, none⟩ = some (.int .i64 x.o) ∧ w.cell? ⟨b, o + i * 4 + 2, none⟩ = some (.int .u64 x.m) ∧ w.cell? ⟨b, o + i * 4 + 3, none⟩ = some (.int .u64 x.v) := by
  subst hx
  rcases h with h0 | ⟨b, o, rfl, _, hc⟩
  · omega
  · obtain ⟨h0, h1, h2, h3, _⟩ := hc i hi
    rw [Nat.add_zero] at h0
    exact ⟨b, o, rfl, h0, h1, h2, h3⟩
end Go.Proofs.YtccklmleaffgiaaGreatDoor

/-
  Layer 16: norm.upToLast; several rules appended; the names of a map, sorted.
-/
namespace Go.Proofs.YtccklmleaffgiaaGreatDoor
open Go.RowKit Go.Shelf Go.Maps Go.Sort
set_option linter.unusedVariables false

theorem RlL.take {w : World} {A : Option Addr} {l : List RL} (h : RlL w A l) (m : Nat) : RlL w A (l.take m) := by
  refine ⟨?_, fun r hr => h.2 r (List.mem_of_mem_take hr)⟩
  rcases h.1 with h0 | ⟨b, o, rfl, hl, hc⟩
  · exact .inl (by rw [h0]; simp)
  · refine .inr ⟨b, o, rfl, hl, fun i hi => ?_⟩
    have hi' : i < l.length := by rw [List.length_take] at hi; omega
    have e : (l.take m)[i]! = l[i]! := by
      rw [getElem!_pos (l.take m) i hi, getElem!_pos l i hi', List.getElem_take]
    rw [e]
    exact hc i hi'
end Go.Proofs.YtccklmleaffgiaaGreatDoor
