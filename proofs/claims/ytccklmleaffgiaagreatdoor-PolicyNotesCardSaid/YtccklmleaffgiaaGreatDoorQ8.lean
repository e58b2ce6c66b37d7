/-
  Layer 16: slices.Equal at conditions; norm.unhidden.
-/
import Derived.Test.YtccklmleaffgiaaGreatDoorQ7
import Derived.Test.YtccklmleaffgiaaGreatDoorRgq
import Derived.Maps.AppendAt
namespace Go.Proofs.YtccklmleaffgiaaGreatDoor
open Go.RowKit Go.Shelf
set_option linter.unusedVariables false

theorem cd_cases (x y : CD) : x = y ∨ (x.a == y.a) = false ∨ (x.a = y.a ∧ (x.o == y.o) = false) ∨ (x.a = y.a ∧ x.o = y.o ∧ (((x.m : Nat) : Int) == ((y.m : Nat) : Int)) = false) ∨ (x.a = y.a ∧ x.o = y.o ∧ x.m = y.m ∧ (((x.v : Nat) : Int) == ((y.v : Nat) : Int)) = false) := by
  obtain ⟨a, o, m, v⟩ := x
  obtain ⟨a', o', m', v'⟩ := y
  simp only [beq_eq_false_iff_ne, ne_eq, Int.ofNat_inj, CD.mk.injEq]
  by_cases h1 : a = a'
  · by_cases h2 : o = o'
    · by_cases h3 : m = m'
      · by_cases h4 : v = v'
        · left; exact ⟨h1, h2, h3, h4⟩
        · exact .inr (.inr (.inr (.inr ⟨h1, h2, h3, h4⟩)))
      · exact .inr (.inr (.inr (.inl ⟨h1, h2, h3⟩)))
    · exact .inr (.inr (.inl ⟨h1, h2⟩))
  · exact .inr (.inl h1)
theorem ConA.four {w : World} {A : Option Addr} {n : Nat} {C : Nat → CD} (h : ConA w A n C) {i : Nat} (hi : i < n) {x : CD} (hx : C i = x) : ∃ b o, A = some ⟨b, o, none⟩ ∧
    w.cell? ⟨b, o + i * 4, none⟩ = some (.int .i64 x.a) ∧ w.cell? ⟨b, o + i * 4 + 1, none⟩ = some (.int .i64 x.o) ∧ w.cell? ⟨b, o + i * 4 + 2, none⟩ = some (.int .u64 x.m) ∧ w.cell? ⟨b, o + i * 4 + 3, none⟩ = some (.int .u64 x.v) := by
  subst hx
  rcases h with h0 | ⟨b, o, rfl, _, hc⟩
  · omega
  · obtain ⟨h0, h1, h2, h3, _⟩ := hc i hi
    rw [Nat.add_zero] at h0
    exact ⟨b, o, rfl, h0, h1, h2, h3⟩
theorem range_ne {C C' : Nat → CD} {n q : Nat} (hq : q < n) (h : C q ≠ C' q) : (List.range n).map C ≠ (List.range n).map C' := fun e => h (by
  have := congrArg (fun l : List CD => l[q]?) e
  simpa [hq] using this)
end Go.Proofs.YtccklmleaffgiaaGreatDoor

/-
  Layer 16: norm.upToLast; several rules appended; the names of a map, sorted.
-/
namespace Go.Proofs.YtccklmleaffgiaaGreatDoor
open Go.RowKit Go.Shelf Go.Maps Go.Sort
set_option linter.unusedVariables false

theorem RlL.take {w : World} {A : Option Addr} {l : List RL} (h : RlL w A l) (m : Nat) : RlL w A (l.take m) := by
  refine ⟨?_, fun r hr => h.2 r (List.mem_of_mem_take hr)⟩
  rcases h.1 with h0 | ⟨b, o, rfl, hl, hc⟩
  · exact .inl (by rw [h0]; simp)
  · refine .inr ⟨b, o, rfl, hl, fun i hi => ?_⟩
    have hi' : i < l.length := by rw [List.length_take] at hi; omega
    have e : (l.take m)[i]! = l[i]! := by
      rw [getElem!_pos (l.take m) i hi, getElem!_pos l i hi', List.getElem_take]
    rw [e]
    exact hc i hi'
theorem act_cases (k u k' u' : Int) : (k = k' ∧ u = u') ∨ (k == k') = false ∨ (k = k' ∧ (u == u') = false) := by
  simp only [beq_eq_false_iff_ne]
  by_cases h1 : k = k'
  · by_cases h2 : u = u'
    · exact .inl ⟨h1, h2⟩
    · exact .inr (.inr ⟨h1, h2⟩)
  · exact .inr (.inl h1)
end Go.Proofs.YtccklmleaffgiaaGreatDoor
