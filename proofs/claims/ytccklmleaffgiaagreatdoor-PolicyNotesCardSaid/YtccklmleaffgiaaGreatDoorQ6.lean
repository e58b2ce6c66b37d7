/-
  Layer 16, pure: conditions in order, each once; a rule's normal form; rules by their names; a policy's normal form.
-/
import Derived.Test.YtccklmleaffgiaaGreatDoorQ4
import Derived.Test.YtccklmleaffgiaaGreatDoorQ2
import Derived.Shelf.Abstract
import Derived.RegionTactic
import Derived.Deep.RegionWith
import Derived.Deep.RegionHeld3
import Derived.Sort.KeysCollected
namespace Go.Proofs.YtccklmleaffgiaaGreatDoor
open Go.RowKit
set_option linter.unusedVariables false

instance : DecidableEq CD := fun a b => decidable_of_iff (a.a = b.a ∧ a.o = b.o ∧ a.m = b.m ∧ a.v = b.v) (by cases a; cases b; simp)
/-- Which of two conditions stands ahead. -/
def ltD (x y : CD) : Prop := x.a < y.a ∨ (x.a = y.a ∧ (x.o < y.o ∨ (x.o = y.o ∧ (x.m < y.m ∨ (x.m = y.m ∧ x.v < y.v)))))
instance (x y : CD) : Decidable (ltD x y) := by unfold ltD; infer_instance
/-- A condition in its place among others, once. -/
def insD (c : CD) : List CD → List CD
  | [] => [c]
  | d :: t => if c = d then d :: t else if ltD c d then c :: d :: t else d :: insD c t
/-- Conditions in order, each once. -/
def srt (l : List CD) : List CD := l.foldr insD []
/-- What a right condition becomes, and whether it asks (0), always (1) or never (2) holds. -/
def bel (c : CD) : CD × Int := if c.v = 0 then (⟨0, 0, 0, 0⟩, 2) else if c.v = 1 then (⟨c.a, 1, 0, 0⟩, 0) else (c, 0)
def atl (c : CD) : CD × Int := if c.v = 0 then (⟨0, 0, 0, 0⟩, 1) else if c.v = 18446744073709551615 then (⟨c.a, 1, 0, 18446744073709551615⟩, 0) else (c, 0)
def nC (c : CD) : CD × Int :=
  if c.o = 3 then bel c
  else if c.o = 4 then (if c.v = 18446744073709551615 then (⟨0, 0, 0, 0⟩, 1) else bel ⟨c.a, 3, 0, c.v + 1⟩)
  else if c.o = 5 then (if c.v = 18446744073709551615 then (⟨0, 0, 0, 0⟩, 2) else atl ⟨c.a, 6, 0, c.v + 1⟩)
  else if c.o = 6 then atl c
  else if c.o = 7 then (if c.v &&& (18446744073709551615 - c.m) ≠ 0 then (⟨0, 0, 0, 0⟩, 2) else if c.m = 0 then (⟨0, 0, 0, 0⟩, 1) else if c.m = 18446744073709551615 then (⟨c.a, 1, 0, c.v⟩, 0) else (c, 0))
  else (c, 0)
/-- May a condition be? -/
def RiC (c : CD) : Prop := 0 ≤ c.a ∧ c.a < 6 ∧ 1 ≤ c.o ∧ c.o ≤ 7 ∧ (c.o = 7 ∨ c.m = 0)
theorem RiC.right {c : CD} (h : RiC c) : ∃ j, RightO c.a c.o c.m j := by
  obtain ⟨h1, h2, h3, h4, h5⟩ := h
  refine ⟨(c.o - 1).toNat, h1, h2, by omega, by omega, ?_⟩
  rcases h5 with h5 | h5
  · rw [h5]; rfl
  · simp [h5]
theorem isO_ric (a o : Int) (m j : Nat) (hj : j < 7) (h : isO o m j = true) : 1 ≤ o ∧ o ≤ 7 ∧ (o = 7 ∨ m = 0) := by
  unfold isO at h
  simp only [Bool.and_eq_true, beq_iff_eq, Bool.or_eq_true] at h
  obtain ⟨h1, h2⟩ := h
  refine ⟨by omega, by omega, ?_⟩
  rcases h2 with h2 | h2
  · left
    have : j = 6 := by
      match j, hj with
      | 0, _ => exact absurd h2 (by decide)
      | 1, _ => exact absurd h2 (by decide)
      | 2, _ => exact absurd h2 (by decide)
      | 3, _ => exact absurd h2 (by decide)
      | 4, _ => exact absurd h2 (by decide)
      | 5, _ => exact absurd h2 (by decide)
      | 6, _ => rfl
    omega
  · exact .inr h2
theorem ric_not {c : CD} (h : ¬ RiC c) : c.a < 0 ∨ 6 ≤ c.a ∨ ∀ j, j < 7 → isO c.o c.m j = false := by
  by_cases h0 : c.a < 0
  · exact .inl h0
  by_cases h6 : 6 ≤ c.a
  · exact .inr (.inl h6)
  refine .inr (.inr fun j hj => ?_)
  rcases hb : isO c.o c.m j with _ | _
  · rfl
  · exact absurd ⟨by omega, by omega, (isO_ric c.a c.o c.m j hj hb).1, (isO_ric c.a c.o c.m j hj hb).2.1, (isO_ric c.a c.o c.m j hj hb).2.2⟩ h
/-- What is left of conditions that ask; none: one never holds. -/
def askL : List CD → Option (List CD)
  | [] => some []
  | c :: t => if (nC c).2 = 2 then none else (askL t).map fun l => if (nC c).2 = 0 then (nC c).1 :: l else l
/-- A rule. -/
structure RV where
  nm : ByteArray
  k : Int
  u : Int
  L : List CD
/-- A rule's normal form. -/
def nR (r : RV) : Option RV := (askL r.L).map fun l => { r with L := srt l }
def RL.val (r : RL) : RV := ⟨r.nm, r.k, r.u, (List.range r.n).map r.C⟩
end Go.Proofs.YtccklmleaffgiaaGreatDoor

/-
  Layer 16, pure: rules by their names; a policy's normal form; what does not change it.
-/
namespace Go.Proofs.YtccklmleaffgiaaGreatDoor
open Go.RowKit
set_option linter.unusedVariables false

/-- A rule's name as a key. -/
def RV.key (r : RV) : List UInt8 := r.nm.data.toList
/-- A name's rules. -/
def grp (l : List RV) (s : List UInt8) : List RV := (l.filterMap nR).filter fun r => r.key == s
theorem grp_append (l m : List RV) (s : List UInt8) : grp (l ++ m) s = grp l s ++ grp m s := by unfold grp; rw [List.filterMap_append, List.filter_append]
end Go.Proofs.YtccklmleaffgiaaGreatDoor
