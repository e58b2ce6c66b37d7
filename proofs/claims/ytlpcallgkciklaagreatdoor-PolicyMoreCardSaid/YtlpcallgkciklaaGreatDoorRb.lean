/-
  The laws' own light over policies: rules are few, names short, conditions few.
-/
import Derived.Test.YtlpcallgkciklaaGreatDoorRa
import Derived.Test.YtlpcallgkciklaaGreatDoorRw
import Derived.Below
import Derived.Lib.Hide
import Derived.Shelf.Abstract
import Derived.WalkKit
import Derived.RegionTactic
import Derived.Deep.Cut
import Derived.Deep.CutRange
namespace Go.Proofs.YtlpcallgkciklaaGreatDoor
open Go.RowKit Go.Shelf
set_option linter.unusedVariables false

theorem ConA.below {w w' : World} {A : Option Addr} {n : Nat} {C : Nat → CD} {B : Nat} (h : ConA w A n C) (hb : Below B w w') (hB : w.heap.size ≤ B) : ConA w' A n C := by
  rcases h with h | ⟨b, o, rfl, hl, hc⟩
  · exact .inl h
  · refine .inr ⟨b, o, rfl, Nat.lt_of_lt_of_le hl hb.size, fun i hi => ?_⟩
    obtain ⟨c0, c1, c2, c3, l⟩ := hc i hi
    exact ⟨(hb.cell (p := ⟨b, _, none⟩) (Nat.lt_of_lt_of_le hl hB)).trans c0, (hb.cell (p := ⟨b, _, none⟩) (Nat.lt_of_lt_of_le hl hB)).trans c1, (hb.cell (p := ⟨b, _, none⟩) (Nat.lt_of_lt_of_le hl hB)).trans c2, (hb.cell (p := ⟨b, _, none⟩) (Nat.lt_of_lt_of_le hl hB)).trans c3, l⟩
theorem RlA.below {w w' : World} {A : Option Addr} {n : Nat} {R : Nat → RL} {B : Nat} (h : RlA w A n R) (hb : Below B w w') (hB : w.heap.size ≤ B) : RlA w' A n R := by
  rcases h with h | ⟨b, o, rfl, hl, hc⟩
  · exact .inl h
  · refine .inr ⟨b, o, rfl, Nat.lt_of_lt_of_le hl hb.size, fun i hi => ?_⟩
    obtain ⟨c0, c1, c2, c3, l0, l1, l2, l3, l4, l5⟩ := hc i hi
    exact ⟨(hb.cell (p := ⟨b, _, none⟩) (Nat.lt_of_lt_of_le hl hB)).trans c0, (hb.cell (p := ⟨b, _, none⟩) (Nat.lt_of_lt_of_le hl hB)).trans c1, (hb.cell (p := ⟨b, _, none⟩) (Nat.lt_of_lt_of_le hl hB)).trans c2, (hb.cell (p := ⟨b, _, none⟩) (Nat.lt_of_lt_of_le hl hB)).trans c3, l0, l1, l2, l3, l4, l5.below hb hB⟩
abbrev polA (k u : Int) (x : Bool) (A : Option Addr) (n c : Nat) : Array Value := #[.int .i64 k, .int .i64 u, .bool x, .slice A n c]
def LightP (n : Nat) (R : Nat → RL) : Prop := n ≤ 40 ∧ ∀ i, i < n → (R i).nm.size ≤ 60 ∧ (R i).n ≤ 12
end Go.Proofs.YtlpcallgkciklaaGreatDoor
