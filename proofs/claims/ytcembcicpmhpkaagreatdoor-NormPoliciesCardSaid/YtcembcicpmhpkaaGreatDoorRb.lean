/-
  The laws' own light over policies: rules are few, names short, conditions few.
-/
import Derived.Test.YtcembcicpmhpkaaGreatDoorRa
import Derived.Test.YtcembcicpmhpkaaGreatDoorRw
import Derived.Below
import Derived.Lib.Hide
import Derived.Shelf.Abstract
import Derived.WalkKit
import Derived.RegionTactic
import Derived.Deep.Cut
import Derived.Deep.CutRange
namespace Go.Proofs.YtcembcicpmhpkaaGreatDoor
open Go.RowKit Go.Shelf
set_option linter.unusedVariables false

theorem ConA.below {w w' : World} {A : Option Addr} {n : Nat} {C : Nat → CD} {B : Nat} (h : ConA w A n C) (hb : Below B w w') (hB : w.heap.size ≤ B) : ConA w' A n C := by
  rcases h with h | ⟨b, o, rfl, hl, hc⟩
  · exact .inl h
  · refine .inr ⟨b, o, rfl, Nat.lt_of_lt_of_le hl hb.size, fun i hi => ?_⟩
    obtain ⟨c0, c1, c2, c3, l⟩ := hc i hi
    exact ⟨(hb.cell (p := ⟨b, _, none⟩) (Nat.lt_of_lt_of_le hl hB)).trans c0, (hb.cell (p := ⟨b, _, none⟩) (Nat.lt_of_lt_of_le hl hB)).trans c1, (hb.cell (p := ⟨b, _, none⟩) (Nat.lt_of_lt_of_le hl hB)).trans c2, (hb.cell (p := ⟨b, _, none⟩) (Nat.lt_of_lt_of_le hl hB)).trans c3, l⟩
theorem RlA.below {w w' : World} {A : Option Addr} {n : Nat} {R : Nat → RL} {B : Nat} (h : RlA w A n R) (hb : Below B w w') (hB : w.heap.size ≤ B) : RlA w' A n R := by
  rcases h with h | ⟨b, o, rfl, hl, hc⟩
  · exact .inl h
  · refine .inr ⟨b, o, rfl, Nat.lt_of_lt_of_le hl hb.size, fun i hi => ?_⟩
    obtain ⟨c0, c1, c2, c3, l0, l1, l2, l3, l4, l5⟩ := hc i hi
    exact ⟨(hb.cell (p := ⟨b, _, none⟩) (Nat.lt_of_lt_of_le hl hB)).trans c0, (hb.cell (p := ⟨b, _, none⟩) (Nat.lt_of_lt_of_le hl hB)).trans c1, (hb.cell (p := ⟨b, _, none⟩) (Nat.lt_of_lt_of_le hl hB)).trans c2, (hb.cell (p := ⟨b, _, none⟩) (Nat.lt_of_lt_of_le hl hB)).trans c3, l0, l1, l2, l3, l4, l5.below hb hB⟩
abbrev polA (k u : Int) (x : Bool) (A : Option Addr) (n c : Nat) : Array Value := #[.int .i64 k, .int .i64 u, .bool x, .slice A n c]
def LightP (n : Nat) (R : Nat → RL) : Prop := n ≤ 40 ∧ ∀ i, i < n → (R i).nm.size ≤ 60 ∧ (R i).n ≤ 12
set_option maxRecDepth 100000 in
set_option maxHeartbeats 4000000 in
theorem light_any (k u : Int) (x : Bool) (A : Option Addr) (n c : Nat) (R : Nat → RL) (w : World) (hc : n ≤ c) (hm : c ≤ maxLen) (hR : RlA w A n R) :
    Calls Tryz.prog 17 #[.agg (polA k u x A n c)] w fun e w' => (∃ b, e = .returned (.bool b) ∧ (b = true → LightP n R)) ∧ Below w.heap.size w w' := by
  obtain ⟨W0, hW0⟩ : ∃ W, w.alloc (.cells (polA k u x A n c) 26) = W := ⟨_, rfl⟩
  have HB := Lib.hid (show Below w.heap.size w W0 by rw [← hW0]; exact (Below.refl _ _).alloc (Nat.le_refl _) _)
  have HP := Lib.hid (show RowC W0 w.heap.size (polA k u x A n c) 26 by rw [← hW0]; exact RowC.new _ _ _ _ rfl)
  have HR := Lib.hid (hR.below HB.out (Nat.le_refl _))
  have HW := Lib.hid hW0
  have x3 := HP.out.cell 3 (.slice A n c) rfl
  clear hW0 hR
  by_cases h40 : n ≤ 40
  · have q0 : decide ((n : Int) > 40) = false := decide_eq_false (by omega)
    go_enter Tryz.func17, Tryz.ntmps17
    go_upto_region 1 with fail
    rw [HW.out]
    go_wp2
    go_loopw [3] (fun i wr => ∃ q : Nat, q ≤ n ∧ i = .int .i64 q ∧ wr = W0 ∧ Hid (∀ j, j < q → (R j).nm.size ≤ 60 ∧ (R j).n ≤ 12)) (fun i _ => n - (intOf i).toNat)
    case atStart => exact ⟨0, Nat.zero_le _, rfl, rfl, Lib.hid fun j hj => absurd hj (Nat.not_lt_zero _)⟩
    case round =>
      obtain ⟨q, hq, rfl, rfl, hok⟩ := hrel
      by_cases hlt : q < n
      · rcases HR.out with h0 | ⟨b, o, rfl, hb, hcs⟩
        · omega
        · obtain ⟨c0, _, _, c3, _⟩ := hcs q hlt
          have i1 : (0 : Int) ≤ (q : Int) := by omega
          have i2 : (q : Int) < (n : Int) := by omega
          rw [Nat.add_zero] at c0
          clear hcs
          by_cases h60 : (R q).nm.size ≤ 60
          · have q1 : decide (((R q).nm.size : Int) > 60) = false := decide_eq_false (by omega)
            by_cases h12 : (R q).n ≤ 12
            · have q2 : decide (((R q).n : Int) > 12) = false := decide_eq_false (by omega)
              go_wp2
              exact ⟨⟨q + 1, by omega, by go_num, trivial, Lib.hid fun j hj => by
                by_cases e : j = q
                · subst e; exact ⟨h60, h12⟩
                · exact hok.out j (by omega)⟩, by simp [intOf]; omega⟩
            · have q2 : decide (((R q).n : Int) > 12) = true := decide_eq_true (by omega)
              go_wp2
              go_ret
              exact ⟨⟨false, rfl, fun h => by cases h⟩, HB.out⟩
          · have q1 : decide (((R q).nm.size : Int) > 60) = true := decide_eq_true (by omega)
            go_wp2
            go_ret
            exact ⟨⟨false, rfl, fun h => by cases h⟩, HB.out⟩
      · obtain rfl : q = n := by omega
        go_wp2
        go_ret
        exact ⟨⟨true, rfl, fun _ => ⟨h40, hok.out⟩⟩, HB.out⟩
  · have q0 : decide ((n : Int) > 40) = true := decide_eq_true (by omega)
    go_enter Tryz.func17, Tryz.ntmps17
    go_upto_region 1 with fail
    rw [HW.out]
    go_wp2
    go_ret
    exact ⟨⟨false, rfl, fun h => by cases h⟩, HB.out⟩
end Go.Proofs.YtcembcicpmhpkaaGreatDoor
