/-
  Layer 15: light (few rules, few rows, short names).
-/
import Derived.Test.YtccklmleaffgiaaGreatDoorCop
import Derived.Test.YtccklmleaffgiaaGreatDoorP30
namespace Go.Proofs.YtccklmleaffgiaaGreatDoor
open Go.RowKit Go.Shelf
set_option linter.unusedVariables false

set_option maxRecDepth 100000 in
set_option maxHeartbeats 8000000 in
theorem light15_any (k u : Int) (x : Bool) (A : Option Addr) (n c : Nat) (R : Nat → RL) (TA : Option Addr) (tn tcap : Nat) (T : Nat → SR) (w : World) (hc : n ≤ c) (hm : c ≤ maxLen) (hR : RlA w A n R) (ht : TbA w TA tn T) :
    Calls Tryz.prog 14 #[.agg (polA k u x A n c), .slice TA tn tcap] w fun e w' => (∃ b, e = .returned (.bool b) ∧ (b = true → LightP n R ∧ tn ≤ 40 ∧ ∀ j, j < tn → (T j).nm.size ≤ 60)) ∧ Below w.heap.size w w' := by
  obtain ⟨W0, hW0⟩ : ∃ W, w.alloc (.cells (polA k u x A n c) 39) = W := ⟨_, rfl⟩
  have HB := Lib.hid (show Below w.heap.size w W0 by rw [← hW0]; exact (Below.refl _ _).alloc (Nat.le_refl _) _)
  have HP := Lib.hid (show RowC W0 w.heap.size (polA k u x A n c) 39 by rw [← hW0]; exact RowC.new _ _ _ _ rfl)
  have HR := Lib.hid (hR.below HB.out (Nat.le_refl _))
  have HT := Lib.hid (ht.below HB.out (Nat.le_refl _))
  have HW := Lib.hid hW0
  have x3 := HP.out.cell 3 (.slice A n c) rfl
  clear hW0 hR ht
  by_cases h40 : n ≤ 40
  · have q0 : decide ((n : Int) > 40) = false := decide_eq_false (by omega)
    by_cases t40 : tn ≤ 40
    · have q5 : decide ((tn : Int) > 40) = false := decide_eq_false (by omega)
      go_enter Tryz.func14, Tryz.ntmps14
      go_upto_region 1 with fail
      rw [HW.out]
      go_wp2
      go_loopw [5] (fun i wr => ∃ q : Nat, q ≤ n ∧ i = .int .i64 q ∧ wr = W0 ∧ Hid (∀ j, j < q → (R j).nm.size ≤ 60 ∧ (R j).n ≤ 12)) (fun i _ => n - (intOf i).toNat)
      case atStart => exact ⟨0, Nat.zero_le _, rfl, rfl, Lib.hid fun j hj => absurd hj (Nat.not_lt_zero _)⟩
      case round =>
        obtain ⟨q, hq, rfl, rfl, hok⟩ := hrel
        by_cases hlt : q < n
        · rcases HR.out with h0 | ⟨b, o, rfl, hb, hcs⟩
          · omega
          · obtain ⟨c0, _, _, c3, _⟩ := hcs q hlt
            have i1 : (0 : Int) ≤ (q : Int) := by omega
            have i2 : (q : Int) < (n : Int) := by omega
            rw [Nat.add_zero] at c0
            clear hcs
            by_cases h60 : (R q).nm.size ≤ 60
            · have q1 : decide (((R q).nm.size : Int) > 60) = false := decide_eq_false (by omega)
              by_cases h12 : (R q).n ≤ 12
              · have q2 : decide (((R q).n : Int) > 12) = false := decide_eq_false (by omega)
                go_wp2
                exact ⟨⟨q + 1, by omega, by go_num, trivial, Lib.hid fun j hj => by
                  by_cases e : j = q
                  · subst e; exact ⟨h60, h12⟩
                  · exact hok.out j (by omega)⟩, by simp [intOf]; omega⟩
              · have q2 : decide (((R q).n : Int) > 12) = true := decide_eq_true (by omega)
                go_wp2
                go_ret
                exact ⟨⟨false, rfl, fun h => by cases h⟩, HB.out⟩
            · have q1 : decide (((R q).nm.size : Int) > 60) = true := decide_eq_true (by omega)
              go_wp2
              go_ret
              exact ⟨⟨false, rfl, fun h => by cases h⟩, HB.out⟩
        · obtain rfl : q = n := by omega
          go_wp2
          go_loopw [6] (fun i wr' => ∃ q' : Nat, q' ≤ tn ∧ i = .int .i64 q' ∧ wr' = wr ∧ Hid (∀ j, j < q' → (T j).nm.size ≤ 60)) (fun i _ => tn - (intOf i).toNat)
          case atStart => exact ⟨0, Nat.zero_le _, rfl, rfl, Lib.hid fun j hj => absurd hj (Nat.not_lt_zero _)⟩
          case round =>
            obtain ⟨q', hq', rfl, rfl, hok'⟩ := hrel
            by_cases hlt' : q' < tn
            · obtain ⟨b, o, rfl, htb⟩ := HT.out.at_ (by omega)
              have c0 := (htb.2 q' hlt').1
              have i1 : (0 : Int) ≤ (q' : Int) := by omega
              have i2 : (q' : Int) < (tn : Int) := by omega
              by_cases h60 : (T q').nm.size ≤ 60
              · have q1 : decide (((T q').nm.size : Int) > 60) = false := decide_eq_false (by omega)
                go_wp2
                exact ⟨⟨q' + 1, by omega, by go_num, trivial, Lib.hid fun j hj => by
                  by_cases e : j = q'
                  · subst e; exact h60
                  · exact hok'.out j (by omega)⟩, by simp [intOf]; omega⟩
              · have q1 : decide (((T q').nm.size : Int) > 60) = true := decide_eq_true (by omega)
                go_wp2
                go_ret
                exact ⟨⟨false, rfl, fun h => by cases h⟩, HB.out⟩
            · obtain rfl : q' = tn := by omega
              go_wp2
              go_ret
              exact ⟨⟨true, rfl, fun _ => ⟨⟨h40, hok.out⟩, t40, hok'.out⟩⟩, HB.out⟩
    · have q5 : decide ((tn : Int) > 40) = true := decide_eq_true (by omega)
      go_enter Tryz.func14, Tryz.ntmps14
      go_upto_region 1 with fail
      rw [HW.out]
      go_wp2
      go_ret
      exact ⟨⟨false, rfl, fun h => by cases h⟩, HB.out⟩
  · have q0 : decide ((n : Int) > 40) = true := decide_eq_true (by omega)
    go_enter Tryz.func14, Tryz.ntmps14
    go_upto_region 1 with fail
    rw [HW.out]
    go_wp2
    go_ret
    exact ⟨⟨false, rfl, fun h => by cases h⟩, HB.out⟩
end Go.Proofs.YtccklmleaffgiaaGreatDoor
