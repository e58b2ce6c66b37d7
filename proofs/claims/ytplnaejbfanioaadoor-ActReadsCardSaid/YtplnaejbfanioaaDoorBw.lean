/-
  The contracts of the document's own functions of layer 9: base, Most, Word, Code, Right, Text, From.
-/
import Derived.Test.YtplnaejbfanioaaDoorBv
import Derived.Deep.RegionHeld3
namespace Go.Proofs.YtplnaejbfanioaaDoor
open Go.RowKit

set_option maxRecDepth 100000 in
set_option maxHeartbeats 4000000 in
theorem word_at (j : Nat) (hj : j < 8) (w : World) : Calls Tryd.prog 42 #[.int .i64 ((j : Int) + 1)] w fun e w' => e = .returned (.string (kwA j)) ∧ Below w.heap.size w w' := by
  have hB : ∀ o, Below w.heap.size w (w.alloc o) := fun o => (Below.refl _ _).alloc (Nat.le_refl _) o
  have HB := Lib.hid hB
  clear hB
  have h : j = 0 ∨ j = 1 ∨ j = 2 ∨ j = 3 ∨ j = 4 ∨ j = 5 ∨ j = 6 ∨ j = 7 := by omega
  clear hj
  rcases h with rfl | rfl | rfl | rfl | rfl | rfl | rfl | rfl
  · show Calls Tryd.prog 42 #[.int .i64 1] w fun e w' => e = .returned (.string ⟨#[107, 105, 108, 108]⟩) ∧ Below w.heap.size w w'
    go_enter Tryd.func42, Tryd.ntmps42
    go_wp2
    go_ret
    exact ⟨rfl, HB.out _⟩
  · show Calls Tryd.prog 42 #[.int .i64 2] w fun e w' => e = .returned (.string ⟨#[107, 105, 108, 108, 95, 116, 104, 114, 101, 97, 100]⟩) ∧ Below w.heap.size w w'
    go_enter Tryd.func42, Tryd.ntmps42
    go_wp2
    go_ret
    exact ⟨rfl, HB.out _⟩
  · show Calls Tryd.prog 42 #[.int .i64 3] w fun e w' => e = .returned (.string ⟨#[116, 114, 97, 112]⟩) ∧ Below w.heap.size w w'
    go_enter Tryd.func42, Tryd.ntmps42
    go_wp2
    go_ret
    exact ⟨rfl, HB.out _⟩
  · show Calls Tryd.prog 42 #[.int .i64 4] w fun e w' => e = .returned (.string ⟨#[101, 114, 114, 110, 111]⟩) ∧ Below w.heap.size w w'
    go_enter Tryd.func42, Tryd.ntmps42
    go_wp2
    go_ret
    exact ⟨rfl, HB.out _⟩
  · show Calls Tryd.prog 42 #[.int .i64 5] w fun e w' => e = .returned (.string ⟨#[110, 111, 116, 105, 102, 121]⟩) ∧ Below w.heap.size w w'
    go_enter Tryd.func42, Tryd.ntmps42
    go_wp2
    go_ret
    exact ⟨rfl, HB.out _⟩
  · show Calls Tryd.prog 42 #[.int .i64 6] w fun e w' => e = .returned (.string ⟨#[116, 114, 97, 99, 101]⟩) ∧ Below w.heap.size w w'
    go_enter Tryd.func42, Tryd.ntmps42
    go_wp2
    go_ret
    exact ⟨rfl, HB.out _⟩
  · show Calls Tryd.prog 42 #[.int .i64 7] w fun e w' => e = .returned (.string ⟨#[108, 111, 103]⟩) ∧ Below w.heap.size w w'
    go_enter Tryd.func42, Tryd.ntmps42
    go_wp2
    go_ret
    exact ⟨rfl, HB.out _⟩
  · show Calls Tryd.prog 42 #[.int .i64 8] w fun e w' => e = .returned (.string ⟨#[97, 108, 108, 111, 119]⟩) ∧ Below w.heap.size w w'
    go_enter Tryd.func42, Tryd.ntmps42
    go_wp2
    go_ret
    exact ⟨rfl, HB.out _⟩
set_option maxRecDepth 100000 in
set_option maxHeartbeats 4000000 in
theorem most_at (j : Nat) (w : World) : Calls Tryd.prog 44 #[.int .i64 ((j : Int) + 1)] w fun e w' => e = .returned (.int .i64 (mostA j)) ∧ w = w' := by
  by_cases h3 : j = 3
  · subst h3
    show Calls Tryd.prog 44 #[.int .i64 4] w fun e w' => e = .returned (.int .i64 4095) ∧ w = w'
    go_enter Tryd.func44, Tryd.ntmps44
    go_wp2
    go_ret
    exact ⟨rfl, rfl⟩
  by_cases h5 : j = 5
  · subst h5
    show Calls Tryd.prog 44 #[.int .i64 6] w fun e w' => e = .returned (.int .i64 65535) ∧ w = w'
    go_enter Tryd.func44, Tryd.ntmps44
    go_wp2
    go_ret
    exact ⟨rfl, rfl⟩
  have e : mostA j = 0 := by unfold mostA; rw [if_neg h3, if_neg h5]
  rw [e]
  have a3 : ((j : Int) + 1 == 4) = false := by simp; omega
  have a5 : ((j : Int) + 1 == 6) = false := by simp; omega
  have b3 : ¬ (j : Int) + 1 = 4 := by omega
  have b5 : ¬ (j : Int) + 1 = 6 := by omega
  generalize (j : Int) + 1 = k at *
  clear e h3 h5
  go_enter Tryd.func44, Tryd.ntmps44
  go_wp2
  go_ret
  exact ⟨rfl, rfl⟩

set_option maxRecDepth 100000 in
set_option maxHeartbeats 4000000 in
/-- A right action is right by the document's own function. -/
theorem right9_ok (j : Nat) (hj : j < 8) (n : Int) (hm : mayA j n = true) (w : World) : Calls Tryd.prog 25 #[.agg #[.int .i64 ((j : Int) + 1), .int .i64 n]] w fun e w' => e = .returned (.bool true) ∧ Below w.heap.size w w' := by
  have hr : RowC (w.alloc (.cells #[.int .i64 ((j : Int) + 1), .int .i64 n] 54)) w.heap.size #[.int .i64 ((j : Int) + 1), .int .i64 n] 54 := RowC.new _ _ _ _ rfl
  have hb : Below w.heap.size w (w.alloc (.cells #[.int .i64 ((j : Int) + 1), .int .i64 n] 54)) := (Below.refl _ _).alloc (Nat.le_refl _) _
  unfold mayA at hm
  simp only [Bool.and_eq_true, decide_eq_true_eq] at hm
  have g1 : decide ((1 : Int) ≤ (j : Int) + 1) = true := decide_eq_true (by omega)
  have g2 : decide ((j : Int) + 1 ≤ 8) = true := decide_eq_true (by omega)
  have g3 : decide ((0 : Int) ≤ n) = true := decide_eq_true (by omega)
  have g4 : decide (n ≤ mostA j) = true := decide_eq_true (by omega)
  have g1' : (1 : Int) ≤ (j : Int) + 1 := by omega
  have g2' : (j : Int) + 1 ≤ 8 := by omega
  have g3' : (0 : Int) ≤ n := by omega
  have g4' : n ≤ mostA j := by omega
  have HC := Lib.hid fun W => most_at j W
  have HB := Lib.hid hb
  clear hj hb hm
  go_enter Tryd.func25, Tryd.ntmps25
  go_wp2_with fail
  generalize w.alloc (.cells #[.int .i64 ((j : Int) + 1), .int .i64 n] 54) = W1 at *
  have hS : Hid (W1.drew.cell? ⟨w.heap.size, 0, none⟩ = some (.int .i64 ((j : Int) + 1)) ∧ W1.drew.cell? ⟨w.heap.size, 1, none⟩ = some (.int .i64 n)) := Lib.hid ⟨hr.cell 0 _ rfl, hr.cell 1 _ rfl⟩
  generalize (j : Int) + 1 = P1 at *
  generalize mostA j = M at *
  clear hr
  go_region_held3 (fun w' => w'.cell? ⟨w.heap.size, 0, none⟩ = some (.int .i64 P1) ∧ w'.cell? ⟨w.heap.size, 1, none⟩ = some (.int .i64 n))
    (first | exact hS.out | assumption | go_keep)
    (first
      | (go_at_call 44
         (with_reducible refine (HC.out _).mono ?_)
         rintro e w2 ⟨rfl, rfl⟩))
  all_goals go_wp2
  all_goals go_ret
  all_goals exact ⟨rfl, HB.out.drew⟩
end Go.Proofs.YtplnaejbfanioaaDoor
