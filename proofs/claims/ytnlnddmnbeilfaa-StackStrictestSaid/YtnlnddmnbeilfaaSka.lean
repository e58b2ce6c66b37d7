/-
  act.Right and the document's own Right: of any action (without the tables of texts).
-/
import Derived.Test.YtnlnddmnbeilfaaBc
import Derived.RegionTactic
import Derived.Lib.SmallJoins
import Derived.Deep.RegionHeld3
import Derived.BigQuiet
namespace Go.Proofs.Ytnlnddmnbeilfaa
open Go.RowKit

set_option maxRecDepth 100000 in
set_option maxHeartbeats 4000000 in
theorem right_ok (j : Nat) (hj : j < 8) (nm : Int) (hm : mayA j nm = true) (w : World) :
    Calls Try.prog 16 #[.agg #[.int .i64 ((j : Int) + 1), .int .i64 nm]] w fun e w' => e = .returned (.bool true) ∧ Below w.heap.size w w' := by
  have HF := Lib.hid (kindOf_ok j hj nm hm (w.alloc (.cells #[.int .i64 ((j : Int) + 1), .int .i64 nm] 26)))
  have hb : Below w.heap.size w (w.alloc (.cells #[.int .i64 ((j : Int) + 1), .int .i64 nm] 26)) := (Below.refl _ _).alloc (Nat.le_refl _) _
  have HB := Lib.hid hb
  clear hb hm
  go_enter Try.func16, Try.ntmps16
  go_wp2_with fail
  refine HF.out.mono ?_
  rintro e w1 ⟨⟨F, cap, rfl⟩, hB1⟩
  have HBE := Lib.hid ((HB.out.trans (hB1.mono HB.out.size)).alloc (by have := HB.out.size; have := hB1.size; omega) (.cells #[.string (kwA j), .int .u32 (kcA j), .bool (knA j), .func (.func F) #[] cap] 71))
  clear hB1
  go_wp2
  go_ret
  exact ⟨rfl, HBE.out⟩
set_option maxRecDepth 100000 in
set_option maxHeartbeats 4000000 in
theorem right_no (kd nm : Int) (hno : ∀ j : Nat, j < 8 → kd = (j : Int) + 1 → mayA j nm = false) (w : World) :
    Calls Try.prog 16 #[.agg #[.int .i64 kd, .int .i64 nm]] w fun e w' => e = .returned (.bool false) ∧ Below w.heap.size w w' := by
  have HF := Lib.hid (kindOf_no kd nm hno (w.alloc (.cells #[.int .i64 kd, .int .i64 nm] 26)))
  have hb : Below w.heap.size w (w.alloc (.cells #[.int .i64 kd, .int .i64 nm] 26)) := (Below.refl _ _).alloc (Nat.le_refl _) _
  have HB := Lib.hid hb
  clear hb hno
  go_enter Try.func16, Try.ntmps16
  go_wp2_with fail
  refine HF.out.mono ?_
  rintro e w1 ⟨rfl, hB1⟩
  have hz := hB1.size
  have HBE := Lib.hid ((HB.out.trans (hB1.mono HB.out.size)).alloc (by have := HB.out.size; omega) (.cells kind0 71))
  clear hB1
  go_wp2
  go_ret
  exact ⟨rfl, HBE.out⟩
set_option maxRecDepth 100000 in
set_option maxHeartbeats 4000000 in
theorem most_at (j : Nat) (w : World) : Calls Try.prog 14 #[.int .i64 ((j : Int) + 1)] w fun e w' => e = .returned (.int .i64 (mostA j)) ∧ w = w' := by
  by_cases h3 : j = 3
  · subst h3
    show Calls Try.prog 14 #[.int .i64 4] w fun e w' => e = .returned (.int .i64 4095) ∧ w = w'
    go_enter Try.func14, Try.ntmps14
    go_wp2
    go_ret
    exact ⟨rfl, rfl⟩
  by_cases h5 : j = 5
  · subst h5
    show Calls Try.prog 14 #[.int .i64 6] w fun e w' => e = .returned (.int .i64 65535) ∧ w = w'
    go_enter Try.func14, Try.ntmps14
    go_wp2
    go_ret
    exact ⟨rfl, rfl⟩
  have e : mostA j = 0 := by unfold mostA; rw [if_neg h3, if_neg h5]
  rw [e]
  have a3 : ((j : Int) + 1 == 4) = false := by simp; omega
  have a5 : ((j : Int) + 1 == 6) = false := by simp; omega
  have b3 : ¬ (j : Int) + 1 = 4 := by omega
  have b5 : ¬ (j : Int) + 1 = 6 := by omega
  generalize (j : Int) + 1 = k at *
  clear e h3 h5
  go_enter Try.func14, Try.ntmps14
  go_wp2
  go_ret
  exact ⟨rfl, rfl⟩
set_option maxRecDepth 100000 in
set_option maxHeartbeats 4000000 in
/-- A right action is right by the document's own function. -/
theorem right9_ok (j : Nat) (hj : j < 8) (n : Int) (hm : mayA j n = true) (w : World) : Calls Try.prog 6 #[.agg #[.int .i64 ((j : Int) + 1), .int .i64 n]] w fun e w' => e = .returned (.bool true) ∧ Below w.heap.size w w' := by
  have hr : RowC (w.alloc (.cells #[.int .i64 ((j : Int) + 1), .int .i64 n] 25)) w.heap.size #[.int .i64 ((j : Int) + 1), .int .i64 n] 25 := RowC.new _ _ _ _ rfl
  have hb : Below w.heap.size w (w.alloc (.cells #[.int .i64 ((j : Int) + 1), .int .i64 n] 25)) := (Below.refl _ _).alloc (Nat.le_refl _) _
  unfold mayA at hm
  simp only [Bool.and_eq_true, decide_eq_true_eq] at hm
  have g1 : decide ((1 : Int) ≤ (j : Int) + 1) = true := decide_eq_true (by omega)
  have g2 : decide ((j : Int) + 1 ≤ 8) = true := decide_eq_true (by omega)
  have g3 : decide ((0 : Int) ≤ n) = true := decide_eq_true (by omega)
  have g4 : decide (n ≤ mostA j) = true := decide_eq_true (by omega)
  have g1' : (1 : Int) ≤ (j : Int) + 1 := by omega
  have g2' : (j : Int) + 1 ≤ 8 := by omega
  have g3' : (0 : Int) ≤ n := by omega
  have g4' : n ≤ mostA j := by omega
  have HC := Lib.hid fun W => most_at j W
  have HB := Lib.hid hb
  clear hj hb hm
  go_enter Try.func6, Try.ntmps6
  go_wp2_with fail
  generalize w.alloc (.cells #[.int .i64 ((j : Int) + 1), .int .i64 n] 25) = W1 at *
  have hS : Hid (W1.drew.cell? ⟨w.heap.size, 0, none⟩ = some (.int .i64 ((j : Int) + 1)) ∧ W1.drew.cell? ⟨w.heap.size, 1, none⟩ = some (.int .i64 n)) := Lib.hid ⟨hr.cell 0 _ rfl, hr.cell 1 _ rfl⟩
  generalize (j : Int) + 1 = P1 at *
  generalize mostA j = M at *
  clear hr
  go_region_held3 (fun w' => w'.cell? ⟨w.heap.size, 0, none⟩ = some (.int .i64 P1) ∧ w'.cell? ⟨w.heap.size, 1, none⟩ = some (.int .i64 n))
    (first | exact hS.out | assumption | go_keep)
    (first
      | (go_at_call 14
         (with_reducible refine (HC.out _).mono ?_)
         rintro e w2 ⟨rfl, rfl⟩))
  all_goals go_wp2
  all_goals go_ret
  all_goals exact ⟨rfl, HB.out.drew⟩
set_option maxRecDepth 100000 in
set_option maxHeartbeats 4000000 in
theorem right9_no (kd n : Int) (hno : ∀ j : Nat, j < 8 → kd = (j : Int) + 1 → mayA j n = false) (w : World) : Calls Try.prog 6 #[.agg #[.int .i64 kd, .int .i64 n]] w fun e w' => e = .returned (.bool false) ∧ Below w.heap.size w w' := by
  have hr : RowC (w.alloc (.cells #[.int .i64 kd, .int .i64 n] 25)) w.heap.size #[.int .i64 kd, .int .i64 n] 25 := RowC.new _ _ _ _ rfl
  have hb : Below w.heap.size w (w.alloc (.cells #[.int .i64 kd, .int .i64 n] 25)) := (Below.refl _ _).alloc (Nat.le_refl _) _
  have HB := Lib.hid hb
  have HNO := Lib.hid hno
  clear hb hno
  go_enter Try.func6, Try.ntmps6
  go_wp2_with fail
  generalize w.alloc (.cells #[.int .i64 kd, .int .i64 n] 25) = W1 at *
  have hS : Hid (W1.drew.cell? ⟨w.heap.size, 0, none⟩ = some (.int .i64 kd) ∧ W1.drew.cell? ⟨w.heap.size, 1, none⟩ = some (.int .i64 n)) := Lib.hid ⟨hr.cell 0 _ rfl, hr.cell 1 _ rfl⟩
  clear hr
  by_cases c1 : 1 ≤ kd
  · have g1 : decide ((1 : Int) ≤ kd) = true := decide_eq_true c1
    by_cases c2 : kd ≤ 8
    · have g2 : decide (kd ≤ 8) = true := decide_eq_true c2
      by_cases c3 : 0 ≤ n
      · have g3 : decide ((0 : Int) ≤ n) = true := decide_eq_true c3
        obtain ⟨j, hj⟩ : ∃ j : Nat, kd - 1 = j := Int.eq_ofNat_of_zero_le (by omega)
        have hk : kd = (j : Int) + 1 := by omega
        have hM := HNO.out j (by omega) hk
        unfold mayA at hM
        rw [decide_eq_true c3, Bool.true_and] at hM
        have c4 : ¬ n ≤ mostA j := by simpa using hM
        have HC := Lib.hid fun W => most_at j W
        rw [← hk] at HC
        generalize mostA j = M at *
        clear hk hj HNO
        go_region_held3 (fun w' => w'.cell? ⟨w.heap.size, 0, none⟩ = some (.int .i64 kd) ∧ w'.cell? ⟨w.heap.size, 1, none⟩ = some (.int .i64 n))
          (first | exact hS.out | assumption | go_keep)
          (first
            | (go_at_call 14
               (with_reducible refine (HC.out _).mono ?_)
               rintro e w2 ⟨rfl, rfl⟩))
        all_goals go_wp2
        all_goals go_ret
        all_goals exact ⟨rfl, HB.out.drew⟩
      · have g3 : decide ((0 : Int) ≤ n) = false := decide_eq_false c3
        have x0 : W1.cell? ⟨w.heap.size, 0, none⟩ = some (.int .i64 kd) := hS.out.1
        have x1 : W1.cell? ⟨w.heap.size, 1, none⟩ = some (.int .i64 n) := hS.out.2
        go_quiet (fail)
        all_goals go_wp2
        all_goals go_ret
        all_goals exact ⟨rfl, bdn HB.out _⟩
    · have g2 : decide (kd ≤ 8) = false := decide_eq_false c2
      have x0 : W1.cell? ⟨w.heap.size, 0, none⟩ = some (.int .i64 kd) := hS.out.1
      have x1 : W1.cell? ⟨w.heap.size, 1, none⟩ = some (.int .i64 n) := hS.out.2
      go_quiet (fail)
      all_goals go_wp2
      all_goals go_ret
      all_goals exact ⟨rfl, bdn HB.out _⟩
  · have g1 : decide ((1 : Int) ≤ kd) = false := decide_eq_false c1
    have x0 : W1.cell? ⟨w.heap.size, 0, none⟩ = some (.int .i64 kd) := hS.out.1
    have x1 : W1.cell? ⟨w.heap.size, 1, none⟩ = some (.int .i64 n) := hS.out.2
    go_quiet (fail)
    all_goals go_wp2
    all_goals go_ret
    all_goals exact ⟨rfl, bdn HB.out _⟩
/-- May an action be? -/
def rgt9 (kd nm : Int) : Bool := decide (1 ≤ kd) && decide (kd ≤ 8) && mayA (kd - 1).toNat nm
theorem rgt9_cases (kd nm : Int) : (∃ j : Nat, j < 8 ∧ kd = (j : Int) + 1 ∧ mayA j nm = true ∧ rgt9 kd nm = true) ∨ ((∀ j : Nat, j < 8 → kd = (j : Int) + 1 → mayA j nm = false) ∧ rgt9 kd nm = false) := by
  unfold rgt9
  by_cases h : 1 ≤ kd ∧ kd ≤ 8
  · obtain ⟨j, hj⟩ : ∃ j : Nat, kd - 1 = j := Int.eq_ofNat_of_zero_le (by omega)
    have hk : kd = (j : Int) + 1 := by omega
    have ht : (kd - 1).toNat = j := by omega
    rw [ht, decide_eq_true h.1, decide_eq_true h.2]
    cases hm : mayA j nm
    · refine .inr ⟨fun i hi he => ?_, rfl⟩
      obtain rfl : i = j := by omega
      exact hm
    · exact .inl ⟨j, by omega, hk, hm, rfl⟩
  · refine .inr ⟨fun i hi he => absurd ⟨by omega, by omega⟩ h, ?_⟩
    by_cases h1 : 1 ≤ kd
    · rw [decide_eq_false (show ¬ kd ≤ 8 from fun h2 => h ⟨h1, h2⟩)]; simp
    · rw [decide_eq_false h1]; simp
theorem right_all (kd nm : Int) (w : World) : Calls Try.prog 16 #[.agg #[.int .i64 kd, .int .i64 nm]] w fun e w' => e = .returned (.bool (rgt9 kd nm)) ∧ Below w.heap.size w w' := by
  rcases rgt9_cases kd nm with ⟨j, hj, rfl, hm, hr⟩ | ⟨hno, hr⟩ <;> rw [hr]
  · exact right_ok j hj nm hm w
  · exact right_no kd nm hno w
theorem right9_all (kd nm : Int) (w : World) : Calls Try.prog 6 #[.agg #[.int .i64 kd, .int .i64 nm]] w fun e w' => e = .returned (.bool (rgt9 kd nm)) ∧ Below w.heap.size w w' := by
  rcases rgt9_cases kd nm with ⟨j, hj, rfl, hm, hr⟩ | ⟨hno, hr⟩ <;> rw [hr]
  · exact right9_ok j hj nm hm w
  · exact right9_no kd nm hno w
end Go.Proofs.Ytnlnddmnbeilfaa
