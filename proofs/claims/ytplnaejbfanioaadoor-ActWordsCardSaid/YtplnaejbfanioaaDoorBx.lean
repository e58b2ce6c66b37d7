/-
  The document's own Right of a wrong action.
-/
import Derived.Test.YtplnaejbfanioaaDoorBw
import Derived.BigQuiet
namespace Go.Proofs.YtplnaejbfanioaaDoor
open Go.RowKit

set_option maxRecDepth 100000 in
set_option maxHeartbeats 4000000 in
theorem right9_no (kd n : Int) (hno : ∀ j : Nat, j < 8 → kd = (j : Int) + 1 → mayA j n = false) (w : World) : Calls Tryd.prog 25 #[.agg #[.int .i64 kd, .int .i64 n]] w fun e w' => e = .returned (.bool false) ∧ Below w.heap.size w w' := by
  have hr : RowC (w.alloc (.cells #[.int .i64 kd, .int .i64 n] 54)) w.heap.size #[.int .i64 kd, .int .i64 n] 54 := RowC.new _ _ _ _ rfl
  have hb : Below w.heap.size w (w.alloc (.cells #[.int .i64 kd, .int .i64 n] 54)) := (Below.refl _ _).alloc (Nat.le_refl _) _
  have HB := Lib.hid hb
  have HNO := Lib.hid hno
  clear hb hno
  go_enter Tryd.func25, Tryd.ntmps25
  go_wp2_with fail
  generalize w.alloc (.cells #[.int .i64 kd, .int .i64 n] 54) = W1 at *
  have hS : Hid (W1.drew.cell? ⟨w.heap.size, 0, none⟩ = some (.int .i64 kd) ∧ W1.drew.cell? ⟨w.heap.size, 1, none⟩ = some (.int .i64 n)) := Lib.hid ⟨hr.cell 0 _ rfl, hr.cell 1 _ rfl⟩
  clear hr
  by_cases c1 : 1 ≤ kd
  · have g1 : decide ((1 : Int) ≤ kd) = true := decide_eq_true c1
    by_cases c2 : kd ≤ 8
    · have g2 : decide (kd ≤ 8) = true := decide_eq_true c2
      by_cases c3 : 0 ≤ n
      · have g3 : decide ((0 : Int) ≤ n) = true := decide_eq_true c3
        obtain ⟨j, hj⟩ : ∃ j : Nat, kd - 1 = j := Int.eq_ofNat_of_zero_le (by omega)
        have hk : kd = (j : Int) + 1 := by omega
        have hM := HNO.out j (by omega) hk
        unfold mayA at hM
        rw [decide_eq_true c3, Bool.true_and] at hM
        have c4 : ¬ n ≤ mostA j := by simpa using hM
        have HC := Lib.hid fun W => most_at j W
        rw [← hk] at HC
        generalize mostA j = M at *
        clear hk hj HNO
        go_region_held3 (fun w' => w'.cell? ⟨w.heap.size, 0, none⟩ = some (.int .i64 kd) ∧ w'.cell? ⟨w.heap.size, 1, none⟩ = some (.int .i64 n))
          (first | exact hS.out | assumption | go_keep)
          (first
            | (go_at_call 44
               (with_reducible refine (HC.out _).mono ?_)
               rintro e w2 ⟨rfl, rfl⟩))
        all_goals go_wp2
        all_goals go_ret
        all_goals exact ⟨rfl, HB.out.drew⟩
      · have g3 : decide ((0 : Int) ≤ n) = false := decide_eq_false c3
        have x0 : W1.cell? ⟨w.heap.size, 0, none⟩ = some (.int .i64 kd) := hS.out.1
        have x1 : W1.cell? ⟨w.heap.size, 1, none⟩ = some (.int .i64 n) := hS.out.2
        go_quiet (fail)
        all_goals go_wp2
        all_goals go_ret
        all_goals exact ⟨rfl, bdn HB.out _⟩
    · have g2 : decide (kd ≤ 8) = false := decide_eq_false c2
      have x0 : W1.cell? ⟨w.heap.size, 0, none⟩ = some (.int .i64 kd) := hS.out.1
      have x1 : W1.cell? ⟨w.heap.size, 1, none⟩ = some (.int .i64 n) := hS.out.2
      go_quiet (fail)
      all_goals go_wp2
      all_goals go_ret
      all_goals exact ⟨rfl, bdn HB.out _⟩
  · have g1 : decide ((1 : Int) ≤ kd) = false := decide_eq_false c1
    have x0 : W1.cell? ⟨w.heap.size, 0, none⟩ = some (.int .i64 kd) := hS.out.1
    have x1 : W1.cell? ⟨w.heap.size, 1, none⟩ = some (.int .i64 n) := hS.out.2
    go_quiet (fail)
    all_goals go_wp2
    all_goals go_ret
    all_goals exact ⟨rfl, bdn HB.out _⟩
end Go.Proofs.YtplnaejbfanioaaDoor
