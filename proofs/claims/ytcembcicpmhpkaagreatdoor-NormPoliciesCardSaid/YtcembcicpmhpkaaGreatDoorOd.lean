/-
  Layer 16: what a condition becomes holds for the same arguments; the laws' own conds; an argument that is an array of six words.
-/
import Derived.Test.YtcembcicpmhpkaaGreatDoorOc
import Derived.Test.YtcembcicpmhpkaaGreatDoorRows
import Derived.WalkKit
import Derived.ProofKit
import Derived.OpenShut
namespace Go.Proofs.YtcembcicpmhpkaaGreatDoor
open Go.RowKit Go.Shelf
set_option linter.unusedVariables false

theorem and_full16 (n : Nat) (h : n < 18446744073709551616) : n &&& 18446744073709551615 = n := by
  rw [show (18446744073709551615 : Nat) = 2 ^ 64 - 1 by rfl, Nat.and_two_pow_sub_one_eq_mod]
  exact Nat.mod_eq_of_lt (by omega)
theorem and_beside (x m : Nat) (hm : m ≤ 18446744073709551615) : (x &&& m) &&& (18446744073709551615 - m) = 0 := by
  apply Nat.eq_of_testBit_eq
  intro i
  rw [show (18446744073709551615 : Nat) - m = 2 ^ 64 - (m + 1) by omega, Nat.testBit_and, Nat.testBit_and, Nat.testBit_two_pow_sub_succ (by omega), Nat.zero_testBit]
  cases m.testBit i <;> simp
/-- What a right condition becomes holds where it does. -/
def KeepN (a : Int) (C : Array Value) (st : Int) (x : Nat) (b : Bool) : Prop :=
  ∃ (a' o' : Int) (m' v' : Nat), C = condA a' o' m' v' ∧ ((st = 1 ∧ b = true) ∨ (st = 2 ∧ b = false) ∨ (st = 0 ∧ ∃ j', a' = a ∧ RightO a o' m' j' ∧ m' < 18446744073709551616 ∧ hoF j' x m' v' = b))
theorem keep_all (a : Int) (x : Nat) : KeepN a zN 1 x true := ⟨0, 0, 0, 0, rfl, .inl ⟨rfl, rfl⟩⟩
theorem keep_none (a : Int) (x : Nat) : KeepN a zN 2 x false := ⟨0, 0, 0, 0, rfl, .inr (.inl ⟨rfl, rfl⟩)⟩
theorem keep_as (a o : Int) (m v x j : Nat) (b : Bool) (hr : RightO a o m j) (hm : m < 18446744073709551616) (h : hoF j x m v = b) : KeepN a (condA a o m v) 0 x b := ⟨a, o, m, v, rfl, .inr (.inr ⟨rfl, j, rfl, hr, hm, h⟩)⟩
theorem keep_bel (a : Int) (ha : 0 ≤ a ∧ a < 6) (v x : Nat) : KeepN a (belF a 3 0 v).1 (belF a 3 0 v).2 x (decide (x < v)) := by
  by_cases h0 : v = 0
  · subst h0
    rw [show decide (x < 0) = false from decide_eq_false (by omega)]
    exact keep_none a x
  · by_cases h1 : v = 1
    · subst h1
      exact keep_as a 1 0 0 x 0 _ ⟨ha.1, ha.2, by decide, rfl, rfl⟩ (by decide) (by show (x == 0) = decide (x < 1); rw [Bool.eq_iff_iff]; simp; try omega)
    · rw [show belF a 3 0 v = (condA a 3 0 v, 0) by unfold belF; rw [if_neg h0, if_neg h1]]
      exact keep_as a 3 0 v x 2 _ ⟨ha.1, ha.2, by decide, rfl, rfl⟩ (by decide) rfl
theorem keep_atl (a : Int) (ha : 0 ≤ a ∧ a < 6) (v x : Nat) (hx : x < 18446744073709551616) : KeepN a (atlF a 6 0 v).1 (atlF a 6 0 v).2 x (decide (v ≤ x)) := by
  by_cases h0 : v = 0
  · subst h0
    rw [show decide (0 ≤ x) = true from decide_eq_true (by omega)]
    exact keep_all a x
  · by_cases h1 : v = 18446744073709551615
    · rw [show atlF a 6 0 v = (condA a 1 0 18446744073709551615, 0) by unfold atlF; rw [if_neg h0, if_pos h1]]
      have h1' : v = 18446744073709551615 := h1
      exact keep_as a 1 0 18446744073709551615 x 0 _ ⟨ha.1, ha.2, by decide, rfl, rfl⟩ (by decide) (by show (x == 18446744073709551615) = decide (v ≤ x); rw [Bool.eq_iff_iff]; simp; try omega)
    · rw [show atlF a 6 0 v = (condA a 6 0 v, 0) by unfold atlF; rw [if_neg h0, if_neg h1]]
      exact keep_as a 6 0 v x 5 _ ⟨ha.1, ha.2, by decide, rfl, rfl⟩ (by decide) rfl
theorem nF_holds (a o : Int) (m v j x : Nat) (hr : RightO a o m j) (hm : m ≤ 18446744073709551615) (hv : v ≤ 18446744073709551615) (hx : x < 18446744073709551616) : KeepN a (nF j a m v).1 (nF j a m v).2 x (hoF j x m v) := by
  obtain ⟨h1, h2, h3, h4, h5⟩ := hr
  match j, h3, h4, h5 with
  | 0, h3, h4, h5 => exact keep_as a 1 m v x 0 _ ⟨h1, h2, by decide, rfl, h5⟩ (by omega) rfl
  | 1, h3, h4, h5 => exact keep_as a 2 m v x 1 _ ⟨h1, h2, by decide, rfl, h5⟩ (by omega) rfl
  | 2, h3, h4, h5 =>
    obtain rfl : m = 0 := by simpa [mkO] using h5
    exact keep_bel a ⟨h1, h2⟩ v x
  | 3, h3, h4, h5 =>
    show KeepN a (atmF a v).1 (atmF a v).2 x (decide (x ≤ v))
    by_cases h : v = 18446744073709551615
    · rw [show atmF a v = (zN, 1) by unfold atmF; rw [if_pos h]]
      have h' : v = 18446744073709551615 := h
      rw [show decide (x ≤ v) = true from decide_eq_true (by omega)]
      exact keep_all a x
    · rw [show atmF a v = belF a 3 0 (v + 1) by unfold atmF; rw [if_neg h], show decide (x ≤ v) = decide (x < v + 1) by rw [Bool.eq_iff_iff]; simp; try omega]
      exact keep_bel a ⟨h1, h2⟩ (v + 1) x
  | 4, h3, h4, h5 =>
    show KeepN a (aboF a v).1 (aboF a v).2 x (decide (v < x))
    by_cases h : v = 18446744073709551615
    · rw [show aboF a v = (zN, 2) by unfold aboF; rw [if_pos h]]
      have h' : v = 18446744073709551615 := h
      rw [show decide (v < x) = false from decide_eq_false (by omega)]
      exact keep_none a x
    · rw [show aboF a v = atlF a 6 0 (v + 1) by unfold aboF; rw [if_neg h], show decide (v < x) = decide (v + 1 ≤ x) by rw [Bool.eq_iff_iff]; simp; try omega]
      exact keep_atl a ⟨h1, h2⟩ (v + 1) x hx
  | 5, h3, h4, h5 =>
    obtain rfl : m = 0 := by simpa [mkO] using h5
    exact keep_atl a ⟨h1, h2⟩ v x hx
  | 6, h3, h4, h5 =>
    show KeepN a (mskF a 7 m v).1 (mskF a 7 m v).2 x ((x &&& m) == v)
    by_cases h : v &&& (18446744073709551615 - m) ≠ 0
    · rw [show mskF a 7 m v = (zN, 2) by unfold mskF; rw [if_pos h], show ((x &&& m) == v) = false from beq_eq_false_iff_ne.2 fun he => h (he ▸ and_beside x m hm)]
      exact keep_none a x
    · by_cases h0 : m = 0
      · rw [show mskF a 7 m v = (zN, 1) by unfold mskF; rw [if_neg h, if_pos h0]]
        subst h0
        have hz : v = 0 := by
          have := Decidable.not_not.1 h
          rw [← this]
          exact (and_full16 v (by omega)).symm
        rw [show ((x &&& 0) == v) = true from beq_iff_eq.2 (by rw [Nat.and_zero]; exact hz.symm)]
        exact keep_all a x
      · by_cases h6 : m = 18446744073709551615
        · rw [show mskF a 7 m v = (condA a 1 0 v, 0) by unfold mskF; rw [if_neg h, if_neg h0, if_pos h6]]
          exact keep_as a 1 0 v x 0 _ ⟨h1, h2, by decide, rfl, rfl⟩ (by decide) (by rw [h6, show x &&& 18446744073709551615 = x from and_full16 x hx]; rfl)
        · rw [show mskF a 7 m v = (condA a 7 m v, 0) by unfold mskF; rw [if_neg h, if_neg h0, if_neg h6]]
          exact keep_as a 7 m v x 6 _ ⟨h1, h2, by decide, rfl, rfl⟩ (by omega) rfl
set_option maxRecDepth 100000 in
set_option maxHeartbeats 2000000 in
theorem conds16_any (a o : Int) (m v : Nat) (w : World) : Calls Tryz.prog 46 #[.agg (condA a o m v)] w fun e w' => e = .returned (.agg (condA a o m v)) ∧ Below w.heap.size w w' := by
  obtain ⟨W0, hW0⟩ : ∃ W, (w.alloc (.cells (condA a o m v) 61)).alloc (.cells zN 62) = W := ⟨_, rfl⟩
  have HB := Lib.hid (show Below w.heap.size w W0 by rw [← hW0]; exact ((Below.refl _ _).alloc (Nat.le_refl _) _).alloc (by simp) _)
  have HP := Lib.hid (show RowC W0 w.heap.size (condA a o m v) 61 by rw [← hW0]; exact (RowC.new _ _ _ _ rfl).alloc _)
  have HR := Lib.hid (show RowC W0 (w.heap.size + 1) zN 62 by rw [← hW0]; exact RowC.new _ _ _ _ (by simp))
  have HW := Lib.hid hW0
  clear hW0
  go_enter Tryz.func46, Tryz.ntmps46
  go_upto_region 1 with fail
  rw [HW.out]
  have x0 := HP.out.cell 0 (.int .i64 a) rfl
  have x1 := HP.out.cell 1 (.int .i64 o) rfl
  have x2 := HP.out.cell 2 (.int .u64 m) rfl
  have x3 := HP.out.cell 3 (.int .u64 v) rfl
  have z0 := HR.out.cell 0 (.int .i64 0) rfl
  have z1 := HR.out.cell 1 (.int .i64 0) rfl
  have z2 := HR.out.cell 2 (.int .u64 0) rfl
  have z3 := HR.out.cell 3 (.int .u64 0) rfl
  have y0 := HR.out.frozen 0
  have y1 := HR.out.frozen 1
  have y2 := HR.out.frozen 2
  have y3 := HR.out.frozen 3
  go_wp2
  exact bodyPost_ret (results_cN Tryz.results46 _ _ (w.heap.size + 1) _ (condA a o m v) (0, 0) _ (by rfl) (set4N HR.out) Tryz.underlying62 (by rfl) infoN) rfl ⟨rfl, below4N HB.out (by omega) _ _ _ _⟩
end Go.Proofs.YtcembcicpmhpkaaGreatDoor
