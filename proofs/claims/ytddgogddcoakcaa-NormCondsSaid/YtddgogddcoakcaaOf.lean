/-
  Layer 16: the reference's Cond is what a right condition becomes; the reference's Right.
-/
import Derived.Test.YtddgogddcoakcaaOe
import Derived.Laws.BitsAllLaws
namespace Go.Proofs.Ytddgogddcoakcaa
open Go.RowKit Go.Shelf
set_option linter.unusedVariables false

theorem or_beside (v m : Nat) (hv : v ≤ 18446744073709551615) (hm : m ≤ 18446744073709551615) : v ||| m = m ↔ v &&& (18446744073709551615 - m) = 0 := by
  constructor
  · intro h
    apply Nat.eq_of_testBit_eq
    intro i
    have hi := congrArg (fun z => Nat.testBit z i) h
    simp only [Nat.testBit_or] at hi
    rw [show (18446744073709551615 : Nat) - m = 2 ^ 64 - (m + 1) by omega, Nat.testBit_and, Nat.testBit_two_pow_sub_succ (by omega), Nat.zero_testBit]
    revert hi
    cases v.testBit i <;> cases m.testBit i <;> simp
  · intro h
    apply Nat.eq_of_testBit_eq
    intro i
    have hi := congrArg (fun z => Nat.testBit z i) h
    rw [show (18446744073709551615 : Nat) - m = 2 ^ 64 - (m + 1) by omega] at hi
    simp only [Nat.testBit_and, Nat.zero_testBit] at hi
    rw [Nat.testBit_two_pow_sub_succ (by omega)] at hi
    rw [Nat.testBit_or]
    by_cases h6 : i < 64
    · rw [decide_eq_true h6] at hi
      revert hi
      cases v.testBit i <;> cases m.testBit i <;> simp
    · have hv0 : v.testBit i = false := Nat.testBit_lt_two_pow (Nat.lt_of_lt_of_le (show v < 2 ^ 64 by omega) (Nat.pow_le_pow_right (by decide) (by omega)))
      rw [hv0]; simp
theorem ref16_ok (a o : Int) (m v j : Nat) (hr : RightO a o m j) (hm : m ≤ 18446744073709551615) (hv : v ≤ 18446744073709551615) (w : World) :
    Calls Try.prog 9 #[.agg (condA a o m v)] w fun e w' => e = .returned (.tuple #[.agg (nF j a m v).1, .int .i64 (nF j a m v).2]) ∧ Below w.heap.size w w' := by
  obtain ⟨h1, h2, h3, rfl, h5⟩ := hr
  match j, h3, h5 with
  | 0, h3, h5 =>
    obtain rfl : m = 0 := by simpa [mkO] using h5
    exact r1 a v w
  | 1, h3, h5 =>
    obtain rfl : m = 0 := by simpa [mkO] using h5
    exact r2 a v w
  | 2, h3, h5 =>
    obtain rfl : m = 0 := by simpa [mkO] using h5
    show Calls _ _ #[.agg (condA a 3 0 v)] w fun e w' => e = .returned (.tuple #[.agg (belF a 3 0 v).1, .int .i64 (belF a 3 0 v).2]) ∧ _
    by_cases q0 : v = 0
    · subst q0; exact r3a a w
    · by_cases q1 : v = 1
      · subst q1; exact r3b a w
      · rw [show belF a 3 0 v = (condA a 3 0 v, 0) by unfold belF; rw [if_neg q0, if_neg q1]]
        exact r3c a v (beq_eq_false_iff_ne.2 (by omega)) (beq_eq_false_iff_ne.2 (by omega)) w
  | 3, h3, h5 =>
    obtain rfl : m = 0 := by simpa [mkO] using h5
    show Calls _ _ #[.agg (condA a 4 0 v)] w fun e w' => e = .returned (.tuple #[.agg (atmF a v).1, .int .i64 (atmF a v).2]) ∧ _
    by_cases q0 : v = 18446744073709551615
    · subst q0; exact r4a a w
    · by_cases q1 : v = 0
      · subst q1; exact r4b a w
      · rw [show atmF a v = (condA a 3 0 (v + 1 : Nat), 0) by unfold atmF belF; rw [if_neg q0, if_neg (by omega), if_neg (by omega)]]
        exact r4c a v (beq_eq_false_iff_ne.2 (by omega)) (IntWalk.u64_in _ (by omega)) (beq_eq_false_iff_ne.2 (by omega)) (beq_eq_false_iff_ne.2 (by omega)) w
  | 4, h3, h5 =>
    obtain rfl : m = 0 := by simpa [mkO] using h5
    show Calls _ _ #[.agg (condA a 5 0 v)] w fun e w' => e = .returned (.tuple #[.agg (aboF a v).1, .int .i64 (aboF a v).2]) ∧ _
    by_cases q0 : v = 18446744073709551615
    · subst q0; exact r5a a w
    · by_cases q1 : v = 18446744073709551614
      · subst q1; exact r5b a w
      · rw [show aboF a v = (condA a 6 0 (v + 1 : Nat), 0) by unfold aboF atlF; rw [if_neg q0, if_neg (by omega), if_neg (by omega)]]
        exact r5c a v (beq_eq_false_iff_ne.2 (by omega)) (IntWalk.u64_in _ (by omega)) (beq_eq_false_iff_ne.2 (by omega)) (beq_eq_false_iff_ne.2 (by omega)) w
  | 5, h3, h5 =>
    obtain rfl : m = 0 := by simpa [mkO] using h5
    show Calls _ _ #[.agg (condA a 6 0 v)] w fun e w' => e = .returned (.tuple #[.agg (atlF a 6 0 v).1, .int .i64 (atlF a 6 0 v).2]) ∧ _
    by_cases q0 : v = 0
    · subst q0; exact r6a a w
    · by_cases q1 : v = 18446744073709551615
      · subst q1; exact r6b a w
      · rw [show atlF a 6 0 v = (condA a 6 0 v, 0) by unfold atlF; rw [if_neg q0, if_neg q1]]
        exact r6c a v (beq_eq_false_iff_ne.2 (by omega)) (beq_eq_false_iff_ne.2 (by omega)) w
  | 6, h3, h5 =>
    show Calls _ _ #[.agg (condA a 7 m v)] w fun e w' => e = .returned (.tuple #[.agg (mskF a 7 m v).1, .int .i64 (mskF a 7 m v).2]) ∧ _
    have hb := u64_or_nat v m (by omega) (by omega)
    by_cases q0 : v &&& (18446744073709551615 - m) ≠ 0
    · rw [show mskF a 7 m v = (zN, 2) by unfold mskF; rw [if_pos q0]]
      have hn : v ||| m ≠ m := fun h => q0 ((or_beside v m hv hm).1 h)
      exact r7a a m v (by rw [hb]; exact bne_iff_ne.2 (by omega)) w
    · have hy : v ||| m = m := (or_beside v m hv hm).2 (Decidable.not_not.1 q0)
      have hB : (bits BinOp.or IntKind.u64 (v : Int) (m : Int) != (m : Int)) = false := by rw [hb, hy]; exact bne_self_eq_false _
      by_cases q1 : m = 0
      · rw [show mskF a 7 m v = (zN, 1) by unfold mskF; rw [if_neg q0, if_pos q1]]
        exact r7b a m v hB (beq_iff_eq.2 (by omega)) w
      · by_cases q2 : m = 18446744073709551615
        · rw [show mskF a 7 m v = (condA a 1 0 v, 0) by unfold mskF; rw [if_neg q0, if_neg q1, if_pos q2]]
          exact r7c a m v hB (beq_eq_false_iff_ne.2 (by omega)) (beq_iff_eq.2 (by omega)) w
        · rw [show mskF a 7 m v = (condA a 7 m v, 0) by unfold mskF; rw [if_neg q0, if_neg q1, if_neg q2]]
          exact r7d a m v hB (beq_eq_false_iff_ne.2 (by omega)) (beq_eq_false_iff_ne.2 (by omega)) w
/-- What the reference's Right answers, by what is asked there. -/
def rightB (a o : Int) (m : Nat) : Bool := decide (a ≥ 0) && decide (a ≤ 5) && decide (o ≥ 1) && decide (o ≤ 7) && (((m : Int) == 0) || (o == 7))
set_option maxRecDepth 100000 in
set_option maxHeartbeats 8000000 in
theorem refRight_any (a o : Int) (m v : Nat) (w : World) : Calls Try.prog 7 #[.agg (condA a o m v)] w fun e w' => e = .returned (.bool (rightB a o m)) ∧ Below w.heap.size w w' := by
  have HB := Lib.hid (show Below w.heap.size w (w.alloc (.cells (condA a o m v) 24)) from (Below.refl _ _).alloc (Nat.le_refl _) _)
  unfold rightB
  obtain ⟨b0, q0⟩ : ∃ b, decide (a ≥ 0) = b := ⟨_, rfl⟩
  obtain ⟨b1, q1⟩ : ∃ b, decide (a ≤ 5) = b := ⟨_, rfl⟩
  obtain ⟨b2, q2⟩ : ∃ b, decide (o ≥ 1) = b := ⟨_, rfl⟩
  obtain ⟨b3, q3⟩ : ∃ b, decide (o ≤ 7) = b := ⟨_, rfl⟩
  obtain ⟨b4, q4⟩ : ∃ b, ((m : Int) == 0) = b := ⟨_, rfl⟩
  obtain ⟨b5, q5⟩ : ∃ b, (o == 7) = b := ⟨_, rfl⟩
  rw [q0, q1, q2, q3, q4, q5]
  cases b0
  · go_enter Try.func7, Try.ntmps7
    go_wp2
    go_ret
    exact ⟨rfl, HB.out⟩
  cases b1
  · go_enter Try.func7, Try.ntmps7
    go_wp2
    go_ret
    exact ⟨rfl, HB.out⟩
  cases b2
  · go_enter Try.func7, Try.ntmps7
    go_wp2
    go_ret
    exact ⟨rfl, HB.out⟩
  cases b3
  · go_enter Try.func7, Try.ntmps7
    go_wp2
    go_ret
    exact ⟨rfl, HB.out⟩
  cases b4
  · cases b5
    · go_enter Try.func7, Try.ntmps7
      go_wp2
      go_ret
      exact ⟨rfl, HB.out⟩
    · go_enter Try.func7, Try.ntmps7
      go_wp2
      go_ret
      exact ⟨rfl, HB.out⟩
  · go_enter Try.func7, Try.ntmps7
    go_wp2
    go_ret
    exact ⟨by cases b5 <;> rfl, HB.out⟩
theorem rightB_ok {a o : Int} {m j : Nat} (hr : RightO a o m j) : rightB a o m = true := by
  obtain ⟨h1, h2, h3, rfl, h5⟩ := hr
  have h : m = 0 ∨ j = 6 := by
    rcases Bool.or_eq_true _ _ ▸ h5 with h | h
    · exact .inr (by simpa [mkO] using h)
    · exact .inl (by simpa using h)
  simp [rightB]
  omega
theorem rightB_no {a o : Int} {m : Nat} (hno : a < 0 ∨ 6 ≤ a ∨ ∀ j, j < 7 → isO o m j = false) : rightB a o m = false := by
  cases h : rightB a o m
  · rfl
  · exfalso
    simp [rightB] at h
    obtain ⟨⟨⟨⟨h0, h1⟩, h2⟩, h3⟩, h4⟩ := h
    rcases hno with hn | hn | hn
    · omega
    · omega
    · obtain ⟨j, rfl⟩ : ∃ j : Nat, o = (j : Int) + 1 := ⟨(o - 1).toNat, by omega⟩
      have := hn j (by omega)
      simp [isO, mkO] at this
      omega
end Go.Proofs.Ytddgogddcoakcaa
