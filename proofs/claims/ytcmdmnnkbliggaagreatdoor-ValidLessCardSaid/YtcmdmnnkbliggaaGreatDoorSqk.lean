/-
  The document's own Right of layer 11, the laws' light of layer 12.
-/
import Derived.Test.YtcmdmnnkbliggaaGreatDoorSok
namespace Go.Proofs.YtcmdmnnkbliggaaGreatDoor
open Go.RowKit
set_option linter.unusedVariables false

/-- How a look at all rows ends: a place and an error's number. -/
def RightP (T : Nat → SR) (n p q : Nat) : Prop :=
  (n > 400 ∧ p = 0 ∧ q = 3) ∨ (n ≤ 400 ∧ p < n ∧ (∀ j, j < p → rowF T j = 0) ∧ rowF T p ≠ 0 ∧ q = rowF T p) ∨ (n ≤ 400 ∧ (∀ j, j < n → rowF T j = 0) ∧ p = 0 ∧ q = 0)
theorem RightP.uniq {T : Nat → SR} {n p q p' q' : Nat} (h : RightP T n p q) (h' : RightP T n p' q') : p = p' ∧ q = q' := by
  rcases h with ⟨a1, a2, a3⟩ | ⟨a1, a2, a3, a4, a5⟩ | ⟨a1, a2, a3, a4⟩ <;> rcases h' with ⟨b1, b2, b3⟩ | ⟨b1, b2, b3, b4, b5⟩ | ⟨b1, b2, b3, b4⟩
  · omega
  · omega
  · omega
  · omega
  · have e : p = p' := by
      rcases Nat.lt_trichotomy p p' with h | h | h
      · exact absurd (b3 p h) a4
      · exact h
      · exact absurd (a3 p' h) b4
    subst e
    exact ⟨rfl, a5.trans b5.symm⟩
  · exact absurd (b2 p a2) a4
  · omega
  · exact absurd (a2 p' b2) b4
  · omega
set_option maxRecDepth 100000 in
set_option maxHeartbeats 4000000 in
theorem refRight_any (A : Option Addr) (n cap : Nat) (T : Nat → SR) (w : World) (ht : TbA w A n T) :
    Calls Tryz.prog 41 #[.slice A n cap] w fun e w' => ∃ p q : Nat, RightP T n p q ∧ e = .returned (.tuple #[.int .i64 p, .int .i64 q]) ∧ Below w.heap.size w w' := by
  by_cases h4 : n > 400
  · have g0 : (n : Int) > 400 := by omega
    have g1 : decide ((n : Int) > 400) = true := decide_eq_true g0
    have HE : Hid (RightP T n 0 3) := Lib.hid (.inl ⟨h4, rfl, rfl⟩)
    clear ht h4
    go_enter Tryz.func41, Tryz.ntmps41
    go_wp2
    go_ret2
    exact ⟨0, 3, HE.out, rfl, Below.refl _ _⟩
  have g0 : ¬ (n : Int) > 400 := by omega
  have g1 : decide ((n : Int) > 400) = false := decide_eq_false g0
  have HT := Lib.hid ht
  have HL : Hid (n ≤ 400) := Lib.hid (by omega)
  clear ht h4
  go_enter Tryz.func41, Tryz.ntmps41
  go_wp2_with fail
  go_loopw [4] (fun i wr => ∃ k : Nat, k ≤ n ∧ i = .int .i64 k ∧ (∀ j, j < k → rowF T j = 0) ∧ TbA wr A n T ∧ Below w.heap.size w wr)
    (fun i _ => n - (intOf i).toNat)
  case atStart => exact ⟨0, by omega, rfl, fun i h => by omega, HT.out, Below.refl _ _⟩
  case round =>
    clear HT
    obtain ⟨k, hk, rfl, hno, ht, hB⟩ := hrel
    have HNO := Lib.hid hno
    have HB := Lib.hid hB
    by_cases hlt : k < n
    · have HT := Lib.hid ht
      rcases ht with h0 | ⟨b, o, rfl, ht⟩
      · omega
      have HL' := HL.out
      have HROW := Lib.hid (refRow_any b o n cap T k hlt wr (by omega) ht)
      have i2 : (k : Int) < (n : Int) := by omega
      obtain ⟨q, hq⟩ : ∃ q, rowF T k = q := ⟨_, rfl⟩
      rw [hq] at HROW
      have HQ := Lib.hid hq
      clear hno hB ht hq HL'
      by_cases h0 : q = 0
      · have HZ : Hid (∀ j, j < k + 1 → rowF T j = 0) := Lib.hid fun j hj => by
          by_cases e : j = k
          · subst e; rw [HQ.out, h0]
          · exact HNO.out j (by omega)
        subst h0
        go_wp2_with (go_at_call 72; refine HROW.out.mono ?_; rintro e w5 ⟨rfl, hB5⟩)
        exact ⟨⟨k + 1, by omega, by go_num, HZ.out, HT.out.below hB5 (Nat.le_refl _), HB.out.trans (hB5.mono HB.out.size)⟩, by simp [intOf]; omega⟩
      · have f1 : ((q : Int) != 0) = true := by simp [h0]
        have f2 : (q != 0) = true := by simp [h0]
        have HE : Hid (RightP T n k q) := Lib.hid (.inr (.inl ⟨HL.out, hlt, HNO.out, by rw [HQ.out]; exact h0, HQ.out.symm⟩))
        clear h0
        go_wp2_with (go_at_call 72; refine HROW.out.mono ?_; rintro e w5 ⟨rfl, hB5⟩)
        go_ret2
        exact ⟨k, q, HE.out, rfl, HB.out.trans (hB5.mono HB.out.size)⟩
    · obtain rfl : k = n := by omega
      have i2 : ¬ (k : Int) < (k : Int) := by omega
      have HE : Hid (RightP T k 0 0) := Lib.hid (.inr (.inr ⟨HL.out, HNO.out, rfl, rfl⟩))
      clear hno hB ht
      go_wp2
      go_ret2
      exact ⟨0, 0, HE.out, rfl, HB.out⟩
/-- Which tables the laws of layer 12 speak of. -/
def OkT (n : Nat) (T : Nat → SR) : Prop := n ≤ 40 ∧ ∀ j, j < n → rowF T j = 0
end Go.Proofs.YtcmdmnnkbliggaaGreatDoor
