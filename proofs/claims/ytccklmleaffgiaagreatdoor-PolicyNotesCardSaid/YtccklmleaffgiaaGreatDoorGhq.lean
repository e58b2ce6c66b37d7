/-
  The contract of cond.Read's question, and of (operator).words.
-/
import Derived.Test.YtccklmleaffgiaaGreatDoorQ3
import Derived.Test.YtccklmleaffgiaaGreatDoorQ15
import Derived.RegionTactic
namespace Go.Proofs.YtccklmleaffgiaaGreatDoor
open Go.Shelf Go.RowKit
set_option linter.unusedVariables false

def wdO (m : Bool) : Int := if m then 5 else 3
set_option maxHeartbeats 1000000 in
theorem words_any (s : ByteArray) (m : Bool) (F : Nat) (w : World) :
    Calls Tryz.prog 124 #[.agg #[.string s, .bool m, .func (.func F) #[] #[]]] w fun e w' => e = .returned (.int .i64 (wdO m)) ∧ Below w.heap.size w w' := by
  have hB : Below w.heap.size w (w.alloc (.cells #[.string s, .bool m, .func (.func F) #[] #[]] 137)) := (Below.refl _ _).alloc (Nat.le_refl _) _
  have HB := Lib.hid hB
  clear hB
  cases m
  · go_enter Tryz.func124, Tryz.ntmps124
    go_wp2
    go_ret
    exact ⟨rfl, HB.out⟩
  · go_enter Tryz.func124, Tryz.ntmps124
    go_wp2
    go_ret
    exact ⟨rfl, HB.out⟩
/-- The question whether a second word is an operator's. -/
def isW (len : Nat) (s : ByteArray) (k : Nat) : Bool := decide (wdO (mkO k) ≤ (len : Int)) && (s.toList == (sgO k).toList)
theorem sgO_inj {j k : Nat} (hj : j < 7) (hk : k < 7) : ((sgO j).toList == (sgO k).toList) = (j == k) := by
  have h1 : j = 0 ∨ j = 1 ∨ j = 2 ∨ j = 3 ∨ j = 4 ∨ j = 5 ∨ j = 6 := by omega
  have h2 : k = 0 ∨ k = 1 ∨ k = 2 ∨ k = 3 ∨ k = 4 ∨ k = 5 ∨ k = 6 := by omega
  rcases h1 with rfl | rfl | rfl | rfl | rfl | rfl | rfl <;> rcases h2 with rfl | rfl | rfl | rfl | rfl | rfl | rfl <;> decide +kernel
theorem isW_is {len j : Nat} (hj : j < 7) (hw : wdO (mkO j) ≤ (len : Int)) (k : Nat) (hk : k < 7) : isW len (sgO j) k = (k == j) := by
  unfold isW
  rw [sgO_inj hj hk]
  by_cases h : j = k
  · subst h
    rw [decide_eq_true hw]
    simp
  · have h' : ¬ k = j := fun e => h e.symm
    rw [show (j == k) = false by simpa using h, show (k == j) = false by simpa using h', Bool.and_false]
end Go.Proofs.YtccklmleaffgiaaGreatDoor
