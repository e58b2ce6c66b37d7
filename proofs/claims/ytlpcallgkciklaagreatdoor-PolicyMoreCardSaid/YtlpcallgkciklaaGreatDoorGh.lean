/-
  The contract of cond.Read's question, and of (operator).words.
-/
import Derived.Test.YtlpcallgkciklaaGreatDoorGe
import Derived.Test.YtlpcallgkciklaaGreatDoorGg
import Derived.RegionTactic
namespace Go.Proofs.YtlpcallgkciklaaGreatDoor
open Go.Shelf Go.RowKit
set_option linter.unusedVariables false

def wdO (m : Bool) : Int := if m then 5 else 3
set_option maxHeartbeats 1000000 in
theorem words_any (s : ByteArray) (m : Bool) (F : Nat) (w : World) :
    Calls Tryz.prog 145 #[.agg #[.string s, .bool m, .func (.func F) #[] #[]]] w fun e w' => e = .returned (.int .i64 (wdO m)) ∧ Below w.heap.size w w' := by
  have hB : Below w.heap.size w (w.alloc (.cells #[.string s, .bool m, .func (.func F) #[] #[]] 165)) := (Below.refl _ _).alloc (Nat.le_refl _) _
  have HB := Lib.hid hB
  clear hB
  cases m
  · go_enter Tryz.func145, Tryz.ntmps145
    go_wp2
    go_ret
    exact ⟨rfl, HB.out⟩
  · go_enter Tryz.func145, Tryz.ntmps145
    go_wp2
    go_ret
    exact ⟨rfl, HB.out⟩
/-- The question whether a second word is an operator's. -/
def isW (len : Nat) (s : ByteArray) (k : Nat) : Bool := decide (wdO (mkO k) ≤ (len : Int)) && (s.toList == (sgO k).toList)
theorem sgO_inj {j k : Nat} (hj : j < 7) (hk : k < 7) : ((sgO j).toList == (sgO k).toList) = (j == k) := by
  have h1 : j = 0 ∨ j = 1 ∨ j = 2 ∨ j = 3 ∨ j = 4 ∨ j = 5 ∨ j = 6 := by omega
  have h2 : k = 0 ∨ k = 1 ∨ k = 2 ∨ k = 3 ∨ k = 4 ∨ k = 5 ∨ k = 6 := by omega
  rcases h1 with rfl | rfl | rfl | rfl | rfl | rfl | rfl <;> rcases h2 with rfl | rfl | rfl | rfl | rfl | rfl | rfl <;> decide +kernel
theorem isW_is {len j : Nat} (hj : j < 7) (hw : wdO (mkO j) ≤ (len : Int)) (k : Nat) (hk : k < 7) : isW len (sgO j) k = (k == j) := by
  unfold isW
  rw [sgO_inj hj hk]
  by_cases h : j = k
  · subst h
    rw [decide_eq_true hw]
    simp
  · have h' : ¬ k = j := fun e => h e.symm
    rw [show (j == k) = false by simpa using h, show (k == j) = false by simpa using h', Bool.and_false]
set_option maxRecDepth 100000 in
set_option maxHeartbeats 4000000 in
theorem read1_any (n : Int) (len : Nat) (cap : Nat) (b : Nat) (s : ByteArray) (CB k : Nat) (hk : k < 7) (hlen : 3 ≤ len) (w : World) (h1 : w.cell? ⟨CB, 0, none⟩ = some (.slice (some ⟨b, 0, none⟩) len cap)) (h2 : w.cell? ⟨b, 1, none⟩ = some (.string s)) :
    Calls Tryz.prog 144 #[.int .i64 n, .agg (opA k), .pointer (some ⟨CB, 0, none⟩)] w fun e w' => e = .returned (.bool (isW len s k)) ∧ Below w.heap.size w w' := by
  obtain ⟨F, hkm⟩ := fnO_func k
  have HK := Lib.hid hkm
  simp only [opA, hkm]
  have hB : Below w.heap.size w (w.alloc (.cells #[.string (sgO k), .bool (mkO k), .func (.func F) #[] #[]] 165)) := (Below.refl _ _).alloc (Nat.le_refl _) _
  have l1 := World.block_lt_of_cell? _ _ h1
  have l2 := World.block_lt_of_cell? _ _ h2
  have r0 : RowC (w.alloc (.cells #[.string (sgO k), .bool (mkO k), .func (.func F) #[] #[]] 165)) w.heap.size #[.string (sgO k), .bool (mkO k), .func (.func F) #[] #[]] 165 := RowC.new _ _ _ _ rfl
  have k1 : (w.alloc (.cells #[.string (sgO k), .bool (mkO k), .func (.func F) #[] #[]] 165)).cell? ⟨CB, 0, none⟩ = some (.slice (some ⟨b, 0, none⟩) len cap) := (hB.cell (p := ⟨CB, 0, none⟩) l1).trans h1
  have k2 : (w.alloc (.cells #[.string (sgO k), .bool (mkO k), .func (.func F) #[] #[]] 165)).cell? ⟨b, 1, none⟩ = some (.string s) := (hB.cell (p := ⟨b, 1, none⟩) l2).trans h2
  have l1' : CB < (w.alloc (.cells #[.string (sgO k), .bool (mkO k), .func (.func F) #[] #[]] 165)).heap.size := Nat.lt_of_lt_of_le l1 hB.size
  have l2' : b < (w.alloc (.cells #[.string (sgO k), .bool (mkO k), .func (.func F) #[] #[]] 165)).heap.size := Nat.lt_of_lt_of_le l2 hB.size
  have c0 := r0.cell 0 (.string (sgO k)) rfl
  have c1 := r0.cell 1 (.bool (mkO k)) rfl
  have c2 := r0.cell 2 (.func (.func F) #[] #[]) rfl
  have HB := Lib.hid hB
  have R0 := Lib.hid r0
  have HW := Lib.hid fun W => words_any (sgO k) (mkO k) F W
  have L := Lib.hid (And.intro l1' l2')
  have i1 : (1 : Int) < (len : Int) := by omega
  clear hB l1 l2 r0 l1' l2' hkm h1 h2
  cases ht : decide (wdO (mkO k) ≤ (len : Int))
  · have HR : Hid (isW len s k = false) := Lib.hid (by simp [isW, ht])
    have ht2 : decide ((len : Int) ≥ wdO (mkO k)) = false := ht
    have ht3 : ¬ wdO (mkO k) ≤ (len : Int) := by simpa using ht
    go_enter Tryz.func144, Tryz.ntmps144
    go_wp2_with fail
    generalize w.alloc (.cells #[.string (sgO k), .bool (mkO k), .func (.func F) #[] #[]] 165) = W at *
    first
    | (go_region_with (go_at_call 145; refine (HW.out _).mono ?_; rintro e w6 ⟨rfl, hB6⟩
                       have kk1 := (hB6.cell (p := ⟨CB, 0, none⟩) L.out.1).trans k1))
    | fail "one"
    all_goals go_wp2
    all_goals go_ret
    all_goals exact ⟨ret_bl HR.out.symm, HB.out.drew.trans (hB6.mono HB.out.size)⟩
  · have HR : Hid (isW len s k = (s.toList == (sgO k).toList)) := Lib.hid (by simp [isW, ht])
    have ht2 : decide ((len : Int) ≥ wdO (mkO k)) = true := ht
    have ht3 : wdO (mkO k) ≤ (len : Int) := by simpa using ht
    go_enter Tryz.func144, Tryz.ntmps144
    go_wp2_with fail
    generalize w.alloc (.cells #[.string (sgO k), .bool (mkO k), .func (.func F) #[] #[]] 165) = W at *
    first
    | (go_region_with (go_at_call 145; refine (HW.out _).mono ?_; rintro e w6 ⟨rfl, hB6⟩
                       have kk1 := (hB6.cell (p := ⟨CB, 0, none⟩) L.out.1).trans k1
                       have kk2 := (hB6.cell (p := ⟨b, 1, none⟩) L.out.2).trans k2
                       have cc0 := (RowC.below (w := W.drew) R0.out hB6 R0.out.lt).cell 0 (.string (sgO k)) rfl))
    | fail "two"
    all_goals go_wp2
    all_goals go_ret
    all_goals exact ⟨ret_bl HR.out.symm, HB.out.drew.trans (hB6.mono HB.out.size)⟩
end Go.Proofs.YtlpcallgkciklaaGreatDoor
