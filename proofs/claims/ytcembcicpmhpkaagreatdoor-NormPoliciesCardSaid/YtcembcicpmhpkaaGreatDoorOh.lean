/-
  Layer 16: SortFunc at conditions by their order.
-/
import Derived.Test.YtcembcicpmhpkaaGreatDoorOg
import Derived.Test.YtcembcicpmhpkaaGreatDoorOsh
namespace Go.Proofs.YtcembcicpmhpkaaGreatDoor
open Go.RowKit Go.Shelf Go.Lib Go.Sort
set_option linter.unusedVariables false

abbrev CV := Int × Int × Int × Int
def encC (x : CV) : List Value := [.int .i64 x.1, .int .i64 x.2.1, .int .u64 x.2.2.1, .int .u64 x.2.2.2]
def cfC (x y : CV) : Int := cmpC x.1 x.2.1 x.2.2.1 x.2.2.2 y.1 y.2.1 y.2.2.1 y.2.2.2
/-- Which of two stands ahead. -/
def ltC (x y : CV) : Prop := x.1 < y.1 ∨ (x.1 = y.1 ∧ (x.2.1 < y.2.1 ∨ (x.2.1 = y.2.1 ∧ (x.2.2.1 < y.2.2.1 ∨ (x.2.2.1 = y.2.2.1 ∧ x.2.2.2 < y.2.2.2)))))
theorem cmpZ_lt (x y : Int) : cmpZ x y < 0 ↔ x < y := by unfold cmpZ; split; omega; split <;> omega
theorem cmpZ_eq (x y : Int) : cmpZ x y = 0 ↔ x = y := by unfold cmpZ; split; omega; split <;> omega
theorem ltC_iff (x y : CV) : ltOf cfC x y = true ↔ ltC x y := by
  unfold ltOf cfC cmpC orF ltC
  rw [decide_eq_true_iff]
  have e0 := cmpZ_eq x.1 y.1
  have e1 := cmpZ_eq x.2.1 y.2.1
  have e2 := cmpZ_eq x.2.2.1 y.2.2.1
  have l0 := cmpZ_lt x.1 y.1
  have l1 := cmpZ_lt x.2.1 y.2.1
  have l2 := cmpZ_lt x.2.2.1 y.2.2.1
  have l3 := cmpZ_lt x.2.2.2 y.2.2.2
  by_cases h0 : cmpZ x.1 y.1 ≠ 0
  · rw [if_pos h0, l0]
    have h0' := mt e0.2 h0
    constructor
    · exact .inl
    · rintro (h | ⟨h, _⟩)
      · exact h
      · exact absurd h h0'
  · have q0 := e0.1 (Decidable.not_not.1 h0)
    rw [if_neg h0]
    by_cases h1 : cmpZ x.2.1 y.2.1 ≠ 0
    · rw [if_pos h1, l1]
      have h1' := mt e1.2 h1
      constructor
      · exact fun h => .inr ⟨q0, .inl h⟩
      · rintro (h | ⟨_, h | ⟨h, _⟩⟩)
        · omega
        · exact h
        · exact absurd h h1'
    · have q1 := e1.1 (Decidable.not_not.1 h1)
      rw [if_neg h1]
      by_cases h2 : cmpZ x.2.2.1 y.2.2.1 ≠ 0
      · rw [if_pos h2, l2]
        have h2' := mt e2.2 h2
        constructor
        · exact fun h => .inr ⟨q0, .inr ⟨q1, .inl h⟩⟩
        · rintro (h | ⟨_, h | ⟨_, h | ⟨h, _⟩⟩⟩)
          · omega
          · omega
          · exact h
          · exact absurd h h2'
      · have q2 := e2.1 (Decidable.not_not.1 h2)
        rw [if_neg h2, l3]
        constructor
        · exact fun h => .inr ⟨q0, .inr ⟨q1, .inr ⟨q2, h⟩⟩⟩
        · rintro (h | ⟨_, h | ⟨_, h | ⟨_, h⟩⟩⟩)
          · omega
          · omega
          · omega
          · exact h
theorem ltC_no (x y : CV) : ltOf cfC x y = false ↔ ¬ ltC x y := by rw [← ltC_iff]; simp
theorem swoC : SWO (ltOf cfC) where
  irrefl x := by rw [ltC_no]; unfold ltC; omega
  trans x y z h1 h2 := by rw [ltC_iff] at *; unfold ltC at *; omega
  ntrans x y z h1 h2 := by rw [ltC_no] at *; unfold ltC at *; omega
/-- Two that neither stands ahead of the other are one. -/
theorem ltC_total (x y : CV) (h1 : ltOf cfC x y = false) (h2 : ltOf cfC y x = false) : x = y := by
  rw [ltC_no] at h1 h2
  unfold ltC at h1 h2
  obtain ⟨a, b, c, d⟩ := x
  obtain ⟨a', b', c', d'⟩ := y
  simp only at h1 h2
  obtain rfl : a = a' := by omega
  obtain rfl : b = b' := by omega
  obtain rfl : c = c' := by omega
  obtain rfl : d = d' := by omega
  rfl
theorem cmpLaysC (blk off size : Nat) (w : World) : CmpLays Tryz.prog 44 #[] encC 4 cfC blk off size w :=
  fun _ _ _ _ x y => compare_any x.1 x.2.1 x.2.2.1 x.2.2.2 y.1 y.2.1 y.2.2.1 y.2.2.2 _
theorem len_12 (n : Nat) (hn : n ≤ 12) (w : World) : Calls Tryz.prog 73 #[.int .u64 n] w fun e w' => (∃ l : Int, e = .returned (.int .i64 l)) ∧ w' = w :=
  (Tryz.bits_Len n w (by omega) (by omega)).mono fun _ _ ⟨he, hw⟩ => ⟨⟨_, he⟩, hw⟩
theorem sortC_any (blk off cap : Nat) (d : Array CV) (w : World) (hH : HoldsK encC 4 w blk off d) (hblk : blk < w.heap.size) (h12 : d.size ≤ 12) :
    Calls Tryz.prog 43 #[.slice (some ⟨blk, off, none⟩) d.size cap, .func (.func 44) #[] #[]] w fun e w' => e = .returned (.tuple #[]) ∧ ∃ d' n os, PermIn 0 d.size d d' ∧ SortedIn (ltOf cfC) 0 d.size d' ∧ w' = sortWorldK encC 4 w blk off n d' os :=
  AnyQ.slices_SortFunc_small_sorted Tryz.sortCd 4 Tryz.isAgg62 Tryz.sizeOf62 encC (fun _ => rfl) (fun x v hv => by simp [encC] at hv; rcases hv with rfl | rfl | rfl | rfl <;> rfl) cfC 44 #[] swoC blk off cap d w (enters_of Tryz.func44 (by kernel_rfl) rfl) (cmpLaysC blk off d.size w) hH hblk h12 (fun n W hn => len_12 n hn W)
end Go.Proofs.YtcembcicpmhpkaaGreatDoor
