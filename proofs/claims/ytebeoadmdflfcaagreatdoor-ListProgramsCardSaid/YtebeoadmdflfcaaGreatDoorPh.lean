/-
  The program's line and the document's are one: pure.
-/
import Derived.Test.YtebeoadmdflfcaaGreatDoorPg
namespace Go.Proofs.YtebeoadmdflfcaaGreatDoor
open Go.RowKit
set_option linter.unusedVariables false
set_option linter.unusedSimpArgs false

def kP (j : Nat) : Nat := (ofF (codeP j : Nat)).1.toNat
def xP (j : Nat) : Bool := (ofF (codeP j : Nat)).2.1
theorem kP_chk : ∀ j, j < 41 → (ofF (codeP j : Nat)).1 = (kP j : Int) ∧ kP j ≠ 0 ∧ kP j ≤ 28 ∧ (patP j).contains 75 = othB (kP j) (xP j) ∧ (patP j).contains 84 = decide (25 ≤ kP j) ∧ (patP j).contains 70 = decide (25 ≤ kP j) := by decide +kernel
def lineT (K : Nat) (X : Bool) (t f k : Nat) : List UInt8 := wordK K ++ ((if othL K X (dd k) = [] then [] else 32 :: othL K X (dd k)) ++ (if 25 ≤ K then 32 :: (dd t ++ (32 :: dd f)) else []))
theorem lineT_0 (c t f k : Nat) : subst c t f k (patP 0) = lineT (kP 0) (xP 0) t f k := by
  rw [show kP 0 = 1 by decide +kernel, show xP 0 = false by decide +kernel, show patP 0 = [108, 100, 32, 91, 75, 93] by decide +kernel]
  simp [subst, mkv, lineT, othL, wordK, wordT, dd_ne]
theorem lineT_1 (c t f k : Nat) : subst c t f k (patP 1) = lineT (kP 1) (xP 1) t f k := by
  rw [show kP 1 = 2 by decide +kernel, show xP 1 = false by decide +kernel, show patP 1 = [108, 100, 32, 35, 75] by decide +kernel]
  simp [subst, mkv, lineT, othL, wordK, wordT, dd_ne]
theorem lineT_2 (c t f k : Nat) : subst c t f k (patP 2) = lineT (kP 2) (xP 2) t f k := by
  rw [show kP 2 = 3 by decide +kernel, show xP 2 = false by decide +kernel, show patP 2 = [108, 100, 32, 109, 91, 75, 93] by decide +kernel]
  simp [subst, mkv, lineT, othL, wordK, wordT, dd_ne]
theorem lineT_3 (c t f k : Nat) : subst c t f k (patP 3) = lineT (kP 3) (xP 3) t f k := by
  rw [show kP 3 = 4 by decide +kernel, show xP 3 = false by decide +kernel, show patP 3 = [108, 100, 32, 108, 101, 110] by decide +kernel]
  simp [subst, mkv, lineT, othL, wordK, wordT, dd_ne]
theorem lineT_4 (c t f k : Nat) : subst c t f k (patP 4) = lineT (kP 4) (xP 4) t f k := by
  rw [show kP 4 = 5 by decide +kernel, show xP 4 = false by decide +kernel, show patP 4 = [108, 100, 120, 32, 35, 75] by decide +kernel]
  simp [subst, mkv, lineT, othL, wordK, wordT, dd_ne]
theorem lineT_5 (c t f k : Nat) : subst c t f k (patP 5) = lineT (kP 5) (xP 5) t f k := by
  rw [show kP 5 = 6 by decide +kernel, show xP 5 = false by decide +kernel, show patP 5 = [108, 100, 120, 32, 109, 91, 75, 93] by decide +kernel]
  simp [subst, mkv, lineT, othL, wordK, wordT, dd_ne]
theorem lineT_6 (c t f k : Nat) : subst c t f k (patP 6) = lineT (kP 6) (xP 6) t f k := by
  rw [show kP 6 = 7 by decide +kernel, show xP 6 = false by decide +kernel, show patP 6 = [108, 100, 120, 32, 108, 101, 110] by decide +kernel]
  simp [subst, mkv, lineT, othL, wordK, wordT, dd_ne]
theorem lineT_7 (c t f k : Nat) : subst c t f k (patP 7) = lineT (kP 7) (xP 7) t f k := by
  rw [show kP 7 = 8 by decide +kernel, show xP 7 = false by decide +kernel, show patP 7 = [115, 116, 32, 109, 91, 75, 93] by decide +kernel]
  simp [subst, mkv, lineT, othL, wordK, wordT, dd_ne]
theorem lineT_8 (c t f k : Nat) : subst c t f k (patP 8) = lineT (kP 8) (xP 8) t f k := by
  rw [show kP 8 = 9 by decide +kernel, show xP 8 = false by decide +kernel, show patP 8 = [115, 116, 120, 32, 109, 91, 75, 93] by decide +kernel]
  simp [subst, mkv, lineT, othL, wordK, wordT, dd_ne]
theorem lineT_9 (c t f k : Nat) : subst c t f k (patP 9) = lineT (kP 9) (xP 9) t f k := by
  rw [show kP 9 = 10 by decide +kernel, show xP 9 = false by decide +kernel, show patP 9 = [116, 97, 120] by decide +kernel]
  simp [subst, mkv, lineT, othL, wordK, wordT, dd_ne]
theorem lineT_10 (c t f k : Nat) : subst c t f k (patP 10) = lineT (kP 10) (xP 10) t f k := by
  rw [show kP 10 = 11 by decide +kernel, show xP 10 = false by decide +kernel, show patP 10 = [116, 120, 97] by decide +kernel]
  simp [subst, mkv, lineT, othL, wordK, wordT, dd_ne]
theorem lineT_11 (c t f k : Nat) : subst c t f k (patP 11) = lineT (kP 11) (xP 11) t f k := by
  rw [show kP 11 = 12 by decide +kernel, show xP 11 = false by decide +kernel, show patP 11 = [110, 101, 103] by decide +kernel]
  simp [subst, mkv, lineT, othL, wordK, wordT, dd_ne]
theorem lineT_12 (c t f k : Nat) : subst c t f k (patP 12) = lineT (kP 12) (xP 12) t f k := by
  rw [show kP 12 = 13 by decide +kernel, show xP 12 = false by decide +kernel, show patP 12 = [106, 97, 32, 75] by decide +kernel]
  simp [subst, mkv, lineT, othL, wordK, wordT, dd_ne]
theorem lineT_13 (c t f k : Nat) : subst c t f k (patP 13) = lineT (kP 13) (xP 13) t f k := by
  rw [show kP 13 = 14 by decide +kernel, show xP 13 = false by decide +kernel, show patP 13 = [114, 101, 116, 32, 35, 75] by decide +kernel]
  simp [subst, mkv, lineT, othL, wordK, wordT, dd_ne]
theorem lineT_14 (c t f k : Nat) : subst c t f k (patP 14) = lineT (kP 14) (xP 14) t f k := by
  rw [show kP 14 = 15 by decide +kernel, show xP 14 = false by decide +kernel, show patP 14 = [114, 101, 116, 32, 97] by decide +kernel]
  simp [subst, mkv, lineT, othL, wordK, wordT, dd_ne]
theorem lineT_15 (c t f k : Nat) : subst c t f k (patP 15) = lineT (kP 15) (xP 15) t f k := by
  rw [show kP 15 = 16 by decide +kernel, show xP 15 = false by decide +kernel, show patP 15 = [97, 100, 100, 32, 35, 75] by decide +kernel]
  simp [subst, mkv, lineT, othL, wordK, wordT, dd_ne]
theorem lineT_16 (c t f k : Nat) : subst c t f k (patP 16) = lineT (kP 16) (xP 16) t f k := by
  rw [show kP 16 = 16 by decide +kernel, show xP 16 = true by decide +kernel, show patP 16 = [97, 100, 100, 32, 120] by decide +kernel]
  simp [subst, mkv, lineT, othL, wordK, wordT, dd_ne]
theorem lineT_17 (c t f k : Nat) : subst c t f k (patP 17) = lineT (kP 17) (xP 17) t f k := by
  rw [show kP 17 = 17 by decide +kernel, show xP 17 = false by decide +kernel, show patP 17 = [115, 117, 98, 32, 35, 75] by decide +kernel]
  simp [subst, mkv, lineT, othL, wordK, wordT, dd_ne]
theorem lineT_18 (c t f k : Nat) : subst c t f k (patP 18) = lineT (kP 18) (xP 18) t f k := by
  rw [show kP 18 = 17 by decide +kernel, show xP 18 = true by decide +kernel, show patP 18 = [115, 117, 98, 32, 120] by decide +kernel]
  simp [subst, mkv, lineT, othL, wordK, wordT, dd_ne]
theorem lineT_19 (c t f k : Nat) : subst c t f k (patP 19) = lineT (kP 19) (xP 19) t f k := by
  rw [show kP 19 = 18 by decide +kernel, show xP 19 = false by decide +kernel, show patP 19 = [109, 117, 108, 32, 35, 75] by decide +kernel]
  simp [subst, mkv, lineT, othL, wordK, wordT, dd_ne]
theorem lineT_20 (c t f k : Nat) : subst c t f k (patP 20) = lineT (kP 20) (xP 20) t f k := by
  rw [show kP 20 = 18 by decide +kernel, show xP 20 = true by decide +kernel, show patP 20 = [109, 117, 108, 32, 120] by decide +kernel]
  simp [subst, mkv, lineT, othL, wordK, wordT, dd_ne]
theorem lineT_21 (c t f k : Nat) : subst c t f k (patP 21) = lineT (kP 21) (xP 21) t f k := by
  rw [show kP 21 = 19 by decide +kernel, show xP 21 = false by decide +kernel, show patP 21 = [100, 105, 118, 32, 35, 75] by decide +kernel]
  simp [subst, mkv, lineT, othL, wordK, wordT, dd_ne]
theorem lineT_22 (c t f k : Nat) : subst c t f k (patP 22) = lineT (kP 22) (xP 22) t f k := by
  rw [show kP 22 = 19 by decide +kernel, show xP 22 = true by decide +kernel, show patP 22 = [100, 105, 118, 32, 120] by decide +kernel]
  simp [subst, mkv, lineT, othL, wordK, wordT, dd_ne]
theorem lineT_23 (c t f k : Nat) : subst c t f k (patP 23) = lineT (kP 23) (xP 23) t f k := by
  rw [show kP 23 = 20 by decide +kernel, show xP 23 = false by decide +kernel, show patP 23 = [111, 114, 32, 35, 75] by decide +kernel]
  simp [subst, mkv, lineT, othL, wordK, wordT, dd_ne]
theorem lineT_24 (c t f k : Nat) : subst c t f k (patP 24) = lineT (kP 24) (xP 24) t f k := by
  rw [show kP 24 = 20 by decide +kernel, show xP 24 = true by decide +kernel, show patP 24 = [111, 114, 32, 120] by decide +kernel]
  simp [subst, mkv, lineT, othL, wordK, wordT, dd_ne]
theorem lineT_25 (c t f k : Nat) : subst c t f k (patP 25) = lineT (kP 25) (xP 25) t f k := by
  rw [show kP 25 = 21 by decide +kernel, show xP 25 = false by decide +kernel, show patP 25 = [97, 110, 100, 32, 35, 75] by decide +kernel]
  simp [subst, mkv, lineT, othL, wordK, wordT, dd_ne]
theorem lineT_26 (c t f k : Nat) : subst c t f k (patP 26) = lineT (kP 26) (xP 26) t f k := by
  rw [show kP 26 = 21 by decide +kernel, show xP 26 = true by decide +kernel, show patP 26 = [97, 110, 100, 32, 120] by decide +kernel]
  simp [subst, mkv, lineT, othL, wordK, wordT, dd_ne]
theorem lineT_27 (c t f k : Nat) : subst c t f k (patP 27) = lineT (kP 27) (xP 27) t f k := by
  rw [show kP 27 = 22 by decide +kernel, show xP 27 = false by decide +kernel, show patP 27 = [108, 115, 104, 32, 35, 75] by decide +kernel]
  simp [subst, mkv, lineT, othL, wordK, wordT, dd_ne]
theorem lineT_28 (c t f k : Nat) : subst c t f k (patP 28) = lineT (kP 28) (xP 28) t f k := by
  rw [show kP 28 = 22 by decide +kernel, show xP 28 = true by decide +kernel, show patP 28 = [108, 115, 104, 32, 120] by decide +kernel]
  simp [subst, mkv, lineT, othL, wordK, wordT, dd_ne]
theorem lineT_29 (c t f k : Nat) : subst c t f k (patP 29) = lineT (kP 29) (xP 29) t f k := by
  rw [show kP 29 = 23 by decide +kernel, show xP 29 = false by decide +kernel, show patP 29 = [114, 115, 104, 32, 35, 75] by decide +kernel]
  simp [subst, mkv, lineT, othL, wordK, wordT, dd_ne]
theorem lineT_30 (c t f k : Nat) : subst c t f k (patP 30) = lineT (kP 30) (xP 30) t f k := by
  rw [show kP 30 = 23 by decide +kernel, show xP 30 = true by decide +kernel, show patP 30 = [114, 115, 104, 32, 120] by decide +kernel]
  simp [subst, mkv, lineT, othL, wordK, wordT, dd_ne]
theorem lineT_31 (c t f k : Nat) : subst c t f k (patP 31) = lineT (kP 31) (xP 31) t f k := by
  rw [show kP 31 = 24 by decide +kernel, show xP 31 = false by decide +kernel, show patP 31 = [120, 111, 114, 32, 35, 75] by decide +kernel]
  simp [subst, mkv, lineT, othL, wordK, wordT, dd_ne]
theorem lineT_32 (c t f k : Nat) : subst c t f k (patP 32) = lineT (kP 32) (xP 32) t f k := by
  rw [show kP 32 = 24 by decide +kernel, show xP 32 = true by decide +kernel, show patP 32 = [120, 111, 114, 32, 120] by decide +kernel]
  simp [subst, mkv, lineT, othL, wordK, wordT, dd_ne]
theorem lineT_33 (c t f k : Nat) : subst c t f k (patP 33) = lineT (kP 33) (xP 33) t f k := by
  rw [show kP 33 = 25 by decide +kernel, show xP 33 = false by decide +kernel, show patP 33 = [106, 101, 113, 32, 35, 75, 32, 84, 32, 70] by decide +kernel]
  simp [subst, mkv, lineT, othL, wordK, wordT, dd_ne]
theorem lineT_34 (c t f k : Nat) : subst c t f k (patP 34) = lineT (kP 34) (xP 34) t f k := by
  rw [show kP 34 = 25 by decide +kernel, show xP 34 = true by decide +kernel, show patP 34 = [106, 101, 113, 32, 120, 32, 84, 32, 70] by decide +kernel]
  simp [subst, mkv, lineT, othL, wordK, wordT, dd_ne]
theorem lineT_35 (c t f k : Nat) : subst c t f k (patP 35) = lineT (kP 35) (xP 35) t f k := by
  rw [show kP 35 = 26 by decide +kernel, show xP 35 = false by decide +kernel, show patP 35 = [106, 103, 116, 32, 35, 75, 32, 84, 32, 70] by decide +kernel]
  simp [subst, mkv, lineT, othL, wordK, wordT, dd_ne]
theorem lineT_36 (c t f k : Nat) : subst c t f k (patP 36) = lineT (kP 36) (xP 36) t f k := by
  rw [show kP 36 = 26 by decide +kernel, show xP 36 = true by decide +kernel, show patP 36 = [106, 103, 116, 32, 120, 32, 84, 32, 70] by decide +kernel]
  simp [subst, mkv, lineT, othL, wordK, wordT, dd_ne]
theorem lineT_37 (c t f k : Nat) : subst c t f k (patP 37) = lineT (kP 37) (xP 37) t f k := by
  rw [show kP 37 = 27 by decide +kernel, show xP 37 = false by decide +kernel, show patP 37 = [106, 103, 101, 32, 35, 75, 32, 84, 32, 70] by decide +kernel]
  simp [subst, mkv, lineT, othL, wordK, wordT, dd_ne]
theorem lineT_38 (c t f k : Nat) : subst c t f k (patP 38) = lineT (kP 38) (xP 38) t f k := by
  rw [show kP 38 = 27 by decide +kernel, show xP 38 = true by decide +kernel, show patP 38 = [106, 103, 101, 32, 120, 32, 84, 32, 70] by decide +kernel]
  simp [subst, mkv, lineT, othL, wordK, wordT, dd_ne]
theorem lineT_39 (c t f k : Nat) : subst c t f k (patP 39) = lineT (kP 39) (xP 39) t f k := by
  rw [show kP 39 = 28 by decide +kernel, show xP 39 = false by decide +kernel, show patP 39 = [106, 115, 101, 116, 32, 35, 75, 32, 84, 32, 70] by decide +kernel]
  simp [subst, mkv, lineT, othL, wordK, wordT, dd_ne]
theorem lineT_40 (c t f k : Nat) : subst c t f k (patP 40) = lineT (kP 40) (xP 40) t f k := by
  rw [show kP 40 = 28 by decide +kernel, show xP 40 = true by decide +kernel, show patP 40 = [106, 115, 101, 116, 32, 120, 32, 84, 32, 70] by decide +kernel]
  simp [subst, mkv, lineT, othL, wordK, wordT, dd_ne]
theorem lineT_at (c t f k : Nat) (j : Nat) (hj : j < 41) : subst c t f k (patP j) = lineT (kP j) (xP j) t f k := by
  match j, hj with
  | 0, _ => exact lineT_0 c t f k
  | 1, _ => exact lineT_1 c t f k
  | 2, _ => exact lineT_2 c t f k
  | 3, _ => exact lineT_3 c t f k
  | 4, _ => exact lineT_4 c t f k
  | 5, _ => exact lineT_5 c t f k
  | 6, _ => exact lineT_6 c t f k
  | 7, _ => exact lineT_7 c t f k
  | 8, _ => exact lineT_8 c t f k
  | 9, _ => exact lineT_9 c t f k
  | 10, _ => exact lineT_10 c t f k
  | 11, _ => exact lineT_11 c t f k
  | 12, _ => exact lineT_12 c t f k
  | 13, _ => exact lineT_13 c t f k
  | 14, _ => exact lineT_14 c t f k
  | 15, _ => exact lineT_15 c t f k
  | 16, _ => exact lineT_16 c t f k
  | 17, _ => exact lineT_17 c t f k
  | 18, _ => exact lineT_18 c t f k
  | 19, _ => exact lineT_19 c t f k
  | 20, _ => exact lineT_20 c t f k
  | 21, _ => exact lineT_21 c t f k
  | 22, _ => exact lineT_22 c t f k
  | 23, _ => exact lineT_23 c t f k
  | 24, _ => exact lineT_24 c t f k
  | 25, _ => exact lineT_25 c t f k
  | 26, _ => exact lineT_26 c t f k
  | 27, _ => exact lineT_27 c t f k
  | 28, _ => exact lineT_28 c t f k
  | 29, _ => exact lineT_29 c t f k
  | 30, _ => exact lineT_30 c t f k
  | 31, _ => exact lineT_31 c t f k
  | 32, _ => exact lineT_32 c t f k
  | 33, _ => exact lineT_33 c t f k
  | 34, _ => exact lineT_34 c t f k
  | 35, _ => exact lineT_35 c t f k
  | 36, _ => exact lineT_36 c t f k
  | 37, _ => exact lineT_37 c t f k
  | 38, _ => exact lineT_38 c t f k
  | 39, _ => exact lineT_39 c t f k
  | 40, _ => exact lineT_40 c t f k
  | j + 41, h => omega
theorem assoc_some {l : List (Int × Int)} {x v : Int} (h : assoc l x = some v) : (x, v) ∈ l := by
  unfold assoc at h
  cases hf : l.find? fun p => p.1 == x with
  | none => rw [hf] at h; cases h
  | some p =>
    rw [hf] at h
    have h1 := List.mem_of_find?_eq_some hf
    have h2 := List.find?_some hf
    have h3 : p.1 = x := by simpa using h2
    have h4 : p.2 = v := by simpa using h
    rw [← h3, ← h4]
    exact h1
theorem codes_in : ∀ p ∈ codesKV, ∃ j, j < 41 ∧ (codeP j : Int) = p.1 := by decide +kernel
theorem codes_in8 : ∀ p ∈ codesKV, 16 ≤ p.2 → ∃ j, j < 41 ∧ (codeP j : Int) = p.1 + 8 := by decide +kernel
theorem codes_low : ∀ p ∈ codesKV, 0 ≤ p.1 ∧ p.1 ≤ 200 := by decide +kernel
/-- A code that no form has is none's. -/
theorem ofF_none (c : Nat) (hc : c < 65536) (h : ∀ i, i < 41 → codeP i ≠ c) : (ofF (c : Int)).1 = 0 ∧ (ofF (c : Int)).2.1 = false := by
  unfold ofF
  cases ha : assoc codesKV (c : Int) with
  | some v =>
    obtain ⟨j, hj, he⟩ := codes_in _ (assoc_some ha)
    exact absurd (Int.ofNat.inj he) (h j hj)
  | none =>
    simp only
    split
    · rename_i h16
      exfalso
      cases hb : assoc codesKV (((c : Int) - 8) % 65536) with
      | none => rw [hb] at h16; simp at h16
      | some v =>
        rw [hb] at h16
        have hm := assoc_some hb
        obtain ⟨j, hj, he⟩ := codes_in8 _ hm (by simpa using h16)
        have hl := codes_low _ hm
        simp only at he hl
        have hlt : (codeP j : Int) = (c : Int) := by omega
        exact h j hj (by omega)
    · exact ⟨rfl, rfl⟩
theorem ofF_nat (c : Nat) (hc : c < 65536) (t f k : Nat) : ∃ K X, K ≤ 28 ∧ (ofF (c : Int)).1 = ((K : Nat) : Int) ∧ (ofF (c : Int)).2.1 = X ∧ lineL c t f k = refL K X c t f k := by
  unfold lineL
  cases ha : atP c 41 with
  | none =>
    obtain ⟨h1, h2⟩ := ofF_none c hc (atP_none ha)
    refine ⟨0, false, by decide, h1, h2, ?_⟩
    simp only
    unfold refL
    rw [if_neg (fun h => h.1 rfl), anyL_eq]
  | some j =>
    obtain ⟨hj, hcj, _⟩ := atP_some ha
    obtain ⟨q1, q2, q3, q4, q5, q6⟩ := kP_chk j hj
    refine ⟨kP j, xP j, q3, by rw [← hcj]; exact q1, by rw [← hcj]; rfl, ?_⟩
    simp only
    have hw : wholeP (patP j) t f k = condL (kP j) (xP j) t f k := by
      unfold wholeP condL
      rw [q4, q5, q6]
      cases othB (kP j) (xP j) <;> cases (k == 0) <;> cases decide (25 ≤ kP j) <;> cases (t == 0) <;> cases (f == 0) <;> rfl
    unfold refL
    rw [hw]
    by_cases h : condL (kP j) (xP j) t f k = true
    · have hcnd : kP j ≠ 0 ∧ condL (kP j) (xP j) t f k = true := ⟨q2, h⟩
      rw [if_pos h, if_pos hcnd, lineT_at c t f k j hj]
      rfl
    · rw [if_neg h, if_neg (fun q => h q.2), anyL_eq]
end Go.Proofs.YtebeoadmdflfcaaGreatDoor
