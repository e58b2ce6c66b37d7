/-
  Contracts of the document's own functions of layer 8, of abi.Args, and of the chapter's example.
-/
import Derived.Test.YtlninlempefjcaaAd
namespace Go.Proofs.Ytlninlempefjcaa
open Go.RowKit Go.Shelf

/-- What the document says: the ABI, or -1. -/
def refA (arch num : Nat) : Int := if (selA arch num).2 = true then ((selA arch num).1 : Int) else -1
theorem bit30_int (n : Nat) : (((n : Int) / 1073741824 % 2) == 1) = bit30 n := by
  unfold bit30
  rw [Bool.eq_iff_iff]
  simp
  omega
set_option maxRecDepth 100000 in
set_option maxHeartbeats 2000000 in
theorem refSelect_any (arch num : Nat) (w : World) (ha : arch < 4294967296) (hn : num < 4294967296) :
    Calls Try.prog 39 #[.int .u32 arch, .int .u32 num] w fun e w' => e = .returned (.int .i64 (refA arch num)) ∧ w = w' := by
  by_cases h1 : arch = 3221225534
  · subst h1
    have hb := bit30_int num
    cases h2 : bit30 num
    · have HR : Hid (refA 3221225534 num = 0) := Lib.hid (by simp [refA, selA, hbF, h2])
      rw [h2] at hb
      go_enter Try.func39, Try.ntmps39
      go_wp2
      all_goals go_ret
      all_goals exact ⟨ret_int HR.out.symm, rfl⟩
    · rw [h2] at hb
      by_cases h3 : num = 4294967295
      · have HR : Hid (refA 3221225534 num = 0) := Lib.hid (by simp [refA, selA, hbF, h3])
        go_enter Try.func39, Try.ntmps39
        go_wp2
        all_goals go_ret
        all_goals exact ⟨ret_int HR.out.symm, rfl⟩
      · have HR : Hid (refA 3221225534 num = 1) := Lib.hid (by simp [refA, selA, hbF, h2, h3])
        have h4 : ((num : Int) != 4294967295) = true := by simp; omega
        clear h3
        go_enter Try.func39, Try.ntmps39
        go_wp2
        all_goals go_ret
        all_goals exact ⟨ret_int HR.out.symm, rfl⟩
  · by_cases h2 : arch = 1073741827
    · subst h2
      have HR : Hid (refA 1073741827 num = 2) := Lib.hid (by simp [refA, selA])
      go_enter Try.func39, Try.ntmps39
      go_wp2
      all_goals go_ret
      all_goals exact ⟨ret_int HR.out.symm, rfl⟩
    by_cases h3 : arch = 3221225655
    · subst h3
      have HR : Hid (refA 3221225655 num = 3) := Lib.hid (by simp [refA, selA])
      go_enter Try.func39, Try.ntmps39
      go_wp2
      all_goals go_ret
      all_goals exact ⟨ret_int HR.out.symm, rfl⟩
    by_cases h4 : arch = 3221225715
    · subst h4
      have HR : Hid (refA 3221225715 num = 4) := Lib.hid (by simp [refA, selA])
      go_enter Try.func39, Try.ntmps39
      go_wp2
      all_goals go_ret
      all_goals exact ⟨ret_int HR.out.symm, rfl⟩
    have HR : Hid (refA arch num = -1) := Lib.hid (by simp [refA, selA, h1, h2, h3, h4])
    have q1 : ((arch : Int) == 3221225534) = false := by simp; omega
    have q2 : ((arch : Int) == 1073741827) = false := by simp; omega
    have q3 : ((arch : Int) == 3221225655) = false := by simp; omega
    have q4 : ((arch : Int) == 3221225715) = false := by simp; omega
    clear h1 h2 h3 h4
    go_enter Try.func39, Try.ntmps39
    go_wp2
    all_goals go_ret
    all_goals exact ⟨ret_int HR.out.symm, rfl⟩
set_option maxRecDepth 100000 in
set_option maxHeartbeats 2000000 in
theorem refOwn_any (a : Int) (n : Nat) (w : World) (hn : n < 4294967296) :
    Calls Try.prog 40 #[.int .i64 a, .int .u32 n] w fun e w' => e = .returned (.int .u32 (ownF a n : Nat)) ∧ w = w' := by
  have hb := bit30_int n
  by_cases h1 : a = 1
  · subst h1
    cases h2 : bit30 n
    · have HR : Hid (ownF 1 n = n) := Lib.hid (by simp [ownF, h2])
      rw [h2] at hb
      go_enter Try.func40, Try.ntmps40
      go_wp2
      all_goals go_ret
      all_goals exact ⟨ret_int (by rw [HR.out]), rfl⟩
    · have HR : Hid (ownF 1 n = n - 1073741824) := Lib.hid (by simp [ownF, h2])
      have hg : 1073741824 ≤ n := by unfold bit30 at h2; simp at h2; omega
      rw [h2] at hb
      go_enter Try.func40, Try.ntmps40
      go_wp2
      all_goals go_ret
      all_goals exact ⟨ret_int (by rw [HR.out]; omega), rfl⟩
  · have HR : Hid (ownF a n = n) := Lib.hid (by simp [ownF, h1])
    have q1 : (a == 1) = false := by simpa using h1
    clear hb h1
    go_enter Try.func40, Try.ntmps40
    go_wp2
    all_goals go_ret
    all_goals exact ⟨ret_int (by rw [HR.out]), rfl⟩
/-- An argument as an ABI sees it. -/
def argF (a : Int) (n : Nat) : Nat := if a = 2 then n % 4294967296 else n
end Go.Proofs.Ytlninlempefjcaa
