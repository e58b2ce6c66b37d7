/-
  Contracts of the document's own functions of layer 8, of abi.Args, and of the chapter's example.
-/
import Derived.Test.YtjblkkffdhaiiaaAd
namespace Go.Proofs.Ytjblkkffdhaiiaa
open Go.RowKit Go.Shelf

/-- What the document says: the ABI, or -1. -/
def refA (arch num : Nat) : Int := if (selA arch num).2 = true then ((selA arch num).1 : Int) else -1
theorem bit30_int (n : Nat) : (((n : Int) / 1073741824 % 2) == 1) = bit30 n := by
  unfold bit30
  rw [Bool.eq_iff_iff]
  simp
  omega
set_option maxRecDepth 100000 in
set_option maxHeartbeats 2000000 in
theorem refSelect_any (arch num : Nat) (w : World) (ha : arch < 4294967296) (hn : num < 4294967296) :
    Calls Try.prog 15 #[.int .u32 arch, .int .u32 num] w fun e w' => e = .returned (.int .i64 (refA arch num)) ∧ w = w' := by
  by_cases h1 : arch = 3221225534
  · subst h1
    have hb := bit30_int num
    cases h2 : bit30 num
    · have HR : Hid (refA 3221225534 num = 0) := Lib.hid (by simp [refA, selA, hbF, h2])
      rw [h2] at hb
      go_enter Try.func15, Try.ntmps15
      go_wp2
      all_goals go_ret
      all_goals exact ⟨ret_int HR.out.symm, rfl⟩
    · rw [h2] at hb
      by_cases h3 : num = 4294967295
      · have HR : Hid (refA 3221225534 num = 0) := Lib.hid (by simp [refA, selA, hbF, h3])
        go_enter Try.func15, Try.ntmps15
        go_wp2
        all_goals go_ret
        all_goals exact ⟨ret_int HR.out.symm, rfl⟩
      · have HR : Hid (refA 3221225534 num = 1) := Lib.hid (by simp [refA, selA, hbF, h2, h3])
        have h4 : ((num : Int) != 4294967295) = true := by simp; omega
        clear h3
        go_enter Try.func15, Try.ntmps15
        go_wp2
        all_goals go_ret
        all_goals exact ⟨ret_int HR.out.symm, rfl⟩
  · by_cases h2 : arch = 1073741827
    · subst h2
      have HR : Hid (refA 1073741827 num = 2) := Lib.hid (by simp [refA, selA])
      go_enter Try.func15, Try.ntmps15
      go_wp2
      all_goals go_ret
      all_goals exact ⟨ret_int HR.out.symm, rfl⟩
    by_cases h3 : arch = 3221225655
    · subst h3
      have HR : Hid (refA 3221225655 num = 3) := Lib.hid (by simp [refA, selA])
      go_enter Try.func15, Try.ntmps15
      go_wp2
      all_goals go_ret
      all_goals exact ⟨ret_int HR.out.symm, rfl⟩
    by_cases h4 : arch = 3221225715
    · subst h4
      have HR : Hid (refA 3221225715 num = 4) := Lib.hid (by simp [refA, selA])
      go_enter Try.func15, Try.ntmps15
      go_wp2
      all_goals go_ret
      all_goals exact ⟨ret_int HR.out.symm, rfl⟩
    have HR : Hid (refA arch num = -1) := Lib.hid (by simp [refA, selA, h1, h2, h3, h4])
    have q1 : ((arch : Int) == 3221225534) = false := by simp; omega
    have q2 : ((arch : Int) == 1073741827) = false := by simp; omega
    have q3 : ((arch : Int) == 3221225655) = false := by simp; omega
    have q4 : ((arch : Int) == 3221225715) = false := by simp; omega
    clear h1 h2 h3 h4
    go_enter Try.func15, Try.ntmps15
    go_wp2
    all_goals go_ret
    all_goals exact ⟨ret_int HR.out.symm, rfl⟩
set_option maxRecDepth 100000 in
set_option maxHeartbeats 2000000 in
theorem refOwn_any (a : Int) (n : Nat) (w : World) (hn : n < 4294967296) :
    Calls Try.prog 17 #[.int .i64 a, .int .u32 n] w fun e w' => e = .returned (.int .u32 (ownF a n : Nat)) ∧ w = w' := by
  have hb := bit30_int n
  by_cases h1 : a = 1
  · subst h1
    cases h2 : bit30 n
    · have HR : Hid (ownF 1 n = n) := Lib.hid (by simp [ownF, h2])
      rw [h2] at hb
      go_enter Try.func17, Try.ntmps17
      go_wp2
      all_goals go_ret
      all_goals exact ⟨ret_int (by rw [HR.out]), rfl⟩
    · have HR : Hid (ownF 1 n = n - 1073741824) := Lib.hid (by simp [ownF, h2])
      have hg : 1073741824 ≤ n := by unfold bit30 at h2; simp at h2; omega
      rw [h2] at hb
      go_enter Try.func17, Try.ntmps17
      go_wp2
      all_goals go_ret
      all_goals exact ⟨ret_int (by rw [HR.out]; omega), rfl⟩
  · have HR : Hid (ownF a n = n) := Lib.hid (by simp [ownF, h1])
    have q1 : (a == 1) = false := by simpa using h1
    clear hb h1
    go_enter Try.func17, Try.ntmps17
    go_wp2
    all_goals go_ret
    all_goals exact ⟨ret_int (by rw [HR.out]), rfl⟩
/-- An argument as an ABI sees it. -/
def argF (a : Int) (n : Nat) : Nat := if a = 2 then n % 4294967296 else n
set_option maxRecDepth 100000 in
set_option maxHeartbeats 2000000 in
theorem refArg_any (a : Int) (n : Nat) (w : World) (hn : n < 18446744073709551616) :
    Calls Try.prog 19 #[.int .i64 a, .int .u64 n] w fun e w' => e = .returned (.int .u64 (argF a n : Nat)) ∧ w = w' := by
  by_cases h1 : a = 2
  · subst h1
    have HR : Hid (argF 2 n = n % 4294967296) := Lib.hid (by simp [argF])
    go_enter Try.func19, Try.ntmps19
    go_wp2
    all_goals go_ret
    all_goals exact ⟨ret_int (by rw [HR.out]; omega), rfl⟩
  · have HR : Hid (argF a n = n) := Lib.hid (by simp [argF, h1])
    have q1 : (a == 2) = false := by simpa using h1
    clear h1
    go_enter Try.func19, Try.ntmps19
    go_wp2
    all_goals go_ret
    all_goals exact ⟨ret_int (by rw [HR.out]), rfl⟩
set_option maxRecDepth 100000 in
set_option maxHeartbeats 2000000 in
theorem awake8_any (w : World) : Calls Try.prog 12 #[] w fun e w' => e = .returned (.bool true) ∧ Below w.heap.size w w' := by
  have h1 := select_ok 3221225534 1073741829 w (by decide) (by decide)
  have e1 : selA 3221225534 1073741829 = (1, true) := rfl
  rw [e1] at h1
  have HS := Lib.hid h1
  have h2 : ∀ W, Calls Try.prog 16 #[.int .i64 1, .int .u32 1073741829] W fun e w' => e = .returned (.int .u32 5) ∧ Below W.heap.size W w' := fun W => own_any 1 1073741829 W (by decide)
  have HO := Lib.hid h2
  clear h1 h2 e1
  go_enter Try.func12, Try.ntmps12
  go_wp2_with (first
    | (go_at_call 14; refine HS.out.mono ?_; rintro e w1 ⟨rfl, hB1⟩)
    | (go_at_call 16; refine (HO.out _).mono ?_; rintro e w2 ⟨rfl, hB2⟩))
  go_ret
  exact ⟨rfl, hB1.trans (hB2.mono hB1.size)⟩
end Go.Proofs.Ytjblkkffdhaiiaa
