/-
  The document's Digits; cond.Number of a number in figures 0 to f, and of a number's text behind a nought.
-/
import Derived.Test.YtokjdekigfekdaaDoorGg
import Derived.Test.YtokjdekigfekdaaDoorGq
import Derived.Test.YtokjdekigfekdaaDoorGr
import Derived.Deep.RegionWith
namespace Go.Proofs.YtokjdekigfekdaaDoor
open Go.RowKit
set_option linter.unusedVariables false

theorem dig_piece {n : Int} (h0 : 0 ≤ n) (h1 : n < 10) : (ByteArray.mk #[48, 49, 50, 51, 52, 53, 54, 55, 56, 57]).extract n.toNat (n + 1).toNat = ⟨(Lib.decDigits n.toNat).toArray⟩ := by
  obtain ⟨u, rfl⟩ := Int.eq_ofNat_of_zero_le h0
  have hu : u < 10 := by omega
  rw [Lib.decDigits_one (by simpa using hu)]
  have h : u = 0 ∨ u = 1 ∨ u = 2 ∨ u = 3 ∨ u = 4 ∨ u = 5 ∨ u = 6 ∨ u = 7 ∨ u = 8 ∨ u = 9 := by omega
  rcases h with rfl | rfl | rfl | rfl | rfl | rfl | rfl | rfl | rfl | rfl <;> rfl
set_option maxRecDepth 100000 in
set_option maxHeartbeats 4000000 in
theorem digits_small (n : Nat) (hn : n < 10) (w : World) : Calls Tryd.prog 11 #[.int .u64 n] w fun e w' => e = .returned (.string ⟨(Lib.decDigits n).toArray⟩) ∧ Below w.heap.size w w' := by
  have h : n = 0 ∨ n = 1 ∨ n = 2 ∨ n = 3 ∨ n = 4 ∨ n = 5 ∨ n = 6 ∨ n = 7 ∨ n = 8 ∨ n = 9 := by omega
  have hd := Lib.hid (Lib.decDigits_one hn)
  have HB := Lib.hid (Below.refl w.heap.size w)
  rw [hd.out]
  clear hn hd
  rcases h with rfl | rfl | rfl | rfl | rfl | rfl | rfl | rfl | rfl | rfl
  · show Calls Tryd.prog 11 #[.int .u64 0] w fun e w' => e = .returned (.string ⟨#[48]⟩) ∧ Below w.heap.size w w'
    go_enter Tryd.func11, Tryd.ntmps11
    go_wp2
    go_ret
    exact ⟨rfl, HB.out⟩
  · show Calls Tryd.prog 11 #[.int .u64 1] w fun e w' => e = .returned (.string ⟨#[49]⟩) ∧ Below w.heap.size w w'
    go_enter Tryd.func11, Tryd.ntmps11
    go_wp2
    go_ret
    exact ⟨rfl, HB.out⟩
  · show Calls Tryd.prog 11 #[.int .u64 2] w fun e w' => e = .returned (.string ⟨#[50]⟩) ∧ Below w.heap.size w w'
    go_enter Tryd.func11, Tryd.ntmps11
    go_wp2
    go_ret
    exact ⟨rfl, HB.out⟩
  · show Calls Tryd.prog 11 #[.int .u64 3] w fun e w' => e = .returned (.string ⟨#[51]⟩) ∧ Below w.heap.size w w'
    go_enter Tryd.func11, Tryd.ntmps11
    go_wp2
    go_ret
    exact ⟨rfl, HB.out⟩
  · show Calls Tryd.prog 11 #[.int .u64 4] w fun e w' => e = .returned (.string ⟨#[52]⟩) ∧ Below w.heap.size w w'
    go_enter Tryd.func11, Tryd.ntmps11
    go_wp2
    go_ret
    exact ⟨rfl, HB.out⟩
  · show Calls Tryd.prog 11 #[.int .u64 5] w fun e w' => e = .returned (.string ⟨#[53]⟩) ∧ Below w.heap.size w w'
    go_enter Tryd.func11, Tryd.ntmps11
    go_wp2
    go_ret
    exact ⟨rfl, HB.out⟩
  · show Calls Tryd.prog 11 #[.int .u64 6] w fun e w' => e = .returned (.string ⟨#[54]⟩) ∧ Below w.heap.size w w'
    go_enter Tryd.func11, Tryd.ntmps11
    go_wp2
    go_ret
    exact ⟨rfl, HB.out⟩
  · show Calls Tryd.prog 11 #[.int .u64 7] w fun e w' => e = .returned (.string ⟨#[55]⟩) ∧ Below w.heap.size w w'
    go_enter Tryd.func11, Tryd.ntmps11
    go_wp2
    go_ret
    exact ⟨rfl, HB.out⟩
  · show Calls Tryd.prog 11 #[.int .u64 8] w fun e w' => e = .returned (.string ⟨#[56]⟩) ∧ Below w.heap.size w w'
    go_enter Tryd.func11, Tryd.ntmps11
    go_wp2
    go_ret
    exact ⟨rfl, HB.out⟩
  · show Calls Tryd.prog 11 #[.int .u64 9] w fun e w' => e = .returned (.string ⟨#[57]⟩) ∧ Below w.heap.size w w'
    go_enter Tryd.func11, Tryd.ntmps11
    go_wp2
    go_ret
    exact ⟨rfl, HB.out⟩

set_option maxRecDepth 100000 in
set_option maxHeartbeats 4000000 in
theorem digits_any : ∀ (n : Nat), n < 18446744073709551616 → ∀ (w : World), Calls Tryd.prog 11 #[.int .u64 n] w fun e w' => e = .returned (.string ⟨(Lib.decDigits n).toArray⟩) ∧ Below w.heap.size w w' := by
  intro n
  induction n using Nat.strongRecOn with
  | _ n ih =>
    intro hle w
    by_cases hn : n < 10
    · exact digits_small n hn w
    have q1 : Int.tdiv (n : Int) 10 = ((n / 10 : Nat) : Int) := by rw [Int.tdiv_eq_ediv_of_nonneg (by omega)]; omega
    have q2 : Int.tmod (n : Int) 10 = ((n % 10 : Nat) : Int) := by rw [Int.tmod_eq_emod_of_nonneg (by omega)]; omega
    have HI := Lib.hid fun W => ih (n / 10) (by omega) (by omega) W
    have hdig : Lib.decDigits n = Lib.decDigits (n / 10) ++ [UInt8.ofNat (48 + n % 10)] := by rw [Lib.decDigits, dif_neg hn]
    have hp := dig_piece (n := ((n % 10 : Nat) : Int)) (by omega) (by omega)
    have hl : n % 10 < 10 := Nat.mod_lt _ (by omega)
    have a0 : ¬ (n : Int) < 10 := by omega
    have a1 : decide ((n : Int) < 10) = false := by simp; omega
    have hk0 : Below w.heap.size w w.drew := (Below.refl _ w).drew
    have hs1 : (Lib.decDigits (n / 10)).length ≤ 20 := by
      rw [Lib.decDigits_length]
      exact nDigits_le _ (by omega)
    have hs2 : (Lib.decDigits ((n % 10 : Nat) : Int).toNat).length = 1 := by rw [Lib.decDigits_one (by omega)]; rfl
    have hres : (⟨(Lib.decDigits (n / 10)).toArray⟩ : ByteArray) ++ ⟨(Lib.decDigits ((n % 10 : Nat) : Int).toNat).toArray⟩ = ⟨(Lib.decDigits n).toArray⟩ := by
      rw [Int.toNat_natCast, hdig, Lib.decDigits_one hl]
      apply ByteArray.ext
      simp
    have HRES := Lib.hid hres
    clear hres hdig
    clear ih
    go_enter Tryd.func11, Tryd.ntmps11
    go_wp2_with fail
    generalize hQ : ((n / 10 : Nat) : Int) = Q at *
    generalize hR : ((n % 10 : Nat) : Int) = R at *
    have r0 : 0 ≤ R ∧ R < 10 := by omega
    have r1 : 0 ≤ R := r0.1
    have r2 : R < 10 := r0.2
    have v1 : IntKind.u64.wrap (R + 1) = R + 1 := by rw [IntKind.wrap_u64]; omega
    have v2 : IntKind.u64.wrap Q = Q := by rw [IntKind.wrap_u64]; omega
    have v3 : IntKind.u64.wrap R = R := by rw [IntKind.wrap_u64]; omega
    have r3 : R ≤ R + 1 := by omega
    have r4 : R + 1 ≤ 10 := by omega
    have s1 : ¬ 9223372036854775807 < (Lib.decDigits (n / 10)).length + (Lib.decDigits R.toNat).length := by omega
    have s2 : ¬ 9223372036854775807 < (Lib.decDigits (n / 10)).length + 1 := by omega
    go_region_with (go_at_call 11; refine (HI.out _).mono ?_; rintro e w2 ⟨rfl, hB2⟩)
    all_goals go_wp2
    all_goals go_ret
    all_goals exact ⟨by show Ending.returned (.string ((⟨(Lib.decDigits (n / 10)).toArray⟩ : ByteArray) ++ ⟨(Lib.decDigits R.toNat).toArray⟩)) = _; rw [HRES.out], hk0.trans hB2⟩
end Go.Proofs.YtokjdekigfekdaaDoor
