/-
  Words for the document's own machine: a number doubled or halved so often, a word of a record, what a run tells held against another.
-/
import Derived.Test.YtiofgaadfbjnoaaVn
import Derived.Test.YtiofgaadfbjnoaaKr
import Derived.Deep.QuietTactic
import Derived.BigQuiet
namespace Go.Proofs.Ytiofgaadfbjnoaa
open Go.RowKit
set_option linter.unusedVariables false

theorem half_pow (a k : Nat) : a / 2 ^ k / 2 = a / 2 ^ (k + 1) := by rw [Nat.div_div_eq_div_mul, ← Nat.pow_succ]
theorem dbl_pow (a k : Nat) : (a * 2 ^ k % 4294967296 + a * 2 ^ k % 4294967296) % 4294967296 = a * 2 ^ (k + 1) % 4294967296 := by
  rw [Nat.pow_succ, ← Nat.mul_assoc]
  generalize a * 2 ^ k = x
  omega
theorem tmod32 (o : Nat) : (o : Int).tmod 32 = ((o % 32 : Nat) : Int) := by
  rw [Int.tmod_eq_emod_of_nonneg (by omega)]
  omega
set_option maxHeartbeats 2000000 in
theorem shift_down (a o : Nat) (ha : a < 4294967296) (ho : o < 4294967296) (w : World) :
    Calls Try.prog 22 #[.int .u32 a, .int .u32 o, .bool false] w fun e w' => e = .returned (.int .u32 ((a / 2 ^ (o % 32) : Nat) : Int)) ∧ w = w' := by
  have ht := tmod32 o
  obtain ⟨r, hr⟩ : ∃ r, o % 32 = r := ⟨_, rfl⟩
  have hr32 : r < 32 := by omega
  rw [hr] at ht ⊢
  clear hr
  go_enter Try.func22, Try.ntmps22
  go_wp2
  go_loop [0, 7] (fun v i => ∃ k : Nat, k ≤ r ∧ i = .int .u32 k ∧ v = .int .u32 ((a / 2 ^ k : Nat) : Int)) (fun _ i => r - (intOf i).toNat)
  case atStart => exact ⟨0, Nat.zero_le _, rfl, by simp⟩
  case round =>
    obtain ⟨k, hk, rfl, rfl⟩ := hrel
    have hle : a / 2 ^ k ≤ a := Nat.div_le_self _ _
    have HN := Lib.hid (half_pow a k)
    obtain ⟨y, hy⟩ : ∃ y, a / 2 ^ k = y := ⟨_, rfl⟩
    have HY := Lib.hid hy
    rw [hy] at hle HN ⊢
    clear hy
    by_cases hlt : k < r
    · have g1 : (k : Int) < (r : Int) := by omega
      have g2 : decide ((k : Int) < (r : Int)) = true := decide_eq_true g1
      go_wp2
      refine ⟨⟨k + 1, by omega, by go_num, ?_⟩, by simp [intOf]; omega⟩
      rw [← HN.out]
      try go_num
    · obtain rfl : k = r := by omega
      have g1 : ¬ (k : Int) < (k : Int) := by omega
      go_wp2
      go_ret
      exact ⟨show Ending.returned (.int .u32 (y : Int)) = Ending.returned (.int .u32 ((a / 2 ^ k : Nat) : Int)) from by rw [HY.out], rfl⟩
set_option maxHeartbeats 2000000 in
theorem shift_up (a o : Nat) (ha : a < 4294967296) (ho : o < 4294967296) (w : World) :
    Calls Try.prog 22 #[.int .u32 a, .int .u32 o, .bool true] w fun e w' => e = .returned (.int .u32 ((a * 2 ^ (o % 32) % 4294967296 : Nat) : Int)) ∧ w = w' := by
  have ht := tmod32 o
  obtain ⟨r, hr⟩ : ∃ r, o % 32 = r := ⟨_, rfl⟩
  have hr32 : r < 32 := by omega
  rw [hr] at ht ⊢
  clear hr
  go_enter Try.func22, Try.ntmps22
  go_wp2
  go_loop [0, 7] (fun v i => ∃ k : Nat, k ≤ r ∧ i = .int .u32 k ∧ v = .int .u32 ((a * 2 ^ k % 4294967296 : Nat) : Int)) (fun _ i => r - (intOf i).toNat)
  case atStart => exact ⟨0, Nat.zero_le _, rfl, by rw [Nat.pow_zero, Nat.mul_one, Nat.mod_eq_of_lt ha]⟩
  case round =>
    obtain ⟨k, hk, rfl, rfl⟩ := hrel
    have hle : a * 2 ^ k % 4294967296 < 4294967296 := Nat.mod_lt _ (by decide)
    have HN := Lib.hid (dbl_pow a k)
    obtain ⟨y, hy⟩ : ∃ y, a * 2 ^ k % 4294967296 = y := ⟨_, rfl⟩
    have HY := Lib.hid hy
    rw [hy] at hle HN ⊢
    clear hy
    by_cases hlt : k < r
    · have g1 : (k : Int) < (r : Int) := by omega
      have g2 : decide ((k : Int) < (r : Int)) = true := decide_eq_true g1
      go_wp2
      refine ⟨⟨k + 1, by omega, by go_num, ?_⟩, by simp [intOf]; omega⟩
      rw [← HN.out]
      try go_num
    · obtain rfl : k = r := by omega
      have g1 : ¬ (k : Int) < (k : Int) := by omega
      go_wp2
      go_ret
      exact ⟨show Ending.returned (.int .u32 (y : Int)) = Ending.returned (.int .u32 ((a * 2 ^ k % 4294967296 : Nat) : Int)) from by rw [HY.out], rfl⟩
set_option maxHeartbeats 2000000 in
/-- The document's word at a place. -/
theorem wordR_any (A : Option Addr) (c : Nat) (f : Nat → Nat) (k : Nat) (w : World) (hk : k + 4 ≤ 64) (hf : ∀ i, f i < 256) (hby : Byt w w.heap.size A 64 c f) :
    Calls Try.prog 21 #[.slice A 64 c, .int .i64 k] w fun e w' => e = .returned (.int .u32 ((num (fun i => f (k + i)) 4 : Nat) : Int)) ∧ w = w' := by
  obtain ⟨b, off, rfl, hb, hc⟩ := hby.at_ (by decide)
  have hle := hby.le
  have hlt : num (fun i => f (k + i)) 4 < 4294967296 := num_lt _ 4 (fun i hi => hf _)
  have HN : Hid (Calls Try.prog 41 #[.slice (some ⟨b, off + k, none⟩) 4 (c - k)] w fun e w' => e = .returned (.int .u64 (num (fun i => f (k + i)) 4 : Nat)) ∧ w = w') := Lib.hid (number_any _ 4 (c - k) _ w (by decide) (Byt.mk_ hb (by omega) (by omega) (fun i hi => by rw [Nat.add_assoc]; exact hc (k + i) (by omega))))
  obtain ⟨N, hN⟩ : ∃ N, num (fun i => f (k + i)) 4 = N := ⟨_, rfl⟩
  rw [hN] at HN hlt ⊢
  have v0 : IntKind.i64.wrap ((k : Int) + 4) = ((k + 4 : Nat) : Int) := by rw [IntKind.wrap_i64]; omega
  have v1 : IntKind.u32.wrap (N : Int) = (N : Int) := IntWalk.u32_in _ (by omega)
  clear hN hby hc
  go_enter Try.func21, Try.ntmps21
  go_wp2_with (go_at_call 41; refine HN.out.mono ?_; rintro e w1 ⟨rfl, rfl⟩)
  go_ret
  exact ⟨ret_int (by rfl), rfl⟩
end Go.Proofs.Ytiofgaadfbjnoaa
