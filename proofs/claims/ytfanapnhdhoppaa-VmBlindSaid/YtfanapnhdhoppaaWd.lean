/-
  The contract of the law's own awake: it returns true, whatever lies in memory; and word.Get's answer for whatever it is asked.
-/
import Derived.Test.YtfanapnhdhoppaaWb
import Derived.Test.YtfanapnhdhoppaaWc
namespace Go.Proofs.Ytfanapnhdhoppaa
open Go.RowKit

theorem flt_ok {n at_ wd : Int} (h : flt n at_ wd = 0) : (wd = 1 ∨ wd = 2 ∨ wd = 4 ∨ wd = 8) ∧ 0 ≤ at_ ∧ at_ ≤ n - wd := by
  unfold flt at h
  split at h
  · split at h
    · cases h
    · omega
  · cases h
theorem awake_byt (w : World) : Byt (w.alloc (.cells #[.int .u8 1, .int .u8 2, .int .u8 3, .int .u8 4] 5)) (w.heap.size + 1) (some ⟨w.heap.size, 0, none⟩) 4 4 (fun i => i + 1) :=
  Byt.mk_ (by omega) (by decide) (by decide) (fun i hi => by
    match i, hi with
    | 0, _ => exact ⟨by simp, by decide⟩
    | 1, _ => exact ⟨by simp, by decide⟩
    | 2, _ => exact ⟨by simp, by decide⟩
    | 3, _ => exact ⟨by simp, by decide⟩)
theorem awake_get (w : World) :
    Calls Try.prog 165 #[.slice (some ⟨w.heap.size, 0, none⟩) 4 4, .int .i64 1, .int .i64 2, .bool false] (w.alloc (.cells #[.int .u8 1, .int .u8 2, .int .u8 3, .int .u8 4] 5)) fun e w' =>
      e = .returned (.tuple #[.int .u64 770, .int .i64 0]) ∧ Below w.heap.size w w' := by
  have h := get_ok false (some ⟨w.heap.size, 0, none⟩) 4 4 1 2 (fun i => i + 1) (w.alloc (.cells #[.int .u8 1, .int .u8 2, .int .u8 3, .int .u8 4] 5)) (by decide) (by decide) (by decide) ((awake_byt w).more (by simp))
  refine h.mono fun e w' ⟨he, hb⟩ => ⟨he, ?_⟩
  exact ((Below.refl _ _).alloc (Nat.le_refl _) _).trans (hb.mono (by simp))
theorem awake_get_big (w : World) :
    Calls Try.prog 165 #[.slice (some ⟨w.heap.size, 0, none⟩) 4 4, .int .i64 1, .int .i64 2, .bool true] (w.alloc (.cells #[.int .u8 1, .int .u8 2, .int .u8 3, .int .u8 4] 5)) fun e w' =>
      e = .returned (.tuple #[.int .u64 515, .int .i64 0]) ∧ Below w.heap.size w w' := by
  have h := get_ok true (some ⟨w.heap.size, 0, none⟩) 4 4 1 2 (fun i => i + 1) (w.alloc (.cells #[.int .u8 1, .int .u8 2, .int .u8 3, .int .u8 4] 5)) (by decide) (by decide) (by decide) ((awake_byt w).more (by simp))
  refine h.mono fun e w' ⟨he, hb⟩ => ⟨he, ?_⟩
  exact ((Below.refl _ _).alloc (Nat.le_refl _) _).trans (hb.mono (by simp))
/-- word.Get, whatever it is asked. -/
theorem get_any (big : Bool) (A : Option Addr) (m c : Nat) (p wd : Int) (f : Nat → Nat) (w : World) (hm : m ≤ 4611686018427387904) (ha : -9223372036854775808 ≤ p) (hb : p ≤ 9223372036854775807) (hr : Byt w w.heap.size A m c f) :
    Calls Try.prog 165 #[.slice A m c, .int .i64 p, .int .i64 wd, .bool big] w fun e w' =>
      e = .returned (.tuple #[.int .u64 (if flt m p wd = 0 then ((num (fun i => f (pln big p.toNat wd.toNat i)) wd.toNat : Nat) : Int) else 0), .int .i64 (flt m p wd)]) ∧ Below w.heap.size w w' := by
  by_cases h : flt m p wd = 0
  · obtain ⟨hw, h0, h1⟩ := flt_ok h
    obtain ⟨q, rfl⟩ := Int.eq_ofNat_of_zero_le h0
    obtain ⟨k, rfl⟩ := Int.eq_ofNat_of_zero_le (show 0 ≤ wd by omega)
    rw [if_pos h, h]
    exact get_ok big A m c q k f w hm (by omega) (by omega) hr
  · rw [if_neg h]
    exact get_err big A m c p wd w (by unfold maxLen; omega) ha hb h
end Go.Proofs.Ytfanapnhdhoppaa
