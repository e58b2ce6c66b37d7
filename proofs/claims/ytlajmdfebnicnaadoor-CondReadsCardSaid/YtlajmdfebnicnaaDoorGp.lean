/-
  strconv.FormatUint at base 16: a number's text in figures 0 to f.
-/
import Derived.Test.YtlajmdfebnicnaaDoorRw
import Derived.Lib.Walk
import Derived.Lib.LaidTab
import Derived.Lib.SmallJoins
import Derived.Laws.IdiomStrings
import Derived.Laws.Bits64b
import Derived.Laws.BitsAllLaws
import Derived.BigCall
import Derived.BigGuard
namespace Go.Proofs.YtlajmdfebnicnaaDoor
open Go.RowKit
set_option linter.unusedVariables false

/-- The figure of a number below 16. -/
def hexC (d : Nat) : UInt8 := UInt8.ofNat (if d < 10 then 48 + d else 87 + d)
/-- A number's figures. -/
def hexL (u : Nat) : List UInt8 := if u < 16 then [hexC u] else hexL (u / 16) ++ [hexC (u % 16)]
decreasing_by omega
theorem hexL_small {u : Nat} (h : u < 16) : hexL u = [hexC u] := by rw [hexL, if_pos h]
theorem hexL_more {u : Nat} (h : ¬ u < 16) : hexL u = hexL (u / 16) ++ [hexC (u % 16)] := by rw [hexL, if_neg h]
theorem hexL_len (k u : Nat) (h : u < 16 ^ (k + 1)) : (hexL u).length ≤ k + 1 := by
  revert u
  induction k with
  | zero => intro u h; rw [hexL_small (by omega)]; simp
  | succ k ih =>
    intro u h
    by_cases hu : u < 16
    · rw [hexL_small hu]; simp
    · rw [hexL_more hu, List.length_append]
      have := ih (u / 16) (by rw [Nat.pow_succ] at h; omega)
      simp
      omega
theorem hexL_pos (u : Nat) : 1 ≤ (hexL u).length := by
  by_cases hu : u < 16
  · rw [hexL_small hu]; simp
  · rw [hexL_more hu]; simp
/-- A number's text. -/
abbrev hexT (u : Nat) : ByteArray := ⟨(hexL u).toArray⟩

abbrev figS : ByteArray := ⟨#[48, 49, 50, 51, 52, 53, 54, 55, 56, 57, 97, 98, 99, 100, 101, 102, 103, 104, 105, 106, 107, 108, 109, 110, 111, 112, 113, 114, 115, 116, 117, 118, 119, 120, 121, 122]⟩
theorem ixStrU (S : ByteArray) (p : Nat) (b : UInt8) (h : S.data.toList[p]? = some b) (W : World) : (Instr.index 9 (.string S) (.int .u64 p)).run Tryd.prog W = .ok (.int .u8 b.toNat) W := by
  have hp : p < S.size := by
    have := (List.getElem?_eq_some_iff.1 h).1
    simpa using this
  have hb : S[p] = b := by
    have := (List.getElem?_eq_some_iff.1 h).2
    show S.data[p] = b
    simpa using this
  have h1 : (0 ≤ (p : Int) ∧ (p : Int) < S.size) := by omega
  simp [Instr.index, run_underlying Tryd.underlying9, asIntOf, h1, hp, hb, go_sem]
theorem ixFig (d : Nat) (hd : d < 16) (W : World) : (Instr.index 9 (.string figS) (.int .u64 d)).run Tryd.prog W = .ok (.int .u8 (hexC d).toNat) W := by
  refine ixStrU figS d (hexC d) ?_ W
  have h : d = 0 ∨ d = 1 ∨ d = 2 ∨ d = 3 ∨ d = 4 ∨ d = 5 ∨ d = 6 ∨ d = 7 ∨ d = 8 ∨ d = 9 ∨ d = 10 ∨ d = 11 ∨ d = 12 ∨ d = 13 ∨ d = 14 ∨ d = 15 := by omega
  rcases h with rfl | rfl | rfl | rfl | rfl | rfl | rfl | rfl | rfl | rfl | rfl | rfl | rfl | rfl | rfl | rfl <;> decide +kernel
theorem u64_and15 (u : Nat) (hu : u < 18446744073709551616) : bits .and .u64 (u : Int) 15 = ((u % 16 : Nat) : Int) := by
  have e : u &&& 15 = u % 16 := Nat.and_two_pow_sub_one_eq_mod u 4
  rw [← e]
  exact u64_and_nat u 15 hu (by decide)
/-- The table of TrailingZeros64. -/
abbrev tab64 : List Int := [0, 1, 56, 2, 57, 49, 28, 3, 61, 58, 42, 50, 38, 29, 17, 4, 62, 47, 59, 36, 45, 43, 51, 22, 53, 39, 33, 30, 24, 18, 12, 5, 63, 55, 48, 27, 60, 41, 37, 16, 46, 35, 44, 21, 52, 32, 23, 11, 54, 26, 40, 15, 34, 20, 31, 10, 25, 14, 19, 9, 13, 8, 7, 6]
abbrev Tz (w : World) : Prop := Lib.TabIs Tryd.prog w "math/bits.deBruijn64tab" .u8 tab64
theorem gTz : Tryd.prog.globalNamed "math/bits.deBruijn64tab" = some 6 := by kernel_rfl
set_option maxHeartbeats 1000000 in
theorem tz64_16 (w : World) (h : Tz w) : Calls Tryd.prog 70 #[.int .u64 16] w fun e w' => e = .returned (.int .i64 4) ∧ w = w' := by
  have hc : w.cell? ⟨6, 15, none⟩ = some (.int .u8 4) := h.cell gTz 15 (by decide)
  have ha : bits .and .u64 16 18446744073709551600 = 16 := by decide +kernel
  have hw : IntKind.u64.wrap (-16) = 18446744073709551600 := by decide +kernel
  have hm : IntKind.u64.wrap (16 * 285870213051353865) = 4573923408821661840 := by decide +kernel
  clear h
  go_enter Tryd.func70, Tryd.ntmps70
  go_wp2
  go_ret
  exact ⟨rfl, rfl⟩
set_option maxHeartbeats 1000000 in
theorem tz_16 (w : World) (h : Tz w) : Calls Tryd.prog 64 #[.int .u64 16] w fun e w' => e = .returned (.int .i64 4) ∧ w = w' := by
  have H := Lib.hid (tz64_16 w h)
  clear h
  go_enter Tryd.func64, Tryd.ntmps64
  go_wp2_with (refine H.out.mono ?_; rintro e w1 ⟨rfl, rfl⟩)
  go_ret
  exact ⟨rfl, rfl⟩
set_option maxHeartbeats 1000000 in
theorem pow2_16 (w : World) : Calls Tryd.prog 63 #[.int .i64 16] w fun e w' => e = .returned (.bool true) ∧ w = w' := by
  have ha : bits .and .i64 16 15 = 0 := by decide +kernel
  go_enter Tryd.func63, Tryd.ntmps63
  go_wp2
  go_ret
  exact ⟨rfl, rfl⟩
end Go.Proofs.YtlajmdfebnicnaaDoor
