/-
  Contracts of the functions of package abi that go through no iterator: the rows, Of, hasBit, Own, Whole; and the iterator each itself. Bit 30 of a number.
-/
import Derived.RangeFuncNested
import Derived.RangeFuncBound
import Derived.RangeFuncCalls
import Derived.RangeFuncLeaves
import Derived.Shelf.Abstract
import Derived.Shelf.RegionOpen
import Derived.WalkKit
import Derived.OwnWalkIn
import Derived.TacticsInMore
import Derived.LoopNIn
import Derived.LoopIn
import Derived.BigQuiet
import Derived.Deep.QuietTactic
import Derived.Deep.WholeRow
import Derived.Lib.Hide
import Derived.Test.YtlninlempefjcaaProg
import Derived.Test.YtlninlempefjcaaMem
namespace Go.Proofs.Ytlninlempefjcaa
open Go.RowKit Go.Shelf

theorem and30 (q c p d : Nat) (hc : c < 1073741824) (hd : d < 1073741824) : (1073741824 * q + c) &&& (1073741824 * p + d) = 1073741824 * (q &&& p) + (c &&& d) := by
  have hcd : c &&& d < 2 ^ 30 := Nat.and_lt_two_pow _ (by simpa using hd)
  apply Nat.eq_of_testBit_eq
  intro j
  rw [show (1073741824 : Nat) = 2 ^ 30 from rfl] at *
  rw [Nat.testBit_and, Nat.testBit_two_pow_mul_add _ hc, Nat.testBit_two_pow_mul_add _ hd, Nat.testBit_two_pow_mul_add _ hcd]
  split <;> simp
theorem or30 (q c p d : Nat) (hc : c < 1073741824) (hd : d < 1073741824) : (1073741824 * q + c) ||| (1073741824 * p + d) = 1073741824 * (q ||| p) + (c ||| d) := by
  have hcd : c ||| d < 2 ^ 30 := Nat.or_lt_two_pow (by simpa using hc) (by simpa using hd)
  apply Nat.eq_of_testBit_eq
  intro j
  rw [show (1073741824 : Nat) = 2 ^ 30 from rfl] at *
  rw [Nat.testBit_or, Nat.testBit_two_pow_mul_add _ hc, Nat.testBit_two_pow_mul_add _ hd, Nat.testBit_two_pow_mul_add _ hcd]
  split <;> simp
/-- Is bit 30 of a number set? -/
def bit30 (n : Nat) : Bool := n / 1073741824 % 2 == 1
theorem cut30 (n : Nat) (hn : n < 4294967296) : ∃ q c, n = 1073741824 * q + c ∧ q < 4 ∧ c < 1073741824 := ⟨n / 1073741824, n % 1073741824, (Nat.div_add_mod _ _).symm, by omega, Nat.mod_lt _ (by decide)⟩
theorem bit30_q (q c : Nat) (hc : c < 1073741824) : bit30 (1073741824 * q + c) = (q % 2 == 1) := by
  unfold bit30
  rw [show (1073741824 * q + c) / 1073741824 = q from by omega]
theorem low30 (c : Nat) (hc : c < 1073741824) : c &&& 1073741823 = c := by
  rw [show (1073741823 : Nat) = 2 ^ 30 - 1 from rfl, Nat.and_two_pow_sub_one_eq_mod]
  omega
theorem and_bit (n : Nat) (hn : n < 4294967296) : n &&& 1073741824 = if bit30 n = true then 1073741824 else 0 := by
  obtain ⟨q, c, rfl, hq, hc⟩ := cut30 n hn
  have h := and30 q c 1 0 hc (by decide)
  rw [bit30_q q c hc]
  simp only [Nat.mul_one, Nat.add_zero, Nat.and_zero] at h
  rw [h]
  have : q = 0 ∨ q = 1 ∨ q = 2 ∨ q = 3 := by omega
  rcases this with rfl | rfl | rfl | rfl <;> rfl
theorem or_bit (n : Nat) (hn : n < 4294967296) : n ||| 1073741824 = if bit30 n = true then n else n + 1073741824 := by
  obtain ⟨q, c, rfl, hq, hc⟩ := cut30 n hn
  have h := or30 q c 1 0 hc (by decide)
  rw [bit30_q q c hc]
  simp only [Nat.mul_one, Nat.add_zero, Nat.or_zero] at h
  rw [h]
  have : q = 0 ∨ q = 1 ∨ q = 2 ∨ q = 3 := by omega
  rcases this with rfl | rfl | rfl | rfl <;> simp <;> omega
theorem andNot_bit (n : Nat) (hn : n < 4294967296) : n &&& 3221225471 = if bit30 n = true then n - 1073741824 else n := by
  obtain ⟨q, c, rfl, hq, hc⟩ := cut30 n hn
  have h := and30 q c 2 1073741823 hc (by decide)
  rw [bit30_q q c hc]
  rw [low30 c hc] at h
  simp only [Nat.reduceMul, Nat.reduceAdd] at h
  rw [h]
  have : q = 0 ∨ q = 1 ∨ q = 2 ∨ q = 3 := by omega
  rcases this with rfl | rfl | rfl | rfl <;> simp <;> omega

/-- The rows, field by field. -/
def nmA : Nat → ByteArray
  | 0 => ⟨#[120, 56, 54, 95, 54, 52]⟩
  | 1 => ⟨#[120, 51, 50]⟩
  | 2 => ⟨#[105, 51, 56, 54]⟩
  | 3 => ⟨#[97, 114, 109, 54, 52]⟩
  | _ => ⟨#[114, 105, 115, 99, 118, 54, 52]⟩
def tkA : Nat → Nat
  | 0 => 3221225534
  | 1 => 3221225534
  | 2 => 1073741827
  | 3 => 3221225655
  | _ => 3221225715
def btA (a : Nat) : Bool := a == 1
def bsA (a : Nat) : Nat := if a = 2 then 32 else 64
abbrev infA (a : Nat) : Array Value := #[.string (nmA a), .int .u32 (tkA a), .bool (btA a), .int .i64 (bsA a)]
def rowsA : Array Value := #[.string (nmA 0), .int .u32 (tkA 0), .bool (btA 0), .int .i64 (bsA 0), .string (nmA 1), .int .u32 (tkA 1), .bool (btA 1), .int .i64 (bsA 1), .string (nmA 2), .int .u32 (tkA 2), .bool (btA 2), .int .i64 (bsA 2), .string (nmA 3), .int .u32 (tkA 3), .bool (btA 3), .int .i64 (bsA 3), .string (nmA 4), .int .u32 (tkA 4), .bool (btA 4), .int .i64 (bsA 4)]
theorem tkA_lt (a : Nat) : tkA a < 4294967296 := by unfold tkA; split <;> decide
theorem rowsA_at (a : Nat) (ha : a < 5) : rowsA.extract (a * 4) (a * 4 + 4) = infA a := by
  match a, ha with
  | 0, _ => rfl
  | 1, _ => rfl
  | 2, _ => rfl
  | 3, _ => rfl
  | 4, _ => rfl
  | a + 5, h => omega

set_option maxRecDepth 100000 in
set_option maxHeartbeats 1000000 in
theorem rows_w (w : World) : Calls Try.prog 52 #[] w fun e w' => e = .returned (.agg rowsA) ∧ w' = w.alloc (.cells rowsA 94) := by
  have hi : (Try.prog.info? 94).map (·.size) = some rowsA.size := by kernel_rfl
  have h1c : rowsA.all (·.oneCell') = true := by kernel_rfl
  have S1 := Lib.hid hi
  have S2 := Lib.hid h1c
  clear hi h1c
  go_enter Try.func52, Try.ntmps52
  go_wp2_with (refine wpList_store_row (by rfl) 94 _ _ (by rfl) w.heap.size rowsA (by rfl) (by rfl) _ _ (heap_alloc_last w _) S1.out (by rfl) S2.out ?_)
  rw [World.setRow_alloc_new]
  exact bodyPost_ret (results_cell_row Try.results52 _ _ w.heap.size _ _ (0, 0) _ (by rfl) (heap_alloc_last w _) Try.underlying94 (by rfl) S1.out) rfl ⟨rfl, rfl⟩
theorem rows_any (w : World) : Calls Try.prog 52 #[] w fun e w' => e = .returned (.agg rowsA) ∧ Below w.heap.size w w' :=
  (rows_w w).mono fun _ _ ⟨he, hw⟩ => ⟨he, by rw [hw]; exact (Below.refl _ _).alloc (Nat.le_refl _) _⟩

theorem ixA (a : Nat) (ha : a < 5) (W : World) : (Instr.index 94 (.agg rowsA) (.int .i64 a)).run Try.prog W = .ok (.agg (infA a)) W := by
  have h1 : (0 ≤ (a : Int) ∧ (a : Int) < 5) := by omega
  have hlt : 88 < Try.prog.types.size := of_decide_eq_true (by kernel_rfl)
  have hsz : (Try.prog.types[88]'hlt).size = 4 := by kernel_rfl
  rw [← rowsA_at a ha]
  simp [Instr.index, run_underlying Try.underlying94, asIntOf, h1, ha, go_sem]
end Go.Proofs.Ytlninlempefjcaa
