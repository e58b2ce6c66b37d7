/-
  Contracts of the functions of package word that touch no bytes (Halves, Join, fault), of the reference's Wrong, and of the places that word.places goes through: each computes what the named plain function says, for every input.
-/
import Derived.RangeFuncNested
import Derived.RangeFuncBound
import Derived.RangeFuncCalls
import Derived.RangeFuncLeaves
import Derived.Shelf.Abstract
import Derived.Shelf.RegionOpen
import Derived.WalkKit
import Derived.OwnWalkIn
import Derived.TacticsInMore
import Derived.LoopNIn
import Derived.LoopIn
import Derived.BigQuiet
import Derived.Deep.QuietTactic
import Derived.Lib.Hide
import Derived.Test.YtiofgaadfbjnoaaProg
import Derived.Test.YtiofgaadfbjnoaaMem
import Derived.Maps.AppendAt
namespace Go.Proofs.Ytiofgaadfbjnoaa
open Go.RowKit Go.Shelf
attribute [local go_sem] Oper.semAt_some

/-- The index i of a word's bytes stands for this place. -/
def pl (big : Bool) (p wd i : Nat) : Int := if big then (p : Int) + wd - 1 - i else (p : Int) + i
def upto (wd k : Nat) : List (Fin wd) := (List.finRange wd).take k
theorem upto_succ {wd k : Nat} (h : k < wd) : upto wd (k + 1) = upto wd k ++ [⟨k, h⟩] := by
  unfold upto
  rw [List.take_succ_eq_append_getElem (by simpa using h)]
  simp
theorem upto_length {wd k : Nat} (h : k ≤ wd) : (upto wd k).length = k := by simp [upto]; omega
theorem upto_all (wd : Nat) : upto wd wd = List.finRange wd := by unfold upto; rw [List.take_of_length_le (by simp)]

/-- The three blocks of the captured variables lie as they lay. -/
def KB (B : Nat) (W W' : World) : Prop := ∀ k, B ≤ k → k < B + 3 → W'.heap[k]? = W.heap[k]?
theorem KB.refl (B : Nat) (W : World) : KB B W W := fun _ _ _ => rfl
theorem KB.trans {B : Nat} {U V W : World} (h : KB B U V) (k : KB B V W) : KB B U W := fun i h1 h2 => (k i h1 h2).trans (h i h1 h2)
theorem KB.cell {B : Nat} {W W' : World} (h : KB B W W') (k : Nat) (h1 : B ≤ k) (h2 : k < B + 3) (o : Nat) : W'.cell? ⟨k, o, none⟩ = W.cell? ⟨k, o, none⟩ := World.cell?_of_block (w := W) (h k h1 h2)
theorem KB.setCell (B : Nat) (W : World) {p : Addr} (hp : p.block < B) (u : Value) : KB B W (W.setCell p u) := fun k h1 _ => Below.heap_setCell W p u k (by omega)
theorem KB.alloc (B : Nat) (W : World) (o : Obj) (hB : B + 3 ≤ W.heap.size) : KB B W (W.alloc o) := fun k _ h2 => Below.heap_alloc W o k (by omega)
theorem KB.grown {B : Nat} {W W' : World} {row : Option Nat} (hg : W.grownBy W' row) (hB : B + 3 ≤ W.heap.size) (hr : ∀ r, row = some r → r < B ∨ B + 3 ≤ r) : KB B W W' :=
  fun k h1 h2 => hg.block k (by omega) (fun e => by have := hr k e.symm; omega)
theorem KB.book {B : Nat} {w : World} (hB : B + 3 ≤ w.heap.size) (W : World) (l : Nat) (o o' : Obj) (hl : w.heap.size ≤ l) (_ : W.heap[l]? = some o) (_ : o.isCells = false) (_ : o.isWalk = false) : KB B W (W.putObj l o') :=
  fun k _ h2 => World.putObj_heap_other (by omega)

theorem join_or (n m : Int) (h0 : 0 ≤ n) (h1 : n ≤ 4294967295) (h2 : 0 ≤ m) (h3 : m ≤ 4294967295) : bits .or .u64 (m * 4294967296) n = m * 4294967296 + n := by
  obtain ⟨a, rfl⟩ := Int.eq_ofNat_of_zero_le h0
  obtain ⟨b, rfl⟩ := Int.eq_ofNat_of_zero_le h2
  have e : ((b : Nat) : Int) * 4294967296 = ((b * 4294967296 : Nat) : Int) := by omega
  rw [e, bits_or_u64_nat (b * 4294967296) a (by omega) (by omega), nat_join 32 _ _ (by omega) (by omega)]
  omega
/-- What fault answers. -/
def flt (len at_ wd : Int) : Int := if wd = 1 ∨ wd = 2 ∨ wd = 4 ∨ wd = 8 then (if at_ < 0 ∨ at_ > len - wd then 2 else 0) else 1
end Go.Proofs.Ytiofgaadfbjnoaa

/-
  Contracts of slices.Clone at bytes, and of the reference's Turn, Number and Bytes and the law's own same: each computes what the named plain function says, for every bytes within the bounds that are named.
-/
namespace Go.Proofs.Ytiofgaadfbjnoaa
open Go.RowKit

theorem infoB : (Try.prog.info? 5).map (fun i => (i.zero, i.size, i.bytes)) = some (some (.int .u8 0), 1, 1) := by kernel_rfl
theorem one_new (w : World) (u : Nat) (hu : u < 256) (t : TypeId) : Byt (w.alloc (.cells #[bv u] t)) (w.heap.size + 1) (some ⟨w.heap.size, 0, none⟩) 1 1 (fun _ => u) :=
  Byt.mk_ (by omega) (by decide) (by decide) (fun i hi => by
    obtain rfl : i = 0 := by omega
    exact ⟨by simp, hu⟩)

/-- The number of k bytes, the lowest first. -/
def num (g : Nat → Nat) : Nat → Nat | 0 => 0 | k + 1 => num g k + g k * 2 ^ (8 * k)
theorem num_lt (g : Nat → Nat) (k : Nat) (hg : ∀ i, i < k → g i < 256) : num g k < 2 ^ (8 * k) := by
  induction k with
  | zero => simp [num]
  | succ k ih =>
    have h1 := ih (fun i hi => hg i (by omega))
    have h2 := hg k (by omega)
    have h3 : g k * 2 ^ (8 * k) ≤ 255 * 2 ^ (8 * k) := Nat.mul_le_mul (by omega) (Nat.le_refl _)
    have h4 : 2 ^ (8 * (k + 1)) = 256 * 2 ^ (8 * k) := by rw [Nat.mul_succ, Nat.pow_add]; omega
    simp only [num]
    omega
theorem num_front (g : Nat → Nat) : ∀ k, num g (k + 1) = g 0 + 256 * num (fun i => g (i + 1)) k := by
  intro k
  induction k with
  | zero => simp [num]
  | succ k ih =>
    have h4 : 2 ^ (8 * (k + 1)) = 256 * 2 ^ (8 * k) := by rw [Nat.mul_succ, Nat.pow_add]; omega
    rw [show num g (k + 1 + 1) = num g (k + 1) + g (k + 1) * 2 ^ (8 * (k + 1)) from rfl, ih, h4]
    simp only [num, Nat.mul_add]
    rw [Nat.add_assoc, Nat.mul_left_comm]
theorem num_congr (f g : Nat → Nat) (k : Nat) (h : ∀ i, i < k → f i = g i) : num f k = num g k := by
  induction k with
  | zero => rfl
  | succ k ih => simp only [num]; rw [ih (fun i hi => h i (by omega)), h k (by omega)]
theorem num_lt8 (g : Nat → Nat) (k : Nat) (hk : k ≤ 8) (hg : ∀ i, i < k → g i < 256) : num g k < 18446744073709551616 :=
  Nat.lt_of_lt_of_le (num_lt g k hg) (Nat.le_trans (Nat.pow_le_pow_right (by decide) (show 8 * k ≤ 64 by omega)) (by decide))

theorem num_step (f : Nat → Nat) (n j : Nat) (hj : j < n) : num (fun i => f (n - (j + 1) + i)) (j + 1) = f (n - 1 - j) + 256 * num (fun i => f (n - j + i)) j := by
  rw [num_front]
  congr 1
  · rw [show n - (j + 1) + 0 = n - 1 - j from by omega]
  · congr 1
    exact num_congr _ _ j (fun i hi => by rw [show n - (j + 1) + (i + 1) = n - j + i from by omega])

set_option maxHeartbeats 1000000 in
theorem number_any (A : Option Addr) (n c : Nat) (f : Nat → Nat) (w : World) (hn : n ≤ 8) (hr : Byt w w.heap.size A n c f) :
    Calls Try.prog 41 #[.slice A n c] w fun e w' => e = .returned (.int .u64 (num f n : Nat)) ∧ w = w' := by
  go_enter Try.func41, Try.ntmps41
  go_wp2
  go_loop [3, 4] (fun v i => ∃ j : Nat, j ≤ n ∧ i = .int .i64 ((n : Int) - 1 - j) ∧ v = .int .u64 (num (fun i => f (n - j + i)) j : Nat))
    (fun _ i => (intOf i + 1).toNat)
  case atStart => exact ⟨0, Nat.zero_le _, by simp, rfl⟩
  case round =>
    obtain ⟨j, hj, rfl, rfl⟩ := hrel
    by_cases hlt : j < n
    · obtain ⟨b, off, rfl, hb, hc⟩ := hr.at_ (by omega)
      have hcell := (hc (n - 1 - j) (by omega)).1
      have hu := (hc (n - 1 - j) (by omega)).2
      have hN := num_lt8 (fun i => f (n - (j + 1) + i)) (j + 1) (by omega) (fun i hi => (hc _ (by omega)).2)
      rw [num_step f n j hlt] at hN
      have HS := Lib.hid (num_step f n j hlt)
      clear hc
      go_wp2
      refine ⟨⟨j + 1, by omega, by go_num, ?_⟩, by simp [intOf]; omega⟩
      rw [HS.out]
      congr 1
      omega
    · obtain rfl : j = n := by omega
      go_wp2
      go_ret
      exact ⟨ret_int (by simp), rfl⟩

/-- Are they alike, up to n? -/
def alike (f g : Nat → Nat) (n : Nat) : Bool := (List.range n).all fun i => f i == g i
theorem alike_iff (f g : Nat → Nat) (n : Nat) : alike f g n = true ↔ ∀ i, i < n → f i = g i := by simp [alike]
end Go.Proofs.Ytiofgaadfbjnoaa
