/-
  Contracts of the functions of package word that touch no bytes (Halves, Join, fault), of the reference's Wrong, and of the places that word.places goes through: each computes what the named plain function says, for every input.
-/
import Derived.RangeFuncNested
import Derived.RangeFuncBound
import Derived.RangeFuncCalls
import Derived.RangeFuncLeaves
import Derived.Shelf.Abstract
import Derived.Shelf.RegionOpen
import Derived.WalkKit
import Derived.OwnWalkIn
import Derived.TacticsInMore
import Derived.LoopNIn
import Derived.LoopIn
import Derived.BigQuiet
import Derived.Deep.QuietTactic
import Derived.Lib.Hide
import Derived.Test.YtmndolojfdekdaaProg
import Derived.Test.YtmndolojfdekdaaMem
import Derived.Maps.AppendAt
namespace Go.Proofs.Ytmndolojfdekdaa
open Go.RowKit Go.Shelf
attribute [local go_sem] Oper.semAt_some

/-- The index i of a word's bytes stands for this place. -/
def pl (big : Bool) (p wd i : Nat) : Int := if big then (p : Int) + wd - 1 - i else (p : Int) + i
def upto (wd k : Nat) : List (Fin wd) := (List.finRange wd).take k
theorem upto_succ {wd k : Nat} (h : k < wd) : upto wd (k + 1) = upto wd k ++ [⟨k, h⟩] := by
  unfold upto
  rw [List.take_succ_eq_append_getElem (by simpa using h)]
  simp
theorem upto_length {wd k : Nat} (h : k ≤ wd) : (upto wd k).length = k := by simp [upto]; omega
theorem upto_all (wd : Nat) : upto wd wd = List.finRange wd := by unfold upto; rw [List.take_of_length_le (by simp)]

/-- The three blocks of the captured variables lie as they lay. -/
def KB (B : Nat) (W W' : World) : Prop := ∀ k, B ≤ k → k < B + 3 → W'.heap[k]? = W.heap[k]?
theorem KB.refl (B : Nat) (W : World) : KB B W W := fun _ _ _ => rfl
theorem KB.trans {B : Nat} {U V W : World} (h : KB B U V) (k : KB B V W) : KB B U W := fun i h1 h2 => (k i h1 h2).trans (h i h1 h2)
theorem KB.cell {B : Nat} {W W' : World} (h : KB B W W') (k : Nat) (h1 : B ≤ k) (h2 : k < B + 3) (o : Nat) : W'.cell? ⟨k, o, none⟩ = W.cell? ⟨k, o, none⟩ := World.cell?_of_block (w := W) (h k h1 h2)
theorem KB.setCell (B : Nat) (W : World) {p : Addr} (hp : p.block < B) (u : Value) : KB B W (W.setCell p u) := fun k h1 _ => Below.heap_setCell W p u k (by omega)
theorem KB.alloc (B : Nat) (W : World) (o : Obj) (hB : B + 3 ≤ W.heap.size) : KB B W (W.alloc o) := fun k _ h2 => Below.heap_alloc W o k (by omega)
theorem KB.grown {B : Nat} {W W' : World} {row : Option Nat} (hg : W.grownBy W' row) (hB : B + 3 ≤ W.heap.size) (hr : ∀ r, row = some r → r < B ∨ B + 3 ≤ r) : KB B W W' :=
  fun k h1 h2 => hg.block k (by omega) (fun e => by have := hr k e.symm; omega)
theorem KB.book {B : Nat} {w : World} (hB : B + 3 ≤ w.heap.size) (W : World) (l : Nat) (o o' : Obj) (hl : w.heap.size ≤ l) (_ : W.heap[l]? = some o) (_ : o.isCells = false) (_ : o.isWalk = false) : KB B W (W.putObj l o') :=
  fun k _ h2 => World.putObj_heap_other (by omega)

set_option maxRecDepth 100000 in
set_option maxHeartbeats 4000000 in
theorem pl1_in (F : Fence) (n : Nat) (h8 : F.fn 148) (hro : F.round = none) (hn : 1 ≤ n) (big : Bool) (l Bw p wd : Nat) (hwd : wd ≤ 8) (hp : p + wd ≤ 4611686018427387904) (J Jx : List (Fin wd) → World → Prop)
    (hY : ∀ pre x W, J pre W → pre.length < wd → YieldAt F (n - 1) Try.prog l #[.int .i64 (8 * (x.1 : Int)), .int .i64 (pl big p wd x.1)] W fun e W' =>
      (e = .returned (.bool true) ∧ J (pre ++ [x]) W' ∧ KB Bw W W') ∨ (e = .returned (.bool false) ∧ Jx (pre ++ [x]) W'))
    (W : World) (h1 : W.cell? ⟨Bw, 0, none⟩ = some (.int .i64 p)) (h2 : W.cell? ⟨Bw + 1, 0, none⟩ = some (.int .i64 wd)) (h3 : W.cell? ⟨Bw + 1 + 1, 0, none⟩ = some (.bool big)) (h0 : J [] W) :
    CallsIn F n Try.prog 148 #[.func (.yield l) #[] #[], .pointer (some ⟨Bw + 1, 0, none⟩), .pointer (some ⟨Bw, 0, none⟩), .pointer (some ⟨Bw + 1 + 1, 0, none⟩)] W fun e W' => (∃ v, e = .returned v) ∧
      ((∃ ys, ys = List.finRange wd ∧ J ys W') ∨ (∃ pre, True ∧ Jx pre W')) := by
  rcases big with _ | _
  all_goals
    simp only [pl, Bool.false_eq_true, if_true, if_false] at hY
    refine callsIn_of_wp Try.func148 rfl h8 ?_ hro
    simp only [Try.ntmps148, List.size_toArray, List.length_cons, List.length_nil, Nat.reduceAdd, Nat.reduceSub, Array.replicate_succ, Array.replicate_zero, List.push_toArray, List.append_toArray, List.nil_append, List.cons_append]
    gi_wp2
    gi_loopw [8] (fun i wr => ∃ k : Nat, k ≤ wd ∧ i = .int .i64 k ∧ J (upto wd k) wr ∧ KB Bw W wr)
      (fun i _ => wd - (intOf i).toNat)
    case atStart => exact ⟨0, Nat.zero_le _, rfl, by simpa [upto] using h0, KB.refl _ _⟩
    case round =>
      obtain ⟨k, hk, rfl, hJs, hnx⟩ := hrel
      have g1 := (hnx.cell Bw (by omega) (by omega) 0).trans h1
      have g2 := (hnx.cell (Bw + 1) (by omega) (by omega) 0).trans h2
      have g3 := (hnx.cell (Bw + 1 + 1) (by omega) (by omega) 0).trans h3
      by_cases hlt : k < wd
      · obtain ⟨fn, tmps, assign, body, hy, hR⟩ := hY _ ⟨k, hlt⟩ wr hJs (by rw [upto_length hk]; exact hlt)
        dsimp only at hy
        gi_wp2
        refine hR.mono ?_
        rintro e W3 (⟨rfl, hJ3, hk3⟩ | ⟨rfl, hJx3⟩)
        · gi_wp2
          go_roundw
          case rel => exact ⟨k + 1, by omega, by simp, by rw [upto_succ hlt]; exact hJ3, hnx.trans hk3⟩
          case measure => simp [intOf]; omega
        · gi_wp2
          refine bodyPost_ret (results_none rfl _ _ _) rfl ?_
          exact ⟨⟨_, rfl⟩, .inr ⟨_, trivial, hJx3⟩⟩
      · obtain rfl : k = wd := by omega
        gi_wp2
        go_end0
        exact ⟨⟨_, rfl⟩, .inl ⟨_, rfl, by rw [upto_all] at hJs; exact hJs⟩⟩

/-- The iterator that word.places hands back gives each index of the word once, in order: how far its byte is shifted, and where it stands. -/
theorem places_stops (F : Fence) (n : Nat) (h8 : F.fn 148) (hro : F.round = none) (hn : 1 ≤ n) (big : Bool) (Bw p wd : Nat) (hwd : wd ≤ 8) (hp : p + wd ≤ 4611686018427387904) (w : World) (hB : Bw + 3 ≤ w.heap.size)
    (h1 : w.cell? ⟨Bw, 0, none⟩ = some (.int .i64 p)) (h2 : w.cell? ⟨Bw + 1, 0, none⟩ = some (.int .i64 wd)) (h3 : w.cell? ⟨Bw + 1 + 1, 0, none⟩ = some (.bool big)) :
    SeqStopsK F n Try.prog 148 #[.pointer (some ⟨Bw + 1, 0, none⟩), .pointer (some ⟨Bw, 0, none⟩), .pointer (some ⟨Bw + 1 + 1, 0, none⟩)]
      (fun x : Fin wd => #[Value.int .i64 (8 * (x.1 : Int)), Value.int .i64 (pl big p wd x.1)]) (KB Bw) (fun ys => ys = List.finRange wd) (fun _ => True) wd w := fun l J Jx W hW _ _ hY h0 =>
  pl1_in F n h8 hro hn big l Bw p wd hwd hp J Jx hY W ((hW.cell (p := ⟨Bw, 0, none⟩) (by show Bw < _; omega)).trans h1) ((hW.cell (p := ⟨Bw + 1, 0, none⟩) (by show Bw + 1 < _; omega)).trans h2) ((hW.cell (p := ⟨Bw + 1 + 1, 0, none⟩) (by show Bw + 1 + 1 < _; omega)).trans h3) h0

theorem join_or (n m : Int) (h0 : 0 ≤ n) (h1 : n ≤ 4294967295) (h2 : 0 ≤ m) (h3 : m ≤ 4294967295) : bits .or .u64 (m * 4294967296) n = m * 4294967296 + n := by
  obtain ⟨a, rfl⟩ := Int.eq_ofNat_of_zero_le h0
  obtain ⟨b, rfl⟩ := Int.eq_ofNat_of_zero_le h2
  have e : ((b : Nat) : Int) * 4294967296 = ((b * 4294967296 : Nat) : Int) := by omega
  rw [e, bits_or_u64_nat (b * 4294967296) a (by omega) (by omega), nat_join 32 _ _ (by omega) (by omega)]
  omega
/-- What fault answers. -/
def flt (len at_ wd : Int) : Int := if wd = 1 ∨ wd = 2 ∨ wd = 4 ∨ wd = 8 then (if at_ < 0 ∨ at_ > len - wd then 2 else 0) else 1
set_option maxHeartbeats 1000000 in
theorem fault_any (A : Option Addr) (n c : Nat) (at_ wd : Int) (w : World) (hn : n ≤ maxLen) (ha : -9223372036854775808 ≤ at_) (hb : at_ ≤ 9223372036854775807) :
    Calls Try.prog 98 #[.slice A n c, .int .i64 at_, .int .i64 wd] w fun e w' => e = .returned (.int .i64 (flt n at_ wd)) ∧ w = w' := by
  unfold maxLen at hn
  by_cases h1 : wd = 1
  · subst h1
    go_enter Try.func98, Try.ntmps98
    go_wp2
    all_goals go_ret
    all_goals exact ⟨ret_int (by simp [flt]; omega), rfl⟩
  by_cases h2 : wd = 2
  · subst h2
    go_enter Try.func98, Try.ntmps98
    go_wp2
    all_goals go_ret
    all_goals exact ⟨ret_int (by simp [flt]; omega), rfl⟩
  by_cases h4 : wd = 4
  · subst h4
    go_enter Try.func98, Try.ntmps98
    go_wp2
    all_goals go_ret
    all_goals exact ⟨ret_int (by simp [flt]; omega), rfl⟩
  by_cases h8 : wd = 8
  · subst h8
    go_enter Try.func98, Try.ntmps98
    go_wp2
    all_goals go_ret
    all_goals exact ⟨ret_int (by simp [flt]; omega), rfl⟩
  have q1 : (wd == 1) = false := by simpa using h1
  have q2 : (wd == 2) = false := by simpa using h2
  have q4 : (wd == 4) = false := by simpa using h4
  have q8 : (wd == 8) = false := by simpa using h8
  have hf : flt n at_ wd = 1 := by simp [flt, h1, h2, h4, h8]
  rw [hf]
  clear h1 h2 h4 h8 hf
  go_enter Try.func98, Try.ntmps98
  go_wp2
  go_ret
  exact ⟨rfl, rfl⟩
set_option maxHeartbeats 1000000 in
theorem places_in (F : Fence) (n : Nat) (h5 : F.fn 99) (hro : F.round = none) (p wd : Int) (big : Bool) (w : World) :
    CallsIn F n Try.prog 99 #[.int .i64 p, .int .i64 wd, .bool big] w fun e w' =>
      e = .returned (.func (.func 148) #[] #[.pointer (some ⟨w.heap.size + 1, 0, none⟩), .pointer (some ⟨w.heap.size, 0, none⟩), .pointer (some ⟨w.heap.size + 1 + 1, 0, none⟩)]) ∧
      w' = ((w.alloc (.cells #[.int .i64 p] 3)).alloc (.cells #[.int .i64 wd] 3)).alloc (.cells #[.bool big] 4) := by
  refine callsIn_of_wp Try.func99 rfl h5 ?_ hro
  simp only [Try.ntmps99, List.size_toArray, List.length_cons, List.length_nil, Nat.reduceAdd, Nat.reduceSub, Array.replicate_succ, Array.replicate_zero, List.push_toArray, List.append_toArray, List.nil_append, List.cons_append]
  gi_wp2
  go_ret
  exact ⟨rfl, rfl⟩
end Go.Proofs.Ytmndolojfdekdaa

/-
  Contracts of slices.Clone at bytes, and of the reference's Turn, Number and Bytes and the law's own same: each computes what the named plain function says, for every bytes within the bounds that are named.
-/
namespace Go.Proofs.Ytmndolojfdekdaa
open Go.RowKit

theorem infoB : (Try.prog.info? 5).map (fun i => (i.zero, i.size, i.bytes)) = some (some (.int .u8 0), 1, 1) := by kernel_rfl
theorem one_new (w : World) (u : Nat) (hu : u < 256) (t : TypeId) : Byt (w.alloc (.cells #[bv u] t)) (w.heap.size + 1) (some ⟨w.heap.size, 0, none⟩) 1 1 (fun _ => u) :=
  Byt.mk_ (by omega) (by decide) (by decide) (fun i hi => by
    obtain rfl : i = 0 := by omega
    exact ⟨by simp, hu⟩)

/-- The number of k bytes, the lowest first. -/
def num (g : Nat → Nat) : Nat → Nat | 0 => 0 | k + 1 => num g k + g k * 2 ^ (8 * k)
theorem num_lt (g : Nat → Nat) (k : Nat) (hg : ∀ i, i < k → g i < 256) : num g k < 2 ^ (8 * k) := by
  induction k with
  | zero => simp [num]
  | succ k ih =>
    have h1 := ih (fun i hi => hg i (by omega))
    have h2 := hg k (by omega)
    have h3 : g k * 2 ^ (8 * k) ≤ 255 * 2 ^ (8 * k) := Nat.mul_le_mul (by omega) (Nat.le_refl _)
    have h4 : 2 ^ (8 * (k + 1)) = 256 * 2 ^ (8 * k) := by rw [Nat.mul_succ, Nat.pow_add]; omega
    simp only [num]
    omega
theorem num_front (g : Nat → Nat) : ∀ k, num g (k + 1) = g 0 + 256 * num (fun i => g (i + 1)) k := by
  intro k
  induction k with
  | zero => simp [num]
  | succ k ih =>
    have h4 : 2 ^ (8 * (k + 1)) = 256 * 2 ^ (8 * k) := by rw [Nat.mul_succ, Nat.pow_add]; omega
    rw [show num g (k + 1 + 1) = num g (k + 1) + g (k + 1) * 2 ^ (8 * (k + 1)) from rfl, ih, h4]
    simp only [num, Nat.mul_add]
    rw [Nat.add_assoc, Nat.mul_left_comm]
theorem num_congr (f g : Nat → Nat) (k : Nat) (h : ∀ i, i < k → f i = g i) : num f k = num g k := by
  induction k with
  | zero => rfl
  | succ k ih => simp only [num]; rw [ih (fun i hi => h i (by omega)), h k (by omega)]
theorem num_lt8 (g : Nat → Nat) (k : Nat) (hk : k ≤ 8) (hg : ∀ i, i < k → g i < 256) : num g k < 18446744073709551616 :=
  Nat.lt_of_lt_of_le (num_lt g k hg) (Nat.le_trans (Nat.pow_le_pow_right (by decide) (show 8 * k ≤ 64 by omega)) (by decide))

theorem num_step (f : Nat → Nat) (n j : Nat) (hj : j < n) : num (fun i => f (n - (j + 1) + i)) (j + 1) = f (n - 1 - j) + 256 * num (fun i => f (n - j + i)) j := by
  rw [num_front]
  congr 1
  · rw [show n - (j + 1) + 0 = n - 1 - j from by omega]
  · congr 1
    exact num_congr _ _ j (fun i hi => by rw [show n - (j + 1) + (i + 1) = n - j + i from by omega])

/-- Are they alike, up to n? -/
def alike (f g : Nat → Nat) (n : Nat) : Bool := (List.range n).all fun i => f i == g i
theorem alike_iff (f g : Nat → Nat) (n : Nat) : alike f g n = true ↔ ∀ i, i < n → f i = g i := by simp [alike]
end Go.Proofs.Ytmndolojfdekdaa
