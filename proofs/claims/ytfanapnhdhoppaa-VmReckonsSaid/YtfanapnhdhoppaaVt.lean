/-
  Words for the laws VmReckons and VmCells: what two small programs do, with any numbers in them.
-/
import Derived.Test.YtfanapnhdhoppaaVn
namespace Go.Proofs.Ytfanapnhdhoppaa
open Go.RowKit

def nul (_ : Nat) : Nat := 0
theorem nul_lt (i : Nat) : nul i < 256 := by unfold nul; decide
/-- Two numbers, what is reckoned of them, a return. -/
def gR (a n c : Nat) (i : Nat) : IV := match i with
  | 0 => ⟨0, 0, 0, a⟩
  | 1 => ⟨1, 0, 0, n⟩
  | 2 => ⟨c, 0, 0, 0⟩
  | _ => ⟨22, 0, 0, 0⟩
def cR (i : Nat) : Nat := [0x04, 0x14, 0x24, 0x34, 0x44, 0x54, 0x64, 0x74, 0xa4].getD i 0
def wR (a n i : Nat) : Nat := match i with
  | 0 => (a + n) % 4294967296
  | 1 => (a + (4294967296 - n)) % 4294967296
  | 2 => a * n % 4294967296
  | 3 => if n = 0 then 0 else a / n
  | 4 => a ||| n
  | 5 => a &&& n
  | 6 => a * 2 ^ (n % 32) % 4294967296
  | 7 => a / 2 ^ (n % 32)
  | _ => a ^^^ n
theorem checkR (a n : Nat) : ∀ i, i < 9 → (checkF (gR a n (cR i + 8)) 4).2 = 0
  | 0, _ => by kernel_rfl
  | 1, _ => by kernel_rfl
  | 2, _ => by kernel_rfl
  | 3, _ => by kernel_rfl
  | 4, _ => by kernel_rfl
  | 5, _ => by kernel_rfl
  | 6, _ => by kernel_rfl
  | 7, _ => by kernel_rfl
  | 8, _ => by kernel_rfl
  | n + 9, h => absurd h (by omega)
theorem runR3 (a m : Nat) : runV (gR a (m + 1) (cR 3 + 8)) nul 4 = some (a / (m + 1), 4, []) := by kernel_rfl
theorem runR (a n : Nat) : ∀ i, i < 9 → ∃ st, runV (gR a n (cR i + 8)) nul 4 = some (wR a n i, st, [])
  | 0, _ => ⟨4, by kernel_rfl⟩
  | 1, _ => ⟨4, by kernel_rfl⟩
  | 2, _ => ⟨4, by kernel_rfl⟩
  | 3, _ => by
    by_cases h : n = 0
    · subst h; exact ⟨3, by kernel_rfl⟩
    · refine ⟨4, ?_⟩
      have e : wR a n 3 = a / n := by
        show (if n = 0 then 0 else a / n) = _
        rw [if_neg h]
      rw [e]
      obtain ⟨m, rfl⟩ : ∃ m, n = m + 1 := ⟨n - 1, by omega⟩
      exact runR3 a m
  | 4, _ => ⟨4, by kernel_rfl⟩
  | 5, _ => ⟨4, by kernel_rfl⟩
  | 6, _ => ⟨4, by kernel_rfl⟩
  | 7, _ => ⟨4, by kernel_rfl⟩
  | 8, _ => ⟨4, by kernel_rfl⟩
  | n + 9, h => absurd h (by omega)
/-- A number, a comparison, two returns. -/
def gJ (a n c : Nat) (i : Nat) : IV := match i with
  | 0 => ⟨0, 0, 0, a⟩
  | 1 => ⟨c, 0, 1, n⟩
  | 2 => ⟨6, 0, 0, 1⟩
  | _ => ⟨6, 0, 0, 2⟩
def cJ (i : Nat) : Nat := [0x15, 0x25, 0x35, 0x45].getD i 0
def bJ (a n i : Nat) : Bool := match i with
  | 0 => a == n
  | 1 => decide (n < a)
  | 2 => decide (n ≤ a)
  | _ => a &&& n != 0
theorem checkJ (a n : Nat) : ∀ i, i < 4 → (checkF (gJ a n (cJ i)) 4).2 = 0
  | 0, _ => by kernel_rfl
  | 1, _ => by kernel_rfl
  | 2, _ => by kernel_rfl
  | 3, _ => by kernel_rfl
  | n + 4, h => absurd h (by omega)
/-- Where the run stands behind the comparison. -/
def zJ (a m : Nat) : VS := ⟨a, 0, fun _ => 0, 2 + m, 2, []⟩
def endJ (a n i m : Nat) : Option (Nat × Nat × List Nat) := (runF (gJ a n (cJ i)) nul 2 (zJ a m)).map fun p => (p.1, p.2.st, p.2.ld)
theorem runJ0 (a n : Nat) : runV (gJ a n (cJ 0)) nul 4 = endJ a n 0 (if a = n then 0 else 1) := by kernel_rfl
theorem runJ1 (a n : Nat) : runV (gJ a n (cJ 1)) nul 4 = endJ a n 1 (if n < a then 0 else 1) := by kernel_rfl
theorem runJ2 (a n : Nat) : runV (gJ a n (cJ 2)) nul 4 = endJ a n 2 (if n ≤ a then 0 else 1) := by kernel_rfl
theorem runJ3 (a n : Nat) : runV (gJ a n (cJ 3)) nul 4 = endJ a n 3 (if a &&& n ≠ 0 then 0 else 1) := by kernel_rfl
theorem endJ0 (a n : Nat) : ∀ i, i < 4 → endJ a n i 0 = some (1, 3, [])
  | 0, _ => by kernel_rfl
  | 1, _ => by kernel_rfl
  | 2, _ => by kernel_rfl
  | 3, _ => by kernel_rfl
  | n + 4, h => absurd h (by omega)
theorem endJ1 (a n : Nat) : ∀ i, i < 4 → endJ a n i 1 = some (2, 3, [])
  | 0, _ => by kernel_rfl
  | 1, _ => by kernel_rfl
  | 2, _ => by kernel_rfl
  | 3, _ => by kernel_rfl
  | n + 4, h => absurd h (by omega)
theorem runJ (a n : Nat) (i : Nat) (hi : i < 4) : runV (gJ a n (cJ i)) nul 4 = some (if bJ a n i = true then 1 else 2, 3, []) := by
  match i, hi with
  | 0, _ =>
    rw [runJ0]
    by_cases hc : a = n
    · rw [if_pos hc, endJ0 _ _ _ (by decide)]; simp [bJ, hc]
    · rw [if_neg hc, endJ1 _ _ _ (by decide)]; simp [bJ, hc]
  | 1, _ =>
    rw [runJ1]
    by_cases hc : n < a
    · rw [if_pos hc, endJ0 _ _ _ (by decide)]; simp [bJ, hc]
    · rw [if_neg hc, endJ1 _ _ _ (by decide)]; simp [bJ, hc]
  | 2, _ =>
    rw [runJ2]
    by_cases hc : n ≤ a
    · rw [if_pos hc, endJ0 _ _ _ (by decide)]; simp [bJ, hc]
    · rw [if_neg hc, endJ1 _ _ _ (by decide)]; simp [bJ, hc]
  | 3, _ =>
    rw [runJ3]
    by_cases hc : a &&& n ≠ 0
    · rw [if_pos hc, endJ0 _ _ _ (by decide)]; simp [bJ, hc]
    · rw [if_neg hc, endJ1 _ _ _ (by decide)]; simp at hc; simp [bJ, hc]
  | n + 4, h => exact absurd h (by omega)
/-- Stored, stored, loaded. -/
def gS (a b i k : Nat) (j : Nat) : IV := match j with
  | 0 => ⟨0, 0, 0, a⟩
  | 1 => ⟨2, 0, 0, i⟩
  | 2 => ⟨1, 0, 0, b⟩
  | 3 => ⟨3, 0, 0, k⟩
  | 4 => ⟨0x60, 0, 0, i⟩
  | _ => ⟨22, 0, 0, 0⟩
theorem checkS0 (a b : Nat) : ((List.range 16).all fun i => (List.range 16).all fun k => (checkF (gS a b i k) 6).2 == 0) = true := by kernel_rfl
theorem checkS (a b i k : Nat) (hi : i < 16) (hk : k < 16) : (checkF (gS a b i k) 6).2 = 0 := by
  have := List.all_eq_true.1 (List.all_eq_true.1 (checkS0 a b) i (List.mem_range.2 hi)) k (List.mem_range.2 hk)
  simpa using this
theorem runS' (a b i k : Nat) : runV (gS a b i k) nul 6 = some (if i = k then b else if i = i then a else 0, 6, []) := by kernel_rfl
theorem runS (a b i k : Nat) : runV (gS a b i k) nul 6 = some (if i = k then b else a, 6, []) := by rw [runS', if_pos rfl]
/-- A quotient by X, and one more. -/
def gQ (a b : Nat) (j : Nat) : IV := match j with
  | 0 => ⟨0, 0, 0, a⟩
  | 1 => ⟨1, 0, 0, b⟩
  | 2 => ⟨0x3c, 0, 0, 0⟩
  | 3 => ⟨4, 0, 0, 1⟩
  | _ => ⟨22, 0, 0, 0⟩
theorem checkQ (a b : Nat) : (checkF (gQ a b) 5).2 = 0 := by kernel_rfl
theorem runQ0 (a : Nat) : runV (gQ a 0) nul 5 = some (0, 3, []) := by kernel_rfl
theorem runQ1 (a b : Nat) : runV (gQ a (b + 1)) nul 5 = some ((a / (b + 1) + 1) % 4294967296, 5, []) := by kernel_rfl
theorem infoU8 : (Try.prog.info? 5).map (fun i => (i.zero, i.size, i.bytes)) = some (some (.int .u8 0), 1, 1) := by kernel_rfl
/-- 64 new bytes. -/
theorem mk64 : ∃ Z : Array Value, (∀ i, i < 64 → Z[i]? = some (bv 0)) ∧ ∀ W : World, (Instr.makeSlice 23 (.int .i64 64) (.int .i64 64)).run Try.prog W = .ok (.slice (some ⟨W.heap.size, 0, none⟩) 64 64) (W.alloc (.cells Z 5)) := by
  obtain ⟨i0, hi0, hz0, hz1, hz2⟩ := info_parts infoU8
  refine ⟨madeCells (Value.int .u8 0).cells 64, fun i hi => ?_, fun W => ?_⟩
  · simp [madeCells, Value.cells, bv, hi, Nat.mod_one]
  · have hr := run_make (P := Try.prog) W 23 5 i0 _ Try.underlying23 hi0 hz0 .i64 .i64 64 64 (by omega) (Int.le_refl _) (by rw [hz2]; decide) (by decide)
    rw [hz1] at hr
    exact hr
/-- A run at a program that is written out, over 64 zeros. -/
theorem vlit (R Z : Array Value) (g : Nat → IV) (n val st : Nat) (W : World) (B : Nat) (hB : W.heap.size = B) (hn : n ≤ 100) (hR : ∀ i, i < n * 4 → R[i]? = some (icell g i)) (hok : ∀ i, i < n → (g i).ok) (hZ : ∀ i, i < 64 → Z[i]? = some (bv 0))
    (he : (checkF g n).2 = 0) (hrun : runV g nul n = some (val, st, [])) (v' s' : Int) (ev : v' = val) (es : s' = st) :
    Calls Try.prog 20 #[.slice (some ⟨B, 0, none⟩) n n, .slice (some ⟨B + 1, 0, none⟩) 64 64] ((W.alloc (.cells R 59)).alloc (.cells Z 5)) fun e w' => ∃ A' c', e = .returned (.tuple #[.agg #[.int .u32 v', .int .i64 s', .slice A' 0 c'], .int .i64 0]) ∧ Below (B + 2) ((W.alloc (.cells R 59)).alloc (.cells Z 5)) w' := by
  subst hB ev es
  obtain ⟨sF, hr1, rfl, hr3⟩ := runV_some hrun
  have h0 := heap_alloc_last W (.cells R 59)
  have h1 := heap_alloc_last (W.alloc (.cells R 59)) (.cells Z 5)
  have h2 : ((W.alloc (.cells R 59)).alloc (.cells Z 5)).heap[W.heap.size]? = some (.cells R 59) := by rw [heap_alloc_old _ _ _ (by simp)]; exact h0
  simp only [World.size_alloc] at h1
  have hin : Ins ((W.alloc (.cells R 59)).alloc (.cells Z 5)) ((W.alloc (.cells R 59)).alloc (.cells Z 5)).heap.size (some ⟨W.heap.size, 0, none⟩) n n g := by
    refine ⟨Cel.mk_ (by simp; omega) (Nat.le_refl _) (by unfold maxLen; omega) (fun i hi => ?_), hok⟩
    rw [Nat.zero_add, cell_of_row _ _ i _ _ (0, 0) h2]
    exact hR i hi
  have hby : Byt ((W.alloc (.cells R 59)).alloc (.cells Z 5)) ((W.alloc (.cells R 59)).alloc (.cells Z 5)).heap.size (some ⟨W.heap.size + 1, 0, none⟩) 64 64 nul := by
    refine Byt.mk_ (by simp) (by decide) (by decide) fun i hi => ⟨?_, by unfold nul; decide⟩
    rw [Nat.zero_add, cell_of_row _ _ i _ _ (0, 0) h1]
    exact hZ i hi
  refine (vrun_ok _ n n g _ 64 nul _ val sF hin he hby nul_lt hr1).mono ?_
  rw [hr3]
  rintro e w' ⟨A', c', rfl, _, hb⟩
  refine ⟨A', c', rfl, ?_⟩
  simpa using hb
end Go.Proofs.Ytfanapnhdhoppaa
