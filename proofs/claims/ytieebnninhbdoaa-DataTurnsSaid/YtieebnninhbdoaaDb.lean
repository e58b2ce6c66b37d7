/-
  Records as numbers; the contracts of the document's own word and Write of layer 5, and of the law's own of.
-/
import Derived.Test.YtieebnninhbdoaaWa
import Derived.Test.YtieebnninhbdoaaWd
import Derived.Deep.RegionWith
import Derived.Deep.RegionHeld3
import Derived.Test.YtieebnninhbdoaaIe
import Derived.Deep.WholeRow
namespace Go.Proofs.Ytieebnninhbdoaa
open Go.RowKit

/-- A record as numbers. -/
structure RV where
  n : Nat
  a : Nat
  p : Nat
  q : Nat → Nat
def RV.ok (r : RV) : Prop := r.n < 4294967296 ∧ r.a < 4294967296 ∧ r.p < 18446744073709551616 ∧ ∀ i, r.q i < 18446744073709551616
/-- Its cells. -/
def rcells (r : RV) : Array Value := #[.int .u32 r.n, .int .u32 r.a, .int .u64 r.p, .int .u64 (r.q 0), .int .u64 (r.q 1), .int .u64 (r.q 2), .int .u64 (r.q 3), .int .u64 (r.q 4), .int .u64 (r.q 5)]
/-- A number's byte at a place of a word of some width. -/
def wb (big : Bool) (wd x i : Nat) : Nat := if i < wd then x / 2 ^ (8 * idx big 0 wd i) % 256 else 0
theorem wb_lt (big : Bool) (wd x i : Nat) : wb big wd x i < 256 := by unfold wb; split; exact Nat.mod_lt _ (by decide); decide
theorem wb_putF (big : Bool) (wd x i : Nat) : putF big 0 wd x (fun _ => 0) i = wb big wd x i := by
  unfold putF wb
  by_cases h : i < wd
  · rw [if_pos ⟨Nat.zero_le _, by omega⟩, if_pos h]
  · rw [if_neg (by omega), if_neg h]
/-- The bytes of a record. -/
def recB (r : RV) (big : Bool) (i : Nat) : Nat :=
  if i < 4 then wb big 4 r.n i else if i < 8 then wb big 4 r.a (i - 4) else if i < 16 then wb big 8 r.p (i - 8) else wb big 8 (r.q ((i - 16) / 8)) ((i - 16) % 8)
theorem recB_lt (r : RV) (big : Bool) (i : Nat) : recB r big i < 256 := by
  unfold recB; split; exact wb_lt ..; split; exact wb_lt ..; split; exact wb_lt ..; exact wb_lt ..
theorem recB_arg (r : RV) (big : Bool) (k i : Nat) (h1 : 16 + 8 * k ≤ i) (h2 : i < 16 + 8 * k + 8) : recB r big i = wb big 8 (r.q k) (i - (16 + 8 * k)) := by
  unfold recB
  rw [if_neg (by omega), if_neg (by omega), if_neg (by omega), show (i - 16) / 8 = k from by omega, show (i - 16) % 8 = i - (16 + 8 * k) from by omega]

theorem rc_cell (w : World) (r : RV) (T : TypeId) : ∀ j v, (rcells r)[j]? = some v → (w.alloc (.cells (rcells r) T)).cell? ⟨w.heap.size, j, none⟩ = some v := fun j v h => by
  rw [cell_of_row _ _ j _ _ (0, 0) (heap_alloc_last w _), h]

set_option maxRecDepth 100000 in
set_option maxHeartbeats 4000000 in
theorem of5_any (r : RV) (w : World) :
    Calls Try.prog 19 #[.agg (rcells r)] w fun e w' => e = .returned (.agg (rcells r)) ∧ Below w.heap.size w w' := by
  unfold rcells
  go_enter Try.func19, Try.ntmps19
  go_wp2
  refine bodyPost_ret (v := .agg (rcells r)) (by simp [results, Try.results19, go_sem, rcells]) rfl ⟨rfl, ?_⟩
  exact ((Below.refl _ _).alloc (Nat.le_refl _) _).alloc (by simp) _
/-- The document's bytes of a record. -/
theorem cat_rec0 (r : RV) (big : Bool) : ∀ i, i < 8 → cat 4 (wb big 4 r.n) (wb big 4 r.a) i = recB r big i := fun i hi => by
  unfold cat recB
  by_cases h : i < 4
  · rw [if_pos h, if_pos h]
  · rw [if_neg h, if_neg h, if_pos hi]
theorem cat_rec1 (r : RV) (big : Bool) : ∀ i, i < 16 → cat 8 (recB r big) (wb big 8 r.p) i = recB r big i := fun i hi => by
  unfold cat
  by_cases h : i < 8
  · rw [if_pos h]
  · rw [if_neg h]; unfold recB; rw [if_neg (by omega), if_neg h, if_pos hi]
theorem cat_rec2 (r : RV) (big : Bool) (k : Nat) : ∀ i, i < 16 + 8 * k + 8 → cat (16 + 8 * k) (recB r big) (wb big 8 (r.q k)) i = recB r big i := fun i hi => by
  unfold cat
  by_cases h : i < 16 + 8 * k
  · rw [if_pos h]
  · rw [if_neg h, recB_arg r big k i (by omega) hi]

end Go.Proofs.Ytieebnninhbdoaa
