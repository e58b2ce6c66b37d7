/-
  A block that holds just these cells.
-/
import Derived.WalkKit
import Derived.Deep.WholeRow
import Derived.Laws.EntriesVeiled
import Derived.Laws.CopyOwn
import Derived.Lib.Hide
import Derived.Test.YtmndolojfdekdaaProg
import Derived.Test.YtmndolojfdekdaaMem
namespace Go.Proofs.Ytmndolojfdekdaa
open Go.RowKit

/-- The block b holds just these cells. -/
def RowC (w : World) (b : Nat) (cs : Array Value) (T : TypeId) : Prop := w.heap[b]? = some (.cells cs T)
section
variable {b : Nat} {w w' : World} {cs : Array Value} {T : TypeId}
theorem RowC.lt (h : RowC w b cs T) : b < w.heap.size := (Array.getElem?_eq_some_iff.1 h).1
theorem RowC.below {N : Nat} (h : RowC w b cs T) (hb : Below N w w') (hB : b < N) : RowC w' b cs T := (hb.block b hB).trans h
theorem RowC.cell (h : RowC w b cs T) (i : Nat) (v : Value) (hv : cs[i]? = some v) : w.cell? ⟨b, i, none⟩ = some v := by
  rw [cell_of_row w b i _ _ (0, 0) h, hv]
theorem RowC.frozen (h : RowC w b cs T) (i : Nat) : w.frozen? ⟨b, i, none⟩ = false := by
  have h' : w.heap[b]? = some (.cells cs T) := h
  simp [World.frozen?, h']
theorem RowC.set (h : RowC w b cs T) (i : Nat) (v : Value) : RowC (w.setCell ⟨b, i, none⟩ v) b (cs.setIfInBounds i v) T := by
  unfold RowC
  rw [setCell_eq_setRow w b i _ _ (0, 0) _ h]
  exact setRow_heap w b _ _ _ _ h
theorem RowC.setOther {g : Nat} (h : RowC w b cs T) (i : Nat) (v : Value) (hn : b ≠ g) : RowC (w.setCell ⟨g, i, none⟩ v) b cs T := (Below.heap_setCell _ _ _ _ hn).trans h
theorem RowC.setRow {g : Nat} (h : RowC w b cs T) (ds : Array Value) (hn : b ≠ g) : RowC (w.setRow g ds) b cs T := (setRow_other w g b ds hn).trans h
theorem RowC.alloc (h : RowC w b cs T) (o : Obj) : RowC (w.alloc o) b cs T := (Below.heap_alloc _ _ _ h.lt).trans h
end
theorem RowC.new (w : World) (cs : Array Value) (T : TypeId) (k : Nat) (hk : k = w.heap.size) : RowC (w.alloc (.cells cs T)) k cs T := by subst hk; exact heap_alloc_last w _

end Go.Proofs.Ytmndolojfdekdaa
