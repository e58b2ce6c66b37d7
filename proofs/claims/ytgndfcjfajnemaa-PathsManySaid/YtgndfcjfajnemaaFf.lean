/-
  flow.reached itself.
-/
import Derived.Test.YtgndfcjfajnemaaFe
import Derived.Deep.LoopGhost
namespace Go.Proofs.Ytgndfcjfajnemaa
open Go.RowKit Go.Conc

theorem h_last (W : World) (o : Obj) (k : Nat) (hk : k = W.heap.size) : (W.alloc o).heap[k]? = some o := by subst hk; exact heap_alloc_last W o
theorem h_old (W : World) (o v : Obj) (k : Nat) (h : W.heap[k]? = some v) : (W.alloc o).heap[k]? = some v := by
  rw [heap_alloc_old _ _ _ (Array.getElem?_eq_some_iff.1 h).1]; exact h
end Go.Proofs.Ytgndfcjfajnemaa
