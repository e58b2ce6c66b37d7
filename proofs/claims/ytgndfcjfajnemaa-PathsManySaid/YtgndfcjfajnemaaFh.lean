/-
  The contract of flow.Longest.
-/
import Derived.Test.YtgndfcjfajnemaaFg
import Derived.Test.YtgndfcjfajnemaaWb
namespace Go.Proofs.Ytgndfcjfajnemaa
open Go.RowKit Go.Shelf
attribute [local go_sem] Oper.semAt_some

theorem ite_max (a b : Nat) : Value.int .i64 (if a < b then (b : Int) else (a : Int)) = Value.int .i64 ((max a b : Nat) : Int) := by
  congr 1
  by_cases h : a < b
  · rw [if_pos h, Nat.max_eq_right (by omega)]
  · rw [if_neg h, Nat.max_eq_left (by omega)]
theorem row_kept {W W' : World} {row : Option Nat} {b : Nat} {D : Array Value} {T : TypeId} (h : RowAt W b D T) (hg : W.grownBy W' row) (hrow : ∀ r, row = some r → ∃ o : Obj, W.heap[r]? = some o ∧ o.isCells = false) : RowAt W' b D T :=
  (grownBy_keeps_cells hg hrow h rfl).trans h
theorem others_below {W W' : World} (h : Below W.heap.size W W') : KeepsOthers W W' := ⟨h.size, fun k _ ho _ => (h.block k (Array.getElem?_eq_some_iff.1 ho).1).trans ho⟩

end Go.Proofs.Ytgndfcjfajnemaa

/-
  flow.Reach and flow.Longest, whole.
-/
namespace Go.Proofs.Ytgndfcjfajnemaa
open Go.RowKit

theorem fmd_of {g : Nat → IV} {n : Nat} (he : (checkF g n).2 = 0) : Fmd g n := let ⟨a, b, c, d⟩ := checkF_facts he; ⟨a, b, c, d⟩
end Go.Proofs.Ytgndfcjfajnemaa
