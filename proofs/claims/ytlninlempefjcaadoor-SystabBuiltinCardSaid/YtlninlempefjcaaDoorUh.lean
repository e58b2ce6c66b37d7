/-
  The document's own built-in table reads as the program's.
-/
import Derived.Test.YtlninlempefjcaaDoorUi
import Derived.Test.YtlninlempefjcaaDoorUg
namespace Go.Proofs.YtlninlempefjcaaDoor
open Go.RowKit
set_option linter.unusedVariables false
set_option maxRecDepth 100000

def rbF (i : Nat) : Value := rbA.getD i undef
theorem rb_all : (List.range 83).map (rowV rbF) = (List.range 83).map (fun i => (srow (tblT i)).toList) := by kernel_rfl
theorem rb_size : rbA.size = 83 * 8 := by kernel_rfl
theorem rb_at (i : Nat) (hi : i < 83) : rowV rbF i = (srow (tblT i)).toList := by
  have h := congrArg (fun l => l[i]?) rb_all
  simpa [List.getElem?_map, List.getElem?_range hi] using h
theorem tb_of_rows {w : World} {b : Nat} {F : Nat → Value} (hb : b < w.heap.size) (hc : ∀ i, i < 83 * 8 → w.cell? ⟨b, i, none⟩ = some (F i)) (hF : ∀ i, i < 83 → rowV F i = (srow (tblT i)).toList) : Tb w b 0 83 tblT := by
  refine ⟨hb, fun i hi => ?_⟩
  have hr := hF i hi
  have hcc : ∀ c, c < 8 → w.cell? ⟨b, 0 + i * 8 + c, none⟩ = some (F (i * 8 + c)) := fun c hc' => by
    rw [Nat.zero_add]
    exact hc (i * 8 + c) (by omega)
  simp only [rowV, List.cons.injEq, and_true] at hr
  obtain ⟨t0, t1, t2, t3, t4, t5, t6, t7⟩ := hr
  exact ⟨(hcc 0 (by omega)).trans (by rw [Nat.add_zero, t0]), (hcc 1 (by omega)).trans (by rw [t1]), (hcc 2 (by omega)).trans (by rw [t2]), (hcc 3 (by omega)).trans (by rw [t3]), (hcc 4 (by omega)).trans (by rw [t4]), (hcc 5 (by omega)).trans (by rw [t5]), (hcc 6 (by omega)).trans (by rw [t6]), (hcc 7 (by omega)).trans (by rw [t7])⟩
theorem rb_Tb (w : World) : Tb (w.alloc (.cells rbA 37)) w.heap.size 0 83 tblT :=
  tb_of_rows (by simp) (fun i hi => by
    have hl : i < rbA.size := by rw [rb_size]; exact hi
    refine (RowC.new w rbA 37 _ rfl).cell i (rbF i) ?_
    show rbA[i]? = some (rbA.getD i undef)
    rw [Array.getElem?_eq_getElem hl]
    simp [Array.getD, hl]) rb_at
end Go.Proofs.YtlninlempefjcaaDoor
