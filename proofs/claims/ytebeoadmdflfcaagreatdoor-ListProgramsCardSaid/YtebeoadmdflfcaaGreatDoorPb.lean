/-
  The table of layer 3's forms: list.forms.
-/
import Derived.WalkKit
import Derived.Deep.WholeRow
import Derived.Lib.Hide
import Derived.Test.YtebeoadmdflfcaaGreatDoorRw
import Derived.Test.YtebeoadmdflfcaaGreatDoorPa
namespace Go.Proofs.YtebeoadmdflfcaaGreatDoor
open Go.RowKit
set_option linter.unusedVariables false
set_option maxRecDepth 100000

def fmA : Array Value := #[
  .int .u16 32, .string ⟨#[108, 100, 32, 91, 75, 93]⟩,
  .int .u16 0, .string ⟨#[108, 100, 32, 35, 75]⟩,
  .int .u16 96, .string ⟨#[108, 100, 32, 109, 91, 75, 93]⟩,
  .int .u16 128, .string ⟨#[108, 100, 32, 108, 101, 110]⟩,
  .int .u16 1, .string ⟨#[108, 100, 120, 32, 35, 75]⟩,
  .int .u16 97, .string ⟨#[108, 100, 120, 32, 109, 91, 75, 93]⟩,
  .int .u16 129, .string ⟨#[108, 100, 120, 32, 108, 101, 110]⟩,
  .int .u16 2, .string ⟨#[115, 116, 32, 109, 91, 75, 93]⟩,
  .int .u16 3, .string ⟨#[115, 116, 120, 32, 109, 91, 75, 93]⟩,
  .int .u16 7, .string ⟨#[116, 97, 120]⟩,
  .int .u16 135, .string ⟨#[116, 120, 97]⟩,
  .int .u16 132, .string ⟨#[110, 101, 103]⟩,
  .int .u16 5, .string ⟨#[106, 97, 32, 75]⟩,
  .int .u16 6, .string ⟨#[114, 101, 116, 32, 35, 75]⟩,
  .int .u16 22, .string ⟨#[114, 101, 116, 32, 97]⟩,
  .int .u16 4, .string ⟨#[97, 100, 100, 32, 35, 75]⟩,
  .int .u16 12, .string ⟨#[97, 100, 100, 32, 120]⟩,
  .int .u16 20, .string ⟨#[115, 117, 98, 32, 35, 75]⟩,
  .int .u16 28, .string ⟨#[115, 117, 98, 32, 120]⟩,
  .int .u16 36, .string ⟨#[109, 117, 108, 32, 35, 75]⟩,
  .int .u16 44, .string ⟨#[109, 117, 108, 32, 120]⟩,
  .int .u16 52, .string ⟨#[100, 105, 118, 32, 35, 75]⟩,
  .int .u16 60, .string ⟨#[100, 105, 118, 32, 120]⟩,
  .int .u16 68, .string ⟨#[111, 114, 32, 35, 75]⟩,
  .int .u16 76, .string ⟨#[111, 114, 32, 120]⟩,
  .int .u16 84, .string ⟨#[97, 110, 100, 32, 35, 75]⟩,
  .int .u16 92, .string ⟨#[97, 110, 100, 32, 120]⟩,
  .int .u16 100, .string ⟨#[108, 115, 104, 32, 35, 75]⟩,
  .int .u16 108, .string ⟨#[108, 115, 104, 32, 120]⟩,
  .int .u16 116, .string ⟨#[114, 115, 104, 32, 35, 75]⟩,
  .int .u16 124, .string ⟨#[114, 115, 104, 32, 120]⟩,
  .int .u16 164, .string ⟨#[120, 111, 114, 32, 35, 75]⟩,
  .int .u16 172, .string ⟨#[120, 111, 114, 32, 120]⟩,
  .int .u16 21, .string ⟨#[106, 101, 113, 32, 35, 75, 32, 84, 32, 70]⟩,
  .int .u16 29, .string ⟨#[106, 101, 113, 32, 120, 32, 84, 32, 70]⟩,
  .int .u16 37, .string ⟨#[106, 103, 116, 32, 35, 75, 32, 84, 32, 70]⟩,
  .int .u16 45, .string ⟨#[106, 103, 116, 32, 120, 32, 84, 32, 70]⟩,
  .int .u16 53, .string ⟨#[106, 103, 101, 32, 35, 75, 32, 84, 32, 70]⟩,
  .int .u16 61, .string ⟨#[106, 103, 101, 32, 120, 32, 84, 32, 70]⟩,
  .int .u16 69, .string ⟨#[106, 115, 101, 116, 32, 35, 75, 32, 84, 32, 70]⟩,
  .int .u16 77, .string ⟨#[106, 115, 101, 116, 32, 120, 32, 84, 32, 70]⟩]
set_option maxHeartbeats 8000000 in
theorem forms_any (w : World) : Calls Tryz.prog 21 #[] w fun e w' => e = .returned (.slice (some ⟨w.heap.size, 0, none⟩) 41 41) ∧ w' = w.alloc (.cells fmA 56) := by
  go_enter Tryz.func21, Tryz.ntmps21
  go_wp2
  go_ret
  exact ⟨rfl, rfl⟩
theorem fm_cells : (List.range 41).map (fun j => (fmA[2 * j]?, fmA[2 * j + 1]?)) = (List.range 41).map (fun j => (some (Value.int .u16 ((codeP j : Nat) : Int)), some (Value.string ⟨(patP j).toArray⟩))) := by kernel_rfl
theorem fm_at (j : Nat) (hj : j < 41) : fmA[2 * j]? = some (Value.int .u16 ((codeP j : Nat) : Int)) ∧ fmA[2 * j + 1]? = some (Value.string ⟨(patP j).toArray⟩) := by
  have h := congrArg (fun l => l[j]?) fm_cells
  simp only [List.getElem?_map, List.getElem?_range hj, Option.map_some, Option.some.injEq, Prod.mk.injEq] at h
  exact h
/-- The table in memory. -/
def FmP (w : World) (b : Nat) : Prop := ∀ j, j < 41 → w.cell? ⟨b, 2 * j, none⟩ = some (.int .u16 ((codeP j : Nat) : Int)) ∧ w.cell? ⟨b, 2 * j + 1, none⟩ = some (.string ⟨(patP j).toArray⟩)
theorem FmP.new (w : World) : FmP (w.alloc (.cells fmA 56)) w.heap.size := fun j hj => by
  have hh := heap_alloc_last w (.cells fmA 56)
  obtain ⟨h1, h2⟩ := fm_at j hj
  exact ⟨by rw [cell_of_row _ _ (2 * j) _ _ (0, 0) hh]; exact h1, by rw [cell_of_row _ _ (2 * j + 1) _ _ (0, 0) hh]; exact h2⟩
theorem FmP.below {w w' : World} {b : Nat} (h : FmP w b) (hb : Below w.heap.size w w') : FmP w' b := fun j hj => by
  obtain ⟨h1, h2⟩ := h j hj
  have hlt : b < w.heap.size := World.block_lt_of_cell? _ _ h1
  exact ⟨(hb.cell (p := ⟨b, 2 * j, none⟩) hlt).trans h1, (hb.cell (p := ⟨b, 2 * j + 1, none⟩) hlt).trans h2⟩
end Go.Proofs.YtebeoadmdflfcaaGreatDoor
