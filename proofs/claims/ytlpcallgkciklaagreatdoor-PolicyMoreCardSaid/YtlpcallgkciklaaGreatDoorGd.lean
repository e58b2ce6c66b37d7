/-
  The contracts of cond.Right and of cond.Holds.
-/
import Derived.Test.YtlpcallgkciklaaGreatDoorGc
import Derived.Shelf.Abstract
import Derived.RegionTactic
namespace Go.Proofs.YtlpcallgkciklaaGreatDoor
open Go.RowKit Go.Shelf
set_option linter.unusedVariables false

theorem fnO_enter (j : Nat) (hj : j < 7) : ∃ F, fnO j = .func (.func F) #[] #[] ∧ ∀ args w, (callFunc F args).run Tryz.prog w = .ok (.enter F args) w := by
  match j, hj with
  | 0, _ => exact ⟨_, rfl, enters_of Tryz.func163 (by kernel_rfl) rfl⟩
  | 1, _ => exact ⟨_, rfl, enters_of Tryz.func164 (by kernel_rfl) rfl⟩
  | 2, _ => exact ⟨_, rfl, enters_of Tryz.func165 (by kernel_rfl) rfl⟩
  | 3, _ => exact ⟨_, rfl, enters_of Tryz.func166 (by kernel_rfl) rfl⟩
  | 4, _ => exact ⟨_, rfl, enters_of Tryz.func167 (by kernel_rfl) rfl⟩
  | 5, _ => exact ⟨_, rfl, enters_of Tryz.func168 (by kernel_rfl) rfl⟩
  | 6, _ => exact ⟨_, rfl, enters_of Tryz.func169 (by kernel_rfl) rfl⟩

set_option maxRecDepth 100000 in
set_option maxHeartbeats 4000000 in
theorem right_ok (a o : Int) (m v j : Nat) (hr : RightO a o m j) (w : World) :
    Calls Tryz.prog 68 #[.agg (condA a o m v)] w fun e w' => e = .returned (.bool true) ∧ Below w.heap.size w w' := by
  have HF := Lib.hid (operatorOf_ok a o m v j hr (w.alloc (.cells (condA a o m v) 62)))
  have HB := Lib.hid (show Below w.heap.size w (w.alloc (.cells (condA a o m v) 62)) from (Below.refl _ _).alloc (Nat.le_refl _) _)
  obtain ⟨F, hkm⟩ := fnO_func j
  have HK := Lib.hid hkm
  clear hkm hr
  go_enter Tryz.func68, Tryz.ntmps68
  go_wp2_with fail
  refine HF.out.mono ?_
  rintro e w1 ⟨rfl, hB1⟩
  simp only [opA, HK.out]
  have hz := hB1.size
  have hz2 := HB.out.size
  have HBE := Lib.hid ((HB.out.trans (hB1.mono hz2)).alloc (by omega) (.cells #[.string (sgO j), .bool (mkO j), .func (.func F) #[] #[]] 165))
  clear hB1 hz hz2
  go_wp2
  go_ret
  exact ⟨rfl, HBE.out⟩
set_option maxRecDepth 100000 in
set_option maxHeartbeats 4000000 in
theorem right_no (a o : Int) (m v : Nat) (hno : a < 0 ∨ 6 ≤ a ∨ ∀ j, j < 7 → isO o m j = false) (w : World) :
    Calls Tryz.prog 68 #[.agg (condA a o m v)] w fun e w' => e = .returned (.bool false) ∧ Below w.heap.size w w' := by
  have hF : Calls Tryz.prog 91 #[.agg (condA a o m v)] (w.alloc (.cells (condA a o m v) 62)) fun e w' => e = .returned (.tuple #[.agg op0, .bool false]) ∧ Below (w.alloc (.cells (condA a o m v) 62)).heap.size (w.alloc (.cells (condA a o m v) 62)) w' := by
    by_cases h0 : a < 0
    · exact operatorOf_out a o m v (.inl h0) _
    by_cases h6 : 6 ≤ a
    · exact operatorOf_out a o m v (.inr h6) _
    rcases hno with h | h | h
    · exact absurd h h0
    · exact absurd h h6
    · exact operatorOf_no a o m v (by omega) (by omega) h _
  have HF := Lib.hid hF
  have HB := Lib.hid (show Below w.heap.size w (w.alloc (.cells (condA a o m v) 62)) from (Below.refl _ _).alloc (Nat.le_refl _) _)
  clear hF hno
  go_enter Tryz.func68, Tryz.ntmps68
  go_wp2_with fail
  refine HF.out.mono ?_
  rintro e w1 ⟨rfl, hB1⟩
  have hz := hB1.size
  have hz2 := HB.out.size
  have HBE := Lib.hid ((HB.out.trans (hB1.mono hz2)).alloc (by omega) (.cells op0 165))
  clear hB1 hz hz2
  go_wp2
  go_ret
  exact ⟨rfl, HBE.out⟩

end Go.Proofs.YtlpcallgkciklaaGreatDoor
