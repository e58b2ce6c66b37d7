/-
  The chapter's example of layer 10.
-/
import Derived.Test.YtlajmdfebnicnaaDoorGj
import Derived.RegionTactic
namespace Go.Proofs.YtlajmdfebnicnaaDoor
open Go.Shelf Go.RowKit
set_option linter.unusedVariables false

set_option maxRecDepth 100000 in
set_option maxHeartbeats 8000000 in
theorem awake10_any (w : World) (ht : TabP w) : Calls Tryd.prog 9 #[] w fun e w' => e = .returned (.bool true) ∧ Below w.heap.size w w' := by
  obtain ⟨W, hW⟩ : ∃ W, w.alloc (.cells #[.string ⟨#[97, 49]⟩, .string ⟨#[38]⟩, .string ⟨#[51]⟩, .string ⟨#[61, 61]⟩, .string ⟨#[50]⟩] 9) = W := ⟨_, rfl⟩
  have hb : Below w.heap.size w W := by rw [← hW]; exact (Below.refl _ _).alloc (Nat.le_refl _) _
  have rr : RowC W w.heap.size #[.string ⟨#[97, 49]⟩, .string ⟨#[38]⟩, .string ⟨#[51]⟩, .string ⟨#[61, 61]⟩, .string ⟨#[50]⟩] 9 := by rw [← hW]; exact RowC.new _ _ _ _ rfl
  have hR : Calls Tryd.prog 4 #[.slice (some ⟨w.heap.size, 0, none⟩) 5 5] W fun e w' => e = .returned (.tuple #[.agg #[.int .i64 1, .int .i64 7, .int .u64 3, .int .u64 2], .int .i64 5, .int .i64 0]) ∧ Below W.heap.size W w' :=
    read5_ok 1 (by omega) 3 (by omega) 2 (by omega) w.heap.size 5 5 (by omega) W (tab_on ht hb (Nat.le_refl _)) (rr.cell 0 _ rfl) (rr.cell 1 _ rfl) (rr.cell 2 _ (by rw [show dec 3 = ⟨#[51]⟩ by unfold dec; rw [Lib.decDigits_one (by omega)]; rfl]; rfl)) (rr.cell 3 _ rfl) (rr.cell 4 _ (by rw [show dec 2 = ⟨#[50]⟩ by unfold dec; rw [Lib.decDigits_one (by omega)]; rfl]; rfl))
  have HR := Lib.hid hR
  have HB := Lib.hid hb
  have HW := Lib.hid hW
  have hr7 : RightO ((1 : Nat) : Int) 7 3 6 := ⟨by omega, by omega, by omega, rfl, rfl⟩
  have H6 : ∀ X, Calls Tryd.prog 19 #[.agg #[.int .i64 1, .int .i64 7, .int .u64 3, .int .u64 2], .agg #[.int .u64 0, .int .u64 6, .int .u64 0, .int .u64 0, .int .u64 0, .int .u64 0]] X fun e w' => e = .returned (.bool true) ∧ Below X.heap.size X w' := fun X => holds_ok 1 (by omega) 7 3 2 6 hr7 (fun i => if i = 1 then 6 else 0) (fun i _ => by show (if i = 1 then 6 else 0) < _; split <;> omega) (by omega) X
  have H7 : ∀ X, Calls Tryd.prog 19 #[.agg #[.int .i64 1, .int .i64 7, .int .u64 3, .int .u64 2], .agg #[.int .u64 0, .int .u64 7, .int .u64 0, .int .u64 0, .int .u64 0, .int .u64 0]] X fun e w' => e = .returned (.bool false) ∧ Below X.heap.size X w' := fun X => holds_ok 1 (by omega) 7 3 2 6 hr7 (fun i => if i = 1 then 7 else 0) (fun i _ => by show (if i = 1 then 7 else 0) < _; split <;> omega) (by omega) X
  have HH6 := Lib.hid H6
  have HH7 := Lib.hid H7
  clear hR hb rr H6 H7 hr7 ht hW
  go_enter Tryd.func9, Tryd.ntmps9
  go_wp2_with fail
  rw [HW.out]
  refine HR.out.mono ?_
  rintro e w1 ⟨rfl, hB1⟩
  obtain ⟨U, hU⟩ : ∃ U, w1.alloc (.cells #[.int .i64 1, .int .i64 7, .int .u64 3, .int .u64 2] 25) = U := ⟨_, rfl⟩
  have ru : RowC U w1.heap.size #[.int .i64 1, .int .i64 7, .int .u64 3, .int .u64 2] 25 := by rw [← hU]; exact RowC.new _ _ _ _ rfl
  have hbu : Below w.heap.size w U := by rw [← hU]; exact (HB.out.trans (hB1.mono HB.out.size)).alloc (by have := HB.out.size; have := hB1.size; omega) _
  have RU := Lib.hid ru
  have HBU := Lib.hid hbu
  have HU := Lib.hid hU
  clear hB1 hbu hU
  go_upto_region 2 with fail
  rw [HU.out]
  have c0 := ru.cell 0 (.int .i64 1) rfl
  have c1 := ru.cell 1 (.int .i64 7) rfl
  have c2 := ru.cell 2 (.int .u64 3) rfl
  have c3 := ru.cell 3 (.int .u64 2) rfl
  clear ru
  go_wp2_with fail
  refine (HH6.out _).mono ?_
  rintro e w2 ⟨rfl, hB2⟩
  have ru := RU.out.below hB2 RU.out.lt
  have d0 := ru.cell 0 (.int .i64 1) rfl
  have d1 := ru.cell 1 (.int .i64 7) rfl
  have d2 := ru.cell 2 (.int .u64 3) rfl
  have d3 := ru.cell 3 (.int .u64 2) rfl
  have HB2 := Lib.hid (HBU.out.trans (hB2.mono HBU.out.size))
  clear ru hB2 c0 c1 c2 c3
  go_wp2_with fail
  refine (HH7.out _).mono ?_
  rintro e w3 ⟨rfl, hB3⟩
  go_wp2
  go_ret
  exact ⟨rfl, HB2.out.trans (hB3.mono HB2.out.size)⟩
end Go.Proofs.YtlajmdfebnicnaaDoor
