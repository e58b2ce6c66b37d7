/-
  The laws' own of and awake of layer 3.
-/
import Derived.Test.YtebeoadmdflfcaaGreatDoorPd
import Derived.Shelf.Vars
namespace Go.Proofs.YtebeoadmdflfcaaGreatDoor
open Go.RowKit Go.Shelf
set_option linter.unusedVariables false

set_option maxHeartbeats 4000000 in
theorem of3_any (c t f k : Int) (w : World) :
    Calls Tryz.prog 8 #[.agg #[.int .u16 c, .int .u8 t, .int .u8 f, .int .u32 k]] w fun e w' => e = .returned (.agg #[.int .u16 c, .int .u8 t, .int .u8 f, .int .u32 k]) ∧ Below w.heap.size w w' := by
  have hb : Below w.heap.size w ((w.alloc (.cells #[.int .u16 c, .int .u8 t, .int .u8 f, .int .u32 k] 29)).alloc (.cells #[.int .u16 c, .int .u8 t, .int .u8 f, .int .u32 k] 25)) := ((Below.refl _ _).alloc (Nat.le_refl _) _).alloc (by simp) _
  have r1 : RowC ((w.alloc (.cells #[.int .u16 c, .int .u8 t, .int .u8 f, .int .u32 k] 29)).alloc (.cells #[.int .u16 c, .int .u8 t, .int .u8 f, .int .u32 k] 25)) (w.heap.size + 1) #[.int .u16 c, .int .u8 t, .int .u8 f, .int .u32 k] 25 := RowC.new _ _ _ _ (by simp)
  have HB := Lib.hid hb
  have R1 := Lib.hid r1
  clear hb r1
  go_enter Tryz.func8, Tryz.ntmps8
  go_wp2
  exact bodyPost_ret (results_cell_row Tryz.results8 _ _ (w.heap.size + 1) _ _ (0, 0) _ (by rfl) R1.out Tryz.underlying25 (by rfl) (show _ = some 4 by kernel_rfl)) rfl ⟨rfl, HB.out⟩
theorem lineX1 : (⟨(lineL 21 1 2 3).toArray⟩ : ByteArray) = ⟨#[106, 101, 113, 32, 35, 51, 32, 49, 32, 50]⟩ := by
  have h : lineL 21 1 2 3 = [106, 101, 113, 32, 35, 51, 32, 49, 32, 50] := by
    unfold lineL
    rw [show atP 21 41 = some 33 by decide +kernel]
    simp only
    rw [if_pos (by decide +kernel), show patP 33 = [106, 101, 113, 32, 35, 75, 32, 84, 32, 70] by decide +kernel]
    simp [subst, mkv, dd, Lib.decDigits]
  rw [h]
theorem lineX2 : (⟨(lineL 6 1 0 0).toArray⟩ : ByteArray) = ⟨#[46, 99, 111, 100, 101, 32, 54, 32, 49, 32, 48, 32, 48]⟩ := by
  have h : lineL 6 1 0 0 = [46, 99, 111, 100, 101, 32, 54, 32, 49, 32, 48, 32, 48] := by
    unfold lineL
    rw [show atP 6 41 = some 13 by decide +kernel]
    simp only
    rw [if_neg (by decide +kernel)]
    simp [subst, anyP, mkv, dd, Lib.decDigits]
  rw [h]
set_option maxHeartbeats 4000000 in
theorem awake3_any (w : World) (he : EnvL w) :
    Calls Tryz.prog 9 #[] w fun e w' => e = .returned (.bool true) ∧ Below w.heap.size w w' := by
  have H1 : Hid (Calls Tryz.prog 11 #[.agg #[.int .u16 21, .int .u8 1, .int .u8 2, .int .u32 3]] w fun e w' => e = .returned (.string ⟨#[106, 101, 113, 32, 35, 51, 32, 49, 32, 50]⟩) ∧ Below w.heap.size w w') := Lib.hid (by
    have h := lineP_any 21 1 2 3 (by decide) (by decide) (by decide) (by decide) w he
    rw [lineX1] at h
    exact h)
  have H2 : Hid (∀ W, Below w.heap.size w W → Calls Tryz.prog 11 #[.agg #[.int .u16 6, .int .u8 1, .int .u8 0, .int .u32 0]] W fun e w' => e = .returned (.string ⟨#[46, 99, 111, 100, 101, 32, 54, 32, 49, 32, 48, 32, 48]⟩) ∧ Below W.heap.size W w') := Lib.hid fun W hW => by
    have h := lineP_any 6 1 0 0 (by decide) (by decide) (by decide) (by decide) W (env_on he hW (Nat.le_refl _))
    rw [lineX2] at h
    exact h
  clear he
  go_enter Tryz.func9, Tryz.ntmps9
  go_wp2_with fail
  refine H1.out.mono ?_
  rintro e w1 ⟨rfl, hB1⟩
  have HB1 := Lib.hid hB1
  have HX := Lib.hid (H2.out w1 hB1)
  clear hB1 H2
  go_wp2_with fail
  refine HX.out.mono ?_
  rintro e w2 ⟨rfl, hB2⟩
  go_wp2
  go_ret
  exact ⟨rfl, HB1.out.trans (hB2.mono HB1.out.size)⟩
/-- What a card's list and the world's shape give. -/
theorem env_of {W : World} (ht : TabP W) (hSh : W.ShapedOpen Tryz.prog) : EnvL W :=
  ⟨ht, cell_of_shapedOpen_int (P := Tryz.prog) (g := 1) (t := 3) (zero := #[.int .i64 0]) hSh (of_decide_eq_true (by kernel_rfl)) (by kernel_rfl) rfl (by kernel_rfl) (by kernel_rfl) Tryz.underlying3⟩
end Go.Proofs.YtebeoadmdflfcaaGreatDoor
