/-
  Layer 25: the chapter's examples.
-/
import Derived.Test.YtnlnddmnbeilfaaSkc
namespace Go.Proofs.Ytnlnddmnbeilfaa
open Go.RowKit
set_option linter.unusedVariables false

def twoG (x y : AC) (i : Nat) : AC := if i = 0 then x else y
theorem two_acs (w : World) (x y : AC) (T : TypeId) : Cel (w.alloc (.cells #[.int .i64 x.k, .int .i64 x.n, .int .i64 y.k, .int .i64 y.n] T)) (w.heap.size + 1) 2 (some ⟨w.heap.size, 0, none⟩) 2 2 (acell (twoG x y)) :=
  Cel.mk_ (Nat.lt_succ_self _) (Nat.le_refl _) (by decide) fun i hi => by
    have hi' : i < 4 := by omega
    rw [Nat.zero_add, cell_of_row _ _ _ _ _ _ (heap_alloc_last w _)]
    match i, hi' with
    | 0, _ | 1, _ | 2, _ | 3, _ => rfl
theorem strP_one {G : Nat → AC} {p : Nat} (h : StrP G 2 p) (h1 : (G 1).k ≤ (G 0).k) : p = 1 := by
  have hp := h.1
  by_cases e : p = 0
  · subst e
    have := (h.2 1 (by decide)).2 (by decide)
    omega
  · omega
theorem str_two (x y : AC) (w : World) (h1 : y.k ≤ x.k) (hx : rgt9 x.k x.n = true) (hy : rgt9 y.k y.n = true) :
    Calls Try.prog 7 #[.slice (some ⟨w.heap.size, 0, none⟩) 2 2] (w.alloc (.cells #[.int .i64 x.k, .int .i64 x.n, .int .i64 y.k, .int .i64 y.n] 26)) fun e w' => e = .returned (.tuple #[.agg #[.int .i64 y.k, .int .i64 y.n], .int .i64 0]) ∧ Below w.heap.size w w' := by
  have hb : Below w.heap.size w (w.alloc (.cells #[.int .i64 x.k, .int .i64 x.n, .int .i64 y.k, .int .i64 y.n] 26)) := (Below.refl _ _).alloc (Nat.le_refl _) _
  have hbad : anyBad (twoG x y) 2 = false := by
    show (List.any [0, 1] fun i => !rgt9 (twoG x y i).k (twoG x y i).n) = false
    simp [twoG, hx, hy]
  refine (str_good _ 2 2 (twoG x y) _ (by decide) (by decide) ((two_acs w x y _).more (by simp)) hbad).mono ?_
  rintro e w1 ⟨⟨p, hp, rfl⟩, hB⟩
  obtain rfl := strP_one hp h1
  exact ⟨rfl, hb.trans (hB.mono hb.size)⟩
theorem rgt_70 : rgt9 7 0 = true := by decide +kernel
theorem rgt_41 : rgt9 4 1 = true := by decide +kernel
theorem rgt_42 : rgt9 4 2 = true := by decide +kernel
theorem str_74 (w : World) (b : Nat) (hb : b = w.heap.size) : Calls Try.prog 7 #[.slice (some ⟨b, 0, none⟩) 2 2] (w.alloc (.cells #[.int .i64 7, .int .i64 0, .int .i64 4, .int .i64 1] 26)) fun e w' => e = .returned (.tuple #[.agg #[.int .i64 4, .int .i64 1], .int .i64 0]) ∧ Below w.heap.size w w' :=
  (by subst hb; exact str_two ⟨7, 0⟩ ⟨4, 1⟩ w (by decide) rgt_70 rgt_41)
theorem str_44 (w : World) (b : Nat) (hb : b = w.heap.size) : Calls Try.prog 7 #[.slice (some ⟨b, 0, none⟩) 2 2] (w.alloc (.cells #[.int .i64 4, .int .i64 1, .int .i64 4, .int .i64 2] 26)) fun e w' => e = .returned (.tuple #[.agg #[.int .i64 4, .int .i64 2], .int .i64 0]) ∧ Below w.heap.size w w' :=
  (by subst hb; exact str_two ⟨4, 1⟩ ⟨4, 2⟩ w (by decide) rgt_41 rgt_42)
set_option maxRecDepth 100000 in
set_option maxHeartbeats 4000000 in
theorem awake25_any (w : World) : Calls Try.prog 8 #[] w fun e w' => e = .returned (.bool true) ∧ Below w.heap.size w w' := by
  go_enter Try.func8, Try.ntmps8
  go_wp2_with fail
  refine (str_74 _ _ (by simp)).mono ?_
  rintro e w1 ⟨rfl, hB1⟩
  have r1 : RowC (w1.alloc (.cells #[.int .i64 4, .int .i64 1] 26)) w1.heap.size #[.int .i64 4, .int .i64 1] 26 := RowC.new _ _ _ _ rfl
  have HB1 := Lib.hid (hB1.alloc hB1.size (.cells #[.int .i64 4, .int .i64 1] 26))
  have R1 := Lib.hid r1
  clear hB1 r1
  go_wp2_with fail
  refine (str_44 _ _ (by simp)).mono ?_
  rintro e w2 ⟨rfl, hB2⟩
  have r1 := (R1.out.below hB2 R1.out.lt).alloc (.cells #[.int .i64 4, .int .i64 2] 26)
  have r2 : RowC (w2.alloc (.cells #[.int .i64 4, .int .i64 2] 26)) w2.heap.size #[.int .i64 4, .int .i64 2] 26 := RowC.new _ _ _ _ rfl
  have hb2 := HB1.out.trans (hB2.mono HB1.out.size)
  have HB2 := Lib.hid (hb2.alloc hb2.size (.cells #[.int .i64 4, .int .i64 2] 26))
  have d0 := r1.cell 0 _ rfl
  have d1 := r1.cell 1 _ rfl
  have e0 := r2.cell 0 _ rfl
  have e1 := r2.cell 1 _ rfl
  clear r1 r2 hb2 hB2
  go_wp2
  go_ret
  exact ⟨rfl, HB2.out⟩
end Go.Proofs.Ytnlnddmnbeilfaa
