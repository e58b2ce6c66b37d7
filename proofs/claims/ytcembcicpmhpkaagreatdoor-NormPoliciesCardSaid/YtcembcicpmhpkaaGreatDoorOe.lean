/-
  Layer 16: the reference's Cond, path by path.
-/
import Derived.Test.YtcembcicpmhpkaaGreatDoorOd
import Derived.RegionTactic
namespace Go.Proofs.YtcembcicpmhpkaaGreatDoor
open Go.RowKit Go.Shelf
set_option linter.unusedVariables false

theorem set4T {w : World} {b : Nat} {t : TypeId} {x0 x1 x2 x3 y0 y1 y2 y3 : Value} (h : RowC w b #[x0, x1, x2, x3] t) : RowC ((((w.setCell ⟨b, 0, none⟩ y0).setCell ⟨b, 1, none⟩ y1).setCell ⟨b, 2, none⟩ y2).setCell ⟨b, 3, none⟩ y3) b #[y0, y1, y2, y3] t := (((h.set 0 y0).set 1 y1).set 2 y2).set 3 y3
theorem infoR16 : (Tryz.prog.info? 61).map (·.size) = some 4 := by kernel_rfl

set_option maxRecDepth 100000 in
set_option maxHeartbeats 4000000 in
theorem r1 (a : Int) (v : Nat) (w : World) : Calls Tryz.prog 47 #[.agg (condA a 1 0 v)] w fun e w' => e = .returned (.tuple #[.agg (condA a 1 0 v), .int .i64 0]) ∧ Below w.heap.size w w' := by
  obtain ⟨W0, hW0⟩ : ∃ W, (w.alloc (.cells (condA a 1 0 v) 61)).alloc (.cells zN 61) = W := ⟨_, rfl⟩
  obtain ⟨W1, hW1⟩ : ∃ W, W0.alloc (.cells zN 61) = W := ⟨_, rfl⟩
  have hs0 : W0.heap.size = w.heap.size + 2 := by rw [← hW0]; simp
  have HB := Lib.hid (show Below w.heap.size w W1 by rw [← hW1, ← hW0]; exact (((Below.refl _ _).alloc (Nat.le_refl _) _).alloc (by simp) _).alloc (by simp; omega) _)
  have HP := Lib.hid (show RowC W1 w.heap.size (condA a 1 0 v) 61 by rw [← hW1, ← hW0]; exact ((RowC.new _ _ _ _ rfl).alloc _).alloc _)
  have HR := Lib.hid (show RowC W1 (w.heap.size + 1) zN 61 by rw [← hW1, ← hW0]; exact (RowC.new _ _ _ _ (by simp)).alloc _)
  have HN := Lib.hid (show RowC W1 (w.heap.size + 2) zN 61 by rw [← hW1]; exact RowC.new _ _ _ _ hs0.symm)
  have HW0 := Lib.hid hW0
  have HW1 := Lib.hid hW1
  clear hW0 hW1
  go_enter Tryz.func47, Tryz.ntmps47
  go_upto_region 1 with fail
  rw [HW0.out]
  go_upto_region 2 with fail
  rw [HW1.out]
  have x0 := HP.out.cell 0 (.int .i64 a) rfl
  have x1 := HP.out.cell 1 (.int .i64 1) rfl
  have x2 := HP.out.cell 2 (.int .u64 0) rfl
  have x3 := HP.out.cell 3 (.int .u64 v) rfl
  have p1 := HP.out.frozen 1
  have p2 := HP.out.frozen 2
  have p3 := HP.out.frozen 3
  have z0 := HR.out.cell 0 (.int .i64 0) rfl
  have z1 := HR.out.cell 1 (.int .i64 0) rfl
  have z2 := HR.out.cell 2 (.int .u64 0) rfl
  have z3 := HR.out.cell 3 (.int .u64 0) rfl
  have y0 := HR.out.frozen 0
  have y1 := HR.out.frozen 1
  have y2 := HR.out.frozen 2
  have y3 := HR.out.frozen 3
  have n0 := HN.out.cell 0 (.int .i64 0) rfl
  have n1 := HN.out.cell 1 (.int .i64 0) rfl
  have n2 := HN.out.cell 2 (.int .u64 0) rfl
  have n3 := HN.out.cell 3 (.int .u64 0) rfl
  go_wp2
  exact bodyPost_ret (results_ctO Tryz.results47 _ _ (w.heap.size + 1) _ (condA a 1 0 v) (0, 0) _ (.int .i64 0) (by rfl) (by rfl) (set4T HR.out) Tryz.underlying61 (by rfl) infoR16) rfl ⟨rfl, below4N HB.out (by omega) _ _ _ _⟩

set_option maxRecDepth 100000 in
set_option maxHeartbeats 4000000 in
theorem r2 (a : Int) (v : Nat) (w : World) : Calls Tryz.prog 47 #[.agg (condA a 2 0 v)] w fun e w' => e = .returned (.tuple #[.agg (condA a 2 0 v), .int .i64 0]) ∧ Below w.heap.size w w' := by
  obtain ⟨W0, hW0⟩ : ∃ W, (w.alloc (.cells (condA a 2 0 v) 61)).alloc (.cells zN 61) = W := ⟨_, rfl⟩
  obtain ⟨W1, hW1⟩ : ∃ W, W0.alloc (.cells zN 61) = W := ⟨_, rfl⟩
  have hs0 : W0.heap.size = w.heap.size + 2 := by rw [← hW0]; simp
  have HB := Lib.hid (show Below w.heap.size w W1 by rw [← hW1, ← hW0]; exact (((Below.refl _ _).alloc (Nat.le_refl _) _).alloc (by simp) _).alloc (by simp; omega) _)
  have HP := Lib.hid (show RowC W1 w.heap.size (condA a 2 0 v) 61 by rw [← hW1, ← hW0]; exact ((RowC.new _ _ _ _ rfl).alloc _).alloc _)
  have HR := Lib.hid (show RowC W1 (w.heap.size + 1) zN 61 by rw [← hW1, ← hW0]; exact (RowC.new _ _ _ _ (by simp)).alloc _)
  have HN := Lib.hid (show RowC W1 (w.heap.size + 2) zN 61 by rw [← hW1]; exact RowC.new _ _ _ _ hs0.symm)
  have HW0 := Lib.hid hW0
  have HW1 := Lib.hid hW1
  clear hW0 hW1
  go_enter Tryz.func47, Tryz.ntmps47
  go_upto_region 1 with fail
  rw [HW0.out]
  go_upto_region 2 with fail
  rw [HW1.out]
  have x0 := HP.out.cell 0 (.int .i64 a) rfl
  have x1 := HP.out.cell 1 (.int .i64 2) rfl
  have x2 := HP.out.cell 2 (.int .u64 0) rfl
  have x3 := HP.out.cell 3 (.int .u64 v) rfl
  have p1 := HP.out.frozen 1
  have p2 := HP.out.frozen 2
  have p3 := HP.out.frozen 3
  have z0 := HR.out.cell 0 (.int .i64 0) rfl
  have z1 := HR.out.cell 1 (.int .i64 0) rfl
  have z2 := HR.out.cell 2 (.int .u64 0) rfl
  have z3 := HR.out.cell 3 (.int .u64 0) rfl
  have y0 := HR.out.frozen 0
  have y1 := HR.out.frozen 1
  have y2 := HR.out.frozen 2
  have y3 := HR.out.frozen 3
  have n0 := HN.out.cell 0 (.int .i64 0) rfl
  have n1 := HN.out.cell 1 (.int .i64 0) rfl
  have n2 := HN.out.cell 2 (.int .u64 0) rfl
  have n3 := HN.out.cell 3 (.int .u64 0) rfl
  go_wp2
  exact bodyPost_ret (results_ctO Tryz.results47 _ _ (w.heap.size + 1) _ (condA a 2 0 v) (0, 0) _ (.int .i64 0) (by rfl) (by rfl) (set4T HR.out) Tryz.underlying61 (by rfl) infoR16) rfl ⟨rfl, below4N HB.out (by omega) _ _ _ _⟩

set_option maxRecDepth 100000 in
set_option maxHeartbeats 4000000 in
theorem r3a (a : Int) (w : World) : Calls Tryz.prog 47 #[.agg (condA a 3 0 0)] w fun e w' => e = .returned (.tuple #[.agg (zN), .int .i64 2]) ∧ Below w.heap.size w w' := by
  obtain ⟨W0, hW0⟩ : ∃ W, (w.alloc (.cells (condA a 3 0 0) 61)).alloc (.cells zN 61) = W := ⟨_, rfl⟩
  obtain ⟨W1, hW1⟩ : ∃ W, W0.alloc (.cells zN 61) = W := ⟨_, rfl⟩
  have hs0 : W0.heap.size = w.heap.size + 2 := by rw [← hW0]; simp
  have HB := Lib.hid (show Below w.heap.size w W1 by rw [← hW1, ← hW0]; exact (((Below.refl _ _).alloc (Nat.le_refl _) _).alloc (by simp) _).alloc (by simp; omega) _)
  have HP := Lib.hid (show RowC W1 w.heap.size (condA a 3 0 0) 61 by rw [← hW1, ← hW0]; exact ((RowC.new _ _ _ _ rfl).alloc _).alloc _)
  have HR := Lib.hid (show RowC W1 (w.heap.size + 1) zN 61 by rw [← hW1, ← hW0]; exact (RowC.new _ _ _ _ (by simp)).alloc _)
  have HN := Lib.hid (show RowC W1 (w.heap.size + 2) zN 61 by rw [← hW1]; exact RowC.new _ _ _ _ hs0.symm)
  have HW0 := Lib.hid hW0
  have HW1 := Lib.hid hW1
  clear hW0 hW1
  go_enter Tryz.func47, Tryz.ntmps47
  go_upto_region 1 with fail
  rw [HW0.out]
  go_upto_region 2 with fail
  rw [HW1.out]
  have x0 := HP.out.cell 0 (.int .i64 a) rfl
  have x1 := HP.out.cell 1 (.int .i64 3) rfl
  have x2 := HP.out.cell 2 (.int .u64 0) rfl
  have x3 := HP.out.cell 3 (.int .u64 0) rfl
  have p1 := HP.out.frozen 1
  have p2 := HP.out.frozen 2
  have p3 := HP.out.frozen 3
  have z0 := HR.out.cell 0 (.int .i64 0) rfl
  have z1 := HR.out.cell 1 (.int .i64 0) rfl
  have z2 := HR.out.cell 2 (.int .u64 0) rfl
  have z3 := HR.out.cell 3 (.int .u64 0) rfl
  have y0 := HR.out.frozen 0
  have y1 := HR.out.frozen 1
  have y2 := HR.out.frozen 2
  have y3 := HR.out.frozen 3
  have n0 := HN.out.cell 0 (.int .i64 0) rfl
  have n1 := HN.out.cell 1 (.int .i64 0) rfl
  have n2 := HN.out.cell 2 (.int .u64 0) rfl
  have n3 := HN.out.cell 3 (.int .u64 0) rfl
  go_wp2
  exact bodyPost_ret (results_ctO Tryz.results47 _ _ (w.heap.size + 1) _ (zN) (0, 0) _ (.int .i64 2) (by rfl) (by rfl) (set4T HR.out) Tryz.underlying61 (by rfl) infoR16) rfl ⟨rfl, below4N HB.out (by omega) _ _ _ _⟩

set_option maxRecDepth 100000 in
set_option maxHeartbeats 4000000 in
theorem r3b (a : Int) (w : World) : Calls Tryz.prog 47 #[.agg (condA a 3 0 1)] w fun e w' => e = .returned (.tuple #[.agg (condA a 1 0 0), .int .i64 0]) ∧ Below w.heap.size w w' := by
  obtain ⟨W0, hW0⟩ : ∃ W, (w.alloc (.cells (condA a 3 0 1) 61)).alloc (.cells zN 61) = W := ⟨_, rfl⟩
  obtain ⟨W1, hW1⟩ : ∃ W, W0.alloc (.cells zN 61) = W := ⟨_, rfl⟩
  have hs0 : W0.heap.size = w.heap.size + 2 := by rw [← hW0]; simp
  have HB := Lib.hid (show Below w.heap.size w W1 by rw [← hW1, ← hW0]; exact (((Below.refl _ _).alloc (Nat.le_refl _) _).alloc (by simp) _).alloc (by simp; omega) _)
  have HP := Lib.hid (show RowC W1 w.heap.size (condA a 3 0 1) 61 by rw [← hW1, ← hW0]; exact ((RowC.new _ _ _ _ rfl).alloc _).alloc _)
  have HR := Lib.hid (show RowC W1 (w.heap.size + 1) zN 61 by rw [← hW1, ← hW0]; exact (RowC.new _ _ _ _ (by simp)).alloc _)
  have HN := Lib.hid (show RowC W1 (w.heap.size + 2) zN 61 by rw [← hW1]; exact RowC.new _ _ _ _ hs0.symm)
  have HW0 := Lib.hid hW0
  have HW1 := Lib.hid hW1
  clear hW0 hW1
  go_enter Tryz.func47, Tryz.ntmps47
  go_upto_region 1 with fail
  rw [HW0.out]
  go_upto_region 2 with fail
  rw [HW1.out]
  have x0 := HP.out.cell 0 (.int .i64 a) rfl
  have x1 := HP.out.cell 1 (.int .i64 3) rfl
  have x2 := HP.out.cell 2 (.int .u64 0) rfl
  have x3 := HP.out.cell 3 (.int .u64 1) rfl
  have p1 := HP.out.frozen 1
  have p2 := HP.out.frozen 2
  have p3 := HP.out.frozen 3
  have z0 := HR.out.cell 0 (.int .i64 0) rfl
  have z1 := HR.out.cell 1 (.int .i64 0) rfl
  have z2 := HR.out.cell 2 (.int .u64 0) rfl
  have z3 := HR.out.cell 3 (.int .u64 0) rfl
  have y0 := HR.out.frozen 0
  have y1 := HR.out.frozen 1
  have y2 := HR.out.frozen 2
  have y3 := HR.out.frozen 3
  have n0 := HN.out.cell 0 (.int .i64 0) rfl
  have n1 := HN.out.cell 1 (.int .i64 0) rfl
  have n2 := HN.out.cell 2 (.int .u64 0) rfl
  have n3 := HN.out.cell 3 (.int .u64 0) rfl
  go_wp2
  exact bodyPost_ret (results_ctO Tryz.results47 _ _ (w.heap.size + 1) _ (condA a 1 0 0) (0, 0) _ (.int .i64 0) (by rfl) (by rfl) (set4T ((HR.out.setOther 1 _ (by omega)).setOther 3 _ (by omega))) Tryz.underlying61 (by rfl) infoR16) rfl ⟨rfl, below4N ((HB.out.setCell (Nat.le_refl _) _).setCell (Nat.le_refl _) _) (by omega) _ _ _ _⟩

set_option maxRecDepth 100000 in
set_option maxHeartbeats 4000000 in
theorem r3c (a : Int) (v : Nat) (q0 : ((v : Int) == 0) = false) (q1 : ((v : Int) == 1) = false) (w : World) : Calls Tryz.prog 47 #[.agg (condA a 3 0 v)] w fun e w' => e = .returned (.tuple #[.agg (condA a 3 0 v), .int .i64 0]) ∧ Below w.heap.size w w' := by
  obtain ⟨W0, hW0⟩ : ∃ W, (w.alloc (.cells (condA a 3 0 v) 61)).alloc (.cells zN 61) = W := ⟨_, rfl⟩
  obtain ⟨W1, hW1⟩ : ∃ W, W0.alloc (.cells zN 61) = W := ⟨_, rfl⟩
  have hs0 : W0.heap.size = w.heap.size + 2 := by rw [← hW0]; simp
  have HB := Lib.hid (show Below w.heap.size w W1 by rw [← hW1, ← hW0]; exact (((Below.refl _ _).alloc (Nat.le_refl _) _).alloc (by simp) _).alloc (by simp; omega) _)
  have HP := Lib.hid (show RowC W1 w.heap.size (condA a 3 0 v) 61 by rw [← hW1, ← hW0]; exact ((RowC.new _ _ _ _ rfl).alloc _).alloc _)
  have HR := Lib.hid (show RowC W1 (w.heap.size + 1) zN 61 by rw [← hW1, ← hW0]; exact (RowC.new _ _ _ _ (by simp)).alloc _)
  have HN := Lib.hid (show RowC W1 (w.heap.size + 2) zN 61 by rw [← hW1]; exact RowC.new _ _ _ _ hs0.symm)
  have HW0 := Lib.hid hW0
  have HW1 := Lib.hid hW1
  clear hW0 hW1
  go_enter Tryz.func47, Tryz.ntmps47
  go_upto_region 1 with fail
  rw [HW0.out]
  go_upto_region 2 with fail
  rw [HW1.out]
  have x0 := HP.out.cell 0 (.int .i64 a) rfl
  have x1 := HP.out.cell 1 (.int .i64 3) rfl
  have x2 := HP.out.cell 2 (.int .u64 0) rfl
  have x3 := HP.out.cell 3 (.int .u64 v) rfl
  have p1 := HP.out.frozen 1
  have p2 := HP.out.frozen 2
  have p3 := HP.out.frozen 3
  have z0 := HR.out.cell 0 (.int .i64 0) rfl
  have z1 := HR.out.cell 1 (.int .i64 0) rfl
  have z2 := HR.out.cell 2 (.int .u64 0) rfl
  have z3 := HR.out.cell 3 (.int .u64 0) rfl
  have y0 := HR.out.frozen 0
  have y1 := HR.out.frozen 1
  have y2 := HR.out.frozen 2
  have y3 := HR.out.frozen 3
  have n0 := HN.out.cell 0 (.int .i64 0) rfl
  have n1 := HN.out.cell 1 (.int .i64 0) rfl
  have n2 := HN.out.cell 2 (.int .u64 0) rfl
  have n3 := HN.out.cell 3 (.int .u64 0) rfl
  go_wp2
  exact bodyPost_ret (results_ctO Tryz.results47 _ _ (w.heap.size + 1) _ (condA a 3 0 v) (0, 0) _ (.int .i64 0) (by rfl) (by rfl) (set4T HR.out) Tryz.underlying61 (by rfl) infoR16) rfl ⟨rfl, below4N HB.out (by omega) _ _ _ _⟩

set_option maxRecDepth 100000 in
set_option maxHeartbeats 4000000 in
theorem r4a (a : Int) (w : World) : Calls Tryz.prog 47 #[.agg (condA a 4 0 18446744073709551615)] w fun e w' => e = .returned (.tuple #[.agg (zN), .int .i64 1]) ∧ Below w.heap.size w w' := by
  obtain ⟨W0, hW0⟩ : ∃ W, (w.alloc (.cells (condA a 4 0 18446744073709551615) 61)).alloc (.cells zN 61) = W := ⟨_, rfl⟩
  obtain ⟨W1, hW1⟩ : ∃ W, W0.alloc (.cells zN 61) = W := ⟨_, rfl⟩
  have hs0 : W0.heap.size = w.heap.size + 2 := by rw [← hW0]; simp
  have HB := Lib.hid (show Below w.heap.size w W1 by rw [← hW1, ← hW0]; exact (((Below.refl _ _).alloc (Nat.le_refl _) _).alloc (by simp) _).alloc (by simp; omega) _)
  have HP := Lib.hid (show RowC W1 w.heap.size (condA a 4 0 18446744073709551615) 61 by rw [← hW1, ← hW0]; exact ((RowC.new _ _ _ _ rfl).alloc _).alloc _)
  have HR := Lib.hid (show RowC W1 (w.heap.size + 1) zN 61 by rw [← hW1, ← hW0]; exact (RowC.new _ _ _ _ (by simp)).alloc _)
  have HN := Lib.hid (show RowC W1 (w.heap.size + 2) zN 61 by rw [← hW1]; exact RowC.new _ _ _ _ hs0.symm)
  have HW0 := Lib.hid hW0
  have HW1 := Lib.hid hW1
  clear hW0 hW1
  go_enter Tryz.func47, Tryz.ntmps47
  go_upto_region 1 with fail
  rw [HW0.out]
  go_upto_region 2 with fail
  rw [HW1.out]
  have x0 := HP.out.cell 0 (.int .i64 a) rfl
  have x1 := HP.out.cell 1 (.int .i64 4) rfl
  have x2 := HP.out.cell 2 (.int .u64 0) rfl
  have x3 := HP.out.cell 3 (.int .u64 18446744073709551615) rfl
  have p1 := HP.out.frozen 1
  have p2 := HP.out.frozen 2
  have p3 := HP.out.frozen 3
  have z0 := HR.out.cell 0 (.int .i64 0) rfl
  have z1 := HR.out.cell 1 (.int .i64 0) rfl
  have z2 := HR.out.cell 2 (.int .u64 0) rfl
  have z3 := HR.out.cell 3 (.int .u64 0) rfl
  have y0 := HR.out.frozen 0
  have y1 := HR.out.frozen 1
  have y2 := HR.out.frozen 2
  have y3 := HR.out.frozen 3
  have n0 := HN.out.cell 0 (.int .i64 0) rfl
  have n1 := HN.out.cell 1 (.int .i64 0) rfl
  have n2 := HN.out.cell 2 (.int .u64 0) rfl
  have n3 := HN.out.cell 3 (.int .u64 0) rfl
  go_wp2
  exact bodyPost_ret (results_ctO Tryz.results47 _ _ (w.heap.size + 1) _ (zN) (0, 0) _ (.int .i64 1) (by rfl) (by rfl) (set4T HR.out) Tryz.underlying61 (by rfl) infoR16) rfl ⟨rfl, below4N HB.out (by omega) _ _ _ _⟩

set_option maxRecDepth 100000 in
set_option maxHeartbeats 4000000 in
theorem r4b (a : Int) (w : World) : Calls Tryz.prog 47 #[.agg (condA a 4 0 0)] w fun e w' => e = .returned (.tuple #[.agg (condA a 1 0 0), .int .i64 0]) ∧ Below w.heap.size w w' := by
  obtain ⟨W0, hW0⟩ : ∃ W, (w.alloc (.cells (condA a 4 0 0) 61)).alloc (.cells zN 61) = W := ⟨_, rfl⟩
  obtain ⟨W1, hW1⟩ : ∃ W, W0.alloc (.cells zN 61) = W := ⟨_, rfl⟩
  have hs0 : W0.heap.size = w.heap.size + 2 := by rw [← hW0]; simp
  have HB := Lib.hid (show Below w.heap.size w W1 by rw [← hW1, ← hW0]; exact (((Below.refl _ _).alloc (Nat.le_refl _) _).alloc (by simp) _).alloc (by simp; omega) _)
  have HP := Lib.hid (show RowC W1 w.heap.size (condA a 4 0 0) 61 by rw [← hW1, ← hW0]; exact ((RowC.new _ _ _ _ rfl).alloc _).alloc _)
  have HR := Lib.hid (show RowC W1 (w.heap.size + 1) zN 61 by rw [← hW1, ← hW0]; exact (RowC.new _ _ _ _ (by simp)).alloc _)
  have HN := Lib.hid (show RowC W1 (w.heap.size + 2) zN 61 by rw [← hW1]; exact RowC.new _ _ _ _ hs0.symm)
  have HW0 := Lib.hid hW0
  have HW1 := Lib.hid hW1
  clear hW0 hW1
  go_enter Tryz.func47, Tryz.ntmps47
  go_upto_region 1 with fail
  rw [HW0.out]
  go_upto_region 2 with fail
  rw [HW1.out]
  have x0 := HP.out.cell 0 (.int .i64 a) rfl
  have x1 := HP.out.cell 1 (.int .i64 4) rfl
  have x2 := HP.out.cell 2 (.int .u64 0) rfl
  have x3 := HP.out.cell 3 (.int .u64 0) rfl
  have p1 := HP.out.frozen 1
  have p2 := HP.out.frozen 2
  have p3 := HP.out.frozen 3
  have z0 := HR.out.cell 0 (.int .i64 0) rfl
  have z1 := HR.out.cell 1 (.int .i64 0) rfl
  have z2 := HR.out.cell 2 (.int .u64 0) rfl
  have z3 := HR.out.cell 3 (.int .u64 0) rfl
  have y0 := HR.out.frozen 0
  have y1 := HR.out.frozen 1
  have y2 := HR.out.frozen 2
  have y3 := HR.out.frozen 3
  have n0 := HN.out.cell 0 (.int .i64 0) rfl
  have n1 := HN.out.cell 1 (.int .i64 0) rfl
  have n2 := HN.out.cell 2 (.int .u64 0) rfl
  have n3 := HN.out.cell 3 (.int .u64 0) rfl
  go_upto_region 8 with fail
  obtain ⟨W2, hW2⟩ : ∃ W, (W1.setCell ⟨w.heap.size, 1, none⟩ (.int .i64 3)).setCell ⟨w.heap.size, 3, none⟩ (.int .u64 1) = W := ⟨_, rfl⟩
  have HP2 := Lib.hid (show RowC W2 w.heap.size (condA a 3 0 1) 61 by rw [← hW2]; exact (HP.out.set 1 (.int .i64 3)).set 3 (.int .u64 1))
  have HR2 := Lib.hid (show RowC W2 (w.heap.size + 1) zN 61 by rw [← hW2]; exact (HR.out.setOther 1 _ (by omega)).setOther 3 _ (by omega))
  have HB2 := Lib.hid (show Below w.heap.size w W2 by rw [← hW2]; exact (HB.out.setCell (Nat.le_refl _) _).setCell (Nat.le_refl _) _)
  have HW2 := Lib.hid hW2
  clear hW2
  rw [HW2.out]
  clear x0 x1 x2 x3 p1 p2 p3 z0 z1 z2 z3 y0 y1 y2 y3 n0 n1 n2 n3
  have x0 := HP2.out.cell 0 (.int .i64 a) rfl
  have x1 := HP2.out.cell 1 (.int .i64 3) rfl
  have x2 := HP2.out.cell 2 (.int .u64 0) rfl
  have x3 := HP2.out.cell 3 (.int .u64 1) rfl
  have p1 := HP2.out.frozen 1
  have p3 := HP2.out.frozen 3
  have z0 := HR2.out.cell 0 (.int .i64 0) rfl
  have z1 := HR2.out.cell 1 (.int .i64 0) rfl
  have z2 := HR2.out.cell 2 (.int .u64 0) rfl
  have z3 := HR2.out.cell 3 (.int .u64 0) rfl
  have y0 := HR2.out.frozen 0
  have y1 := HR2.out.frozen 1
  have y2 := HR2.out.frozen 2
  have y3 := HR2.out.frozen 3
  go_wp2
  exact bodyPost_ret (results_ctO Tryz.results47 _ _ (w.heap.size + 1) _ (condA a 1 0 0) (0, 0) _ (.int .i64 0) (by rfl) (by rfl) (set4T ((HR2.out.setOther 1 _ (by omega)).setOther 3 _ (by omega))) Tryz.underlying61 (by rfl) infoR16) rfl ⟨rfl, below4N ((HB2.out.setCell (Nat.le_refl _) _).setCell (Nat.le_refl _) _) (by omega) _ _ _ _⟩

set_option maxRecDepth 100000 in
set_option maxHeartbeats 4000000 in
theorem r4c (a : Int) (v : Nat) (q0 : ((v : Int) == 18446744073709551615) = false) (q1 : IntKind.u64.wrap ((v : Int) + 1) = (v : Int) + 1) (q2 : (((v : Int) + 1) == 0) = false) (q3 : (((v : Int) + 1) == 1) = false) (w : World) : Calls Tryz.prog 47 #[.agg (condA a 4 0 v)] w fun e w' => e = .returned (.tuple #[.agg (condA a 3 0 (v + 1 : Nat)), .int .i64 0]) ∧ Below w.heap.size w w' := by
  obtain ⟨W0, hW0⟩ : ∃ W, (w.alloc (.cells (condA a 4 0 v) 61)).alloc (.cells zN 61) = W := ⟨_, rfl⟩
  obtain ⟨W1, hW1⟩ : ∃ W, W0.alloc (.cells zN 61) = W := ⟨_, rfl⟩
  have hs0 : W0.heap.size = w.heap.size + 2 := by rw [← hW0]; simp
  have HB := Lib.hid (show Below w.heap.size w W1 by rw [← hW1, ← hW0]; exact (((Below.refl _ _).alloc (Nat.le_refl _) _).alloc (by simp) _).alloc (by simp; omega) _)
  have HP := Lib.hid (show RowC W1 w.heap.size (condA a 4 0 v) 61 by rw [← hW1, ← hW0]; exact ((RowC.new _ _ _ _ rfl).alloc _).alloc _)
  have HR := Lib.hid (show RowC W1 (w.heap.size + 1) zN 61 by rw [← hW1, ← hW0]; exact (RowC.new _ _ _ _ (by simp)).alloc _)
  have HN := Lib.hid (show RowC W1 (w.heap.size + 2) zN 61 by rw [← hW1]; exact RowC.new _ _ _ _ hs0.symm)
  have HW0 := Lib.hid hW0
  have HW1 := Lib.hid hW1
  clear hW0 hW1
  go_enter Tryz.func47, Tryz.ntmps47
  go_upto_region 1 with fail
  rw [HW0.out]
  go_upto_region 2 with fail
  rw [HW1.out]
  have x0 := HP.out.cell 0 (.int .i64 a) rfl
  have x1 := HP.out.cell 1 (.int .i64 4) rfl
  have x2 := HP.out.cell 2 (.int .u64 0) rfl
  have x3 := HP.out.cell 3 (.int .u64 v) rfl
  have p1 := HP.out.frozen 1
  have p2 := HP.out.frozen 2
  have p3 := HP.out.frozen 3
  have z0 := HR.out.cell 0 (.int .i64 0) rfl
  have z1 := HR.out.cell 1 (.int .i64 0) rfl
  have z2 := HR.out.cell 2 (.int .u64 0) rfl
  have z3 := HR.out.cell 3 (.int .u64 0) rfl
  have y0 := HR.out.frozen 0
  have y1 := HR.out.frozen 1
  have y2 := HR.out.frozen 2
  have y3 := HR.out.frozen 3
  have n0 := HN.out.cell 0 (.int .i64 0) rfl
  have n1 := HN.out.cell 1 (.int .i64 0) rfl
  have n2 := HN.out.cell 2 (.int .u64 0) rfl
  have n3 := HN.out.cell 3 (.int .u64 0) rfl
  go_wp2
  exact bodyPost_ret (results_ctO Tryz.results47 _ _ (w.heap.size + 1) _ (condA a 3 0 (v + 1 : Nat)) (0, 0) _ (.int .i64 0) (by rfl) (by rfl) (set4T ((HR.out.setOther 1 _ (by omega)).setOther 3 _ (by omega))) Tryz.underlying61 (by rfl) infoR16) rfl ⟨rfl, below4N ((HB.out.setCell (Nat.le_refl _) _).setCell (Nat.le_refl _) _) (by omega) _ _ _ _⟩

set_option maxRecDepth 100000 in
set_option maxHeartbeats 4000000 in
theorem r5a (a : Int) (w : World) : Calls Tryz.prog 47 #[.agg (condA a 5 0 18446744073709551615)] w fun e w' => e = .returned (.tuple #[.agg (zN), .int .i64 2]) ∧ Below w.heap.size w w' := by
  obtain ⟨W0, hW0⟩ : ∃ W, (w.alloc (.cells (condA a 5 0 18446744073709551615) 61)).alloc (.cells zN 61) = W := ⟨_, rfl⟩
  obtain ⟨W1, hW1⟩ : ∃ W, W0.alloc (.cells zN 61) = W := ⟨_, rfl⟩
  have hs0 : W0.heap.size = w.heap.size + 2 := by rw [← hW0]; simp
  have HB := Lib.hid (show Below w.heap.size w W1 by rw [← hW1, ← hW0]; exact (((Below.refl _ _).alloc (Nat.le_refl _) _).alloc (by simp) _).alloc (by simp; omega) _)
  have HP := Lib.hid (show RowC W1 w.heap.size (condA a 5 0 18446744073709551615) 61 by rw [← hW1, ← hW0]; exact ((RowC.new _ _ _ _ rfl).alloc _).alloc _)
  have HR := Lib.hid (show RowC W1 (w.heap.size + 1) zN 61 by rw [← hW1, ← hW0]; exact (RowC.new _ _ _ _ (by simp)).alloc _)
  have HN := Lib.hid (show RowC W1 (w.heap.size + 2) zN 61 by rw [← hW1]; exact RowC.new _ _ _ _ hs0.symm)
  have HW0 := Lib.hid hW0
  have HW1 := Lib.hid hW1
  clear hW0 hW1
  go_enter Tryz.func47, Tryz.ntmps47
  go_upto_region 1 with fail
  rw [HW0.out]
  go_upto_region 2 with fail
  rw [HW1.out]
  have x0 := HP.out.cell 0 (.int .i64 a) rfl
  have x1 := HP.out.cell 1 (.int .i64 5) rfl
  have x2 := HP.out.cell 2 (.int .u64 0) rfl
  have x3 := HP.out.cell 3 (.int .u64 18446744073709551615) rfl
  have p1 := HP.out.frozen 1
  have p2 := HP.out.frozen 2
  have p3 := HP.out.frozen 3
  have z0 := HR.out.cell 0 (.int .i64 0) rfl
  have z1 := HR.out.cell 1 (.int .i64 0) rfl
  have z2 := HR.out.cell 2 (.int .u64 0) rfl
  have z3 := HR.out.cell 3 (.int .u64 0) rfl
  have y0 := HR.out.frozen 0
  have y1 := HR.out.frozen 1
  have y2 := HR.out.frozen 2
  have y3 := HR.out.frozen 3
  have n0 := HN.out.cell 0 (.int .i64 0) rfl
  have n1 := HN.out.cell 1 (.int .i64 0) rfl
  have n2 := HN.out.cell 2 (.int .u64 0) rfl
  have n3 := HN.out.cell 3 (.int .u64 0) rfl
  go_wp2
  exact bodyPost_ret (results_ctO Tryz.results47 _ _ (w.heap.size + 1) _ (zN) (0, 0) _ (.int .i64 2) (by rfl) (by rfl) (set4T HR.out) Tryz.underlying61 (by rfl) infoR16) rfl ⟨rfl, below4N HB.out (by omega) _ _ _ _⟩

set_option maxRecDepth 100000 in
set_option maxHeartbeats 4000000 in
theorem r5b (a : Int) (w : World) : Calls Tryz.prog 47 #[.agg (condA a 5 0 18446744073709551614)] w fun e w' => e = .returned (.tuple #[.agg (condA a 1 0 18446744073709551615), .int .i64 0]) ∧ Below w.heap.size w w' := by
  obtain ⟨W0, hW0⟩ : ∃ W, (w.alloc (.cells (condA a 5 0 18446744073709551614) 61)).alloc (.cells zN 61) = W := ⟨_, rfl⟩
  obtain ⟨W1, hW1⟩ : ∃ W, W0.alloc (.cells zN 61) = W := ⟨_, rfl⟩
  have hs0 : W0.heap.size = w.heap.size + 2 := by rw [← hW0]; simp
  have HB := Lib.hid (show Below w.heap.size w W1 by rw [← hW1, ← hW0]; exact (((Below.refl _ _).alloc (Nat.le_refl _) _).alloc (by simp) _).alloc (by simp; omega) _)
  have HP := Lib.hid (show RowC W1 w.heap.size (condA a 5 0 18446744073709551614) 61 by rw [← hW1, ← hW0]; exact ((RowC.new _ _ _ _ rfl).alloc _).alloc _)
  have HR := Lib.hid (show RowC W1 (w.heap.size + 1) zN 61 by rw [← hW1, ← hW0]; exact (RowC.new _ _ _ _ (by simp)).alloc _)
  have HN := Lib.hid (show RowC W1 (w.heap.size + 2) zN 61 by rw [← hW1]; exact RowC.new _ _ _ _ hs0.symm)
  have HW0 := Lib.hid hW0
  have HW1 := Lib.hid hW1
  clear hW0 hW1
  go_enter Tryz.func47, Tryz.ntmps47
  go_upto_region 1 with fail
  rw [HW0.out]
  go_upto_region 2 with fail
  rw [HW1.out]
  have x0 := HP.out.cell 0 (.int .i64 a) rfl
  have x1 := HP.out.cell 1 (.int .i64 5) rfl
  have x2 := HP.out.cell 2 (.int .u64 0) rfl
  have x3 := HP.out.cell 3 (.int .u64 18446744073709551614) rfl
  have p1 := HP.out.frozen 1
  have p2 := HP.out.frozen 2
  have p3 := HP.out.frozen 3
  have z0 := HR.out.cell 0 (.int .i64 0) rfl
  have z1 := HR.out.cell 1 (.int .i64 0) rfl
  have z2 := HR.out.cell 2 (.int .u64 0) rfl
  have z3 := HR.out.cell 3 (.int .u64 0) rfl
  have y0 := HR.out.frozen 0
  have y1 := HR.out.frozen 1
  have y2 := HR.out.frozen 2
  have y3 := HR.out.frozen 3
  have n0 := HN.out.cell 0 (.int .i64 0) rfl
  have n1 := HN.out.cell 1 (.int .i64 0) rfl
  have n2 := HN.out.cell 2 (.int .u64 0) rfl
  have n3 := HN.out.cell 3 (.int .u64 0) rfl
  go_wp2
  exact bodyPost_ret (results_ctO Tryz.results47 _ _ (w.heap.size + 1) _ (condA a 1 0 18446744073709551615) (0, 0) _ (.int .i64 0) (by rfl) (by rfl) (set4T (((HR.out.setOther 1 _ (by omega)).setOther 3 _ (by omega)).setOther 1 _ (by omega))) Tryz.underlying61 (by rfl) infoR16) rfl ⟨rfl, below4N (((HB.out.setCell (Nat.le_refl _) _).setCell (Nat.le_refl _) _).setCell (Nat.le_refl _) _) (by omega) _ _ _ _⟩

set_option maxRecDepth 100000 in
set_option maxHeartbeats 4000000 in
theorem r5c (a : Int) (v : Nat) (q0 : ((v : Int) == 18446744073709551615) = false) (q1 : IntKind.u64.wrap ((v : Int) + 1) = (v : Int) + 1) (q2 : (((v : Int) + 1) == 0) = false) (q3 : (((v : Int) + 1) == 18446744073709551615) = false) (w : World) : Calls Tryz.prog 47 #[.agg (condA a 5 0 v)] w fun e w' => e = .returned (.tuple #[.agg (condA a 6 0 (v + 1 : Nat)), .int .i64 0]) ∧ Below w.heap.size w w' := by
  obtain ⟨W0, hW0⟩ : ∃ W, (w.alloc (.cells (condA a 5 0 v) 61)).alloc (.cells zN 61) = W := ⟨_, rfl⟩
  obtain ⟨W1, hW1⟩ : ∃ W, W0.alloc (.cells zN 61) = W := ⟨_, rfl⟩
  have hs0 : W0.heap.size = w.heap.size + 2 := by rw [← hW0]; simp
  have HB := Lib.hid (show Below w.heap.size w W1 by rw [← hW1, ← hW0]; exact (((Below.refl _ _).alloc (Nat.le_refl _) _).alloc (by simp) _).alloc (by simp; omega) _)
  have HP := Lib.hid (show RowC W1 w.heap.size (condA a 5 0 v) 61 by rw [← hW1, ← hW0]; exact ((RowC.new _ _ _ _ rfl).alloc _).alloc _)
  have HR := Lib.hid (show RowC W1 (w.heap.size + 1) zN 61 by rw [← hW1, ← hW0]; exact (RowC.new _ _ _ _ (by simp)).alloc _)
  have HN := Lib.hid (show RowC W1 (w.heap.size + 2) zN 61 by rw [← hW1]; exact RowC.new _ _ _ _ hs0.symm)
  have HW0 := Lib.hid hW0
  have HW1 := Lib.hid hW1
  clear hW0 hW1
  go_enter Tryz.func47, Tryz.ntmps47
  go_upto_region 1 with fail
  rw [HW0.out]
  go_upto_region 2 with fail
  rw [HW1.out]
  have x0 := HP.out.cell 0 (.int .i64 a) rfl
  have x1 := HP.out.cell 1 (.int .i64 5) rfl
  have x2 := HP.out.cell 2 (.int .u64 0) rfl
  have x3 := HP.out.cell 3 (.int .u64 v) rfl
  have p1 := HP.out.frozen 1
  have p2 := HP.out.frozen 2
  have p3 := HP.out.frozen 3
  have z0 := HR.out.cell 0 (.int .i64 0) rfl
  have z1 := HR.out.cell 1 (.int .i64 0) rfl
  have z2 := HR.out.cell 2 (.int .u64 0) rfl
  have z3 := HR.out.cell 3 (.int .u64 0) rfl
  have y0 := HR.out.frozen 0
  have y1 := HR.out.frozen 1
  have y2 := HR.out.frozen 2
  have y3 := HR.out.frozen 3
  have n0 := HN.out.cell 0 (.int .i64 0) rfl
  have n1 := HN.out.cell 1 (.int .i64 0) rfl
  have n2 := HN.out.cell 2 (.int .u64 0) rfl
  have n3 := HN.out.cell 3 (.int .u64 0) rfl
  go_wp2
  exact bodyPost_ret (results_ctO Tryz.results47 _ _ (w.heap.size + 1) _ (condA a 6 0 (v + 1 : Nat)) (0, 0) _ (.int .i64 0) (by rfl) (by rfl) (set4T ((HR.out.setOther 1 _ (by omega)).setOther 3 _ (by omega))) Tryz.underlying61 (by rfl) infoR16) rfl ⟨rfl, below4N ((HB.out.setCell (Nat.le_refl _) _).setCell (Nat.le_refl _) _) (by omega) _ _ _ _⟩

set_option maxRecDepth 100000 in
set_option maxHeartbeats 4000000 in
theorem r6a (a : Int) (w : World) : Calls Tryz.prog 47 #[.agg (condA a 6 0 0)] w fun e w' => e = .returned (.tuple #[.agg (zN), .int .i64 1]) ∧ Below w.heap.size w w' := by
  obtain ⟨W0, hW0⟩ : ∃ W, (w.alloc (.cells (condA a 6 0 0) 61)).alloc (.cells zN 61) = W := ⟨_, rfl⟩
  obtain ⟨W1, hW1⟩ : ∃ W, W0.alloc (.cells zN 61) = W := ⟨_, rfl⟩
  have hs0 : W0.heap.size = w.heap.size + 2 := by rw [← hW0]; simp
  have HB := Lib.hid (show Below w.heap.size w W1 by rw [← hW1, ← hW0]; exact (((Below.refl _ _).alloc (Nat.le_refl _) _).alloc (by simp) _).alloc (by simp; omega) _)
  have HP := Lib.hid (show RowC W1 w.heap.size (condA a 6 0 0) 61 by rw [← hW1, ← hW0]; exact ((RowC.new _ _ _ _ rfl).alloc _).alloc _)
  have HR := Lib.hid (show RowC W1 (w.heap.size + 1) zN 61 by rw [← hW1, ← hW0]; exact (RowC.new _ _ _ _ (by simp)).alloc _)
  have HN := Lib.hid (show RowC W1 (w.heap.size + 2) zN 61 by rw [← hW1]; exact RowC.new _ _ _ _ hs0.symm)
  have HW0 := Lib.hid hW0
  have HW1 := Lib.hid hW1
  clear hW0 hW1
  go_enter Tryz.func47, Tryz.ntmps47
  go_upto_region 1 with fail
  rw [HW0.out]
  go_upto_region 2 with fail
  rw [HW1.out]
  have x0 := HP.out.cell 0 (.int .i64 a) rfl
  have x1 := HP.out.cell 1 (.int .i64 6) rfl
  have x2 := HP.out.cell 2 (.int .u64 0) rfl
  have x3 := HP.out.cell 3 (.int .u64 0) rfl
  have p1 := HP.out.frozen 1
  have p2 := HP.out.frozen 2
  have p3 := HP.out.frozen 3
  have z0 := HR.out.cell 0 (.int .i64 0) rfl
  have z1 := HR.out.cell 1 (.int .i64 0) rfl
  have z2 := HR.out.cell 2 (.int .u64 0) rfl
  have z3 := HR.out.cell 3 (.int .u64 0) rfl
  have y0 := HR.out.frozen 0
  have y1 := HR.out.frozen 1
  have y2 := HR.out.frozen 2
  have y3 := HR.out.frozen 3
  have n0 := HN.out.cell 0 (.int .i64 0) rfl
  have n1 := HN.out.cell 1 (.int .i64 0) rfl
  have n2 := HN.out.cell 2 (.int .u64 0) rfl
  have n3 := HN.out.cell 3 (.int .u64 0) rfl
  go_wp2
  exact bodyPost_ret (results_ctO Tryz.results47 _ _ (w.heap.size + 1) _ (zN) (0, 0) _ (.int .i64 1) (by rfl) (by rfl) (set4T HR.out) Tryz.underlying61 (by rfl) infoR16) rfl ⟨rfl, below4N HB.out (by omega) _ _ _ _⟩

set_option maxRecDepth 100000 in
set_option maxHeartbeats 4000000 in
theorem r6b (a : Int) (w : World) : Calls Tryz.prog 47 #[.agg (condA a 6 0 18446744073709551615)] w fun e w' => e = .returned (.tuple #[.agg (condA a 1 0 18446744073709551615), .int .i64 0]) ∧ Below w.heap.size w w' := by
  obtain ⟨W0, hW0⟩ : ∃ W, (w.alloc (.cells (condA a 6 0 18446744073709551615) 61)).alloc (.cells zN 61) = W := ⟨_, rfl⟩
  obtain ⟨W1, hW1⟩ : ∃ W, W0.alloc (.cells zN 61) = W := ⟨_, rfl⟩
  have hs0 : W0.heap.size = w.heap.size + 2 := by rw [← hW0]; simp
  have HB := Lib.hid (show Below w.heap.size w W1 by rw [← hW1, ← hW0]; exact (((Below.refl _ _).alloc (Nat.le_refl _) _).alloc (by simp) _).alloc (by simp; omega) _)
  have HP := Lib.hid (show RowC W1 w.heap.size (condA a 6 0 18446744073709551615) 61 by rw [← hW1, ← hW0]; exact ((RowC.new _ _ _ _ rfl).alloc _).alloc _)
  have HR := Lib.hid (show RowC W1 (w.heap.size + 1) zN 61 by rw [← hW1, ← hW0]; exact (RowC.new _ _ _ _ (by simp)).alloc _)
  have HN := Lib.hid (show RowC W1 (w.heap.size + 2) zN 61 by rw [← hW1]; exact RowC.new _ _ _ _ hs0.symm)
  have HW0 := Lib.hid hW0
  have HW1 := Lib.hid hW1
  clear hW0 hW1
  go_enter Tryz.func47, Tryz.ntmps47
  go_upto_region 1 with fail
  rw [HW0.out]
  go_upto_region 2 with fail
  rw [HW1.out]
  have x0 := HP.out.cell 0 (.int .i64 a) rfl
  have x1 := HP.out.cell 1 (.int .i64 6) rfl
  have x2 := HP.out.cell 2 (.int .u64 0) rfl
  have x3 := HP.out.cell 3 (.int .u64 18446744073709551615) rfl
  have p1 := HP.out.frozen 1
  have p2 := HP.out.frozen 2
  have p3 := HP.out.frozen 3
  have z0 := HR.out.cell 0 (.int .i64 0) rfl
  have z1 := HR.out.cell 1 (.int .i64 0) rfl
  have z2 := HR.out.cell 2 (.int .u64 0) rfl
  have z3 := HR.out.cell 3 (.int .u64 0) rfl
  have y0 := HR.out.frozen 0
  have y1 := HR.out.frozen 1
  have y2 := HR.out.frozen 2
  have y3 := HR.out.frozen 3
  have n0 := HN.out.cell 0 (.int .i64 0) rfl
  have n1 := HN.out.cell 1 (.int .i64 0) rfl
  have n2 := HN.out.cell 2 (.int .u64 0) rfl
  have n3 := HN.out.cell 3 (.int .u64 0) rfl
  go_wp2
  exact bodyPost_ret (results_ctO Tryz.results47 _ _ (w.heap.size + 1) _ (condA a 1 0 18446744073709551615) (0, 0) _ (.int .i64 0) (by rfl) (by rfl) (set4T (HR.out.setOther 1 _ (by omega))) Tryz.underlying61 (by rfl) infoR16) rfl ⟨rfl, below4N (HB.out.setCell (Nat.le_refl _) _) (by omega) _ _ _ _⟩

set_option maxRecDepth 100000 in
set_option maxHeartbeats 4000000 in
theorem r6c (a : Int) (v : Nat) (q0 : ((v : Int) == 0) = false) (q1 : ((v : Int) == 18446744073709551615) = false) (w : World) : Calls Tryz.prog 47 #[.agg (condA a 6 0 v)] w fun e w' => e = .returned (.tuple #[.agg (condA a 6 0 v), .int .i64 0]) ∧ Below w.heap.size w w' := by
  obtain ⟨W0, hW0⟩ : ∃ W, (w.alloc (.cells (condA a 6 0 v) 61)).alloc (.cells zN 61) = W := ⟨_, rfl⟩
  obtain ⟨W1, hW1⟩ : ∃ W, W0.alloc (.cells zN 61) = W := ⟨_, rfl⟩
  have hs0 : W0.heap.size = w.heap.size + 2 := by rw [← hW0]; simp
  have HB := Lib.hid (show Below w.heap.size w W1 by rw [← hW1, ← hW0]; exact (((Below.refl _ _).alloc (Nat.le_refl _) _).alloc (by simp) _).alloc (by simp; omega) _)
  have HP := Lib.hid (show RowC W1 w.heap.size (condA a 6 0 v) 61 by rw [← hW1, ← hW0]; exact ((RowC.new _ _ _ _ rfl).alloc _).alloc _)
  have HR := Lib.hid (show RowC W1 (w.heap.size + 1) zN 61 by rw [← hW1, ← hW0]; exact (RowC.new _ _ _ _ (by simp)).alloc _)
  have HN := Lib.hid (show RowC W1 (w.heap.size + 2) zN 61 by rw [← hW1]; exact RowC.new _ _ _ _ hs0.symm)
  have HW0 := Lib.hid hW0
  have HW1 := Lib.hid hW1
  clear hW0 hW1
  go_enter Tryz.func47, Tryz.ntmps47
  go_upto_region 1 with fail
  rw [HW0.out]
  go_upto_region 2 with fail
  rw [HW1.out]
  have x0 := HP.out.cell 0 (.int .i64 a) rfl
  have x1 := HP.out.cell 1 (.int .i64 6) rfl
  have x2 := HP.out.cell 2 (.int .u64 0) rfl
  have x3 := HP.out.cell 3 (.int .u64 v) rfl
  have p1 := HP.out.frozen 1
  have p2 := HP.out.frozen 2
  have p3 := HP.out.frozen 3
  have z0 := HR.out.cell 0 (.int .i64 0) rfl
  have z1 := HR.out.cell 1 (.int .i64 0) rfl
  have z2 := HR.out.cell 2 (.int .u64 0) rfl
  have z3 := HR.out.cell 3 (.int .u64 0) rfl
  have y0 := HR.out.frozen 0
  have y1 := HR.out.frozen 1
  have y2 := HR.out.frozen 2
  have y3 := HR.out.frozen 3
  have n0 := HN.out.cell 0 (.int .i64 0) rfl
  have n1 := HN.out.cell 1 (.int .i64 0) rfl
  have n2 := HN.out.cell 2 (.int .u64 0) rfl
  have n3 := HN.out.cell 3 (.int .u64 0) rfl
  go_wp2
  exact bodyPost_ret (results_ctO Tryz.results47 _ _ (w.heap.size + 1) _ (condA a 6 0 v) (0, 0) _ (.int .i64 0) (by rfl) (by rfl) (set4T HR.out) Tryz.underlying61 (by rfl) infoR16) rfl ⟨rfl, below4N HB.out (by omega) _ _ _ _⟩

set_option maxRecDepth 100000 in
set_option maxHeartbeats 4000000 in
theorem r7a (a : Int) (m : Nat) (v : Nat) (q0 : (bits BinOp.or IntKind.u64 (v : Int) (m : Int) != (m : Int)) = true) (w : World) : Calls Tryz.prog 47 #[.agg (condA a 7 m v)] w fun e w' => e = .returned (.tuple #[.agg (zN), .int .i64 2]) ∧ Below w.heap.size w w' := by
  obtain ⟨W0, hW0⟩ : ∃ W, (w.alloc (.cells (condA a 7 m v) 61)).alloc (.cells zN 61) = W := ⟨_, rfl⟩
  obtain ⟨W1, hW1⟩ : ∃ W, W0.alloc (.cells zN 61) = W := ⟨_, rfl⟩
  have hs0 : W0.heap.size = w.heap.size + 2 := by rw [← hW0]; simp
  have HB := Lib.hid (show Below w.heap.size w W1 by rw [← hW1, ← hW0]; exact (((Below.refl _ _).alloc (Nat.le_refl _) _).alloc (by simp) _).alloc (by simp; omega) _)
  have HP := Lib.hid (show RowC W1 w.heap.size (condA a 7 m v) 61 by rw [← hW1, ← hW0]; exact ((RowC.new _ _ _ _ rfl).alloc _).alloc _)
  have HR := Lib.hid (show RowC W1 (w.heap.size + 1) zN 61 by rw [← hW1, ← hW0]; exact (RowC.new _ _ _ _ (by simp)).alloc _)
  have HN := Lib.hid (show RowC W1 (w.heap.size + 2) zN 61 by rw [← hW1]; exact RowC.new _ _ _ _ hs0.symm)
  have HW0 := Lib.hid hW0
  have HW1 := Lib.hid hW1
  clear hW0 hW1
  go_enter Tryz.func47, Tryz.ntmps47
  go_upto_region 1 with fail
  rw [HW0.out]
  go_upto_region 2 with fail
  rw [HW1.out]
  have x0 := HP.out.cell 0 (.int .i64 a) rfl
  have x1 := HP.out.cell 1 (.int .i64 7) rfl
  have x2 := HP.out.cell 2 (.int .u64 m) rfl
  have x3 := HP.out.cell 3 (.int .u64 v) rfl
  have p1 := HP.out.frozen 1
  have p2 := HP.out.frozen 2
  have p3 := HP.out.frozen 3
  have z0 := HR.out.cell 0 (.int .i64 0) rfl
  have z1 := HR.out.cell 1 (.int .i64 0) rfl
  have z2 := HR.out.cell 2 (.int .u64 0) rfl
  have z3 := HR.out.cell 3 (.int .u64 0) rfl
  have y0 := HR.out.frozen 0
  have y1 := HR.out.frozen 1
  have y2 := HR.out.frozen 2
  have y3 := HR.out.frozen 3
  have n0 := HN.out.cell 0 (.int .i64 0) rfl
  have n1 := HN.out.cell 1 (.int .i64 0) rfl
  have n2 := HN.out.cell 2 (.int .u64 0) rfl
  have n3 := HN.out.cell 3 (.int .u64 0) rfl
  go_wp2
  exact bodyPost_ret (results_ctO Tryz.results47 _ _ (w.heap.size + 1) _ (zN) (0, 0) _ (.int .i64 2) (by rfl) (by rfl) (set4T HR.out) Tryz.underlying61 (by rfl) infoR16) rfl ⟨rfl, below4N HB.out (by omega) _ _ _ _⟩

set_option maxRecDepth 100000 in
set_option maxHeartbeats 4000000 in
theorem r7b (a : Int) (m : Nat) (v : Nat) (q0 : (bits BinOp.or IntKind.u64 (v : Int) (m : Int) != (m : Int)) = false) (q1 : ((m : Int) == 0) = true) (w : World) : Calls Tryz.prog 47 #[.agg (condA a 7 m v)] w fun e w' => e = .returned (.tuple #[.agg (zN), .int .i64 1]) ∧ Below w.heap.size w w' := by
  obtain ⟨W0, hW0⟩ : ∃ W, (w.alloc (.cells (condA a 7 m v) 61)).alloc (.cells zN 61) = W := ⟨_, rfl⟩
  obtain ⟨W1, hW1⟩ : ∃ W, W0.alloc (.cells zN 61) = W := ⟨_, rfl⟩
  have hs0 : W0.heap.size = w.heap.size + 2 := by rw [← hW0]; simp
  have HB := Lib.hid (show Below w.heap.size w W1 by rw [← hW1, ← hW0]; exact (((Below.refl _ _).alloc (Nat.le_refl _) _).alloc (by simp) _).alloc (by simp; omega) _)
  have HP := Lib.hid (show RowC W1 w.heap.size (condA a 7 m v) 61 by rw [← hW1, ← hW0]; exact ((RowC.new _ _ _ _ rfl).alloc _).alloc _)
  have HR := Lib.hid (show RowC W1 (w.heap.size + 1) zN 61 by rw [← hW1, ← hW0]; exact (RowC.new _ _ _ _ (by simp)).alloc _)
  have HN := Lib.hid (show RowC W1 (w.heap.size + 2) zN 61 by rw [← hW1]; exact RowC.new _ _ _ _ hs0.symm)
  have HW0 := Lib.hid hW0
  have HW1 := Lib.hid hW1
  clear hW0 hW1
  go_enter Tryz.func47, Tryz.ntmps47
  go_upto_region 1 with fail
  rw [HW0.out]
  go_upto_region 2 with fail
  rw [HW1.out]
  have x0 := HP.out.cell 0 (.int .i64 a) rfl
  have x1 := HP.out.cell 1 (.int .i64 7) rfl
  have x2 := HP.out.cell 2 (.int .u64 m) rfl
  have x3 := HP.out.cell 3 (.int .u64 v) rfl
  have p1 := HP.out.frozen 1
  have p2 := HP.out.frozen 2
  have p3 := HP.out.frozen 3
  have z0 := HR.out.cell 0 (.int .i64 0) rfl
  have z1 := HR.out.cell 1 (.int .i64 0) rfl
  have z2 := HR.out.cell 2 (.int .u64 0) rfl
  have z3 := HR.out.cell 3 (.int .u64 0) rfl
  have y0 := HR.out.frozen 0
  have y1 := HR.out.frozen 1
  have y2 := HR.out.frozen 2
  have y3 := HR.out.frozen 3
  have n0 := HN.out.cell 0 (.int .i64 0) rfl
  have n1 := HN.out.cell 1 (.int .i64 0) rfl
  have n2 := HN.out.cell 2 (.int .u64 0) rfl
  have n3 := HN.out.cell 3 (.int .u64 0) rfl
  go_wp2
  exact bodyPost_ret (results_ctO Tryz.results47 _ _ (w.heap.size + 1) _ (zN) (0, 0) _ (.int .i64 1) (by rfl) (by rfl) (set4T HR.out) Tryz.underlying61 (by rfl) infoR16) rfl ⟨rfl, below4N HB.out (by omega) _ _ _ _⟩

set_option maxRecDepth 100000 in
set_option maxHeartbeats 4000000 in
theorem r7c (a : Int) (m : Nat) (v : Nat) (q0 : (bits BinOp.or IntKind.u64 (v : Int) (m : Int) != (m : Int)) = false) (q1 : ((m : Int) == 0) = false) (q2 : ((m : Int) == 18446744073709551615) = true) (w : World) : Calls Tryz.prog 47 #[.agg (condA a 7 m v)] w fun e w' => e = .returned (.tuple #[.agg (condA a 1 0 v), .int .i64 0]) ∧ Below w.heap.size w w' := by
  obtain ⟨W0, hW0⟩ : ∃ W, (w.alloc (.cells (condA a 7 m v) 61)).alloc (.cells zN 61) = W := ⟨_, rfl⟩
  obtain ⟨W1, hW1⟩ : ∃ W, W0.alloc (.cells zN 61) = W := ⟨_, rfl⟩
  have hs0 : W0.heap.size = w.heap.size + 2 := by rw [← hW0]; simp
  have HB := Lib.hid (show Below w.heap.size w W1 by rw [← hW1, ← hW0]; exact (((Below.refl _ _).alloc (Nat.le_refl _) _).alloc (by simp) _).alloc (by simp; omega) _)
  have HP := Lib.hid (show RowC W1 w.heap.size (condA a 7 m v) 61 by rw [← hW1, ← hW0]; exact ((RowC.new _ _ _ _ rfl).alloc _).alloc _)
  have HR := Lib.hid (show RowC W1 (w.heap.size + 1) zN 61 by rw [← hW1, ← hW0]; exact (RowC.new _ _ _ _ (by simp)).alloc _)
  have HN := Lib.hid (show RowC W1 (w.heap.size + 2) zN 61 by rw [← hW1]; exact RowC.new _ _ _ _ hs0.symm)
  have HW0 := Lib.hid hW0
  have HW1 := Lib.hid hW1
  clear hW0 hW1
  go_enter Tryz.func47, Tryz.ntmps47
  go_upto_region 1 with fail
  rw [HW0.out]
  go_upto_region 2 with fail
  rw [HW1.out]
  have x0 := HP.out.cell 0 (.int .i64 a) rfl
  have x1 := HP.out.cell 1 (.int .i64 7) rfl
  have x2 := HP.out.cell 2 (.int .u64 m) rfl
  have x3 := HP.out.cell 3 (.int .u64 v) rfl
  have p1 := HP.out.frozen 1
  have p2 := HP.out.frozen 2
  have p3 := HP.out.frozen 3
  have z0 := HR.out.cell 0 (.int .i64 0) rfl
  have z1 := HR.out.cell 1 (.int .i64 0) rfl
  have z2 := HR.out.cell 2 (.int .u64 0) rfl
  have z3 := HR.out.cell 3 (.int .u64 0) rfl
  have y0 := HR.out.frozen 0
  have y1 := HR.out.frozen 1
  have y2 := HR.out.frozen 2
  have y3 := HR.out.frozen 3
  have n0 := HN.out.cell 0 (.int .i64 0) rfl
  have n1 := HN.out.cell 1 (.int .i64 0) rfl
  have n2 := HN.out.cell 2 (.int .u64 0) rfl
  have n3 := HN.out.cell 3 (.int .u64 0) rfl
  go_wp2
  exact bodyPost_ret (results_ctO Tryz.results47 _ _ (w.heap.size + 1) _ (condA a 1 0 v) (0, 0) _ (.int .i64 0) (by rfl) (by rfl) (set4T ((HR.out.setOther 1 _ (by omega)).setOther 2 _ (by omega))) Tryz.underlying61 (by rfl) infoR16) rfl ⟨rfl, below4N ((HB.out.setCell (Nat.le_refl _) _).setCell (Nat.le_refl _) _) (by omega) _ _ _ _⟩

set_option maxRecDepth 100000 in
set_option maxHeartbeats 4000000 in
theorem r7d (a : Int) (m : Nat) (v : Nat) (q0 : (bits BinOp.or IntKind.u64 (v : Int) (m : Int) != (m : Int)) = false) (q1 : ((m : Int) == 0) = false) (q2 : ((m : Int) == 18446744073709551615) = false) (w : World) : Calls Tryz.prog 47 #[.agg (condA a 7 m v)] w fun e w' => e = .returned (.tuple #[.agg (condA a 7 m v), .int .i64 0]) ∧ Below w.heap.size w w' := by
  obtain ⟨W0, hW0⟩ : ∃ W, (w.alloc (.cells (condA a 7 m v) 61)).alloc (.cells zN 61) = W := ⟨_, rfl⟩
  obtain ⟨W1, hW1⟩ : ∃ W, W0.alloc (.cells zN 61) = W := ⟨_, rfl⟩
  have hs0 : W0.heap.size = w.heap.size + 2 := by rw [← hW0]; simp
  have HB := Lib.hid (show Below w.heap.size w W1 by rw [← hW1, ← hW0]; exact (((Below.refl _ _).alloc (Nat.le_refl _) _).alloc (by simp) _).alloc (by simp; omega) _)
  have HP := Lib.hid (show RowC W1 w.heap.size (condA a 7 m v) 61 by rw [← hW1, ← hW0]; exact ((RowC.new _ _ _ _ rfl).alloc _).alloc _)
  have HR := Lib.hid (show RowC W1 (w.heap.size + 1) zN 61 by rw [← hW1, ← hW0]; exact (RowC.new _ _ _ _ (by simp)).alloc _)
  have HN := Lib.hid (show RowC W1 (w.heap.size + 2) zN 61 by rw [← hW1]; exact RowC.new _ _ _ _ hs0.symm)
  have HW0 := Lib.hid hW0
  have HW1 := Lib.hid hW1
  clear hW0 hW1
  go_enter Tryz.func47, Tryz.ntmps47
  go_upto_region 1 with fail
  rw [HW0.out]
  go_upto_region 2 with fail
  rw [HW1.out]
  have x0 := HP.out.cell 0 (.int .i64 a) rfl
  have x1 := HP.out.cell 1 (.int .i64 7) rfl
  have x2 := HP.out.cell 2 (.int .u64 m) rfl
  have x3 := HP.out.cell 3 (.int .u64 v) rfl
  have p1 := HP.out.frozen 1
  have p2 := HP.out.frozen 2
  have p3 := HP.out.frozen 3
  have z0 := HR.out.cell 0 (.int .i64 0) rfl
  have z1 := HR.out.cell 1 (.int .i64 0) rfl
  have z2 := HR.out.cell 2 (.int .u64 0) rfl
  have z3 := HR.out.cell 3 (.int .u64 0) rfl
  have y0 := HR.out.frozen 0
  have y1 := HR.out.frozen 1
  have y2 := HR.out.frozen 2
  have y3 := HR.out.frozen 3
  have n0 := HN.out.cell 0 (.int .i64 0) rfl
  have n1 := HN.out.cell 1 (.int .i64 0) rfl
  have n2 := HN.out.cell 2 (.int .u64 0) rfl
  have n3 := HN.out.cell 3 (.int .u64 0) rfl
  go_wp2
  exact bodyPost_ret (results_ctO Tryz.results47 _ _ (w.heap.size + 1) _ (condA a 7 m v) (0, 0) _ (.int .i64 0) (by rfl) (by rfl) (set4T HR.out) Tryz.underlying61 (by rfl) infoR16) rfl ⟨rfl, below4N HB.out (by omega) _ _ _ _⟩

end Go.Proofs.YtcembcicpmhpkaaGreatDoor
