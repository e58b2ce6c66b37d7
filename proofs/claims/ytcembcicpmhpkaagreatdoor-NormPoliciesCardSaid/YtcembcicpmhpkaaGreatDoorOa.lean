/-
  Layer 16: what a condition becomes: each operator's form.
-/
import Derived.Test.YtcembcicpmhpkaaGreatDoorGe
import Derived.Laws.BitsAllLaws
import Derived.Deep.Cut
import Derived.Deep.CutRange
namespace Go.Proofs.YtcembcicpmhpkaaGreatDoor
open Go.RowKit Go.Shelf
set_option linter.unusedVariables false

abbrev zN : Array Value := #[.int .i64 0, .int .i64 0, .int .u64 0, .int .u64 0]
theorem infoN : (Tryz.prog.info? 62).map (·.size) = some 4 := by kernel_rfl
theorem set4N {w : World} {b : Nat} {x0 x1 x2 x3 y0 y1 y2 y3 : Value} (h : RowC w b #[x0, x1, x2, x3] 62) : RowC ((((w.setCell ⟨b, 0, none⟩ y0).setCell ⟨b, 1, none⟩ y1).setCell ⟨b, 2, none⟩ y2).setCell ⟨b, 3, none⟩ y3) b #[y0, y1, y2, y3] 62 := (((h.set 0 y0).set 1 y1).set 2 y2).set 3 y3
theorem below4N {w W : World} {B b : Nat} (hb : Below B w W) (h : B ≤ b) (y0 y1 y2 y3 : Value) : Below B w ((((W.setCell ⟨b, 0, none⟩ y0).setCell ⟨b, 1, none⟩ y1).setCell ⟨b, 2, none⟩ y2).setCell ⟨b, 3, none⟩ y3) := (((hb.setCell h _).setCell h _).setCell h _).setCell h _

set_option maxRecDepth 100000 in
set_option maxHeartbeats 2000000 in
theorem never_any (w : World) : Calls Tryz.prog 70 #[] w fun e w' => e = .returned (.tuple #[.agg zN, .int .i64 2]) ∧ Below w.heap.size w w' := by
  obtain ⟨W0, hW0⟩ : ∃ W, w.alloc (.cells zN 62) = W := ⟨_, rfl⟩
  have HB := Lib.hid (show Below w.heap.size w W0 by rw [← hW0]; exact (Below.refl _ _).alloc (Nat.le_refl _) _)
  have HR := Lib.hid (show RowC W0 w.heap.size zN 62 by rw [← hW0]; exact RowC.new _ _ _ _ rfl)
  have HW := Lib.hid hW0
  clear hW0
  go_enter Tryz.func70, Tryz.ntmps70
  go_upto_region 1 with fail
  rw [HW.out]
  have z0 := HR.out.cell 0 (.int .i64 0) rfl
  have z1 := HR.out.cell 1 (.int .i64 0) rfl
  have z2 := HR.out.cell 2 (.int .u64 0) rfl
  have z3 := HR.out.cell 3 (.int .u64 0) rfl
  have y0 := HR.out.frozen 0
  have y1 := HR.out.frozen 1
  have y2 := HR.out.frozen 2
  have y3 := HR.out.frozen 3
  go_wp2
  exact bodyPost_ret (results_ctO Tryz.results70 _ _ w.heap.size _ zN (0, 0) _ (.int .i64 2) (by rfl) (by rfl) (set4N HR.out) Tryz.underlying62 (by rfl) infoN) rfl ⟨rfl, below4N HB.out (Nat.le_refl _) _ _ _ _⟩

set_option maxRecDepth 100000 in
set_option maxHeartbeats 2000000 in
theorem always_any (w : World) : Calls Tryz.prog 135 #[] w fun e w' => e = .returned (.tuple #[.agg zN, .int .i64 1]) ∧ Below w.heap.size w w' := by
  obtain ⟨W0, hW0⟩ : ∃ W, w.alloc (.cells zN 62) = W := ⟨_, rfl⟩
  have HB := Lib.hid (show Below w.heap.size w W0 by rw [← hW0]; exact (Below.refl _ _).alloc (Nat.le_refl _) _)
  have HR := Lib.hid (show RowC W0 w.heap.size zN 62 by rw [← hW0]; exact RowC.new _ _ _ _ rfl)
  have HW := Lib.hid hW0
  clear hW0
  go_enter Tryz.func135, Tryz.ntmps135
  go_upto_region 1 with fail
  rw [HW.out]
  have z0 := HR.out.cell 0 (.int .i64 0) rfl
  have z1 := HR.out.cell 1 (.int .i64 0) rfl
  have z2 := HR.out.cell 2 (.int .u64 0) rfl
  have z3 := HR.out.cell 3 (.int .u64 0) rfl
  have y0 := HR.out.frozen 0
  have y1 := HR.out.frozen 1
  have y2 := HR.out.frozen 2
  have y3 := HR.out.frozen 3
  go_wp2
  exact bodyPost_ret (results_ctO Tryz.results135 _ _ w.heap.size _ zN (0, 0) _ (.int .i64 1) (by rfl) (by rfl) (set4N HR.out) Tryz.underlying62 (by rfl) infoN) rfl ⟨rfl, below4N HB.out (Nat.le_refl _) _ _ _ _⟩

theorem results_cN {P : Program} {fn : Func} {p : Tmp} {ty : TypeId} (h : fn.results = #[.cell p ty]) (tmps : Array Value) (w : World) (g : Nat) (t : TypeId) (cs : Array Value) (fr : Nat × Nat) (d : TypeDesc)
    (hp : tmps.getD p undef = .pointer (some ⟨g, 0, none⟩)) (hg : w.heap[g]? = some (.cells cs t fr))
    (hu : P.underlying ty = some d) (hd : (match d with | .struct _ | .array _ _ => true | _ => false) = true) (hi : (P.info? ty).map (·.size) = some cs.size) :
    (results fn tmps).run P w = .ok (.agg cs) w := by
  have hp' : tmps[p]?.getD undef = .pointer (some ⟨g, 0, none⟩) := by simpa using hp
  simp [results, h, hp', asAddr, run_loadVar_row w g t ty cs fr d hg hu hd hi]
set_option maxRecDepth 100000 in
set_option maxHeartbeats 2000000 in
theorem isN_any (a : Int) (v : Nat) (w : World) : Calls Tryz.prog 134 #[.int .i64 a, .int .u64 v] w fun e w' => e = .returned (.agg (condA a 1 0 v)) ∧ Below w.heap.size w w' := by
  obtain ⟨W0, hW0⟩ : ∃ W, w.alloc (.cells zN 62) = W := ⟨_, rfl⟩
  have HB := Lib.hid (show Below w.heap.size w W0 by rw [← hW0]; exact (Below.refl _ _).alloc (Nat.le_refl _) _)
  have HR := Lib.hid (show RowC W0 w.heap.size zN 62 by rw [← hW0]; exact RowC.new _ _ _ _ rfl)
  have HW := Lib.hid hW0
  clear hW0
  go_enter Tryz.func134, Tryz.ntmps134
  go_upto_region 1 with fail
  rw [HW.out]
  have z0 := HR.out.cell 0 (.int .i64 0) rfl
  have z1 := HR.out.cell 1 (.int .i64 0) rfl
  have z2 := HR.out.cell 2 (.int .u64 0) rfl
  have z3 := HR.out.cell 3 (.int .u64 0) rfl
  have y0 := HR.out.frozen 0
  have y1 := HR.out.frozen 1
  have y2 := HR.out.frozen 2
  have y3 := HR.out.frozen 3
  go_wp2
  exact bodyPost_ret (results_cN Tryz.results134 _ _ w.heap.size _ (condA a 1 0 v) (0, 0) _ (by rfl) (set4N HR.out) Tryz.underlying62 (by rfl) infoN) rfl ⟨rfl, below4N HB.out (Nat.le_refl _) _ _ _ _⟩

set_option maxRecDepth 100000 in
set_option maxHeartbeats 2000000 in
theorem asks_any (a o : Int) (m v : Nat) (w : World) : Calls Tryz.prog 96 #[.agg (condA a o m v)] w fun e w' => e = .returned (.tuple #[.agg (condA a o m v), .int .i64 0]) ∧ Below w.heap.size w w' := by
  obtain ⟨W0, hW0⟩ : ∃ W, (w.alloc (.cells (condA a o m v) 62)).alloc (.cells zN 62) = W := ⟨_, rfl⟩
  have HB0 := Lib.hid (show Below w.heap.size w W0 by rw [← hW0]; exact ((Below.refl _ _).alloc (Nat.le_refl _) _).alloc (by simp) _)
  have HP0 := Lib.hid (show RowC W0 w.heap.size (condA a o m v) 62 by rw [← hW0]; exact (RowC.new _ _ _ _ rfl).alloc _)
  have HR0 := Lib.hid (show RowC W0 (w.heap.size + 1) zN 62 by rw [← hW0]; exact RowC.new _ _ _ _ (by simp))
  have HW := Lib.hid hW0
  have x0 := HP0.out.cell 0 (.int .i64 a) rfl
  have x1 := HP0.out.cell 1 (.int .i64 o) rfl
  have x2 := HP0.out.cell 2 (.int .u64 m) rfl
  have x3 := HP0.out.cell 3 (.int .u64 v) rfl
  clear hW0
  go_enter Tryz.func96, Tryz.ntmps96
  go_upto_region 1 with fail
  rw [HW.out]
  have z0 := HR0.out.cell 0 (.int .i64 0) rfl
  have z1 := HR0.out.cell 1 (.int .i64 0) rfl
  have z2 := HR0.out.cell 2 (.int .u64 0) rfl
  have z3 := HR0.out.cell 3 (.int .u64 0) rfl
  have y0 := HR0.out.frozen 0
  have y1 := HR0.out.frozen 1
  have y2 := HR0.out.frozen 2
  have y3 := HR0.out.frozen 3
  go_wp2
  exact bodyPost_ret (results_ctO Tryz.results96 _ _ (w.heap.size + 1) _ (condA a o m v) (0, 0) _ (.int .i64 0) (by rfl) (by rfl) (set4N HR0.out) Tryz.underlying62 (by rfl) infoN) rfl ⟨rfl, below4N HB0.out (by omega) _ _ _ _⟩

/-- What a condition becomes: its cells, and its state. -/
def belF (a o : Int) (m v : Nat) : Array Value × Int := if v = 0 then (zN, 2) else if v = 1 then (condA a 1 0 0, 0) else (condA a o m v, 0)
def atlF (a o : Int) (m v : Nat) : Array Value × Int := if v = 0 then (zN, 1) else if v = 18446744073709551615 then (condA a 1 0 18446744073709551615, 0) else (condA a o m v, 0)
def atmF (a : Int) (v : Nat) : Array Value × Int := if v = 18446744073709551615 then (zN, 1) else belF a 3 0 (v + 1)
def aboF (a : Int) (v : Nat) : Array Value × Int := if v = 18446744073709551615 then (zN, 2) else atlF a 6 0 (v + 1)
def mskF (a o : Int) (m v : Nat) : Array Value × Int := if v &&& (18446744073709551615 - m) ≠ 0 then (zN, 2) else if m = 0 then (zN, 1) else if m = 18446744073709551615 then (condA a 1 0 v, 0) else (condA a o m v, 0)

set_option maxRecDepth 100000 in
set_option maxHeartbeats 4000000 in
theorem below_any (a o : Int) (m v : Nat) (w : World) : Calls Tryz.prog 97 #[.agg (condA a o m v)] w fun e w' => e = .returned (.tuple #[.agg (belF a o m v).1, .int .i64 (belF a o m v).2]) ∧ Below w.heap.size w w' := by
  obtain ⟨W0, hW0⟩ : ∃ W, (w.alloc (.cells (condA a o m v) 62)).alloc (.cells zN 62) = W := ⟨_, rfl⟩
  have HB0 := Lib.hid (show Below w.heap.size w W0 by rw [← hW0]; exact ((Below.refl _ _).alloc (Nat.le_refl _) _).alloc (by simp) _)
  have HP0 := Lib.hid (show RowC W0 w.heap.size (condA a o m v) 62 by rw [← hW0]; exact (RowC.new _ _ _ _ rfl).alloc _)
  have HR0 := Lib.hid (show RowC W0 (w.heap.size + 1) zN 62 by rw [← hW0]; exact RowC.new _ _ _ _ (by simp))
  have HW := Lib.hid hW0
  have x0 := HP0.out.cell 0 (.int .i64 a) rfl
  have x1 := HP0.out.cell 1 (.int .i64 o) rfl
  have x2 := HP0.out.cell 2 (.int .u64 m) rfl
  have x3 := HP0.out.cell 3 (.int .u64 v) rfl
  clear hW0
  by_cases h0 : v = 0
  · rw [show belF a o m v = (zN, 2) by unfold belF; rw [if_pos h0]]
    have q0 : ((v : Int) == 0) = true := beq_iff_eq.2 (by omega)
    clear h0
    go_enter Tryz.func97, Tryz.ntmps97
    go_upto_region 1 with fail
    rw [HW.out]
    go_wp2_with fail
    refine (never_any _).mono ?_
    rintro e w1 ⟨rfl, hB1⟩
    have HR1 := Lib.hid (HR0.out.below hB1 HR0.out.lt)
    have HP1 := Lib.hid (HP0.out.below hB1 HP0.out.lt)
    have HB1 := Lib.hid (HB0.out.trans (hB1.mono HB0.out.size))
    clear hB1
    have z0 := HR1.out.cell 0 (.int .i64 0) rfl
    have z1 := HR1.out.cell 1 (.int .i64 0) rfl
    have z2 := HR1.out.cell 2 (.int .u64 0) rfl
    have z3 := HR1.out.cell 3 (.int .u64 0) rfl
    have y0 := HR1.out.frozen 0
    have y1 := HR1.out.frozen 1
    have y2 := HR1.out.frozen 2
    have y3 := HR1.out.frozen 3
    go_wp2
    exact bodyPost_ret (results_ctO Tryz.results97 _ _ (w.heap.size + 1) _ zN (0, 0) _ (.int .i64 2) (by rfl) (by rfl) (set4N HR1.out) Tryz.underlying62 (by rfl) infoN) rfl ⟨rfl, below4N HB1.out (by omega) _ _ _ _⟩
  · by_cases h1 : v = 1
    · rw [show belF a o m v = (condA a 1 0 0, 0) by unfold belF; rw [if_neg h0, if_pos h1]]
      have q0 : ((v : Int) == 0) = false := beq_eq_false_iff_ne.2 (by omega)
      have q1 : ((v : Int) == 1) = true := beq_iff_eq.2 (by omega)
      clear h0 h1
      go_enter Tryz.func97, Tryz.ntmps97
      go_upto_region 1 with fail
      rw [HW.out]
      go_wp2_with fail
      refine (isN_any a 0 _).mono ?_
      rintro e w1 ⟨rfl, hB1⟩
      have HR1 := Lib.hid (HR0.out.below hB1 HR0.out.lt)
      have HP1 := Lib.hid (HP0.out.below hB1 HP0.out.lt)
      have HB1 := Lib.hid (HB0.out.trans (hB1.mono HB0.out.size))
      clear hB1
      go_wp2_with fail
      refine (asks_any a 1 0 0 _).mono ?_
      rintro e w2 ⟨rfl, hB2⟩
      have HR2 := Lib.hid (HR1.out.below hB2 HR1.out.lt)
      have HP2 := Lib.hid (HP1.out.below hB2 HP1.out.lt)
      have HB2 := Lib.hid (HB1.out.trans (hB2.mono HB1.out.size))
      clear hB2
      have z0 := HR2.out.cell 0 (.int .i64 0) rfl
      have z1 := HR2.out.cell 1 (.int .i64 0) rfl
      have z2 := HR2.out.cell 2 (.int .u64 0) rfl
      have z3 := HR2.out.cell 3 (.int .u64 0) rfl
      have y0 := HR2.out.frozen 0
      have y1 := HR2.out.frozen 1
      have y2 := HR2.out.frozen 2
      have y3 := HR2.out.frozen 3
      go_wp2
      exact bodyPost_ret (results_ctO Tryz.results97 _ _ (w.heap.size + 1) _ (condA a 1 0 0) (0, 0) _ (.int .i64 0) (by rfl) (by rfl) (set4N HR2.out) Tryz.underlying62 (by rfl) infoN) rfl ⟨rfl, below4N HB2.out (by omega) _ _ _ _⟩
    · rw [show belF a o m v = (condA a o m v, 0) by unfold belF; rw [if_neg h0, if_neg h1]]
      have q0 : ((v : Int) == 0) = false := beq_eq_false_iff_ne.2 (by omega)
      have q1 : ((v : Int) == 1) = false := beq_eq_false_iff_ne.2 (by omega)
      clear h0 h1
      go_enter Tryz.func97, Tryz.ntmps97
      go_upto_region 1 with fail
      rw [HW.out]
      go_wp2_with fail
      refine (asks_any a o m v _).mono ?_
      rintro e w1 ⟨rfl, hB1⟩
      have HR1 := Lib.hid (HR0.out.below hB1 HR0.out.lt)
      have HP1 := Lib.hid (HP0.out.below hB1 HP0.out.lt)
      have HB1 := Lib.hid (HB0.out.trans (hB1.mono HB0.out.size))
      clear hB1
      have z0 := HR1.out.cell 0 (.int .i64 0) rfl
      have z1 := HR1.out.cell 1 (.int .i64 0) rfl
      have z2 := HR1.out.cell 2 (.int .u64 0) rfl
      have z3 := HR1.out.cell 3 (.int .u64 0) rfl
      have y0 := HR1.out.frozen 0
      have y1 := HR1.out.frozen 1
      have y2 := HR1.out.frozen 2
      have y3 := HR1.out.frozen 3
      go_wp2
      exact bodyPost_ret (results_ctO Tryz.results97 _ _ (w.heap.size + 1) _ (condA a o m v) (0, 0) _ (.int .i64 0) (by rfl) (by rfl) (set4N HR1.out) Tryz.underlying62 (by rfl) infoN) rfl ⟨rfl, below4N HB1.out (by omega) _ _ _ _⟩

set_option maxRecDepth 100000 in
set_option maxHeartbeats 4000000 in
theorem atLeast_any (a o : Int) (m v : Nat) (w : World) : Calls Tryz.prog 100 #[.agg (condA a o m v)] w fun e w' => e = .returned (.tuple #[.agg (atlF a o m v).1, .int .i64 (atlF a o m v).2]) ∧ Below w.heap.size w w' := by
  obtain ⟨W0, hW0⟩ : ∃ W, (w.alloc (.cells (condA a o m v) 62)).alloc (.cells zN 62) = W := ⟨_, rfl⟩
  have HB0 := Lib.hid (show Below w.heap.size w W0 by rw [← hW0]; exact ((Below.refl _ _).alloc (Nat.le_refl _) _).alloc (by simp) _)
  have HP0 := Lib.hid (show RowC W0 w.heap.size (condA a o m v) 62 by rw [← hW0]; exact (RowC.new _ _ _ _ rfl).alloc _)
  have HR0 := Lib.hid (show RowC W0 (w.heap.size + 1) zN 62 by rw [← hW0]; exact RowC.new _ _ _ _ (by simp))
  have HW := Lib.hid hW0
  have x0 := HP0.out.cell 0 (.int .i64 a) rfl
  have x1 := HP0.out.cell 1 (.int .i64 o) rfl
  have x2 := HP0.out.cell 2 (.int .u64 m) rfl
  have x3 := HP0.out.cell 3 (.int .u64 v) rfl
  clear hW0
  by_cases h0 : v = 0
  · rw [show atlF a o m v = (zN, 1) by unfold atlF; rw [if_pos h0]]
    have q0 : ((v : Int) == 0) = true := beq_iff_eq.2 (by omega)
    clear h0
    go_enter Tryz.func100, Tryz.ntmps100
    go_upto_region 1 with fail
    rw [HW.out]
    go_wp2_with fail
    refine (always_any _).mono ?_
    rintro e w1 ⟨rfl, hB1⟩
    have HR1 := Lib.hid (HR0.out.below hB1 HR0.out.lt)
    have HP1 := Lib.hid (HP0.out.below hB1 HP0.out.lt)
    have HB1 := Lib.hid (HB0.out.trans (hB1.mono HB0.out.size))
    clear hB1
    have z0 := HR1.out.cell 0 (.int .i64 0) rfl
    have z1 := HR1.out.cell 1 (.int .i64 0) rfl
    have z2 := HR1.out.cell 2 (.int .u64 0) rfl
    have z3 := HR1.out.cell 3 (.int .u64 0) rfl
    have y0 := HR1.out.frozen 0
    have y1 := HR1.out.frozen 1
    have y2 := HR1.out.frozen 2
    have y3 := HR1.out.frozen 3
    go_wp2
    exact bodyPost_ret (results_ctO Tryz.results100 _ _ (w.heap.size + 1) _ zN (0, 0) _ (.int .i64 1) (by rfl) (by rfl) (set4N HR1.out) Tryz.underlying62 (by rfl) infoN) rfl ⟨rfl, below4N HB1.out (by omega) _ _ _ _⟩
  · by_cases h1 : v = 18446744073709551615
    · rw [show atlF a o m v = (condA a 1 0 18446744073709551615, 0) by unfold atlF; rw [if_neg h0, if_pos h1]]
      have q0 : ((v : Int) == 0) = false := beq_eq_false_iff_ne.2 (by omega)
      have q1 : ((v : Int) == 18446744073709551615) = true := beq_iff_eq.2 (by omega)
      clear h0 h1
      go_enter Tryz.func100, Tryz.ntmps100
      go_upto_region 1 with fail
      rw [HW.out]
      go_wp2_with fail
      refine (isN_any a 18446744073709551615 _).mono ?_
      rintro e w1 ⟨rfl, hB1⟩
      have HR1 := Lib.hid (HR0.out.below hB1 HR0.out.lt)
      have HP1 := Lib.hid (HP0.out.below hB1 HP0.out.lt)
      have HB1 := Lib.hid (HB0.out.trans (hB1.mono HB0.out.size))
      clear hB1
      go_wp2_with fail
      refine (asks_any a 1 0 18446744073709551615 _).mono ?_
      rintro e w2 ⟨rfl, hB2⟩
      have HR2 := Lib.hid (HR1.out.below hB2 HR1.out.lt)
      have HP2 := Lib.hid (HP1.out.below hB2 HP1.out.lt)
      have HB2 := Lib.hid (HB1.out.trans (hB2.mono HB1.out.size))
      clear hB2
      have z0 := HR2.out.cell 0 (.int .i64 0) rfl
      have z1 := HR2.out.cell 1 (.int .i64 0) rfl
      have z2 := HR2.out.cell 2 (.int .u64 0) rfl
      have z3 := HR2.out.cell 3 (.int .u64 0) rfl
      have y0 := HR2.out.frozen 0
      have y1 := HR2.out.frozen 1
      have y2 := HR2.out.frozen 2
      have y3 := HR2.out.frozen 3
      go_wp2
      exact bodyPost_ret (results_ctO Tryz.results100 _ _ (w.heap.size + 1) _ (condA a 1 0 18446744073709551615) (0, 0) _ (.int .i64 0) (by rfl) (by rfl) (set4N HR2.out) Tryz.underlying62 (by rfl) infoN) rfl ⟨rfl, below4N HB2.out (by omega) _ _ _ _⟩
    · rw [show atlF a o m v = (condA a o m v, 0) by unfold atlF; rw [if_neg h0, if_neg h1]]
      have q0 : ((v : Int) == 0) = false := beq_eq_false_iff_ne.2 (by omega)
      have q1 : ((v : Int) == 18446744073709551615) = false := beq_eq_false_iff_ne.2 (by omega)
      clear h0 h1
      go_enter Tryz.func100, Tryz.ntmps100
      go_upto_region 1 with fail
      rw [HW.out]
      go_wp2_with fail
      refine (asks_any a o m v _).mono ?_
      rintro e w1 ⟨rfl, hB1⟩
      have HR1 := Lib.hid (HR0.out.below hB1 HR0.out.lt)
      have HP1 := Lib.hid (HP0.out.below hB1 HP0.out.lt)
      have HB1 := Lib.hid (HB0.out.trans (hB1.mono HB0.out.size))
      clear hB1
      have z0 := HR1.out.cell 0 (.int .i64 0) rfl
      have z1 := HR1.out.cell 1 (.int .i64 0) rfl
      have z2 := HR1.out.cell 2 (.int .u64 0) rfl
      have z3 := HR1.out.cell 3 (.int .u64 0) rfl
      have y0 := HR1.out.frozen 0
      have y1 := HR1.out.frozen 1
      have y2 := HR1.out.frozen 2
      have y3 := HR1.out.frozen 3
      go_wp2
      exact bodyPost_ret (results_ctO Tryz.results100 _ _ (w.heap.size + 1) _ (condA a o m v) (0, 0) _ (.int .i64 0) (by rfl) (by rfl) (set4N HR1.out) Tryz.underlying62 (by rfl) infoN) rfl ⟨rfl, below4N HB1.out (by omega) _ _ _ _⟩

set_option maxRecDepth 100000 in
set_option maxHeartbeats 4000000 in
theorem atMost_any (a o : Int) (m v : Nat) (hv : v ≤ 18446744073709551615) (w : World) : Calls Tryz.prog 98 #[.agg (condA a o m v)] w fun e w' => e = .returned (.tuple #[.agg (atmF a v).1, .int .i64 (atmF a v).2]) ∧ Below w.heap.size w w' := by
  obtain ⟨W0, hW0⟩ : ∃ W, (w.alloc (.cells (condA a o m v) 62)).alloc (.cells zN 62) = W := ⟨_, rfl⟩
  have HB0 := Lib.hid (show Below w.heap.size w W0 by rw [← hW0]; exact ((Below.refl _ _).alloc (Nat.le_refl _) _).alloc (by simp) _)
  have HP0 := Lib.hid (show RowC W0 w.heap.size (condA a o m v) 62 by rw [← hW0]; exact (RowC.new _ _ _ _ rfl).alloc _)
  have HR0 := Lib.hid (show RowC W0 (w.heap.size + 1) zN 62 by rw [← hW0]; exact RowC.new _ _ _ _ (by simp))
  have HW := Lib.hid hW0
  have x0 := HP0.out.cell 0 (.int .i64 a) rfl
  have x1 := HP0.out.cell 1 (.int .i64 o) rfl
  have x2 := HP0.out.cell 2 (.int .u64 m) rfl
  have x3 := HP0.out.cell 3 (.int .u64 v) rfl
  clear hW0
  by_cases h0 : v = 18446744073709551615
  · rw [show atmF a v = (zN, 1) by unfold atmF; rw [if_pos h0]]
    have q0 : ((v : Int) == 18446744073709551615) = true := beq_iff_eq.2 (by omega)
    clear h0
    go_enter Tryz.func98, Tryz.ntmps98
    go_upto_region 1 with fail
    rw [HW.out]
    go_wp2_with fail
    refine (always_any _).mono ?_
    rintro e w1 ⟨rfl, hB1⟩
    have HR1 := Lib.hid (HR0.out.below hB1 HR0.out.lt)
    have HP1 := Lib.hid (HP0.out.below hB1 HP0.out.lt)
    have HB1 := Lib.hid (HB0.out.trans (hB1.mono HB0.out.size))
    clear hB1
    have z0 := HR1.out.cell 0 (.int .i64 0) rfl
    have z1 := HR1.out.cell 1 (.int .i64 0) rfl
    have z2 := HR1.out.cell 2 (.int .u64 0) rfl
    have z3 := HR1.out.cell 3 (.int .u64 0) rfl
    have y0 := HR1.out.frozen 0
    have y1 := HR1.out.frozen 1
    have y2 := HR1.out.frozen 2
    have y3 := HR1.out.frozen 3
    go_wp2
    exact bodyPost_ret (results_ctO Tryz.results98 _ _ (w.heap.size + 1) _ zN (0, 0) _ (.int .i64 1) (by rfl) (by rfl) (set4N HR1.out) Tryz.underlying62 (by rfl) infoN) rfl ⟨rfl, below4N HB1.out (by omega) _ _ _ _⟩
  · have q0 : ((v : Int) == 18446744073709551615) = false := beq_eq_false_iff_ne.2 (by omega)
    have t1 : IntKind.u64.wrap ((v : Int) + 1) = (v : Int) + 1 := IntWalk.u64_in _ (by omega)
    have HC := Lib.hid fun X => below_any a 3 0 (v + 1) X
    by_cases h1 : v = 0
    · rw [show belF a 3 0 (v + 1) = (condA a 1 0 0, 0) by unfold belF; rw [if_neg (by omega), if_pos (by omega)]] at HC
      rw [show atmF a v = (condA a 1 0 0, 0) by unfold atmF belF; rw [if_neg h0, if_neg (by omega), if_pos (by omega)]]
      clear h0 h1
      go_enter Tryz.func98, Tryz.ntmps98
      go_upto_region 1 with fail
      rw [HW.out]
      go_wp2_with fail
      refine (HC.out _).mono ?_
      rintro e w1 ⟨rfl, hB1⟩
      have HR1 := Lib.hid (HR0.out.below hB1 HR0.out.lt)
      have HP1 := Lib.hid (HP0.out.below hB1 HP0.out.lt)
      have HB1 := Lib.hid (HB0.out.trans (hB1.mono HB0.out.size))
      clear hB1
      have z0 := HR1.out.cell 0 (.int .i64 0) rfl
      have z1 := HR1.out.cell 1 (.int .i64 0) rfl
      have z2 := HR1.out.cell 2 (.int .u64 0) rfl
      have z3 := HR1.out.cell 3 (.int .u64 0) rfl
      have y0 := HR1.out.frozen 0
      have y1 := HR1.out.frozen 1
      have y2 := HR1.out.frozen 2
      have y3 := HR1.out.frozen 3
      go_wp2
      exact bodyPost_ret (results_ctO Tryz.results98 _ _ (w.heap.size + 1) _ (condA a 1 0 0) (0, 0) _ (.int .i64 0) (by rfl) (by rfl) (set4N HR1.out) Tryz.underlying62 (by rfl) infoN) rfl ⟨rfl, below4N HB1.out (by omega) _ _ _ _⟩
    · rw [show belF a 3 0 (v + 1) = (condA a 3 0 (v + 1 : Nat), 0) by unfold belF; rw [if_neg (by omega), if_neg (by omega)]] at HC
      rw [show atmF a v = (condA a 3 0 (v + 1 : Nat), 0) by unfold atmF belF; rw [if_neg h0, if_neg (by omega), if_neg (by omega)]]
      clear h0 h1
      go_enter Tryz.func98, Tryz.ntmps98
      go_upto_region 1 with fail
      rw [HW.out]
      go_wp2_with fail
      refine (HC.out _).mono ?_
      rintro e w1 ⟨rfl, hB1⟩
      have HR1 := Lib.hid (HR0.out.below hB1 HR0.out.lt)
      have HP1 := Lib.hid (HP0.out.below hB1 HP0.out.lt)
      have HB1 := Lib.hid (HB0.out.trans (hB1.mono HB0.out.size))
      clear hB1
      have z0 := HR1.out.cell 0 (.int .i64 0) rfl
      have z1 := HR1.out.cell 1 (.int .i64 0) rfl
      have z2 := HR1.out.cell 2 (.int .u64 0) rfl
      have z3 := HR1.out.cell 3 (.int .u64 0) rfl
      have y0 := HR1.out.frozen 0
      have y1 := HR1.out.frozen 1
      have y2 := HR1.out.frozen 2
      have y3 := HR1.out.frozen 3
      go_wp2
      exact bodyPost_ret (results_ctO Tryz.results98 _ _ (w.heap.size + 1) _ (condA a 3 0 (v + 1 : Nat)) (0, 0) _ (.int .i64 0) (by rfl) (by rfl) (set4N HR1.out) Tryz.underlying62 (by rfl) infoN) rfl ⟨rfl, below4N HB1.out (by omega) _ _ _ _⟩

set_option maxRecDepth 100000 in
set_option maxHeartbeats 4000000 in
theorem above_any (a o : Int) (m v : Nat) (hv : v ≤ 18446744073709551615) (w : World) : Calls Tryz.prog 99 #[.agg (condA a o m v)] w fun e w' => e = .returned (.tuple #[.agg (aboF a v).1, .int .i64 (aboF a v).2]) ∧ Below w.heap.size w w' := by
  obtain ⟨W0, hW0⟩ : ∃ W, (w.alloc (.cells (condA a o m v) 62)).alloc (.cells zN 62) = W := ⟨_, rfl⟩
  have HB0 := Lib.hid (show Below w.heap.size w W0 by rw [← hW0]; exact ((Below.refl _ _).alloc (Nat.le_refl _) _).alloc (by simp) _)
  have HP0 := Lib.hid (show RowC W0 w.heap.size (condA a o m v) 62 by rw [← hW0]; exact (RowC.new _ _ _ _ rfl).alloc _)
  have HR0 := Lib.hid (show RowC W0 (w.heap.size + 1) zN 62 by rw [← hW0]; exact RowC.new _ _ _ _ (by simp))
  have HW := Lib.hid hW0
  have x0 := HP0.out.cell 0 (.int .i64 a) rfl
  have x1 := HP0.out.cell 1 (.int .i64 o) rfl
  have x2 := HP0.out.cell 2 (.int .u64 m) rfl
  have x3 := HP0.out.cell 3 (.int .u64 v) rfl
  clear hW0
  by_cases h0 : v = 18446744073709551615
  · rw [show aboF a v = (zN, 2) by unfold aboF; rw [if_pos h0]]
    have q0 : ((v : Int) == 18446744073709551615) = true := beq_iff_eq.2 (by omega)
    clear h0
    go_enter Tryz.func99, Tryz.ntmps99
    go_upto_region 1 with fail
    rw [HW.out]
    go_wp2_with fail
    refine (never_any _).mono ?_
    rintro e w1 ⟨rfl, hB1⟩
    have HR1 := Lib.hid (HR0.out.below hB1 HR0.out.lt)
    have HP1 := Lib.hid (HP0.out.below hB1 HP0.out.lt)
    have HB1 := Lib.hid (HB0.out.trans (hB1.mono HB0.out.size))
    clear hB1
    have z0 := HR1.out.cell 0 (.int .i64 0) rfl
    have z1 := HR1.out.cell 1 (.int .i64 0) rfl
    have z2 := HR1.out.cell 2 (.int .u64 0) rfl
    have z3 := HR1.out.cell 3 (.int .u64 0) rfl
    have y0 := HR1.out.frozen 0
    have y1 := HR1.out.frozen 1
    have y2 := HR1.out.frozen 2
    have y3 := HR1.out.frozen 3
    go_wp2
    exact bodyPost_ret (results_ctO Tryz.results99 _ _ (w.heap.size + 1) _ zN (0, 0) _ (.int .i64 2) (by rfl) (by rfl) (set4N HR1.out) Tryz.underlying62 (by rfl) infoN) rfl ⟨rfl, below4N HB1.out (by omega) _ _ _ _⟩
  · have q0 : ((v : Int) == 18446744073709551615) = false := beq_eq_false_iff_ne.2 (by omega)
    have t1 : IntKind.u64.wrap ((v : Int) + 1) = (v : Int) + 1 := IntWalk.u64_in _ (by omega)
    have HC := Lib.hid fun X => atLeast_any a 6 0 (v + 1) X
    by_cases h1 : v + 1 = 18446744073709551615
    · rw [show atlF a 6 0 (v + 1) = (condA a 1 0 18446744073709551615, 0) by unfold atlF; rw [if_neg (by omega), if_pos h1]] at HC
      rw [show aboF a v = (condA a 1 0 18446744073709551615, 0) by unfold aboF atlF; rw [if_neg h0, if_neg (by omega), if_pos h1]]
      clear h0 h1
      go_enter Tryz.func99, Tryz.ntmps99
      go_upto_region 1 with fail
      rw [HW.out]
      go_wp2_with fail
      refine (HC.out _).mono ?_
      rintro e w1 ⟨rfl, hB1⟩
      have HR1 := Lib.hid (HR0.out.below hB1 HR0.out.lt)
      have HP1 := Lib.hid (HP0.out.below hB1 HP0.out.lt)
      have HB1 := Lib.hid (HB0.out.trans (hB1.mono HB0.out.size))
      clear hB1
      have z0 := HR1.out.cell 0 (.int .i64 0) rfl
      have z1 := HR1.out.cell 1 (.int .i64 0) rfl
      have z2 := HR1.out.cell 2 (.int .u64 0) rfl
      have z3 := HR1.out.cell 3 (.int .u64 0) rfl
      have y0 := HR1.out.frozen 0
      have y1 := HR1.out.frozen 1
      have y2 := HR1.out.frozen 2
      have y3 := HR1.out.frozen 3
      go_wp2
      exact bodyPost_ret (results_ctO Tryz.results99 _ _ (w.heap.size + 1) _ (condA a 1 0 18446744073709551615) (0, 0) _ (.int .i64 0) (by rfl) (by rfl) (set4N HR1.out) Tryz.underlying62 (by rfl) infoN) rfl ⟨rfl, below4N HB1.out (by omega) _ _ _ _⟩
    · rw [show atlF a 6 0 (v + 1) = (condA a 6 0 (v + 1 : Nat), 0) by unfold atlF; rw [if_neg (by omega), if_neg h1]] at HC
      rw [show aboF a v = (condA a 6 0 (v + 1 : Nat), 0) by unfold aboF atlF; rw [if_neg h0, if_neg (by omega), if_neg h1]]
      clear h0 h1
      go_enter Tryz.func99, Tryz.ntmps99
      go_upto_region 1 with fail
      rw [HW.out]
      go_wp2_with fail
      refine (HC.out _).mono ?_
      rintro e w1 ⟨rfl, hB1⟩
      have HR1 := Lib.hid (HR0.out.below hB1 HR0.out.lt)
      have HP1 := Lib.hid (HP0.out.below hB1 HP0.out.lt)
      have HB1 := Lib.hid (HB0.out.trans (hB1.mono HB0.out.size))
      clear hB1
      have z0 := HR1.out.cell 0 (.int .i64 0) rfl
      have z1 := HR1.out.cell 1 (.int .i64 0) rfl
      have z2 := HR1.out.cell 2 (.int .u64 0) rfl
      have z3 := HR1.out.cell 3 (.int .u64 0) rfl
      have y0 := HR1.out.frozen 0
      have y1 := HR1.out.frozen 1
      have y2 := HR1.out.frozen 2
      have y3 := HR1.out.frozen 3
      go_wp2
      exact bodyPost_ret (results_ctO Tryz.results99 _ _ (w.heap.size + 1) _ (condA a 6 0 (v + 1 : Nat)) (0, 0) _ (.int .i64 0) (by rfl) (by rfl) (set4N HR1.out) Tryz.underlying62 (by rfl) infoN) rfl ⟨rfl, below4N HB1.out (by omega) _ _ _ _⟩

set_option maxRecDepth 100000 in
set_option maxHeartbeats 4000000 in
theorem masked_any (a o : Int) (m v : Nat) (hm : m ≤ 18446744073709551615) (hv : v ≤ 18446744073709551615) (w : World) : Calls Tryz.prog 101 #[.agg (condA a o m v)] w fun e w' => e = .returned (.tuple #[.agg (mskF a o m v).1, .int .i64 (mskF a o m v).2]) ∧ Below w.heap.size w w' := by
  obtain ⟨W0, hW0⟩ : ∃ W, (w.alloc (.cells (condA a o m v) 62)).alloc (.cells zN 62) = W := ⟨_, rfl⟩
  have HB0 := Lib.hid (show Below w.heap.size w W0 by rw [← hW0]; exact ((Below.refl _ _).alloc (Nat.le_refl _) _).alloc (by simp) _)
  have HP0 := Lib.hid (show RowC W0 w.heap.size (condA a o m v) 62 by rw [← hW0]; exact (RowC.new _ _ _ _ rfl).alloc _)
  have HR0 := Lib.hid (show RowC W0 (w.heap.size + 1) zN 62 by rw [← hW0]; exact RowC.new _ _ _ _ (by simp))
  have HW := Lib.hid hW0
  have x0 := HP0.out.cell 0 (.int .i64 a) rfl
  have x1 := HP0.out.cell 1 (.int .i64 o) rfl
  have x2 := HP0.out.cell 2 (.int .u64 m) rfl
  have x3 := HP0.out.cell 3 (.int .u64 v) rfl
  clear hW0
  have qa := u64_andNot_nat v m (by omega) (by omega)
  obtain ⟨B, hB⟩ : ∃ B, v &&& (18446744073709551615 - m) = B := ⟨_, rfl⟩
  have hmf : mskF a o m v = if B ≠ 0 then (zN, 2) else if m = 0 then (zN, 1) else if m = 18446744073709551615 then (condA a 1 0 v, 0) else (condA a o m v, 0) := by rw [← hB]; rfl
  rw [show v &&& (18446744073709551615 - m) = B from hB] at qa
  rw [hmf]
  clear hmf hB
  by_cases h0 : B ≠ 0
  · rw [if_pos h0]
    have q0 : ((B : Int) != 0) = true := bne_iff_ne.2 (by omega)
    clear h0
    go_enter Tryz.func101, Tryz.ntmps101
    go_upto_region 1 with fail
    rw [HW.out]
    go_wp2_with fail
    refine (never_any _).mono ?_
    rintro e w1 ⟨rfl, hB1⟩
    have HR1 := Lib.hid (HR0.out.below hB1 HR0.out.lt)
    have HP1 := Lib.hid (HP0.out.below hB1 HP0.out.lt)
    have HB1 := Lib.hid (HB0.out.trans (hB1.mono HB0.out.size))
    clear hB1
    have z0 := HR1.out.cell 0 (.int .i64 0) rfl
    have z1 := HR1.out.cell 1 (.int .i64 0) rfl
    have z2 := HR1.out.cell 2 (.int .u64 0) rfl
    have z3 := HR1.out.cell 3 (.int .u64 0) rfl
    have y0 := HR1.out.frozen 0
    have y1 := HR1.out.frozen 1
    have y2 := HR1.out.frozen 2
    have y3 := HR1.out.frozen 3
    go_wp2
    exact bodyPost_ret (results_ctO Tryz.results101 _ _ (w.heap.size + 1) _ zN (0, 0) _ (.int .i64 2) (by rfl) (by rfl) (set4N HR1.out) Tryz.underlying62 (by rfl) infoN) rfl ⟨rfl, below4N HB1.out (by omega) _ _ _ _⟩
  · rw [if_neg h0]
    have q0 : ((B : Int) != 0) = false := by rw [bne_eq_false_iff_eq]; omega
    by_cases h1 : m = 0
    · rw [if_pos h1]
      have q1 : ((m : Int) == 0) = true := beq_iff_eq.2 (by omega)
      clear h0 h1
      go_enter Tryz.func101, Tryz.ntmps101
      go_upto_region 1 with fail
      rw [HW.out]
      go_wp2_with fail
      refine (always_any _).mono ?_
      rintro e w1 ⟨rfl, hB1⟩
      have HR1 := Lib.hid (HR0.out.below hB1 HR0.out.lt)
      have HP1 := Lib.hid (HP0.out.below hB1 HP0.out.lt)
      have HB1 := Lib.hid (HB0.out.trans (hB1.mono HB0.out.size))
      clear hB1
      have z0 := HR1.out.cell 0 (.int .i64 0) rfl
      have z1 := HR1.out.cell 1 (.int .i64 0) rfl
      have z2 := HR1.out.cell 2 (.int .u64 0) rfl
      have z3 := HR1.out.cell 3 (.int .u64 0) rfl
      have y0 := HR1.out.frozen 0
      have y1 := HR1.out.frozen 1
      have y2 := HR1.out.frozen 2
      have y3 := HR1.out.frozen 3
      go_wp2
      exact bodyPost_ret (results_ctO Tryz.results101 _ _ (w.heap.size + 1) _ zN (0, 0) _ (.int .i64 1) (by rfl) (by rfl) (set4N HR1.out) Tryz.underlying62 (by rfl) infoN) rfl ⟨rfl, below4N HB1.out (by omega) _ _ _ _⟩
    · rw [if_neg h1]
      have q1 : ((m : Int) == 0) = false := beq_eq_false_iff_ne.2 (by omega)
      by_cases h2 : m = 18446744073709551615
      · rw [if_pos h2]
        have q2 : ((m : Int) == 18446744073709551615) = true := beq_iff_eq.2 (by omega)
        clear h0 h1 h2
        go_enter Tryz.func101, Tryz.ntmps101
        go_upto_region 1 with fail
        rw [HW.out]
        go_wp2_with fail
        refine (isN_any a v _).mono ?_
        rintro e w1 ⟨rfl, hB1⟩
        have HR1 := Lib.hid (HR0.out.below hB1 HR0.out.lt)
        have HP1 := Lib.hid (HP0.out.below hB1 HP0.out.lt)
        have HB1 := Lib.hid (HB0.out.trans (hB1.mono HB0.out.size))
        clear hB1
        go_wp2_with fail
        refine (asks_any a 1 0 v _).mono ?_
        rintro e w2 ⟨rfl, hB2⟩
        have HR2 := Lib.hid (HR1.out.below hB2 HR1.out.lt)
        have HP2 := Lib.hid (HP1.out.below hB2 HP1.out.lt)
        have HB2 := Lib.hid (HB1.out.trans (hB2.mono HB1.out.size))
        clear hB2
        have z0 := HR2.out.cell 0 (.int .i64 0) rfl
        have z1 := HR2.out.cell 1 (.int .i64 0) rfl
        have z2 := HR2.out.cell 2 (.int .u64 0) rfl
        have z3 := HR2.out.cell 3 (.int .u64 0) rfl
        have y0 := HR2.out.frozen 0
        have y1 := HR2.out.frozen 1
        have y2 := HR2.out.frozen 2
        have y3 := HR2.out.frozen 3
        go_wp2
        exact bodyPost_ret (results_ctO Tryz.results101 _ _ (w.heap.size + 1) _ (condA a 1 0 v) (0, 0) _ (.int .i64 0) (by rfl) (by rfl) (set4N HR2.out) Tryz.underlying62 (by rfl) infoN) rfl ⟨rfl, below4N HB2.out (by omega) _ _ _ _⟩
      · rw [if_neg h2]
        have q2 : ((m : Int) == 18446744073709551615) = false := beq_eq_false_iff_ne.2 (by omega)
        clear h0 h1 h2
        go_enter Tryz.func101, Tryz.ntmps101
        go_upto_region 1 with fail
        rw [HW.out]
        go_wp2_with fail
        refine (asks_any a o m v _).mono ?_
        rintro e w1 ⟨rfl, hB1⟩
        have HR1 := Lib.hid (HR0.out.below hB1 HR0.out.lt)
        have HP1 := Lib.hid (HP0.out.below hB1 HP0.out.lt)
        have HB1 := Lib.hid (HB0.out.trans (hB1.mono HB0.out.size))
        clear hB1
        have z0 := HR1.out.cell 0 (.int .i64 0) rfl
        have z1 := HR1.out.cell 1 (.int .i64 0) rfl
        have z2 := HR1.out.cell 2 (.int .u64 0) rfl
        have z3 := HR1.out.cell 3 (.int .u64 0) rfl
        have y0 := HR1.out.frozen 0
        have y1 := HR1.out.frozen 1
        have y2 := HR1.out.frozen 2
        have y3 := HR1.out.frozen 3
        go_wp2
        exact bodyPost_ret (results_ctO Tryz.results101 _ _ (w.heap.size + 1) _ (condA a o m v) (0, 0) _ (.int .i64 0) (by rfl) (by rfl) (set4N HR1.out) Tryz.underlying62 (by rfl) infoN) rfl ⟨rfl, below4N HB1.out (by omega) _ _ _ _⟩

end Go.Proofs.YtcembcicpmhpkaaGreatDoor
