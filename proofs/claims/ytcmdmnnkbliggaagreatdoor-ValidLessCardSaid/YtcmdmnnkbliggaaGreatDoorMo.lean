/-
  Layer 16: what a condition becomes: each operator's form.
-/
import Derived.Test.YtcmdmnnkbliggaaGreatDoorGek
import Derived.Laws.BitsAllLaws
import Derived.Deep.Cut
import Derived.Deep.CutRange
import Derived.Shelf.Abstract
import Derived.RegionTactic
import Derived.Deep.RegionWith
import Derived.Deep.RegionHeld3
namespace Go.Proofs.YtcmdmnnkbliggaaGreatDoor
open Go.RowKit Go.Shelf
set_option linter.unusedVariables false

abbrev zN : Array Value := #[.int .i64 0, .int .i64 0, .int .u64 0, .int .u64 0]
theorem infoN : (Tryz.prog.info? 61).map (·.size) = some 4 := by kernel_rfl
theorem set4N {w : World} {b : Nat} {x0 x1 x2 x3 y0 y1 y2 y3 : Value} (h : RowC w b #[x0, x1, x2, x3] 61) : RowC ((((w.setCell ⟨b, 0, none⟩ y0).setCell ⟨b, 1, none⟩ y1).setCell ⟨b, 2, none⟩ y2).setCell ⟨b, 3, none⟩ y3) b #[y0, y1, y2, y3] 61 := (((h.set 0 y0).set 1 y1).set 2 y2).set 3 y3
theorem below4N {w W : World} {B b : Nat} (hb : Below B w W) (h : B ≤ b) (y0 y1 y2 y3 : Value) : Below B w ((((W.setCell ⟨b, 0, none⟩ y0).setCell ⟨b, 1, none⟩ y1).setCell ⟨b, 2, none⟩ y2).setCell ⟨b, 3, none⟩ y3) := (((hb.setCell h _).setCell h _).setCell h _).setCell h _

set_option maxRecDepth 100000 in
set_option maxHeartbeats 2000000 in
theorem never_any (w : World) : Calls Tryz.prog 181 #[] w fun e w' => e = .returned (.tuple #[.agg zN, .int .i64 2]) ∧ Below w.heap.size w w' := by
  obtain ⟨W0, hW0⟩ : ∃ W, w.alloc (.cells zN 61) = W := ⟨_, rfl⟩
  have HB := Lib.hid (show Below w.heap.size w W0 by rw [← hW0]; exact (Below.refl _ _).alloc (Nat.le_refl _) _)
  have HR := Lib.hid (show RowC W0 w.heap.size zN 61 by rw [← hW0]; exact RowC.new _ _ _ _ rfl)
  have HW := Lib.hid hW0
  clear hW0
  go_enter Tryz.func181, Tryz.ntmps181
  go_upto_region 1 with fail
  rw [HW.out]
  have z0 := HR.out.cell 0 (.int .i64 0) rfl
  have z1 := HR.out.cell 1 (.int .i64 0) rfl
  have z2 := HR.out.cell 2 (.int .u64 0) rfl
  have z3 := HR.out.cell 3 (.int .u64 0) rfl
  have y0 := HR.out.frozen 0
  have y1 := HR.out.frozen 1
  have y2 := HR.out.frozen 2
  have y3 := HR.out.frozen 3
  go_wp2
  exact bodyPost_ret (results_ctO Tryz.results181 _ _ w.heap.size _ zN (0, 0) _ (.int .i64 2) (by rfl) (by rfl) (set4N HR.out) Tryz.underlying61 (by rfl) infoN) rfl ⟨rfl, below4N HB.out (Nat.le_refl _) _ _ _ _⟩

set_option maxRecDepth 100000 in
set_option maxHeartbeats 2000000 in
theorem always_any (w : World) : Calls Tryz.prog 265 #[] w fun e w' => e = .returned (.tuple #[.agg zN, .int .i64 1]) ∧ Below w.heap.size w w' := by
  obtain ⟨W0, hW0⟩ : ∃ W, w.alloc (.cells zN 61) = W := ⟨_, rfl⟩
  have HB := Lib.hid (show Below w.heap.size w W0 by rw [← hW0]; exact (Below.refl _ _).alloc (Nat.le_refl _) _)
  have HR := Lib.hid (show RowC W0 w.heap.size zN 61 by rw [← hW0]; exact RowC.new _ _ _ _ rfl)
  have HW := Lib.hid hW0
  clear hW0
  go_enter Tryz.func265, Tryz.ntmps265
  go_upto_region 1 with fail
  rw [HW.out]
  have z0 := HR.out.cell 0 (.int .i64 0) rfl
  have z1 := HR.out.cell 1 (.int .i64 0) rfl
  have z2 := HR.out.cell 2 (.int .u64 0) rfl
  have z3 := HR.out.cell 3 (.int .u64 0) rfl
  have y0 := HR.out.frozen 0
  have y1 := HR.out.frozen 1
  have y2 := HR.out.frozen 2
  have y3 := HR.out.frozen 3
  go_wp2
  exact bodyPost_ret (results_ctO Tryz.results265 _ _ w.heap.size _ zN (0, 0) _ (.int .i64 1) (by rfl) (by rfl) (set4N HR.out) Tryz.underlying61 (by rfl) infoN) rfl ⟨rfl, below4N HB.out (Nat.le_refl _) _ _ _ _⟩

theorem results_cN {P : Program} {fn : Func} {p : Tmp} {ty : TypeId} (h : fn.results = #[.cell p ty]) (tmps : Array Value) (w : World) (g : Nat) (t : TypeId) (cs : Array Value) (fr : Nat × Nat) (d : TypeDesc)
    (hp : tmps.getD p undef = .pointer (some ⟨g, 0, none⟩)) (hg : w.heap[g]? = some (.cells cs t fr))
    (hu : P.underlying ty = some d) (hd : (match d with | .struct _ | .array _ _ => true | _ => false) = true) (hi : (P.info? ty).map (·.size) = some cs.size) :
    (results fn tmps).run P w = .ok (.agg cs) w := by
  have hp' : tmps[p]?.getD undef = .pointer (some ⟨g, 0, none⟩) := by simpa using hp
  simp [results, h, hp', asAddr, run_loadVar_row w g t ty cs fr d hg hu hd hi]
set_option maxRecDepth 100000 in
set_option maxHeartbeats 2000000 in
theorem isN_any (a : Int) (v : Nat) (w : World) : Calls Tryz.prog 264 #[.int .i64 a, .int .u64 v] w fun e w' => e = .returned (.agg (condA a 1 0 v)) ∧ Below w.heap.size w w' := by
  obtain ⟨W0, hW0⟩ : ∃ W, w.alloc (.cells zN 61) = W := ⟨_, rfl⟩
  have HB := Lib.hid (show Below w.heap.size w W0 by rw [← hW0]; exact (Below.refl _ _).alloc (Nat.le_refl _) _)
  have HR := Lib.hid (show RowC W0 w.heap.size zN 61 by rw [← hW0]; exact RowC.new _ _ _ _ rfl)
  have HW := Lib.hid hW0
  clear hW0
  go_enter Tryz.func264, Tryz.ntmps264
  go_upto_region 1 with fail
  rw [HW.out]
  have z0 := HR.out.cell 0 (.int .i64 0) rfl
  have z1 := HR.out.cell 1 (.int .i64 0) rfl
  have z2 := HR.out.cell 2 (.int .u64 0) rfl
  have z3 := HR.out.cell 3 (.int .u64 0) rfl
  have y0 := HR.out.frozen 0
  have y1 := HR.out.frozen 1
  have y2 := HR.out.frozen 2
  have y3 := HR.out.frozen 3
  go_wp2
  exact bodyPost_ret (results_cN Tryz.results264 _ _ w.heap.size _ (condA a 1 0 v) (0, 0) _ (by rfl) (set4N HR.out) Tryz.underlying61 (by rfl) infoN) rfl ⟨rfl, below4N HB.out (Nat.le_refl _) _ _ _ _⟩

set_option maxRecDepth 100000 in
set_option maxHeartbeats 2000000 in
theorem asks_any (a o : Int) (m v : Nat) (w : World) : Calls Tryz.prog 223 #[.agg (condA a o m v)] w fun e w' => e = .returned (.tuple #[.agg (condA a o m v), .int .i64 0]) ∧ Below w.heap.size w w' := by
  obtain ⟨W0, hW0⟩ : ∃ W, (w.alloc (.cells (condA a o m v) 61)).alloc (.cells zN 61) = W := ⟨_, rfl⟩
  have HB0 := Lib.hid (show Below w.heap.size w W0 by rw [← hW0]; exact ((Below.refl _ _).alloc (Nat.le_refl _) _).alloc (by simp) _)
  have HP0 := Lib.hid (show RowC W0 w.heap.size (condA a o m v) 61 by rw [← hW0]; exact (RowC.new _ _ _ _ rfl).alloc _)
  have HR0 := Lib.hid (show RowC W0 (w.heap.size + 1) zN 61 by rw [← hW0]; exact RowC.new _ _ _ _ (by simp))
  have HW := Lib.hid hW0
  have x0 := HP0.out.cell 0 (.int .i64 a) rfl
  have x1 := HP0.out.cell 1 (.int .i64 o) rfl
  have x2 := HP0.out.cell 2 (.int .u64 m) rfl
  have x3 := HP0.out.cell 3 (.int .u64 v) rfl
  clear hW0
  go_enter Tryz.func223, Tryz.ntmps223
  go_upto_region 1 with fail
  rw [HW.out]
  have z0 := HR0.out.cell 0 (.int .i64 0) rfl
  have z1 := HR0.out.cell 1 (.int .i64 0) rfl
  have z2 := HR0.out.cell 2 (.int .u64 0) rfl
  have z3 := HR0.out.cell 3 (.int .u64 0) rfl
  have y0 := HR0.out.frozen 0
  have y1 := HR0.out.frozen 1
  have y2 := HR0.out.frozen 2
  have y3 := HR0.out.frozen 3
  go_wp2
  exact bodyPost_ret (results_ctO Tryz.results223 _ _ (w.heap.size + 1) _ (condA a o m v) (0, 0) _ (.int .i64 0) (by rfl) (by rfl) (set4N HR0.out) Tryz.underlying61 (by rfl) infoN) rfl ⟨rfl, below4N HB0.out (by omega) _ _ _ _⟩

/-- What a condition becomes: its cells, and its state. -/
def belF (a o : Int) (m v : Nat) : Array Value × Int := if v = 0 then (zN, 2) else if v = 1 then (condA a 1 0 0, 0) else (condA a o m v, 0)
def atlF (a o : Int) (m v : Nat) : Array Value × Int := if v = 0 then (zN, 1) else if v = 18446744073709551615 then (condA a 1 0 18446744073709551615, 0) else (condA a o m v, 0)
def atmF (a : Int) (v : Nat) : Array Value × Int := if v = 18446744073709551615 then (zN, 1) else belF a 3 0 (v + 1)
def aboF (a : Int) (v : Nat) : Array Value × Int := if v = 18446744073709551615 then (zN, 2) else atlF a 6 0 (v + 1)
def mskF (a o : Int) (m v : Nat) : Array Value × Int := if v &&& (18446744073709551615 - m) ≠ 0 then (zN, 2) else if m = 0 then (zN, 1) else if m = 18446744073709551615 then (condA a 1 0 v, 0) else (condA a o m v, 0)

set_option maxRecDepth 100000 in
set_option maxHeartbeats 4000000 in
theorem below_any (a o : Int) (m v : Nat) (w : World) : Calls Tryz.prog 224 #[.agg (condA a o m v)] w fun e w' => e = .returned (.tuple #[.agg (belF a o m v).1, .int .i64 (belF a o m v).2]) ∧ Below w.heap.size w w' := by
  obtain ⟨W0, hW0⟩ : ∃ W, (w.alloc (.cells (condA a o m v) 61)).alloc (.cells zN 61) = W := ⟨_, rfl⟩
  have HB0 := Lib.hid (show Below w.heap.size w W0 by rw [← hW0]; exact ((Below.refl _ _).alloc (Nat.le_refl _) _).alloc (by simp) _)
  have HP0 := Lib.hid (show RowC W0 w.heap.size (condA a o m v) 61 by rw [← hW0]; exact (RowC.new _ _ _ _ rfl).alloc _)
  have HR0 := Lib.hid (show RowC W0 (w.heap.size + 1) zN 61 by rw [← hW0]; exact RowC.new _ _ _ _ (by simp))
  have HW := Lib.hid hW0
  have x0 := HP0.out.cell 0 (.int .i64 a) rfl
  have x1 := HP0.out.cell 1 (.int .i64 o) rfl
  have x2 := HP0.out.cell 2 (.int .u64 m) rfl
  have x3 := HP0.out.cell 3 (.int .u64 v) rfl
  clear hW0
  by_cases h0 : v = 0
  · rw [show belF a o m v = (zN, 2) by unfold belF; rw [if_pos h0]]
    have q0 : ((v : Int) == 0) = true := beq_iff_eq.2 (by omega)
    clear h0
    go_enter Tryz.func224, Tryz.ntmps224
    go_upto_region 1 with fail
    rw [HW.out]
    go_wp2_with fail
    refine (never_any _).mono ?_
    rintro e w1 ⟨rfl, hB1⟩
    have HR1 := Lib.hid (HR0.out.below hB1 HR0.out.lt)
    have HP1 := Lib.hid (HP0.out.below hB1 HP0.out.lt)
    have HB1 := Lib.hid (HB0.out.trans (hB1.mono HB0.out.size))
    clear hB1
    have z0 := HR1.out.cell 0 (.int .i64 0) rfl
    have z1 := HR1.out.cell 1 (.int .i64 0) rfl
    have z2 := HR1.out.cell 2 (.int .u64 0) rfl
    have z3 := HR1.out.cell 3 (.int .u64 0) rfl
    have y0 := HR1.out.frozen 0
    have y1 := HR1.out.frozen 1
    have y2 := HR1.out.frozen 2
    have y3 := HR1.out.frozen 3
    go_wp2
    exact bodyPost_ret (results_ctO Tryz.results224 _ _ (w.heap.size + 1) _ zN (0, 0) _ (.int .i64 2) (by rfl) (by rfl) (set4N HR1.out) Tryz.underlying61 (by rfl) infoN) rfl ⟨rfl, below4N HB1.out (by omega) _ _ _ _⟩
  · by_cases h1 : v = 1
    · rw [show belF a o m v = (condA a 1 0 0, 0) by unfold belF; rw [if_neg h0, if_pos h1]]
      have q0 : ((v : Int) == 0) = false := beq_eq_false_iff_ne.2 (by omega)
      have q1 : ((v : Int) == 1) = true := beq_iff_eq.2 (by omega)
      clear h0 h1
      go_enter Tryz.func224, Tryz.ntmps224
      go_upto_region 1 with fail
      rw [HW.out]
      go_wp2_with fail
      refine (isN_any a 0 _).mono ?_
      rintro e w1 ⟨rfl, hB1⟩
      have HR1 := Lib.hid (HR0.out.below hB1 HR0.out.lt)
      have HP1 := Lib.hid (HP0.out.below hB1 HP0.out.lt)
      have HB1 := Lib.hid (HB0.out.trans (hB1.mono HB0.out.size))
      clear hB1
      go_wp2_with fail
      refine (asks_any a 1 0 0 _).mono ?_
      rintro e w2 ⟨rfl, hB2⟩
      have HR2 := Lib.hid (HR1.out.below hB2 HR1.out.lt)
      have HP2 := Lib.hid (HP1.out.below hB2 HP1.out.lt)
      have HB2 := Lib.hid (HB1.out.trans (hB2.mono HB1.out.size))
      clear hB2
      have z0 := HR2.out.cell 0 (.int .i64 0) rfl
      have z1 := HR2.out.cell 1 (.int .i64 0) rfl
      have z2 := HR2.out.cell 2 (.int .u64 0) rfl
      have z3 := HR2.out.cell 3 (.int .u64 0) rfl
      have y0 := HR2.out.frozen 0
      have y1 := HR2.out.frozen 1
      have y2 := HR2.out.frozen 2
      have y3 := HR2.out.frozen 3
      go_wp2
      exact bodyPost_ret (results_ctO Tryz.results224 _ _ (w.heap.size + 1) _ (condA a 1 0 0) (0, 0) _ (.int .i64 0) (by rfl) (by rfl) (set4N HR2.out) Tryz.underlying61 (by rfl) infoN) rfl ⟨rfl, below4N HB2.out (by omega) _ _ _ _⟩
    · rw [show belF a o m v = (condA a o m v, 0) by unfold belF; rw [if_neg h0, if_neg h1]]
      have q0 : ((v : Int) == 0) = false := beq_eq_false_iff_ne.2 (by omega)
      have q1 : ((v : Int) == 1) = false := beq_eq_false_iff_ne.2 (by omega)
      clear h0 h1
      go_enter Tryz.func224, Tryz.ntmps224
      go_upto_region 1 with fail
      rw [HW.out]
      go_wp2_with fail
      refine (asks_any a o m v _).mono ?_
      rintro e w1 ⟨rfl, hB1⟩
      have HR1 := Lib.hid (HR0.out.below hB1 HR0.out.lt)
      have HP1 := Lib.hid (HP0.out.below hB1 HP0.out.lt)
      have HB1 := Lib.hid (HB0.out.trans (hB1.mono HB0.out.size))
      clear hB1
      have z0 := HR1.out.cell 0 (.int .i64 0) rfl
      have z1 := HR1.out.cell 1 (.int .i64 0) rfl
      have z2 := HR1.out.cell 2 (.int .u64 0) rfl
      have z3 := HR1.out.cell 3 (.int .u64 0) rfl
      have y0 := HR1.out.frozen 0
      have y1 := HR1.out.frozen 1
      have y2 := HR1.out.frozen 2
      have y3 := HR1.out.frozen 3
      go_wp2
      exact bodyPost_ret (results_ctO Tryz.results224 _ _ (w.heap.size + 1) _ (condA a o m v) (0, 0) _ (.int .i64 0) (by rfl) (by rfl) (set4N HR1.out) Tryz.underlying61 (by rfl) infoN) rfl ⟨rfl, below4N HB1.out (by omega) _ _ _ _⟩

set_option maxRecDepth 100000 in
set_option maxHeartbeats 4000000 in
theorem atLeast_any (a o : Int) (m v : Nat) (w : World) : Calls Tryz.prog 227 #[.agg (condA a o m v)] w fun e w' => e = .returned (.tuple #[.agg (atlF a o m v).1, .int .i64 (atlF a o m v).2]) ∧ Below w.heap.size w w' := by
  obtain ⟨W0, hW0⟩ : ∃ W, (w.alloc (.cells (condA a o m v) 61)).alloc (.cells zN 61) = W := ⟨_, rfl⟩
  have HB0 := Lib.hid (show Below w.heap.size w W0 by rw [← hW0]; exact ((Below.refl _ _).alloc (Nat.le_refl _) _).alloc (by simp) _)
  have HP0 := Lib.hid (show RowC W0 w.heap.size (condA a o m v) 61 by rw [← hW0]; exact (RowC.new _ _ _ _ rfl).alloc _)
  have HR0 := Lib.hid (show RowC W0 (w.heap.size + 1) zN 61 by rw [← hW0]; exact RowC.new _ _ _ _ (by simp))
  have HW := Lib.hid hW0
  have x0 := HP0.out.cell 0 (.int .i64 a) rfl
  have x1 := HP0.out.cell 1 (.int .i64 o) rfl
  have x2 := HP0.out.cell 2 (.int .u64 m) rfl
  have x3 := HP0.out.cell 3 (.int .u64 v) rfl
  clear hW0
  by_cases h0 : v = 0
  · rw [show atlF a o m v = (zN, 1) by unfold atlF; rw [if_pos h0]]
    have q0 : ((v : Int) == 0) = true := beq_iff_eq.2 (by omega)
    clear h0
    go_enter Tryz.func227, Tryz.ntmps227
    go_upto_region 1 with fail
    rw [HW.out]
    go_wp2_with fail
    refine (always_any _).mono ?_
    rintro e w1 ⟨rfl, hB1⟩
    have HR1 := Lib.hid (HR0.out.below hB1 HR0.out.lt)
    have HP1 := Lib.hid (HP0.out.below hB1 HP0.out.lt)
    have HB1 := Lib.hid (HB0.out.trans (hB1.mono HB0.out.size))
    clear hB1
    have z0 := HR1.out.cell 0 (.int .i64 0) rfl
    have z1 := HR1.out.cell 1 (.int .i64 0) rfl
    have z2 := HR1.out.cell 2 (.int .u64 0) rfl
    have z3 := HR1.out.cell 3 (.int .u64 0) rfl
    have y0 := HR1.out.frozen 0
    have y1 := HR1.out.frozen 1
    have y2 := HR1.out.frozen 2
    have y3 := HR1.out.frozen 3
    go_wp2
    exact bodyPost_ret (results_ctO Tryz.results227 _ _ (w.heap.size + 1) _ zN (0, 0) _ (.int .i64 1) (by rfl) (by rfl) (set4N HR1.out) Tryz.underlying61 (by rfl) infoN) rfl ⟨rfl, below4N HB1.out (by omega) _ _ _ _⟩
  · by_cases h1 : v = 18446744073709551615
    · rw [show atlF a o m v = (condA a 1 0 18446744073709551615, 0) by unfold atlF; rw [if_neg h0, if_pos h1]]
      have q0 : ((v : Int) == 0) = false := beq_eq_false_iff_ne.2 (by omega)
      have q1 : ((v : Int) == 18446744073709551615) = true := beq_iff_eq.2 (by omega)
      clear h0 h1
      go_enter Tryz.func227, Tryz.ntmps227
      go_upto_region 1 with fail
      rw [HW.out]
      go_wp2_with fail
      refine (isN_any a 18446744073709551615 _).mono ?_
      rintro e w1 ⟨rfl, hB1⟩
      have HR1 := Lib.hid (HR0.out.below hB1 HR0.out.lt)
      have HP1 := Lib.hid (HP0.out.below hB1 HP0.out.lt)
      have HB1 := Lib.hid (HB0.out.trans (hB1.mono HB0.out.size))
      clear hB1
      go_wp2_with fail
      refine (asks_any a 1 0 18446744073709551615 _).mono ?_
      rintro e w2 ⟨rfl, hB2⟩
      have HR2 := Lib.hid (HR1.out.below hB2 HR1.out.lt)
      have HP2 := Lib.hid (HP1.out.below hB2 HP1.out.lt)
      have HB2 := Lib.hid (HB1.out.trans (hB2.mono HB1.out.size))
      clear hB2
      have z0 := HR2.out.cell 0 (.int .i64 0) rfl
      have z1 := HR2.out.cell 1 (.int .i64 0) rfl
      have z2 := HR2.out.cell 2 (.int .u64 0) rfl
      have z3 := HR2.out.cell 3 (.int .u64 0) rfl
      have y0 := HR2.out.frozen 0
      have y1 := HR2.out.frozen 1
      have y2 := HR2.out.frozen 2
      have y3 := HR2.out.frozen 3
      go_wp2
      exact bodyPost_ret (results_ctO Tryz.results227 _ _ (w.heap.size + 1) _ (condA a 1 0 18446744073709551615) (0, 0) _ (.int .i64 0) (by rfl) (by rfl) (set4N HR2.out) Tryz.underlying61 (by rfl) infoN) rfl ⟨rfl, below4N HB2.out (by omega) _ _ _ _⟩
    · rw [show atlF a o m v = (condA a o m v, 0) by unfold atlF; rw [if_neg h0, if_neg h1]]
      have q0 : ((v : Int) == 0) = false := beq_eq_false_iff_ne.2 (by omega)
      have q1 : ((v : Int) == 18446744073709551615) = false := beq_eq_false_iff_ne.2 (by omega)
      clear h0 h1
      go_enter Tryz.func227, Tryz.ntmps227
      go_upto_region 1 with fail
      rw [HW.out]
      go_wp2_with fail
      refine (asks_any a o m v _).mono ?_
      rintro e w1 ⟨rfl, hB1⟩
      have HR1 := Lib.hid (HR0.out.below hB1 HR0.out.lt)
      have HP1 := Lib.hid (HP0.out.below hB1 HP0.out.lt)
      have HB1 := Lib.hid (HB0.out.trans (hB1.mono HB0.out.size))
      clear hB1
      have z0 := HR1.out.cell 0 (.int .i64 0) rfl
      have z1 := HR1.out.cell 1 (.int .i64 0) rfl
      have z2 := HR1.out.cell 2 (.int .u64 0) rfl
      have z3 := HR1.out.cell 3 (.int .u64 0) rfl
      have y0 := HR1.out.frozen 0
      have y1 := HR1.out.frozen 1
      have y2 := HR1.out.frozen 2
      have y3 := HR1.out.frozen 3
      go_wp2
      exact bodyPost_ret (results_ctO Tryz.results227 _ _ (w.heap.size + 1) _ (condA a o m v) (0, 0) _ (.int .i64 0) (by rfl) (by rfl) (set4N HR1.out) Tryz.underlying61 (by rfl) infoN) rfl ⟨rfl, below4N HB1.out (by omega) _ _ _ _⟩

set_option maxRecDepth 100000 in
set_option maxHeartbeats 4000000 in
theorem atMost_any (a o : Int) (m v : Nat) (hv : v ≤ 18446744073709551615) (w : World) : Calls Tryz.prog 225 #[.agg (condA a o m v)] w fun e w' => e = .returned (.tuple #[.agg (atmF a v).1, .int .i64 (atmF a v).2]) ∧ Below w.heap.size w w' := by
  obtain ⟨W0, hW0⟩ : ∃ W, (w.alloc (.cells (condA a o m v) 61)).alloc (.cells zN 61) = W := ⟨_, rfl⟩
  have HB0 := Lib.hid (show Below w.heap.size w W0 by rw [← hW0]; exact ((Below.refl _ _).alloc (Nat.le_refl _) _).alloc (by simp) _)
  have HP0 := Lib.hid (show RowC W0 w.heap.size (condA a o m v) 61 by rw [← hW0]; exact (RowC.new _ _ _ _ rfl).alloc _)
  have HR0 := Lib.hid (show RowC W0 (w.heap.size + 1) zN 61 by rw [← hW0]; exact RowC.new _ _ _ _ (by simp))
  have HW := Lib.hid hW0
  have x0 := HP0.out.cell 0 (.int .i64 a) rfl
  have x1 := HP0.out.cell 1 (.int .i64 o) rfl
  have x2 := HP0.out.cell 2 (.int .u64 m) rfl
  have x3 := HP0.out.cell 3 (.int .u64 v) rfl
  clear hW0
  by_cases h0 : v = 18446744073709551615
  · rw [show atmF a v = (zN, 1) by unfold atmF; rw [if_pos h0]]
    have q0 : ((v : Int) == 18446744073709551615) = true := beq_iff_eq.2 (by omega)
    clear h0
    go_enter Tryz.func225, Tryz.ntmps225
    go_upto_region 1 with fail
    rw [HW.out]
    go_wp2_with fail
    refine (always_any _).mono ?_
    rintro e w1 ⟨rfl, hB1⟩
    have HR1 := Lib.hid (HR0.out.below hB1 HR0.out.lt)
    have HP1 := Lib.hid (HP0.out.below hB1 HP0.out.lt)
    have HB1 := Lib.hid (HB0.out.trans (hB1.mono HB0.out.size))
    clear hB1
    have z0 := HR1.out.cell 0 (.int .i64 0) rfl
    have z1 := HR1.out.cell 1 (.int .i64 0) rfl
    have z2 := HR1.out.cell 2 (.int .u64 0) rfl
    have z3 := HR1.out.cell 3 (.int .u64 0) rfl
    have y0 := HR1.out.frozen 0
    have y1 := HR1.out.frozen 1
    have y2 := HR1.out.frozen 2
    have y3 := HR1.out.frozen 3
    go_wp2
    exact bodyPost_ret (results_ctO Tryz.results225 _ _ (w.heap.size + 1) _ zN (0, 0) _ (.int .i64 1) (by rfl) (by rfl) (set4N HR1.out) Tryz.underlying61 (by rfl) infoN) rfl ⟨rfl, below4N HB1.out (by omega) _ _ _ _⟩
  · have q0 : ((v : Int) == 18446744073709551615) = false := beq_eq_false_iff_ne.2 (by omega)
    have t1 : IntKind.u64.wrap ((v : Int) + 1) = (v : Int) + 1 := IntWalk.u64_in _ (by omega)
    have HC := Lib.hid fun X => below_any a 3 0 (v + 1) X
    by_cases h1 : v = 0
    · rw [show belF a 3 0 (v + 1) = (condA a 1 0 0, 0) by unfold belF; rw [if_neg (by omega), if_pos (by omega)]] at HC
      rw [show atmF a v = (condA a 1 0 0, 0) by unfold atmF belF; rw [if_neg h0, if_neg (by omega), if_pos (by omega)]]
      clear h0 h1
      go_enter Tryz.func225, Tryz.ntmps225
      go_upto_region 1 with fail
      rw [HW.out]
      go_wp2_with fail
      refine (HC.out _).mono ?_
      rintro e w1 ⟨rfl, hB1⟩
      have HR1 := Lib.hid (HR0.out.below hB1 HR0.out.lt)
      have HP1 := Lib.hid (HP0.out.below hB1 HP0.out.lt)
      have HB1 := Lib.hid (HB0.out.trans (hB1.mono HB0.out.size))
      clear hB1
      have z0 := HR1.out.cell 0 (.int .i64 0) rfl
      have z1 := HR1.out.cell 1 (.int .i64 0) rfl
      have z2 := HR1.out.cell 2 (.int .u64 0) rfl
      have z3 := HR1.out.cell 3 (.int .u64 0) rfl
      have y0 := HR1.out.frozen 0
      have y1 := HR1.out.frozen 1
      have y2 := HR1.out.frozen 2
      have y3 := HR1.out.frozen 3
      go_wp2
      exact bodyPost_ret (results_ctO Tryz.results225 _ _ (w.heap.size + 1) _ (condA a 1 0 0) (0, 0) _ (.int .i64 0) (by rfl) (by rfl) (set4N HR1.out) Tryz.underlying61 (by rfl) infoN) rfl ⟨rfl, below4N HB1.out (by omega) _ _ _ _⟩
    · rw [show belF a 3 0 (v + 1) = (condA a 3 0 (v + 1 : Nat), 0) by unfold belF; rw [if_neg (by omega), if_neg (by omega)]] at HC
      rw [show atmF a v = (condA a 3 0 (v + 1 : Nat), 0) by unfold atmF belF; rw [if_neg h0, if_neg (by omega), if_neg (by omega)]]
      clear h0 h1
      go_enter Tryz.func225, Tryz.ntmps225
      go_upto_region 1 with fail
      rw [HW.out]
      go_wp2_with fail
      refine (HC.out _).mono ?_
      rintro e w1 ⟨rfl, hB1⟩
      have HR1 := Lib.hid (HR0.out.below hB1 HR0.out.lt)
      have HP1 := Lib.hid (HP0.out.below hB1 HP0.out.lt)
      have HB1 := Lib.hid (HB0.out.trans (hB1.mono HB0.out.size))
      clear hB1
      have z0 := HR1.out.cell 0 (.int .i64 0) rfl
      have z1 := HR1.out.cell 1 (.int .i64 0) rfl
      have z2 := HR1.out.cell 2 (.int .u64 0) rfl
      have z3 := HR1.out.cell 3 (.int .u64 0) rfl
      have y0 := HR1.out.frozen 0
      have y1 := HR1.out.frozen 1
      have y2 := HR1.out.frozen 2
      have y3 := HR1.out.frozen 3
      go_wp2
      exact bodyPost_ret (results_ctO Tryz.results225 _ _ (w.heap.size + 1) _ (condA a 3 0 (v + 1 : Nat)) (0, 0) _ (.int .i64 0) (by rfl) (by rfl) (set4N HR1.out) Tryz.underlying61 (by rfl) infoN) rfl ⟨rfl, below4N HB1.out (by omega) _ _ _ _⟩

set_option maxRecDepth 100000 in
set_option maxHeartbeats 4000000 in
theorem above_any (a o : Int) (m v : Nat) (hv : v ≤ 18446744073709551615) (w : World) : Calls Tryz.prog 226 #[.agg (condA a o m v)] w fun e w' => e = .returned (.tuple #[.agg (aboF a v).1, .int .i64 (aboF a v).2]) ∧ Below w.heap.size w w' := by
  obtain ⟨W0, hW0⟩ : ∃ W, (w.alloc (.cells (condA a o m v) 61)).alloc (.cells zN 61) = W := ⟨_, rfl⟩
  have HB0 := Lib.hid (show Below w.heap.size w W0 by rw [← hW0]; exact ((Below.refl _ _).alloc (Nat.le_refl _) _).alloc (by simp) _)
  have HP0 := Lib.hid (show RowC W0 w.heap.size (condA a o m v) 61 by rw [← hW0]; exact (RowC.new _ _ _ _ rfl).alloc _)
  have HR0 := Lib.hid (show RowC W0 (w.heap.size + 1) zN 61 by rw [← hW0]; exact RowC.new _ _ _ _ (by simp))
  have HW := Lib.hid hW0
  have x0 := HP0.out.cell 0 (.int .i64 a) rfl
  have x1 := HP0.out.cell 1 (.int .i64 o) rfl
  have x2 := HP0.out.cell 2 (.int .u64 m) rfl
  have x3 := HP0.out.cell 3 (.int .u64 v) rfl
  clear hW0
  by_cases h0 : v = 18446744073709551615
  · rw [show aboF a v = (zN, 2) by unfold aboF; rw [if_pos h0]]
    have q0 : ((v : Int) == 18446744073709551615) = true := beq_iff_eq.2 (by omega)
    clear h0
    go_enter Tryz.func226, Tryz.ntmps226
    go_upto_region 1 with fail
    rw [HW.out]
    go_wp2_with fail
    refine (never_any _).mono ?_
    rintro e w1 ⟨rfl, hB1⟩
    have HR1 := Lib.hid (HR0.out.below hB1 HR0.out.lt)
    have HP1 := Lib.hid (HP0.out.below hB1 HP0.out.lt)
    have HB1 := Lib.hid (HB0.out.trans (hB1.mono HB0.out.size))
    clear hB1
    have z0 := HR1.out.cell 0 (.int .i64 0) rfl
    have z1 := HR1.out.cell 1 (.int .i64 0) rfl
    have z2 := HR1.out.cell 2 (.int .u64 0) rfl
    have z3 := HR1.out.cell 3 (.int .u64 0) rfl
    have y0 := HR1.out.frozen 0
    have y1 := HR1.out.frozen 1
    have y2 := HR1.out.frozen 2
    have y3 := HR1.out.frozen 3
    go_wp2
    exact bodyPost_ret (results_ctO Tryz.results226 _ _ (w.heap.size + 1) _ zN (0, 0) _ (.int .i64 2) (by rfl) (by rfl) (set4N HR1.out) Tryz.underlying61 (by rfl) infoN) rfl ⟨rfl, below4N HB1.out (by omega) _ _ _ _⟩
  · have q0 : ((v : Int) == 18446744073709551615) = false := beq_eq_false_iff_ne.2 (by omega)
    have t1 : IntKind.u64.wrap ((v : Int) + 1) = (v : Int) + 1 := IntWalk.u64_in _ (by omega)
    have HC := Lib.hid fun X => atLeast_any a 6 0 (v + 1) X
    by_cases h1 : v + 1 = 18446744073709551615
    · rw [show atlF a 6 0 (v + 1) = (condA a 1 0 18446744073709551615, 0) by unfold atlF; rw [if_neg (by omega), if_pos h1]] at HC
      rw [show aboF a v = (condA a 1 0 18446744073709551615, 0) by unfold aboF atlF; rw [if_neg h0, if_neg (by omega), if_pos h1]]
      clear h0 h1
      go_enter Tryz.func226, Tryz.ntmps226
      go_upto_region 1 with fail
      rw [HW.out]
      go_wp2_with fail
      refine (HC.out _).mono ?_
      rintro e w1 ⟨rfl, hB1⟩
      have HR1 := Lib.hid (HR0.out.below hB1 HR0.out.lt)
      have HP1 := Lib.hid (HP0.out.below hB1 HP0.out.lt)
      have HB1 := Lib.hid (HB0.out.trans (hB1.mono HB0.out.size))
      clear hB1
      have z0 := HR1.out.cell 0 (.int .i64 0) rfl
      have z1 := HR1.out.cell 1 (.int .i64 0) rfl
      have z2 := HR1.out.cell 2 (.int .u64 0) rfl
      have z3 := HR1.out.cell 3 (.int .u64 0) rfl
      have y0 := HR1.out.frozen 0
      have y1 := HR1.out.frozen 1
      have y2 := HR1.out.frozen 2
      have y3 := HR1.out.frozen 3
      go_wp2
      exact bodyPost_ret (results_ctO Tryz.results226 _ _ (w.heap.size + 1) _ (condA a 1 0 18446744073709551615) (0, 0) _ (.int .i64 0) (by rfl) (by rfl) (set4N HR1.out) Tryz.underlying61 (by rfl) infoN) rfl ⟨rfl, below4N HB1.out (by omega) _ _ _ _⟩
    · rw [show atlF a 6 0 (v + 1) = (condA a 6 0 (v + 1 : Nat), 0) by unfold atlF; rw [if_neg (by omega), if_neg h1]] at HC
      rw [show aboF a v = (condA a 6 0 (v + 1 : Nat), 0) by unfold aboF atlF; rw [if_neg h0, if_neg (by omega), if_neg h1]]
      clear h0 h1
      go_enter Tryz.func226, Tryz.ntmps226
      go_upto_region 1 with fail
      rw [HW.out]
      go_wp2_with fail
      refine (HC.out _).mono ?_
      rintro e w1 ⟨rfl, hB1⟩
      have HR1 := Lib.hid (HR0.out.below hB1 HR0.out.lt)
      have HP1 := Lib.hid (HP0.out.below hB1 HP0.out.lt)
      have HB1 := Lib.hid (HB0.out.trans (hB1.mono HB0.out.size))
      clear hB1
      have z0 := HR1.out.cell 0 (.int .i64 0) rfl
      have z1 := HR1.out.cell 1 (.int .i64 0) rfl
      have z2 := HR1.out.cell 2 (.int .u64 0) rfl
      have z3 := HR1.out.cell 3 (.int .u64 0) rfl
      have y0 := HR1.out.frozen 0
      have y1 := HR1.out.frozen 1
      have y2 := HR1.out.frozen 2
      have y3 := HR1.out.frozen 3
      go_wp2
      exact bodyPost_ret (results_ctO Tryz.results226 _ _ (w.heap.size + 1) _ (condA a 6 0 (v + 1 : Nat)) (0, 0) _ (.int .i64 0) (by rfl) (by rfl) (set4N HR1.out) Tryz.underlying61 (by rfl) infoN) rfl ⟨rfl, below4N HB1.out (by omega) _ _ _ _⟩

set_option maxRecDepth 100000 in
set_option maxHeartbeats 4000000 in
theorem masked_any (a o : Int) (m v : Nat) (hm : m ≤ 18446744073709551615) (hv : v ≤ 18446744073709551615) (w : World) : Calls Tryz.prog 228 #[.agg (condA a o m v)] w fun e w' => e = .returned (.tuple #[.agg (mskF a o m v).1, .int .i64 (mskF a o m v).2]) ∧ Below w.heap.size w w' := by
  obtain ⟨W0, hW0⟩ : ∃ W, (w.alloc (.cells (condA a o m v) 61)).alloc (.cells zN 61) = W := ⟨_, rfl⟩
  have HB0 := Lib.hid (show Below w.heap.size w W0 by rw [← hW0]; exact ((Below.refl _ _).alloc (Nat.le_refl _) _).alloc (by simp) _)
  have HP0 := Lib.hid (show RowC W0 w.heap.size (condA a o m v) 61 by rw [← hW0]; exact (RowC.new _ _ _ _ rfl).alloc _)
  have HR0 := Lib.hid (show RowC W0 (w.heap.size + 1) zN 61 by rw [← hW0]; exact RowC.new _ _ _ _ (by simp))
  have HW := Lib.hid hW0
  have x0 := HP0.out.cell 0 (.int .i64 a) rfl
  have x1 := HP0.out.cell 1 (.int .i64 o) rfl
  have x2 := HP0.out.cell 2 (.int .u64 m) rfl
  have x3 := HP0.out.cell 3 (.int .u64 v) rfl
  clear hW0
  have qa := u64_andNot_nat v m (by omega) (by omega)
  obtain ⟨B, hB⟩ : ∃ B, v &&& (18446744073709551615 - m) = B := ⟨_, rfl⟩
  have hmf : mskF a o m v = if B ≠ 0 then (zN, 2) else if m = 0 then (zN, 1) else if m = 18446744073709551615 then (condA a 1 0 v, 0) else (condA a o m v, 0) := by rw [← hB]; rfl
  rw [show v &&& (18446744073709551615 - m) = B from hB] at qa
  rw [hmf]
  clear hmf hB
  by_cases h0 : B ≠ 0
  · rw [if_pos h0]
    have q0 : ((B : Int) != 0) = true := bne_iff_ne.2 (by omega)
    clear h0
    go_enter Tryz.func228, Tryz.ntmps228
    go_upto_region 1 with fail
    rw [HW.out]
    go_wp2_with fail
    refine (never_any _).mono ?_
    rintro e w1 ⟨rfl, hB1⟩
    have HR1 := Lib.hid (HR0.out.below hB1 HR0.out.lt)
    have HP1 := Lib.hid (HP0.out.below hB1 HP0.out.lt)
    have HB1 := Lib.hid (HB0.out.trans (hB1.mono HB0.out.size))
    clear hB1
    have z0 := HR1.out.cell 0 (.int .i64 0) rfl
    have z1 := HR1.out.cell 1 (.int .i64 0) rfl
    have z2 := HR1.out.cell 2 (.int .u64 0) rfl
    have z3 := HR1.out.cell 3 (.int .u64 0) rfl
    have y0 := HR1.out.frozen 0
    have y1 := HR1.out.frozen 1
    have y2 := HR1.out.frozen 2
    have y3 := HR1.out.frozen 3
    go_wp2
    exact bodyPost_ret (results_ctO Tryz.results228 _ _ (w.heap.size + 1) _ zN (0, 0) _ (.int .i64 2) (by rfl) (by rfl) (set4N HR1.out) Tryz.underlying61 (by rfl) infoN) rfl ⟨rfl, below4N HB1.out (by omega) _ _ _ _⟩
  · rw [if_neg h0]
    have q0 : ((B : Int) != 0) = false := by rw [bne_eq_false_iff_eq]; omega
    by_cases h1 : m = 0
    · rw [if_pos h1]
      have q1 : ((m : Int) == 0) = true := beq_iff_eq.2 (by omega)
      clear h0 h1
      go_enter Tryz.func228, Tryz.ntmps228
      go_upto_region 1 with fail
      rw [HW.out]
      go_wp2_with fail
      refine (always_any _).mono ?_
      rintro e w1 ⟨rfl, hB1⟩
      have HR1 := Lib.hid (HR0.out.below hB1 HR0.out.lt)
      have HP1 := Lib.hid (HP0.out.below hB1 HP0.out.lt)
      have HB1 := Lib.hid (HB0.out.trans (hB1.mono HB0.out.size))
      clear hB1
      have z0 := HR1.out.cell 0 (.int .i64 0) rfl
      have z1 := HR1.out.cell 1 (.int .i64 0) rfl
      have z2 := HR1.out.cell 2 (.int .u64 0) rfl
      have z3 := HR1.out.cell 3 (.int .u64 0) rfl
      have y0 := HR1.out.frozen 0
      have y1 := HR1.out.frozen 1
      have y2 := HR1.out.frozen 2
      have y3 := HR1.out.frozen 3
      go_wp2
      exact bodyPost_ret (results_ctO Tryz.results228 _ _ (w.heap.size + 1) _ zN (0, 0) _ (.int .i64 1) (by rfl) (by rfl) (set4N HR1.out) Tryz.underlying61 (by rfl) infoN) rfl ⟨rfl, below4N HB1.out (by omega) _ _ _ _⟩
    · rw [if_neg h1]
      have q1 : ((m : Int) == 0) = false := beq_eq_false_iff_ne.2 (by omega)
      by_cases h2 : m = 18446744073709551615
      · rw [if_pos h2]
        have q2 : ((m : Int) == 18446744073709551615) = true := beq_iff_eq.2 (by omega)
        clear h0 h1 h2
        go_enter Tryz.func228, Tryz.ntmps228
        go_upto_region 1 with fail
        rw [HW.out]
        go_wp2_with fail
        refine (isN_any a v _).mono ?_
        rintro e w1 ⟨rfl, hB1⟩
        have HR1 := Lib.hid (HR0.out.below hB1 HR0.out.lt)
        have HP1 := Lib.hid (HP0.out.below hB1 HP0.out.lt)
        have HB1 := Lib.hid (HB0.out.trans (hB1.mono HB0.out.size))
        clear hB1
        go_wp2_with fail
        refine (asks_any a 1 0 v _).mono ?_
        rintro e w2 ⟨rfl, hB2⟩
        have HR2 := Lib.hid (HR1.out.below hB2 HR1.out.lt)
        have HP2 := Lib.hid (HP1.out.below hB2 HP1.out.lt)
        have HB2 := Lib.hid (HB1.out.trans (hB2.mono HB1.out.size))
        clear hB2
        have z0 := HR2.out.cell 0 (.int .i64 0) rfl
        have z1 := HR2.out.cell 1 (.int .i64 0) rfl
        have z2 := HR2.out.cell 2 (.int .u64 0) rfl
        have z3 := HR2.out.cell 3 (.int .u64 0) rfl
        have y0 := HR2.out.frozen 0
        have y1 := HR2.out.frozen 1
        have y2 := HR2.out.frozen 2
        have y3 := HR2.out.frozen 3
        go_wp2
        exact bodyPost_ret (results_ctO Tryz.results228 _ _ (w.heap.size + 1) _ (condA a 1 0 v) (0, 0) _ (.int .i64 0) (by rfl) (by rfl) (set4N HR2.out) Tryz.underlying61 (by rfl) infoN) rfl ⟨rfl, below4N HB2.out (by omega) _ _ _ _⟩
      · rw [if_neg h2]
        have q2 : ((m : Int) == 18446744073709551615) = false := beq_eq_false_iff_ne.2 (by omega)
        clear h0 h1 h2
        go_enter Tryz.func228, Tryz.ntmps228
        go_upto_region 1 with fail
        rw [HW.out]
        go_wp2_with fail
        refine (asks_any a o m v _).mono ?_
        rintro e w1 ⟨rfl, hB1⟩
        have HR1 := Lib.hid (HR0.out.below hB1 HR0.out.lt)
        have HP1 := Lib.hid (HP0.out.below hB1 HP0.out.lt)
        have HB1 := Lib.hid (HB0.out.trans (hB1.mono HB0.out.size))
        clear hB1
        have z0 := HR1.out.cell 0 (.int .i64 0) rfl
        have z1 := HR1.out.cell 1 (.int .i64 0) rfl
        have z2 := HR1.out.cell 2 (.int .u64 0) rfl
        have z3 := HR1.out.cell 3 (.int .u64 0) rfl
        have y0 := HR1.out.frozen 0
        have y1 := HR1.out.frozen 1
        have y2 := HR1.out.frozen 2
        have y3 := HR1.out.frozen 3
        go_wp2
        exact bodyPost_ret (results_ctO Tryz.results228 _ _ (w.heap.size + 1) _ (condA a o m v) (0, 0) _ (.int .i64 0) (by rfl) (by rfl) (set4N HR1.out) Tryz.underlying61 (by rfl) infoN) rfl ⟨rfl, below4N HB1.out (by omega) _ _ _ _⟩

end Go.Proofs.YtcmdmnnkbliggaaGreatDoor

/-
  Layer 16: norm.Cond.
-/
namespace Go.Proofs.YtcmdmnnkbliggaaGreatDoor
open Go.RowKit Go.Shelf
set_option linter.unusedVariables false

/-- The function of an operator. -/
def fnN : Nat → Nat
  | 0 => 223
  | 1 => 223
  | 2 => 224
  | 3 => 225
  | 4 => 226
  | 5 => 227
  | _ => 228
def formsKV : List (Int × Value) := [(1, .func (.func 223) #[] #[]), (2, .func (.func 223) #[] #[]), (3, .func (.func 224) #[] #[]), (4, .func (.func 225) #[] #[]), (5, .func (.func 226) #[] #[]), (6, .func (.func 227) #[] #[]), (7, .func (.func 228) #[] #[])]
theorem formsKV_at (j : Nat) (hj : j < 7) : assocV formsKV ((j : Int) + 1) = some (.func (.func (fnN j)) #[] #[]) := by
  match j, hj with
  | 0, _ => rfl
  | 1, _ => rfl
  | 2, _ => rfl
  | 3, _ => rfl
  | 4, _ => rfl
  | 5, _ => rfl
  | 6, _ => rfl
set_option maxRecDepth 100000 in
set_option maxHeartbeats 4000000 in
theorem forms16_any (w : World) : Calls Tryz.prog 182 #[] w fun e w' => ∃ b, e = .returned (.map (some b)) ∧ w.heap.size ≤ b ∧ b < w'.heap.size ∧ IsMapV .i64 w' b formsKV ∧ Below w.heap.size w w' := by
  have hmm := @run_makeMap Tryz.prog
  have hm : IsMapV .i64 (w.alloc (.map #[] 0)) w.heap.size [] := IsMapV.new .i64 w
  have hB : Below w.heap.size w (w.alloc (.map #[] 0)) := (Below.refl _ _).alloc (Nat.le_refl _) _
  go_enter Tryz.func182, Tryz.ntmps182
  go_wp2_with (refine wpList_insV rfl _ _ _ rfl Tryz.underlying274 Tryz.underlying3 _ _ rfl rfl rfl hm (by rfl) hB (Nat.le_refl _) ?_; clear hm hB; intro w' hm hB)
  go_ret
  exact ⟨_, rfl, Nat.le_refl _, hm.lt, (show IsMapV .i64 _ _ formsKV from hm), hB⟩
/-- What a right condition becomes. -/
def nF (j : Nat) (a : Int) (m v : Nat) : Array Value × Int := match j with
  | 0 => (condA a 1 m v, 0)
  | 1 => (condA a 2 m v, 0)
  | 2 => belF a 3 m v
  | 3 => atmF a v
  | 4 => aboF a v
  | 5 => atlF a 6 m v
  | _ => mskF a 7 m v
theorem condA_z : zN = condA 0 0 0 0 := rfl
theorem nF_form (j : Nat) (a : Int) (m v : Nat) : ∃ (a' o' : Int) (m' v' : Nat), (nF j a m v).1 = condA a' o' m' v' := by
  have hb : ∀ (o : Int) (m v : Nat), ∃ (a' o' : Int) (m' v' : Nat), (belF a o m v).1 = condA a' o' m' v' := fun o m v => by
    unfold belF; split
    · exact ⟨_, _, _, _, condA_z⟩
    · split
      · exact ⟨_, _, _, _, rfl⟩
      · exact ⟨_, _, _, _, rfl⟩
  have ht : ∀ (o : Int) (m v : Nat), ∃ (a' o' : Int) (m' v' : Nat), (atlF a o m v).1 = condA a' o' m' v' := fun o m v => by
    unfold atlF; split
    · exact ⟨_, _, _, _, condA_z⟩
    · split
      · exact ⟨_, _, _, _, rfl⟩
      · exact ⟨_, _, _, _, rfl⟩
  unfold nF
  split
  · exact ⟨_, _, _, _, rfl⟩
  · exact ⟨_, _, _, _, rfl⟩
  · exact hb 3 m v
  · unfold atmF; split
    · exact ⟨_, _, _, _, condA_z⟩
    · exact hb 3 0 (v + 1)
  · unfold aboF; split
    · exact ⟨_, _, _, _, condA_z⟩
    · exact ht 6 0 (v + 1)
  · exact ht 6 m v
  · unfold mskF; split
    · exact ⟨_, _, _, _, condA_z⟩
    · split
      · exact ⟨_, _, _, _, condA_z⟩
      · split
        · exact ⟨_, _, _, _, rfl⟩
        · exact ⟨_, _, _, _, rfl⟩
theorem fnN_any (j : Nat) (hj : j < 7) (a : Int) (m v : Nat) (hm : m ≤ 18446744073709551615) (hv : v ≤ 18446744073709551615) (W : World) : Calls Tryz.prog (fnN j) #[.agg (condA a ((j : Int) + 1) m v)] W fun e w' => e = .returned (.tuple #[.agg (nF j a m v).1, .int .i64 (nF j a m v).2]) ∧ Below W.heap.size W w' := by
  match j, hj with
  | 0, _ => exact asks_any a 1 m v W
  | 1, _ => exact asks_any a 2 m v W
  | 2, _ => exact below_any a 3 m v W
  | 3, _ => exact atMost_any a 4 m v hv W
  | 4, _ => exact above_any a 5 m v hv W
  | 5, _ => exact atLeast_any a 6 m v W
  | 6, _ => exact masked_any a 7 m v hm hv W
theorem fnN_enter (j : Nat) (hj : j < 7) : ∀ args w, (callFunc (fnN j) args).run Tryz.prog w = .ok (.enter (fnN j) args) w := by
  match j, hj with
  | 0, _ => exact enters_of Tryz.func223 (by kernel_rfl) rfl
  | 1, _ => exact enters_of Tryz.func223 (by kernel_rfl) rfl
  | 2, _ => exact enters_of Tryz.func224 (by kernel_rfl) rfl
  | 3, _ => exact enters_of Tryz.func225 (by kernel_rfl) rfl
  | 4, _ => exact enters_of Tryz.func226 (by kernel_rfl) rfl
  | 5, _ => exact enters_of Tryz.func227 (by kernel_rfl) rfl
  | 6, _ => exact enters_of Tryz.func228 (by kernel_rfl) rfl
set_option maxRecDepth 100000 in
set_option maxHeartbeats 8000000 in
theorem normC_no (a o : Int) (m v : Nat) (hno : a < 0 ∨ 6 ≤ a ∨ ∀ j, j < 7 → isO o m j = false) (w : World) :
    Calls Tryz.prog 156 #[.agg (condA a o m v)] w fun e w' => e = .returned (.tuple #[.agg zN, .int .i64 2]) ∧ Below w.heap.size w w' := by
  have HRT := Lib.hid fun X => right_no a o m v hno X
  clear hno
  obtain ⟨W0, hW0⟩ : ∃ W, (w.alloc (.cells (condA a o m v) 61)).alloc (.cells zN 61) = W := ⟨_, rfl⟩
  have HB0 := Lib.hid (show Below w.heap.size w W0 by rw [← hW0]; exact ((Below.refl _ _).alloc (Nat.le_refl _) _).alloc (by simp) _)
  have HP0 := Lib.hid (show RowC W0 w.heap.size (condA a o m v) 61 by rw [← hW0]; exact (RowC.new _ _ _ _ rfl).alloc _)
  have HR0 := Lib.hid (show RowC W0 (w.heap.size + 1) zN 61 by rw [← hW0]; exact RowC.new _ _ _ _ (by simp))
  have HW := Lib.hid hW0
  have x0 := HP0.out.cell 0 (.int .i64 a) rfl
  have x1 := HP0.out.cell 1 (.int .i64 o) rfl
  have x2 := HP0.out.cell 2 (.int .u64 m) rfl
  have x3 := HP0.out.cell 3 (.int .u64 v) rfl
  clear hW0
  go_enter Tryz.func156, Tryz.ntmps156
  go_upto_region 1 with fail
  rw [HW.out]
  go_wp2_with fail
  refine (HRT.out _).mono ?_
  rintro e w1 ⟨rfl, hB1⟩
  have HR1 := Lib.hid (HR0.out.below hB1 HR0.out.lt)
  have HB1 := Lib.hid (HB0.out.trans (hB1.mono HB0.out.size))
  clear hB1
  go_wp2_with fail
  refine (never_any _).mono ?_
  rintro e w2 ⟨rfl, hB2⟩
  have HR2 := Lib.hid (HR1.out.below hB2 HR1.out.lt)
  have HB2 := Lib.hid (HB1.out.trans (hB2.mono HB1.out.size))
  clear hB2
  have z0 := HR2.out.cell 0 (.int .i64 0) rfl
  have z1 := HR2.out.cell 1 (.int .i64 0) rfl
  have z2 := HR2.out.cell 2 (.int .u64 0) rfl
  have z3 := HR2.out.cell 3 (.int .u64 0) rfl
  have y0 := HR2.out.frozen 0
  have y1 := HR2.out.frozen 1
  have y2 := HR2.out.frozen 2
  have y3 := HR2.out.frozen 3
  go_wp2
  exact bodyPost_ret (results_ctO Tryz.results156 _ _ (w.heap.size + 1) _ zN (0, 0) _ (.int .i64 2) (by rfl) (by rfl) (set4N HR2.out) Tryz.underlying61 (by rfl) infoN) rfl ⟨rfl, below4N HB2.out (by omega) _ _ _ _⟩
set_option maxRecDepth 100000 in
set_option maxHeartbeats 16000000 in
theorem normC_ok (a o : Int) (m v j : Nat) (hr : RightO a o m j) (hm : m ≤ 18446744073709551615) (hv : v ≤ 18446744073709551615) (w : World) :
    Calls Tryz.prog 156 #[.agg (condA a o m v)] w fun e w' => e = .returned (.tuple #[.agg (nF j a m v).1, .int .i64 (nF j a m v).2]) ∧ Below w.heap.size w w' := by
  have HRT := Lib.hid fun X => right_ok a o m v j hr X
  have hj : j < 7 := hr.2.2.1
  have ho : o = (j : Int) + 1 := hr.2.2.2.1
  obtain ⟨F, hF⟩ : ∃ F, fnN j = F := ⟨_, rfl⟩
  have hen := fnN_enter j hj
  have hfn := fun X => fnN_any j hj a m v hm hv X
  have hat := formsKV_at j hj
  rw [← ho] at hfn hat
  obtain ⟨a', o', m', v', hf⟩ := nF_form j a m v
  obtain ⟨st, hst⟩ : ∃ st, (nF j a m v).2 = st := ⟨_, rfl⟩
  rw [hF] at hen hfn hat
  rw [hf, hst] at hfn ⊢
  have HFN := Lib.hid hfn
  have HAT := Lib.hid hat
  clear hr hj hfn hat hf hst hF ho hm hv
  obtain ⟨W0, hW0⟩ : ∃ W, (w.alloc (.cells (condA a o m v) 61)).alloc (.cells zN 61) = W := ⟨_, rfl⟩
  have HB0 := Lib.hid (show Below w.heap.size w W0 by rw [← hW0]; exact ((Below.refl _ _).alloc (Nat.le_refl _) _).alloc (by simp) _)
  have HP0 := Lib.hid (show RowC W0 w.heap.size (condA a o m v) 61 by rw [← hW0]; exact (RowC.new _ _ _ _ rfl).alloc _)
  have HR0 := Lib.hid (show RowC W0 (w.heap.size + 1) zN 61 by rw [← hW0]; exact RowC.new _ _ _ _ (by simp))
  have HW := Lib.hid hW0
  have x0 := HP0.out.cell 0 (.int .i64 a) rfl
  have x1 := HP0.out.cell 1 (.int .i64 o) rfl
  have x2 := HP0.out.cell 2 (.int .u64 m) rfl
  have x3 := HP0.out.cell 3 (.int .u64 v) rfl
  clear hW0
  go_enter Tryz.func156, Tryz.ntmps156
  go_upto_region 1 with fail
  rw [HW.out]
  go_wp2_with fail
  refine (HRT.out _).mono ?_
  rintro e w1 ⟨rfl, hB1⟩
  have HR1 := Lib.hid (HR0.out.below hB1 HR0.out.lt)
  have HP1 := Lib.hid (HP0.out.below hB1 HP0.out.lt)
  have HB1 := Lib.hid (HB0.out.trans (hB1.mono HB0.out.size))
  clear hB1 x0 x1 x2 x3
  have k0 := HP1.out.cell 0 (.int .i64 a) rfl
  have k1 := HP1.out.cell 1 (.int .i64 o) rfl
  have k2 := HP1.out.cell 2 (.int .u64 m) rfl
  have k3 := HP1.out.cell 3 (.int .u64 v) rfl
  go_wp2_with fail
  first
  | (go_region_with (first
      | (go_at_call 182
         refine (forms16_any _).mono ?_
         rintro e w2 ⟨b, rfl, hb, hbl, hmap, hB2d⟩
         have hB2 : Below w1.heap.size w1 w2 := ((Below.refl w1.heap.size w1).drew).trans hB2d
         have HR2 := Lib.hid (HR1.out.below hB2 HR1.out.lt)
         have HP2 := Lib.hid (HP1.out.below hB2 HP1.out.lt)
         have HB2 := Lib.hid (HB1.out.trans (hB2.mono HB1.out.size))
         have hlk := IsMapV.look (P := Tryz.prog) hmap Tryz.underlying274 Tryz.underlying3 _ _ HAT.out
         have k0 := HP2.out.cell 0 (.int .i64 a) rfl
         have k1 := HP2.out.cell 1 (.int .i64 o) rfl
         have k2 := HP2.out.cell 2 (.int .u64 m) rfl
         have k3 := HP2.out.cell 3 (.int .u64 v) rfl
         clear hb hbl hmap hB2 hB2d)
      | (go_at_fn F
         refine (HFN.out _).mono ?_
         rintro e w3 ⟨rfl, hB3⟩
         have HR3 := Lib.hid (HR2.out.below hB3 HR2.out.lt)
         have HB3 := Lib.hid (HB2.out.trans (hB3.mono HB2.out.size))
         have z0 := HR3.out.cell 0 (.int .i64 0) rfl
         have z1 := HR3.out.cell 1 (.int .i64 0) rfl
         have z2 := HR3.out.cell 2 (.int .u64 0) rfl
         have z3 := HR3.out.cell 3 (.int .u64 0) rfl
         have y0 := HR3.out.frozen 0
         have y1 := HR3.out.frozen 1
         have y2 := HR3.out.frozen 2
         have y3 := HR3.out.frozen 3
         clear hB3)))
  | fail "cond"
  all_goals go_wp2
  all_goals exact bodyPost_ret (results_ctO Tryz.results156 _ _ (w.heap.size + 1) _ (condA a' o' m' v') (0, 0) _ (.int .i64 st) (by rfl) (by rfl) (set4N HR3.out) Tryz.underlying61 (by rfl) infoN) rfl ⟨rfl, below4N HB3.out (by omega) _ _ _ _⟩
end Go.Proofs.YtcmdmnnkbliggaaGreatDoor

/-
  Layer 16: SortFunc and Compact where there is nothing; norm.Rule at the chapter's example; the laws' own awake.
-/
namespace Go.Proofs.YtcmdmnnkbliggaaGreatDoor
open Go.RowKit Go.Shelf
set_option linter.unusedVariables false

set_option maxRecDepth 100000 in
set_option maxHeartbeats 2000000 in
theorem len64_0 (w : World) : Calls Tryz.prog 197 #[.int .u64 0] w fun e w' => (∃ n : Int, e = .returned (.int .i64 n)) ∧ w' = w := by
  go_enter Tryz.func197, Tryz.ntmps197
  go_wp2
  go_ret
  exact ⟨⟨_, rfl⟩, rfl⟩
set_option maxRecDepth 100000 in
set_option maxHeartbeats 2000000 in
theorem len_0 (w : World) : Calls Tryz.prog 162 #[.int .u64 0] w fun e w' => (∃ n : Int, e = .returned (.int .i64 n)) ∧ w' = w := by
  go_enter Tryz.func162, Tryz.ntmps162
  go_wp2_with fail
  refine (len64_0 _).mono ?_
  rintro e w1 ⟨⟨n, rfl⟩, rfl⟩
  go_wp2
  go_ret
  exact ⟨⟨n, rfl⟩, rfl⟩
set_option maxRecDepth 100000 in
set_option maxHeartbeats 2000000 in
theorem insert_nil (F : Value) (w : World) : Calls Tryz.prog 229 #[.slice none 0 0, .int .i64 0, .int .i64 0, F] w fun e w' => e = .returned (.tuple #[]) ∧ w' = w := by
  go_enter Tryz.func229, Tryz.ntmps229
  go_wp2
  go_loopw [8] (fun i wr => i = .int .i64 1 ∧ wr = w) (fun _ _ => 0)
  case atStart => exact ⟨rfl, rfl⟩
  case round =>
    obtain ⟨rfl, rfl⟩ := hrel
    go_wp2
    go_end0
    exact ⟨rfl, rfl⟩
set_option maxRecDepth 100000 in
set_option maxHeartbeats 2000000 in
theorem pdq_nil (F : Value) (n : Int) (w : World) : Calls Tryz.prog 183 #[.slice none 0 0, .int .i64 0, .int .i64 0, .int .i64 n, F] w fun e w' => e = .returned (.tuple #[]) ∧ w' = w := by
  go_enter Tryz.func183, Tryz.ntmps183
  go_wp2
  go_loopw [1, 2, 3] (fun x y z wr => x = .int .i64 0 ∧ y = .int .i64 0 ∧ z = .int .i64 n ∧ wr = w) (fun _ _ _ _ => 0)
  case atStart => exact ⟨rfl, rfl, rfl, rfl⟩
  case round =>
    obtain ⟨rfl, rfl, rfl, rfl⟩ := hrel
    go_wp2_with fail
    refine (insert_nil F _).mono ?_
    rintro e w1 ⟨rfl, rfl⟩
    go_wp2
    (try simp only [Exit.inBlock, Exit.then])
    refine bodyPost_ret (results_none rfl _ _ _) rfl ?_
    exact ⟨rfl, rfl⟩
set_option maxRecDepth 100000 in
set_option maxHeartbeats 2000000 in
theorem sort_nil (F : Value) (w : World) : Calls Tryz.prog 157 #[.slice none 0 0, F] w fun e w' => e = .returned (.tuple #[]) ∧ w' = w := by
  go_enter Tryz.func157, Tryz.ntmps157
  go_wp2_with fail
  refine (len_0 _).mono ?_
  rintro e w1 ⟨⟨n, rfl⟩, rfl⟩
  go_wp2_with fail
  refine (pdq_nil F n _).mono ?_
  rintro e w2 ⟨rfl, rfl⟩
  go_wp2
  go_end0
  exact ⟨rfl, rfl⟩
set_option maxRecDepth 100000 in
set_option maxHeartbeats 2000000 in
theorem compact_nil (w : World) : Calls Tryz.prog 159 #[.slice none 0 0] w fun e w' => e = .returned (.slice none 0 0) ∧ w' = w := by
  go_enter Tryz.func159, Tryz.ntmps159
  go_wp2
  go_ret
  exact ⟨rfl, rfl⟩
abbrev rdN : ByteArray := ⟨#[114, 101, 97, 100]⟩
abbrev ruN (A : Option Addr) (n c : Nat) : Array Value := #[.string rdN, .int .i64 8, .int .i64 0, .slice A n c]
abbrev zRu : Array Value := #[.string ⟨#[]⟩, .int .i64 0, .int .i64 0, .slice none 0 0]
theorem infoRu : (Tryz.prog.info? 57).map (·.size) = some 4 := by kernel_rfl
set_option maxRecDepth 100000 in
set_option maxHeartbeats 8000000 in
theorem rule_awake (b : Nat) (w : World) (hb : b < w.heap.size) (c0 : w.cell? ⟨b, 0, none⟩ = some (.int .i64 0)) (c1 : w.cell? ⟨b, 1, none⟩ = some (.int .i64 6)) (c2 : w.cell? ⟨b, 2, none⟩ = some (.int .u64 0)) (c3 : w.cell? ⟨b, 3, none⟩ = some (.int .u64 0)) :
    Calls Tryz.prog 118 #[.agg (ruN (some ⟨b, 0, none⟩) 1 1)] w fun e w' => e = .returned (.tuple #[.agg (ruN none 0 0), .bool true]) ∧ Below w.heap.size w w' := by
  have HNC : Hid (∀ X, Calls Tryz.prog 156 #[.agg #[.int .i64 0, .int .i64 6, .int .u64 0, .int .u64 0]] X fun e w' => e = .returned (.tuple #[.agg zN, .int .i64 1]) ∧ Below X.heap.size X w') := Lib.hid fun X => normC_ok 0 6 0 0 5 ⟨by decide, by decide, by decide, by decide, by decide⟩ (by decide) (by decide) X
  obtain ⟨W0, hW0⟩ : ∃ W, (w.alloc (.cells (ruN (some ⟨b, 0, none⟩) 1 1) 57)).alloc (.cells zRu 57) = W := ⟨_, rfl⟩
  have HB0 := Lib.hid (show Below w.heap.size w W0 by rw [← hW0]; exact ((Below.refl _ _).alloc (Nat.le_refl _) _).alloc (by simp) _)
  have HP0 := Lib.hid (show RowC W0 w.heap.size (ruN (some ⟨b, 0, none⟩) 1 1) 57 by rw [← hW0]; exact (RowC.new _ _ _ _ rfl).alloc _)
  have HR0 := Lib.hid (show RowC W0 (w.heap.size + 1) zRu 57 by rw [← hW0]; exact RowC.new _ _ _ _ (by simp))
  have HW := Lib.hid hW0
  have HC := Lib.hid (And.intro c0 (And.intro c1 (And.intro c2 c3)))
  have hz0 : w.heap.size + 2 ≤ W0.heap.size := by rw [← hW0]; simp
  clear hW0 c0 c1 c2 c3
  have k3 := HP0.out.cell 3 (.slice (some ⟨b, 0, none⟩) 1 1) rfl
  go_enter Tryz.func118, Tryz.ntmps118
  go_upto_region 1 with fail
  rw [HW.out]
  clear HW
  go_wp2
  go_loopw [4, 12] (fun l i wr => ∃ q : Nat, q ≤ 1 ∧ l = .slice none 0 0 ∧ i = .int .i64 q ∧ Below W0.heap.size W0 wr) (fun _ i _ => 1 - (intOf i).toNat)
  case atStart => exact ⟨0, by omega, rfl, rfl, Below.refl _ _⟩
  case round =>
    obtain ⟨q, hq, rfl, rfl, hB⟩ := hrel
    have HBW := Lib.hid hB
    by_cases hq0 : q = 0
    · subst hq0
      obtain ⟨c0, c1, c2, c3⟩ := HC.out
      have hbw := HB0.out.trans (hB.mono HB0.out.size)
      have d0 := (hbw.cell (p := ⟨b, 0, none⟩) hb).trans c0
      have d1 := (hbw.cell (p := ⟨b, 1, none⟩) hb).trans c1
      have d2 := (hbw.cell (p := ⟨b, 2, none⟩) hb).trans c2
      have d3 := (hbw.cell (p := ⟨b, 3, none⟩) hb).trans c3
      have hs := HBW.out.size
      clear c0 c1 c2 c3 hbw hB
      go_wp2_with fail
      refine (HNC.out _).mono ?_
      rintro e w2 ⟨rfl, hB2⟩
      have HB2 := Lib.hid ((HBW.out.alloc hs _).trans (hB2.mono (by simp; omega)))
      have hs2 := HB2.out.size
      clear hB2
      go_wp2
      exact ⟨⟨1, by omega, rfl, rfl, HB2.out.alloc hs2 _⟩, by simp [intOf]⟩
    · obtain rfl : q = 1 := by omega
      have hP := HP0.out.below hB HP0.out.lt
      have hR := HR0.out.below hB HR0.out.lt
      have HBF := Lib.hid (HB0.out.trans (hB.mono HB0.out.size))
      have HR := Lib.hid hR
      have HP := Lib.hid (hP.set 3 (.slice none 0 0))
      have p0 := hP.cell 0 (.string rdN) rfl
      have p1 := hP.cell 1 (.int .i64 8) rfl
      have p2 := hP.cell 2 (.int .i64 0) rfl
      have p3 := hP.cell 3 (.slice (some ⟨b, 0, none⟩) 1 1) rfl
      have f3 := hP.frozen 3
      have z0 := hR.cell 0 (.string ⟨#[]⟩) rfl
      have z1 := hR.cell 1 (.int .i64 0) rfl
      have z2 := hR.cell 2 (.int .i64 0) rfl
      have z3 := hR.cell 3 (.slice none 0 0) rfl
      have y0 := hR.frozen 0
      have y1 := hR.frozen 1
      have y2 := hR.frozen 2
      have y3 := hR.frozen 3
      clear hP hR hB
      go_wp2_with fail
      refine (sort_nil _ _).mono ?_
      rintro e w2 ⟨rfl, rfl⟩
      go_wp2_with fail
      refine (compact_nil _).mono ?_
      rintro e w3 ⟨rfl, rfl⟩
      go_wp2
      exact bodyPost_ret (results_ctO Tryz.results118 _ _ (w.heap.size + 1) _ (ruN none 0 0) (0, 0) _ (.bool true) (by rfl) (by rfl) (show RowC _ (w.heap.size + 1) (ruN none 0 0) 57 from ((((HR.out.setOther 3 (.slice none 0 0) (by omega)).set 0 (.string rdN)).set 1 (.int .i64 8)).set 2 (.int .i64 0)).set 3 (.slice none 0 0)) Tryz.underlying57 (by rfl) infoRu) rfl
        ⟨rfl, ((((HBF.out.setCell (Nat.le_refl _) _).setCell (Nat.le_succ _) _).setCell (Nat.le_succ _) _).setCell (Nat.le_succ _) _).setCell (Nat.le_succ _) _⟩
end Go.Proofs.YtcmdmnnkbliggaaGreatDoor
