/-
  Layer 16: norm.Cond.
-/
import Derived.Test.YtcembcicpmhpkaaGreatDoorOa
import Derived.Shelf.Abstract
import Derived.RegionTactic
import Derived.Deep.RegionWith
import Derived.Deep.RegionHeld3
namespace Go.Proofs.YtcembcicpmhpkaaGreatDoor
open Go.RowKit Go.Shelf
set_option linter.unusedVariables false

/-- The function of an operator. -/
def fnN : Nat → Nat
  | 0 => 96
  | 1 => 96
  | 2 => 97
  | 3 => 98
  | 4 => 99
  | 5 => 100
  | _ => 101
def formsKV : List (Int × Value) := [(1, .func (.func 96) #[] #[]), (2, .func (.func 96) #[] #[]), (3, .func (.func 97) #[] #[]), (4, .func (.func 98) #[] #[]), (5, .func (.func 99) #[] #[]), (6, .func (.func 100) #[] #[]), (7, .func (.func 101) #[] #[])]
theorem formsKV_at (j : Nat) (hj : j < 7) : assocV formsKV ((j : Int) + 1) = some (.func (.func (fnN j)) #[] #[]) := by
  match j, hj with
  | 0, _ => rfl
  | 1, _ => rfl
  | 2, _ => rfl
  | 3, _ => rfl
  | 4, _ => rfl
  | 5, _ => rfl
  | 6, _ => rfl
set_option maxRecDepth 100000 in
set_option maxHeartbeats 4000000 in
theorem forms16_any (w : World) : Calls Tryz.prog 71 #[] w fun e w' => ∃ b, e = .returned (.map (some b)) ∧ w.heap.size ≤ b ∧ b < w'.heap.size ∧ IsMapV .i64 w' b formsKV ∧ Below w.heap.size w w' := by
  have hmm := @run_makeMap Tryz.prog
  have hm : IsMapV .i64 (w.alloc (.map #[] 0)) w.heap.size [] := IsMapV.new .i64 w
  have hB : Below w.heap.size w (w.alloc (.map #[] 0)) := (Below.refl _ _).alloc (Nat.le_refl _) _
  go_enter Tryz.func71, Tryz.ntmps71
  go_wp2_with (refine wpList_insV rfl _ _ _ rfl Tryz.underlying131 Tryz.underlying3 _ _ rfl rfl rfl hm (by rfl) hB (Nat.le_refl _) ?_; clear hm hB; intro w' hm hB)
  go_ret
  exact ⟨_, rfl, Nat.le_refl _, hm.lt, (show IsMapV .i64 _ _ formsKV from hm), hB⟩
/-- What a right condition becomes. -/
def nF (j : Nat) (a : Int) (m v : Nat) : Array Value × Int := match j with
  | 0 => (condA a 1 m v, 0)
  | 1 => (condA a 2 m v, 0)
  | 2 => belF a 3 m v
  | 3 => atmF a v
  | 4 => aboF a v
  | 5 => atlF a 6 m v
  | _ => mskF a 7 m v
theorem condA_z : zN = condA 0 0 0 0 := rfl
theorem nF_form (j : Nat) (a : Int) (m v : Nat) : ∃ (a' o' : Int) (m' v' : Nat), (nF j a m v).1 = condA a' o' m' v' := by
  have hb : ∀ (o : Int) (m v : Nat), ∃ (a' o' : Int) (m' v' : Nat), (belF a o m v).1 = condA a' o' m' v' := fun o m v => by
    unfold belF; split
    · exact ⟨_, _, _, _, condA_z⟩
    · split
      · exact ⟨_, _, _, _, rfl⟩
      · exact ⟨_, _, _, _, rfl⟩
  have ht : ∀ (o : Int) (m v : Nat), ∃ (a' o' : Int) (m' v' : Nat), (atlF a o m v).1 = condA a' o' m' v' := fun o m v => by
    unfold atlF; split
    · exact ⟨_, _, _, _, condA_z⟩
    · split
      · exact ⟨_, _, _, _, rfl⟩
      · exact ⟨_, _, _, _, rfl⟩
  unfold nF
  split
  · exact ⟨_, _, _, _, rfl⟩
  · exact ⟨_, _, _, _, rfl⟩
  · exact hb 3 m v
  · unfold atmF; split
    · exact ⟨_, _, _, _, condA_z⟩
    · exact hb 3 0 (v + 1)
  · unfold aboF; split
    · exact ⟨_, _, _, _, condA_z⟩
    · exact ht 6 0 (v + 1)
  · exact ht 6 m v
  · unfold mskF; split
    · exact ⟨_, _, _, _, condA_z⟩
    · split
      · exact ⟨_, _, _, _, condA_z⟩
      · split
        · exact ⟨_, _, _, _, rfl⟩
        · exact ⟨_, _, _, _, rfl⟩
theorem fnN_any (j : Nat) (hj : j < 7) (a : Int) (m v : Nat) (hm : m ≤ 18446744073709551615) (hv : v ≤ 18446744073709551615) (W : World) : Calls Tryz.prog (fnN j) #[.agg (condA a ((j : Int) + 1) m v)] W fun e w' => e = .returned (.tuple #[.agg (nF j a m v).1, .int .i64 (nF j a m v).2]) ∧ Below W.heap.size W w' := by
  match j, hj with
  | 0, _ => exact asks_any a 1 m v W
  | 1, _ => exact asks_any a 2 m v W
  | 2, _ => exact below_any a 3 m v W
  | 3, _ => exact atMost_any a 4 m v hv W
  | 4, _ => exact above_any a 5 m v hv W
  | 5, _ => exact atLeast_any a 6 m v W
  | 6, _ => exact masked_any a 7 m v hm hv W
theorem fnN_enter (j : Nat) (hj : j < 7) : ∀ args w, (callFunc (fnN j) args).run Tryz.prog w = .ok (.enter (fnN j) args) w := by
  match j, hj with
  | 0, _ => exact enters_of Tryz.func96 (by kernel_rfl) rfl
  | 1, _ => exact enters_of Tryz.func96 (by kernel_rfl) rfl
  | 2, _ => exact enters_of Tryz.func97 (by kernel_rfl) rfl
  | 3, _ => exact enters_of Tryz.func98 (by kernel_rfl) rfl
  | 4, _ => exact enters_of Tryz.func99 (by kernel_rfl) rfl
  | 5, _ => exact enters_of Tryz.func100 (by kernel_rfl) rfl
  | 6, _ => exact enters_of Tryz.func101 (by kernel_rfl) rfl
set_option maxRecDepth 100000 in
set_option maxHeartbeats 8000000 in
theorem normC_no (a o : Int) (m v : Nat) (hno : a < 0 ∨ 6 ≤ a ∨ ∀ j, j < 7 → isO o m j = false) (w : World) :
    Calls Tryz.prog 42 #[.agg (condA a o m v)] w fun e w' => e = .returned (.tuple #[.agg zN, .int .i64 2]) ∧ Below w.heap.size w w' := by
  have HRT := Lib.hid fun X => right_no a o m v hno X
  clear hno
  obtain ⟨W0, hW0⟩ : ∃ W, (w.alloc (.cells (condA a o m v) 62)).alloc (.cells zN 62) = W := ⟨_, rfl⟩
  have HB0 := Lib.hid (show Below w.heap.size w W0 by rw [← hW0]; exact ((Below.refl _ _).alloc (Nat.le_refl _) _).alloc (by simp) _)
  have HP0 := Lib.hid (show RowC W0 w.heap.size (condA a o m v) 62 by rw [← hW0]; exact (RowC.new _ _ _ _ rfl).alloc _)
  have HR0 := Lib.hid (show RowC W0 (w.heap.size + 1) zN 62 by rw [← hW0]; exact RowC.new _ _ _ _ (by simp))
  have HW := Lib.hid hW0
  have x0 := HP0.out.cell 0 (.int .i64 a) rfl
  have x1 := HP0.out.cell 1 (.int .i64 o) rfl
  have x2 := HP0.out.cell 2 (.int .u64 m) rfl
  have x3 := HP0.out.cell 3 (.int .u64 v) rfl
  clear hW0
  go_enter Tryz.func42, Tryz.ntmps42
  go_upto_region 1 with fail
  rw [HW.out]
  go_wp2_with fail
  refine (HRT.out _).mono ?_
  rintro e w1 ⟨rfl, hB1⟩
  have HR1 := Lib.hid (HR0.out.below hB1 HR0.out.lt)
  have HB1 := Lib.hid (HB0.out.trans (hB1.mono HB0.out.size))
  clear hB1
  go_wp2_with fail
  refine (never_any _).mono ?_
  rintro e w2 ⟨rfl, hB2⟩
  have HR2 := Lib.hid (HR1.out.below hB2 HR1.out.lt)
  have HB2 := Lib.hid (HB1.out.trans (hB2.mono HB1.out.size))
  clear hB2
  have z0 := HR2.out.cell 0 (.int .i64 0) rfl
  have z1 := HR2.out.cell 1 (.int .i64 0) rfl
  have z2 := HR2.out.cell 2 (.int .u64 0) rfl
  have z3 := HR2.out.cell 3 (.int .u64 0) rfl
  have y0 := HR2.out.frozen 0
  have y1 := HR2.out.frozen 1
  have y2 := HR2.out.frozen 2
  have y3 := HR2.out.frozen 3
  go_wp2
  exact bodyPost_ret (results_ctO Tryz.results42 _ _ (w.heap.size + 1) _ zN (0, 0) _ (.int .i64 2) (by rfl) (by rfl) (set4N HR2.out) Tryz.underlying62 (by rfl) infoN) rfl ⟨rfl, below4N HB2.out (by omega) _ _ _ _⟩
set_option maxRecDepth 100000 in
set_option maxHeartbeats 16000000 in
theorem normC_ok (a o : Int) (m v j : Nat) (hr : RightO a o m j) (hm : m ≤ 18446744073709551615) (hv : v ≤ 18446744073709551615) (w : World) :
    Calls Tryz.prog 42 #[.agg (condA a o m v)] w fun e w' => e = .returned (.tuple #[.agg (nF j a m v).1, .int .i64 (nF j a m v).2]) ∧ Below w.heap.size w w' := by
  have HRT := Lib.hid fun X => right_ok a o m v j hr X
  have hj : j < 7 := hr.2.2.1
  have ho : o = (j : Int) + 1 := hr.2.2.2.1
  obtain ⟨F, hF⟩ : ∃ F, fnN j = F := ⟨_, rfl⟩
  have hen := fnN_enter j hj
  have hfn := fun X => fnN_any j hj a m v hm hv X
  have hat := formsKV_at j hj
  rw [← ho] at hfn hat
  obtain ⟨a', o', m', v', hf⟩ := nF_form j a m v
  obtain ⟨st, hst⟩ : ∃ st, (nF j a m v).2 = st := ⟨_, rfl⟩
  rw [hF] at hen hfn hat
  rw [hf, hst] at hfn ⊢
  have HFN := Lib.hid hfn
  have HAT := Lib.hid hat
  clear hr hj hfn hat hf hst hF ho hm hv
  obtain ⟨W0, hW0⟩ : ∃ W, (w.alloc (.cells (condA a o m v) 62)).alloc (.cells zN 62) = W := ⟨_, rfl⟩
  have HB0 := Lib.hid (show Below w.heap.size w W0 by rw [← hW0]; exact ((Below.refl _ _).alloc (Nat.le_refl _) _).alloc (by simp) _)
  have HP0 := Lib.hid (show RowC W0 w.heap.size (condA a o m v) 62 by rw [← hW0]; exact (RowC.new _ _ _ _ rfl).alloc _)
  have HR0 := Lib.hid (show RowC W0 (w.heap.size + 1) zN 62 by rw [← hW0]; exact RowC.new _ _ _ _ (by simp))
  have HW := Lib.hid hW0
  have x0 := HP0.out.cell 0 (.int .i64 a) rfl
  have x1 := HP0.out.cell 1 (.int .i64 o) rfl
  have x2 := HP0.out.cell 2 (.int .u64 m) rfl
  have x3 := HP0.out.cell 3 (.int .u64 v) rfl
  clear hW0
  go_enter Tryz.func42, Tryz.ntmps42
  go_upto_region 1 with fail
  rw [HW.out]
  go_wp2_with fail
  refine (HRT.out _).mono ?_
  rintro e w1 ⟨rfl, hB1⟩
  have HR1 := Lib.hid (HR0.out.below hB1 HR0.out.lt)
  have HP1 := Lib.hid (HP0.out.below hB1 HP0.out.lt)
  have HB1 := Lib.hid (HB0.out.trans (hB1.mono HB0.out.size))
  clear hB1 x0 x1 x2 x3
  have k0 := HP1.out.cell 0 (.int .i64 a) rfl
  have k1 := HP1.out.cell 1 (.int .i64 o) rfl
  have k2 := HP1.out.cell 2 (.int .u64 m) rfl
  have k3 := HP1.out.cell 3 (.int .u64 v) rfl
  go_wp2_with fail
  first
  | (go_region_with (first
      | (go_at_call 71
         refine (forms16_any _).mono ?_
         rintro e w2 ⟨b, rfl, hb, hbl, hmap, hB2d⟩
         have hB2 : Below w1.heap.size w1 w2 := ((Below.refl w1.heap.size w1).drew).trans hB2d
         have HR2 := Lib.hid (HR1.out.below hB2 HR1.out.lt)
         have HP2 := Lib.hid (HP1.out.below hB2 HP1.out.lt)
         have HB2 := Lib.hid (HB1.out.trans (hB2.mono HB1.out.size))
         have hlk := IsMapV.look (P := Tryz.prog) hmap Tryz.underlying131 Tryz.underlying3 _ _ HAT.out
         have k0 := HP2.out.cell 0 (.int .i64 a) rfl
         have k1 := HP2.out.cell 1 (.int .i64 o) rfl
         have k2 := HP2.out.cell 2 (.int .u64 m) rfl
         have k3 := HP2.out.cell 3 (.int .u64 v) rfl
         clear hb hbl hmap hB2 hB2d)
      | (go_at_fn F
         refine (HFN.out _).mono ?_
         rintro e w3 ⟨rfl, hB3⟩
         have HR3 := Lib.hid (HR2.out.below hB3 HR2.out.lt)
         have HB3 := Lib.hid (HB2.out.trans (hB3.mono HB2.out.size))
         have z0 := HR3.out.cell 0 (.int .i64 0) rfl
         have z1 := HR3.out.cell 1 (.int .i64 0) rfl
         have z2 := HR3.out.cell 2 (.int .u64 0) rfl
         have z3 := HR3.out.cell 3 (.int .u64 0) rfl
         have y0 := HR3.out.frozen 0
         have y1 := HR3.out.frozen 1
         have y2 := HR3.out.frozen 2
         have y3 := HR3.out.frozen 3
         clear hB3)))
  | fail "cond"
  all_goals go_wp2
  all_goals exact bodyPost_ret (results_ctO Tryz.results42 _ _ (w.heap.size + 1) _ (condA a' o' m' v') (0, 0) _ (.int .i64 st) (by rfl) (by rfl) (set4N HR3.out) Tryz.underlying62 (by rfl) infoN) rfl ⟨rfl, below4N HB3.out (by omega) _ _ _ _⟩
end Go.Proofs.YtcembcicpmhpkaaGreatDoor
