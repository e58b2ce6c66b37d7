/-
  The law NormHolds holds for every input: a right condition, and what it becomes, hold for the same arguments. No condition.
-/
import Derived.Test.YtddgogddcoakcaaOd
import Derived.Test.YtddgogddcoakcaaRows
import Derived.WalkKit
import Derived.ProofKit
import Derived.OpenShut
import Derived.ShutString
import Derived.ChangeOld
import Derived.Below
import Derived.Lib.SmallJoins
import Derived.RegionTactic
namespace Go.Proofs.Ytddgogddcoakcaa
open Go.RowKit
set_option linter.unusedVariables false

section
open Go.Shelf
set_option maxRecDepth 100000 in
set_option maxHeartbeats 8000000 in
theorem holds16_no (a o : Int) (m v : Nat) (f : Nat → Nat) (hno : a < 0 ∨ 6 ≤ a ∨ ∀ j, j < 7 → isO o m j = false) (w : World) :
    Calls Try.prog 4 #[.agg (condA a o m v), .agg (argsA f)] w fun e w' => e = .returned (.bool true) ∧ Below w.heap.size w w' := by
  have HRN := Lib.hid fun X => right_no a o m v hno X
  have HCS := Lib.hid fun X => conds16_any a o m v X
  clear hno
  obtain ⟨W0, hW0⟩ : ∃ W, (w.alloc (.cells (condA a o m v) 24)).alloc (.cells (argsA f) 34) = W := ⟨_, rfl⟩
  have HB0 := Lib.hid (show Below w.heap.size w W0 by rw [← hW0]; exact ((Below.refl _ _).alloc (Nat.le_refl _) _).alloc (by simp) _)
  have HP0 := Lib.hid (show RowC W0 w.heap.size (condA a o m v) 24 by rw [← hW0]; exact (RowC.new _ _ _ _ rfl).alloc _)
  have HW := Lib.hid hW0
  have x0 := HP0.out.cell 0 (.int .i64 a) rfl
  have x1 := HP0.out.cell 1 (.int .i64 o) rfl
  have x2 := HP0.out.cell 2 (.int .u64 m) rfl
  have x3 := HP0.out.cell 3 (.int .u64 v) rfl
  clear hW0
  go_enter Try.func4, Try.ntmps4
  go_upto_region 1 with fail
  rw [HW.out]
  go_wp2_with fail
  refine (HCS.out _).mono ?_
  rintro e w1 ⟨rfl, hB1⟩
  obtain ⟨W1, hW1⟩ : ∃ X, w1.alloc (.cells (condA a o m v) 25) = X := ⟨_, rfl⟩
  have hb1 : Below w1.heap.size w1 W1 := by rw [← hW1]; exact (Below.refl _ _).alloc (Nat.le_refl _) _
  have hr1 : RowC W1 w1.heap.size (condA a o m v) 25 := by rw [← hW1]; exact RowC.new _ _ _ _ rfl
  have HB1 := Lib.hid (HB0.out.trans ((hB1.trans (hb1.mono hB1.size)).mono HB0.out.size))
  have HW1 := Lib.hid hW1
  have k0 := hr1.cell 0 (.int .i64 a) rfl
  have k1 := hr1.cell 1 (.int .i64 o) rfl
  have k2 := hr1.cell 2 (.int .u64 m) rfl
  have k3 := hr1.cell 3 (.int .u64 v) rfl
  clear x0 x1 x2 x3 hW1 hB1 hb1 hr1
  go_upto_region 2 with fail
  rw [HW1.out]
  go_wp2_with fail
  refine (HRN.out _).mono ?_
  rintro e w2 ⟨rfl, hB2⟩
  have HB2 := Lib.hid (HB1.out.trans (hB2.mono HB1.out.size))
  clear hB2
  go_wp2_with fail
  refine (awake16_any _).mono ?_
  rintro e w3 ⟨rfl, hB3⟩
  have HB3 := Lib.hid (HB2.out.trans (hB3.mono HB2.out.size))
  clear hB3
  go_wp2
  go_ret
  exact ⟨rfl, HB3.out⟩
set_option maxRecDepth 100000 in
set_option maxHeartbeats 16000000 in
theorem holds16_ok (a : Nat) (o : Int) (m v j : Nat) (f : Nat → Nat) (hr : RightO a o m j) (hm : m ≤ 18446744073709551615) (hv : v ≤ 18446744073709551615) (hf : ∀ i, i < 6 → f i < 18446744073709551616) (w : World) :
    Calls Try.prog 4 #[.agg (condA a o m v), .agg (argsA f)] w fun e w' => e = .returned (.bool true) ∧ Below w.heap.size w w' := by
  have ha : a < 6 := by have := hr.2.1; omega
  have HRT := Lib.hid fun X => right_ok a o m v j hr X
  have HCS := Lib.hid fun X => conds16_any a o m v X
  have hkp := nF_holds a o m v j (f a) hr hm hv (hf a ha)
  have hnc := fun X => normC_ok a o m v j hr hm hv X
  have hho := fun X => holds_ok a ha o m v j hr f hf (by omega) X
  obtain ⟨b, hb⟩ : ∃ b, hoF j (f a) m v = b := ⟨_, rfl⟩
  obtain ⟨st, hst⟩ : ∃ st, (nF j a m v).2 = st := ⟨_, rfl⟩
  rw [hb] at hkp hho
  obtain ⟨a', o', m', v', hC, hcase⟩ := hkp
  rw [hC, hst] at hnc
  rw [hst] at hcase
  have HNC := Lib.hid hnc
  have HHO := Lib.hid hho
  have HF := Lib.hid hf
  have HA := Lib.hid ha
  clear hr hm hv hf ha hho hnc hC hst hb
  obtain ⟨W0, hW0⟩ : ∃ W, (w.alloc (.cells (condA a o m v) 24)).alloc (.cells (argsA f) 34) = W := ⟨_, rfl⟩
  have HB0 := Lib.hid (show Below w.heap.size w W0 by rw [← hW0]; exact ((Below.refl _ _).alloc (Nat.le_refl _) _).alloc (by simp) _)
  have HP0 := Lib.hid (show RowC W0 w.heap.size (condA a o m v) 24 by rw [← hW0]; exact (RowC.new _ _ _ _ rfl).alloc _)
  have HQ0 := Lib.hid (show RowC W0 (w.heap.size + 1) (argsA f) 34 by rw [← hW0]; exact RowC.new _ _ _ _ (by simp))
  have HW := Lib.hid hW0
  have x0 := HP0.out.cell 0 (.int .i64 a) rfl
  have x1 := HP0.out.cell 1 (.int .i64 o) rfl
  have x2 := HP0.out.cell 2 (.int .u64 m) rfl
  have x3 := HP0.out.cell 3 (.int .u64 v) rfl
  clear hW0
  go_enter Try.func4, Try.ntmps4
  go_upto_region 1 with fail
  rw [HW.out]
  go_wp2_with fail
  refine (HCS.out _).mono ?_
  rintro e w1 ⟨rfl, hB1⟩
  obtain ⟨W1, hW1⟩ : ∃ X, w1.alloc (.cells (condA a o m v) 25) = X := ⟨_, rfl⟩
  have hb1 : Below w1.heap.size w1 W1 := by rw [← hW1]; exact (Below.refl _ _).alloc (Nat.le_refl _) _
  have hb01 := hB1.trans (hb1.mono hB1.size)
  have HR1 := Lib.hid (show RowC W1 w1.heap.size (condA a o m v) 25 by rw [← hW1]; exact RowC.new _ _ _ _ rfl)
  have HQ1 := Lib.hid (HQ0.out.below hb01 HQ0.out.lt)
  have HB1 := Lib.hid (HB0.out.trans (hb01.mono HB0.out.size))
  have HW1 := Lib.hid hW1
  clear x0 x1 x2 x3 hW1 hB1 hb1 hb01
  have k0 := HR1.out.cell 0 (.int .i64 a) rfl
  have k1 := HR1.out.cell 1 (.int .i64 o) rfl
  have k2 := HR1.out.cell 2 (.int .u64 m) rfl
  have k3 := HR1.out.cell 3 (.int .u64 v) rfl
  go_upto_region 2 with fail
  rw [HW1.out]
  go_wp2_with fail
  refine (HRT.out _).mono ?_
  rintro e w2 ⟨rfl, hB2⟩
  have HR2 := Lib.hid (HR1.out.below hB2 HR1.out.lt)
  have HQ2 := Lib.hid (HQ1.out.below hB2 HQ1.out.lt)
  have HB2 := Lib.hid (HB1.out.trans (hB2.mono HB1.out.size))
  clear hB2 k0 k1 k2 k3
  have k0 := HR2.out.cell 0 (.int .i64 a) rfl
  have k1 := HR2.out.cell 1 (.int .i64 o) rfl
  have k2 := HR2.out.cell 2 (.int .u64 m) rfl
  have k3 := HR2.out.cell 3 (.int .u64 v) rfl
  go_wp2_with fail
  refine (HNC.out _).mono ?_
  rintro e w3 ⟨rfl, hB3⟩
  obtain ⟨W3, hW3⟩ : ∃ X, w3.alloc (.cells (condA a' o' m' v') 25) = X := ⟨_, rfl⟩
  have hb3 : Below w3.heap.size w3 W3 := by rw [← hW3]; exact (Below.refl _ _).alloc (Nat.le_refl _) _
  have hb23 := hB3.trans (hb3.mono hB3.size)
  have HN3 := Lib.hid (show RowC W3 w3.heap.size (condA a' o' m' v') 25 by rw [← hW3]; exact RowC.new _ _ _ _ rfl)
  have HR3 := Lib.hid (HR2.out.below hb23 HR2.out.lt)
  have HQ3 := Lib.hid (HQ2.out.below hb23 HQ2.out.lt)
  have HB3 := Lib.hid (HB2.out.trans (hb23.mono HB2.out.size))
  have HW3 := Lib.hid hW3
  clear k0 k1 k2 k3 hW3 hB3 hb3 hb23
  have k0 := HR3.out.cell 0 (.int .i64 a) rfl
  have k1 := HR3.out.cell 1 (.int .i64 o) rfl
  have k2 := HR3.out.cell 2 (.int .u64 m) rfl
  have k3 := HR3.out.cell 3 (.int .u64 v) rfl
  have c0 := HQ3.out.cell 0 (.int .u64 (f 0)) rfl
  have c1 := HQ3.out.cell 1 (.int .u64 (f 1)) rfl
  have c2 := HQ3.out.cell 2 (.int .u64 (f 2)) rfl
  have c3 := HQ3.out.cell 3 (.int .u64 (f 3)) rfl
  have c4 := HQ3.out.cell 4 (.int .u64 (f 4)) rfl
  have c5 := HQ3.out.cell 5 (.int .u64 (f 5)) rfl
  go_upto_region 5 with fail
  rw [HW3.out]
  go_wp2_with fail
  refine (HHO.out _).mono ?_
  rintro e w4 ⟨rfl, hB4⟩
  have HN4 := Lib.hid (HN3.out.below hB4 HN3.out.lt)
  have HQ4 := Lib.hid (HQ3.out.below hB4 HQ3.out.lt)
  have HB4 := Lib.hid (HB3.out.trans (hB4.mono HB3.out.size))
  clear k0 k1 k2 k3 c0 c1 c2 c3 c4 c5 hB4
  rcases hcase with ⟨rfl, rfl⟩ | ⟨rfl, rfl⟩ | ⟨rfl, j', rfl, hr', hm', hh⟩
  · go_wp2_with fail
    refine (awake16_any _).mono ?_
    rintro e w5 ⟨rfl, hB5⟩
    have HB5 := Lib.hid (HB4.out.trans (hB5.mono HB4.out.size))
    clear hB5
    go_wp2
    go_ret
    exact ⟨rfl, HB5.out⟩
  · go_wp2_with fail
    refine (awake16_any _).mono ?_
    rintro e w5 ⟨rfl, hB5⟩
    have HB5 := Lib.hid (HB4.out.trans (hB5.mono HB4.out.size))
    clear hB5
    go_wp2
    go_ret
    exact ⟨rfl, HB5.out⟩
  · have HR' := Lib.hid fun X => right_ok a o' m' v' j' hr' X
    have hho' := fun X => holds_ok a HA.out o' m' v' j' hr' f HF.out hm' X
    rw [hh] at hho'
    have HH' := Lib.hid hho'
    clear hho' hr' hm' hh
    have k0 := HN4.out.cell 0 (.int .i64 a) rfl
    have k1 := HN4.out.cell 1 (.int .i64 o') rfl
    have k2 := HN4.out.cell 2 (.int .u64 m') rfl
    have k3 := HN4.out.cell 3 (.int .u64 v') rfl
    go_wp2_with fail
    refine (HR'.out _).mono ?_
    rintro e w5 ⟨rfl, hB5⟩
    have HN5 := Lib.hid (HN4.out.below hB5 HN4.out.lt)
    have HQ5 := Lib.hid (HQ4.out.below hB5 HQ4.out.lt)
    have HB5 := Lib.hid (HB4.out.trans (hB5.mono HB4.out.size))
    clear k0 k1 k2 k3 hB5
    have k0 := HN5.out.cell 0 (.int .i64 a) rfl
    have k1 := HN5.out.cell 1 (.int .i64 o') rfl
    have k2 := HN5.out.cell 2 (.int .u64 m') rfl
    have k3 := HN5.out.cell 3 (.int .u64 v') rfl
    have c0 := HQ5.out.cell 0 (.int .u64 (f 0)) rfl
    have c1 := HQ5.out.cell 1 (.int .u64 (f 1)) rfl
    have c2 := HQ5.out.cell 2 (.int .u64 (f 2)) rfl
    have c3 := HQ5.out.cell 3 (.int .u64 (f 3)) rfl
    have c4 := HQ5.out.cell 4 (.int .u64 (f 4)) rfl
    have c5 := HQ5.out.cell 5 (.int .u64 (f 5)) rfl
    go_wp2_with fail
    refine (HH'.out _).mono ?_
    rintro e w6 ⟨rfl, hB6⟩
    have HB6 := Lib.hid (HB5.out.trans (hB6.mono HB5.out.size))
    clear k0 k1 k2 k3 c0 c1 c2 c3 c4 c5 hB6
    cases b
    all_goals go_wp2_with fail
    all_goals refine (awake16_any _).mono ?_
    all_goals rintro e w7 ⟨rfl, hB7⟩
    all_goals have HB7 := Lib.hid (HB6.out.trans (hB7.mono HB6.out.size))
    all_goals clear hB7
    all_goals go_wp2
    all_goals go_ret
    all_goals exact ⟨rfl, HB7.out⟩
end
theorem walk_NormHolds {w0 : World} (a o : Int) (m v : Nat) (ha : (Lit.int .i64 a).wf = true) (ho : (Lit.int .i64 o).wf = true) (hm : m < 18446744073709551616) (hv : v < 18446744073709551616) (f : Nat → Nat) (hf : ∀ i, i < 6 → f i < 18446744073709551616) :
    Calls Try.prog 4 #[.agg #[.int .i64 a, .int .i64 o, .int .u64 m, .int .u64 v], .agg #[.int .u64 (f 0), .int .u64 (f 1), .int .u64 (f 2), .int .u64 (f 3), .int .u64 (f 4), .int .u64 (f 5)]] w0 fun e w' => e = .returned (.bool true) ∧ Below w0.heap.size w0 w' := by
  by_cases h0 : a < 0
  · exact holds16_no a o m v f (.inl h0) w0
  by_cases h6 : 6 ≤ a
  · exact holds16_no a o m v f (.inr (.inl h6)) w0
  by_cases hj : ∃ j, j < 7 ∧ isO o m j = true
  · obtain ⟨j, hj, hi⟩ := hj
    have hi' := (Bool.and_eq_true _ _ ▸ hi : _ ∧ _)
    obtain ⟨x, rfl⟩ := Int.eq_ofNat_of_zero_le (show 0 ≤ a by omega)
    exact holds16_ok x o m v j f ⟨by omega, by omega, hj, (by have := beq_iff_eq.1 hi'.1; exact this.symm), hi'.2⟩ (by omega) (by omega) hf w0
  · exact holds16_no a o m v f (.inr (.inr fun j hj' => by
      cases h : isO o m j
      · rfl
      · exact absurd ⟨j, hj', h⟩ hj)) w0

namespace normHoldsRow
open Go.ChangeShapes Go.WideShapes Go.ChangeAt Go.RowKit Go.Joins
open Go.ChangeMaps (open_string shut_string)
set_option linter.unusedVariables false
theorem own : ownKnob Try.prog.godebug = none := by kernel_rfl
theorem laidOut : laidOutB Try.prog = true := by kernel_rfl
set_option maxRecDepth 100000 in
theorem lifted (os : Os) (started : os.Started) (H : Type) (enc : TypeId × Value → H) :
    ReturnsInHanded {} Try.checked os 4 .any (Rows.normHoldsSpec.pre6 enc Try.prog Try.f4 Rows.normHoldsRow.domain false) (Rows.normHoldsSpec.post enc Try.prog Try.f4 false true false false) := by
  refine returnsInHanded_of_change (C := Try.checked) own started (by kernel_rfl) Try.func4
    (ChangeSpec.witness6 (enc := enc) (C := Try.checked) false ⟨#[], #[.agg #[.int .i64 0, .int .i64 0, .int .u64 0, .int .u64 0], .agg #[.int .u64 0, .int .u64 0, .int .u64 0, .int .u64 0, .int .u64 0, .int .u64 0]], []⟩ 8 (by kernel_rfl) (by kernel_rfl) (by kernel_rfl) (by kernel_rfl)) ?_
  intro W base args ds gs before hval0 hW hcnd _
  have hval : ∀ (j : Nat) t v, Try.f4.params[j]? = some t → args[j]? = some v → Value.okWide Try.prog W .any base t v := hval0
  have hW' := hW
  obtain ⟨p, q, hA0, hV, rfl, hfz, hnd⟩ := hW
  have hA : DataW.TrodAll enc Try.prog W 0 (fun _ => true) true Try.f4.params.toList args.toList ds p := hA0
  rw [Try.params4] at hA hval
  obtain ⟨v0, vs0, d0, ds0, p0, q0, hargs, rfl, rfl, h0, r0⟩ := trodAll_cons hA
  obtain ⟨v1, vs1, d1, ds1, p1, q1, rfl, rfl, rfl, h1, r1⟩ := trodAll_cons r0
  obtain ⟨rfl, rfl, rfl⟩ := trodAll_nil r1
  obtain rfl : args = #[v0, v1] := by cases args; simp_all
  obtain ⟨rfl, rfl⟩ := trodVars_none hV
  have k0 := h0
  have lt0 : ∀ x ∈ p0, x.block < W.heap.size := by obtain ⟨m, hm⟩ := k0; exact DataW.trod_lt m _ _ _ hm
  have k1 := h1
  have lt1 : ∀ x ∈ p1, x.block < W.heap.size := by obtain ⟨m, hm⟩ := k1; exact DataW.trod_lt m _ _ _ hm
  obtain ⟨cc0, cc1, cc2, cc3, yy0, yy1, yy2, yy3, mm, rfl, _, _, hyy0, hyy1, hyy2, hyy3⟩ := open_agg4 Try.underlying24 (by kernel_rfl) (show Try.prog.cellsOf 24 = 4 by kernel_rfl) (hval 0 24 v0 rfl rfl) h0
  obtain ⟨n0, ee0, _, u0⟩ := DataW.trod_int Try.underlying3 hyy0
  obtain ⟨n1, ee1, _, u1⟩ := DataW.trod_int Try.underlying3 hyy1
  obtain ⟨n2, ee2, _, u2⟩ := DataW.trod_int Try.underlying22 hyy2
  obtain ⟨n3, ee3, _, u3⟩ := DataW.trod_int Try.underlying22 hyy3
  simp only [List.cons.injEq, and_true] at ee0 ee1 ee2 ee3
  subst ee0 ee1 ee2 ee3
  simp [Lit.wf, IntKind.min, IntKind.max, IntKind.signed, IntKind.bits] at u2 u3
  obtain ⟨x2, rfl⟩ := Int.eq_ofNat_of_zero_le u2.1
  obtain ⟨x3, rfl⟩ := Int.eq_ofNat_of_zero_le u3.1
  obtain ⟨f1, rfl, g1⟩ := open_arr6 (hval 1 34 v1 rfl rfl) h1
  clear hA0 hval0
  refine (walk_NormHolds (w0 := W) n0 n1 x2 x3 u0 u1 (by omega) (by omega) f1 g1).mono fun e W' ⟨he, bel⟩ => ?_
  subst he
  exact ⟨_, rfl, _, _, _, [], _, [], hW', trodAll_mk1 (shut_bool Try.underlying4 _), (trodAll_cons_mk (Below.trod laidOut (by kernel_rfl) (of_decide_eq_true (by kernel_rfl)) k0 bel lt0) (trodAll_cons_mk (Below.trod laidOut (by kernel_rfl) (of_decide_eq_true (by kernel_rfl)) k1 bel lt1) trodAll_mk0)), rfl, bel.frame _, fun h => by cases h⟩

theorem over : Rows.normHoldsRow.holds Try.pinned (OpenSpec.ofChange Rows.normHoldsSpec) :=
  OpenClaim.holds_of_wide 4 Try.f4 rfl rfl rfl rfl rfl rfl rfl ⟨rfl, rfl, rfl, rfl, rfl⟩ rfl rfl rfl rfl rfl (by kernel_rfl) Try.func4 (by kernel_rfl)
    (of_decide_eq_true (by kernel_rfl)) (by unfold Func.isWrapper; first | (rw [if_pos (by decide +kernel)]; kernel_rfl) | (rw [if_neg (by decide +kernel)]; exact ⟨rfl, rfl⟩))
    (fun os started H enc _ => lifted os started H enc)
end normHoldsRow

theorem normHolds_proved : Rows.NormHoldsSaid := normHoldsRow.over
#print axioms normHolds_proved
end Go.Proofs.Ytddgogddcoakcaa
