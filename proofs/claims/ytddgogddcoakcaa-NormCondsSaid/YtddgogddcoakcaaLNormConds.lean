/-
  The law NormConds holds for every input: what Cond gives is what the reference gives. No condition.
-/
import Derived.Test.YtddgogddcoakcaaOf
import Derived.Test.YtddgogddcoakcaaRows
import Derived.WalkKit
import Derived.ProofKit
import Derived.OpenShut
import Derived.ShutString
import Derived.ChangeOld
import Derived.Below
import Derived.Lib.SmallJoins
import Derived.RegionTactic
import Derived.Deep.RegionHeld3
namespace Go.Proofs.Ytddgogddcoakcaa
open Go.RowKit
set_option linter.unusedVariables false

section
open Go.Shelf
theorem bTrans {w w' w'' : World} (h : Below w.heap.size w w') (h2 : Below w'.heap.size w' w'') : Below w.heap.size w w'' := h.trans (h2.mono h.size)
set_option maxRecDepth 100000 in
set_option maxHeartbeats 8000000 in
theorem conds_no (a o : Int) (m v : Nat) (hno : a < 0 ∨ 6 ≤ a ∨ ∀ j, j < 7 → isO o m j = false) (w : World) :
    Calls Try.prog 3 #[.agg (condA a o m v)] w fun e w' => e = .returned (.bool true) ∧ Below w.heap.size w w' := by
  have HNC := Lib.hid fun X => normC_no a o m v hno X
  have hrr := fun X => refRight_any a o m v X
  rw [rightB_no hno] at hrr
  have HRR := Lib.hid hrr
  have HCS := Lib.hid fun X => conds16_any a o m v X
  clear hno hrr
  obtain ⟨W0, hW0⟩ : ∃ W, w.alloc (.cells (condA a o m v) 24) = W := ⟨_, rfl⟩
  have HB0 := Lib.hid (show Below w.heap.size w W0 by rw [← hW0]; exact (Below.refl _ _).alloc (Nat.le_refl _) _)
  have HP0 := Lib.hid (show RowC W0 w.heap.size (condA a o m v) 24 by rw [← hW0]; exact RowC.new _ _ _ _ rfl)
  have HW := Lib.hid hW0
  have x0 := HP0.out.cell 0 (.int .i64 a) rfl
  have x1 := HP0.out.cell 1 (.int .i64 o) rfl
  have x2 := HP0.out.cell 2 (.int .u64 m) rfl
  have x3 := HP0.out.cell 3 (.int .u64 v) rfl
  clear hW0
  go_enter Try.func3, Try.ntmps3
  go_upto_region 1 with fail
  rw [HW.out]
  go_wp2_with fail
  refine (HCS.out _).mono ?_
  rintro e w1 ⟨rfl, hB1⟩
  go_wp2_with fail
  refine (HNC.out _).mono ?_
  rintro e w2 ⟨rfl, hB2⟩
  obtain ⟨W1, hW1⟩ : ∃ X, w2.alloc (.cells zN 25) = X := ⟨_, rfl⟩
  have hb1 : Below w2.heap.size w2 W1 := by rw [← hW1]; exact (Below.refl _ _).alloc (Nat.le_refl _) _
  have hb01 := bTrans (bTrans hB1 hB2) hb1
  have HR1 := Lib.hid (show RowC W1 w2.heap.size zN 25 by rw [← hW1]; exact RowC.new _ _ _ _ rfl)
  have HP1 := Lib.hid (HP0.out.below hb01 HP0.out.lt)
  have HB1 := Lib.hid (bTrans HB0.out hb01)
  have HW1 := Lib.hid hW1
  clear x0 x1 x2 x3 hW1 hB1 hB2 hb1 hb01
  have k0 := HP1.out.cell 0 (.int .i64 a) rfl
  have k1 := HP1.out.cell 1 (.int .i64 o) rfl
  have k2 := HP1.out.cell 2 (.int .u64 m) rfl
  have k3 := HP1.out.cell 3 (.int .u64 v) rfl
  go_upto_region 2 with fail
  rw [HW1.out]
  go_wp2_with fail
  refine (HRR.out _).mono ?_
  rintro e w3 ⟨rfl, hB3⟩
  have HR3 := Lib.hid (HR1.out.below hB3 HR1.out.lt)
  have HB3 := Lib.hid (bTrans HB1.out hB3)
  clear hB3 k0 k1 k2 k3
  have k0 := HR3.out.cell 0 (.int .i64 0) rfl
  have k1 := HR3.out.cell 1 (.int .i64 0) rfl
  have k2 := HR3.out.cell 2 (.int .u64 0) rfl
  have k3 := HR3.out.cell 3 (.int .u64 0) rfl
  go_wp2_with fail
  refine (awake16_any _).mono ?_
  rintro e w4 ⟨rfl, hB4⟩
  have HB4 := Lib.hid (bTrans HB3.out hB4)
  clear hB4
  go_wp2
  go_ret
  exact ⟨rfl, HB4.out⟩
set_option maxRecDepth 100000 in
set_option maxHeartbeats 16000000 in
theorem conds_ok (a o : Int) (m v j : Nat) (hr : RightO a o m j) (hm : m ≤ 18446744073709551615) (hv : v ≤ 18446744073709551615) (w : World) :
    Calls Try.prog 3 #[.agg (condA a o m v)] w fun e w' => e = .returned (.bool true) ∧ Below w.heap.size w w' := by
  have hnc := fun X => normC_ok a o m v j hr hm hv X
  have hrf := fun X => ref16_ok a o m v j hr hm hv X
  have hrr := fun X => refRight_any a o m v X
  rw [rightB_ok hr] at hrr
  have HRR := Lib.hid hrr
  have HCS := Lib.hid fun X => conds16_any a o m v X
  obtain ⟨a', o', m', v', hf⟩ := nF_form j a m v
  obtain ⟨st, hst⟩ : ∃ st, (nF j a m v).2 = st := ⟨_, rfl⟩
  rw [hf, hst] at hnc hrf
  have HNC := Lib.hid hnc
  have HRF := Lib.hid hrf
  clear hr hm hv hrr hnc hrf hf hst
  obtain ⟨W0, hW0⟩ : ∃ W, w.alloc (.cells (condA a o m v) 24) = W := ⟨_, rfl⟩
  have HB0 := Lib.hid (show Below w.heap.size w W0 by rw [← hW0]; exact (Below.refl _ _).alloc (Nat.le_refl _) _)
  have HP0 := Lib.hid (show RowC W0 w.heap.size (condA a o m v) 24 by rw [← hW0]; exact RowC.new _ _ _ _ rfl)
  have HW := Lib.hid hW0
  have x0 := HP0.out.cell 0 (.int .i64 a) rfl
  have x1 := HP0.out.cell 1 (.int .i64 o) rfl
  have x2 := HP0.out.cell 2 (.int .u64 m) rfl
  have x3 := HP0.out.cell 3 (.int .u64 v) rfl
  clear hW0
  go_enter Try.func3, Try.ntmps3
  go_upto_region 1 with fail
  rw [HW.out]
  go_wp2_with fail
  refine (HCS.out _).mono ?_
  rintro e w1 ⟨rfl, hB1⟩
  go_wp2_with fail
  refine (HNC.out _).mono ?_
  rintro e w2 ⟨rfl, hB2⟩
  obtain ⟨W1, hW1⟩ : ∃ X, w2.alloc (.cells (condA a' o' m' v') 25) = X := ⟨_, rfl⟩
  have hb1 : Below w2.heap.size w2 W1 := by rw [← hW1]; exact (Below.refl _ _).alloc (Nat.le_refl _) _
  have hb01 := bTrans (bTrans hB1 hB2) hb1
  have HR1 := Lib.hid (show RowC W1 w2.heap.size (condA a' o' m' v') 25 by rw [← hW1]; exact RowC.new _ _ _ _ rfl)
  have HP1 := Lib.hid (HP0.out.below hb01 HP0.out.lt)
  have HB1 := Lib.hid (bTrans HB0.out hb01)
  have HW1 := Lib.hid hW1
  clear x0 x1 x2 x3 hW1 hB1 hB2 hb1 hb01
  have k0 := HP1.out.cell 0 (.int .i64 a) rfl
  have k1 := HP1.out.cell 1 (.int .i64 o) rfl
  have k2 := HP1.out.cell 2 (.int .u64 m) rfl
  have k3 := HP1.out.cell 3 (.int .u64 v) rfl
  go_upto_region 2 with fail
  rw [HW1.out]
  go_wp2_with fail
  refine (HRR.out _).mono ?_
  rintro e w3 ⟨rfl, hB3⟩
  have HR3 := Lib.hid (HR1.out.below hB3 HR1.out.lt)
  have HP3 := Lib.hid (HP1.out.below hB3 HP1.out.lt)
  have HB3 := Lib.hid (bTrans HB1.out hB3)
  clear hB3 k0 k1 k2 k3
  have k0 := HP3.out.cell 0 (.int .i64 a) rfl
  have k1 := HP3.out.cell 1 (.int .i64 o) rfl
  have k2 := HP3.out.cell 2 (.int .u64 m) rfl
  have k3 := HP3.out.cell 3 (.int .u64 v) rfl
  go_wp2_with fail
  refine (HRF.out _).mono ?_
  rintro e w4 ⟨rfl, hB4⟩
  obtain ⟨W4, hW4⟩ : ∃ X, w4.alloc (.cells (condA a' o' m' v') 24) = X := ⟨_, rfl⟩
  have hb4 : Below w4.heap.size w4 W4 := by rw [← hW4]; exact (Below.refl _ _).alloc (Nat.le_refl _) _
  have hb34 := bTrans hB4 hb4
  have HN4 := Lib.hid (show RowC W4 w4.heap.size (condA a' o' m' v') 24 by rw [← hW4]; exact RowC.new _ _ _ _ rfl)
  have HR4 := Lib.hid (HR3.out.below hb34 HR3.out.lt)
  have HB4 := Lib.hid (bTrans HB3.out hb34)
  have HW4 := Lib.hid hW4
  clear k0 k1 k2 k3 hW4 hB4 hb4 hb34 HCS
  obtain ⟨bn, hbn⟩ : ∃ n, w4.heap.size = n := ⟨_, rfl⟩
  obtain ⟨br, hbr⟩ : ∃ n, w2.heap.size = n := ⟨_, rfl⟩
  have HS0 : Hid (∀ X, Below W4.heap.size W4 X → X.cell? ⟨w2.heap.size, 0, none⟩ = some (.int .i64 a') ∧ X.cell? ⟨w2.heap.size, 1, none⟩ = some (.int .i64 o') ∧ X.cell? ⟨w2.heap.size, 2, none⟩ = some (.int .u64 m') ∧ X.cell? ⟨w2.heap.size, 3, none⟩ = some (.int .u64 v') ∧ X.cell? ⟨w4.heap.size, 0, none⟩ = some (.int .i64 a') ∧ X.cell? ⟨w4.heap.size, 1, none⟩ = some (.int .i64 o') ∧ X.cell? ⟨w4.heap.size, 2, none⟩ = some (.int .u64 m') ∧ X.cell? ⟨w4.heap.size, 3, none⟩ = some (.int .u64 v')) :=
    Lib.hid fun X hX => have h1 := HR4.out.below hX HR4.out.lt
      have h2 := HN4.out.below hX HN4.out.lt
      ⟨h1.cell 0 _ rfl, h1.cell 1 _ rfl, h1.cell 2 _ rfl, h1.cell 3 _ rfl, h2.cell 0 _ rfl, h2.cell 1 _ rfl, h2.cell 2 _ rfl, h2.cell 3 _ rfl⟩
  clear hbn hbr bn br
  have HCN := Lib.hid fun X => conds16_any a' o' m' v' X
  go_upto_region 5 with fail
  rw [HW4.out]
  have hk0 : Below W4.heap.size W4 W4.drew := (Below.refl _ W4).drew
  clear HW4
  go_region_held3 (fun w' => w'.cell? ⟨w2.heap.size, 0, none⟩ = some (.int .i64 a') ∧ w'.cell? ⟨w2.heap.size, 1, none⟩ = some (.int .i64 o') ∧ w'.cell? ⟨w2.heap.size, 2, none⟩ = some (.int .u64 m') ∧ w'.cell? ⟨w2.heap.size, 3, none⟩ = some (.int .u64 v') ∧ w'.cell? ⟨w4.heap.size, 0, none⟩ = some (.int .i64 a') ∧ w'.cell? ⟨w4.heap.size, 1, none⟩ = some (.int .i64 o') ∧ w'.cell? ⟨w4.heap.size, 2, none⟩ = some (.int .u64 m') ∧ w'.cell? ⟨w4.heap.size, 3, none⟩ = some (.int .u64 v'))
    (exact HS0.out _ (by first | with_reducible assumption | exact hk0))
    (first
      | (go_at_call 6
         (with_reducible refine (HCN.out _).mono ?_)
         rintro e w7 ⟨rfl, hB7⟩
         have hk1 := bTrans (by first | with_reducible assumption | exact hk0) hB7)
      | (go_at_call 8
         (with_reducible refine (awake16_any _).mono ?_)
         rintro e w7 ⟨rfl, hB7⟩
         have hk1 := bTrans (by first | with_reducible assumption | exact hk0) hB7))
  all_goals go_wp2
  all_goals go_ret
  all_goals exact ⟨rfl, bTrans HB4.out (by with_reducible assumption)⟩
end
theorem walk_NormConds {w0 : World} (a o : Int) (m v : Nat) (ha : (Lit.int .i64 a).wf = true) (ho : (Lit.int .i64 o).wf = true) (hm : m < 18446744073709551616) (hv : v < 18446744073709551616) :
    Calls Try.prog 3 #[.agg #[.int .i64 a, .int .i64 o, .int .u64 m, .int .u64 v]] w0 fun e w' => e = .returned (.bool true) ∧ Below w0.heap.size w0 w' := by
  by_cases h0 : a < 0
  · exact conds_no a o m v (.inl h0) w0
  by_cases h6 : 6 ≤ a
  · exact conds_no a o m v (.inr (.inl h6)) w0
  by_cases hj : ∃ j, j < 7 ∧ isO o m j = true
  · obtain ⟨j, hj, hi⟩ := hj
    have hi' := (Bool.and_eq_true _ _ ▸ hi : _ ∧ _)
    exact conds_ok a o m v j ⟨by omega, by omega, hj, (by have := beq_iff_eq.1 hi'.1; exact this.symm), hi'.2⟩ (by omega) (by omega) w0
  · exact conds_no a o m v (.inr (.inr fun j hj' => by
      cases h : isO o m j
      · rfl
      · exact absurd ⟨j, hj', h⟩ hj)) w0

namespace normCondsRow
open Go.ChangeShapes Go.WideShapes Go.ChangeAt Go.RowKit Go.Joins
open Go.ChangeMaps (open_string shut_string)
set_option linter.unusedVariables false
theorem own : ownKnob Try.prog.godebug = none := by kernel_rfl
theorem laidOut : laidOutB Try.prog = true := by kernel_rfl
set_option maxRecDepth 100000 in
theorem lifted (os : Os) (started : os.Started) (H : Type) (enc : TypeId × Value → H) :
    ReturnsInHanded {} Try.checked os 3 .any (Rows.normCondsSpec.pre6 enc Try.prog Try.f3 Rows.normCondsRow.domain false) (Rows.normCondsSpec.post enc Try.prog Try.f3 false true false false) := by
  refine returnsInHanded_of_change (C := Try.checked) own started (by kernel_rfl) Try.func3
    (ChangeSpec.witness6 (enc := enc) (C := Try.checked) false ⟨#[], #[.agg #[.int .i64 0, .int .i64 0, .int .u64 0, .int .u64 0]], []⟩ 8 (by kernel_rfl) (by kernel_rfl) (by kernel_rfl) (by kernel_rfl)) ?_
  intro W base args ds gs before hval0 hW hcnd _
  have hval : ∀ (j : Nat) t v, Try.f3.params[j]? = some t → args[j]? = some v → Value.okWide Try.prog W .any base t v := hval0
  have hW' := hW
  obtain ⟨p, q, hA0, hV, rfl, hfz, hnd⟩ := hW
  have hA : DataW.TrodAll enc Try.prog W 0 (fun _ => true) true Try.f3.params.toList args.toList ds p := hA0
  rw [Try.params3] at hA hval
  obtain ⟨v0, vs0, d0, ds0, p0, q0, hargs, rfl, rfl, h0, r0⟩ := trodAll_cons hA
  obtain ⟨rfl, rfl, rfl⟩ := trodAll_nil r0
  obtain rfl : args = #[v0] := by cases args; simp_all
  obtain ⟨rfl, rfl⟩ := trodVars_none hV
  have k0 := h0
  have lt0 : ∀ x ∈ p0, x.block < W.heap.size := by obtain ⟨m, hm⟩ := k0; exact DataW.trod_lt m _ _ _ hm
  obtain ⟨cc0, cc1, cc2, cc3, yy0, yy1, yy2, yy3, mm, rfl, _, _, hyy0, hyy1, hyy2, hyy3⟩ := open_agg4 Try.underlying24 (by kernel_rfl) (show Try.prog.cellsOf 24 = 4 by kernel_rfl) (hval 0 24 v0 rfl rfl) h0
  obtain ⟨n0, ee0, _, u0⟩ := DataW.trod_int Try.underlying3 hyy0
  obtain ⟨n1, ee1, _, u1⟩ := DataW.trod_int Try.underlying3 hyy1
  obtain ⟨n2, ee2, _, u2⟩ := DataW.trod_int Try.underlying22 hyy2
  obtain ⟨n3, ee3, _, u3⟩ := DataW.trod_int Try.underlying22 hyy3
  simp only [List.cons.injEq, and_true] at ee0 ee1 ee2 ee3
  subst ee0 ee1 ee2 ee3
  simp [Lit.wf, IntKind.min, IntKind.max, IntKind.signed, IntKind.bits] at u2 u3
  obtain ⟨x2, rfl⟩ := Int.eq_ofNat_of_zero_le u2.1
  obtain ⟨x3, rfl⟩ := Int.eq_ofNat_of_zero_le u3.1
  clear hA0 hval0
  refine (walk_NormConds (w0 := W) n0 n1 x2 x3 u0 u1 (by omega) (by omega)).mono fun e W' ⟨he, bel⟩ => ?_
  subst he
  exact ⟨_, rfl, _, _, _, [], _, [], hW', trodAll_mk1 (shut_bool Try.underlying4 _), (trodAll_cons_mk (Below.trod laidOut (by kernel_rfl) (of_decide_eq_true (by kernel_rfl)) k0 bel lt0) trodAll_mk0), rfl, bel.frame _, fun h => by cases h⟩

theorem over : Rows.normCondsRow.holds Try.pinned (OpenSpec.ofChange Rows.normCondsSpec) :=
  OpenClaim.holds_of_wide 3 Try.f3 rfl rfl rfl rfl rfl rfl rfl ⟨rfl, rfl, rfl, rfl, rfl⟩ rfl rfl rfl rfl rfl (by kernel_rfl) Try.func3 (by kernel_rfl)
    (of_decide_eq_true (by kernel_rfl)) (by unfold Func.isWrapper; first | (rw [if_pos (by decide +kernel)]; kernel_rfl) | (rw [if_neg (by decide +kernel)]; exact ⟨rfl, rfl⟩))
    (fun os started H enc _ => lifted os started H enc)
end normCondsRow

theorem normConds_proved : Rows.NormCondsSaid := normCondsRow.over
#print axioms normConds_proved
end Go.Proofs.Ytddgogddcoakcaa
