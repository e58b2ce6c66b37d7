/-
  The law ActEdges holds for every input: the greatest numbers of errno and trace; another kind's number is 0; codes grow with them. No condition.
-/
import Derived.Test.YtjblkkffdhaiiaaRows
import Derived.Test.YtjblkkffdhaiiaaBc
import Derived.WalkKit
import Derived.ProofKit
import Derived.OpenShut
import Derived.ShutString
import Derived.ChangeOld
import Derived.Below
import Derived.Lib.SmallJoins
namespace Go.Proofs.Ytjblkkffdhaiiaa
open Go.RowKit

theorem may_most (j : Nat) (n : Int) (h0 : 0 ≤ n) (h1 : n ≤ mostA j) : mayA j n = true := by unfold mayA; simp [h0, h1]
theorem may_not (j : Nat) (n : Int) (h : n < 0 ∨ mostA j < n) : mayA j n = false := by
  unfold mayA
  rcases h with h | h
  · have : ¬ 0 ≤ n := by omega
    simp [this]
  · have : ¬ n ≤ mostA j := by omega
    simp [this]
theorem most_nn (j : Nat) : 0 ≤ mostA j := by unfold mostA; split <;> (try split) <;> omega
theorem code_zero (j : Nat) (hj : j < 8) (W : World) : Calls Try.prog 21 #[.agg #[.int .i64 ((j : Int) + 1), .int .i64 0]] W fun e w' => e = .returned (.tuple #[.int .u32 (kcA j), .int .i64 0]) ∧ Below W.heap.size W w' := by
  have := code_ok j hj 0 (may_most j 0 (by omega) (most_nn j)) W
  simpa using this

set_option maxRecDepth 100000 in
set_option maxHeartbeats 8000000 in
/-- The walk, the greatest number being known. -/
theorem edges_at {w0 : World} (a n : Int) (ha0 : 0 ≤ a) (ha1 : a ≤ 255) (hn0 : -9223372036854775808 ≤ n) (hn1 : n ≤ 9223372036854775807) (j : Nat) (ej : a % 8 = (j : Int)) (m : Int) (t4 t6 : Bool) (h4 : ((j : Int) + 1 == 4) = t4) (h6 : ((j : Int) + 1 == 6) = t6) (hm : m = if t6 = true then 65535 else if t4 = true then 4095 else 0) (hmm : mostA j = m) :
    Calls Try.prog 8 #[.int .u8 a, .int .i64 n] w0 fun e w' => e = .returned (.bool true) ∧ Below w0.heap.size w0 w' := by
  have hj : j < 8 := by omega
  have HC := Lib.hid fun W => code_zero j hj W
  have hmn := most_nn j
  rw [hmm] at hmn
  by_cases hr : n < 0 ∨ m < n
  · have HD : ∀ W, Calls Try.prog 21 #[.agg #[.int .i64 ((j : Int) + 1), .int .i64 n]] W fun e w' => e = .returned (.tuple #[.int .u32 0, .int .i64 16]) ∧ Below W.heap.size W w' := fun W =>
      code_no _ n (fun i _ he => by obtain rfl : j = i := by omega
                                    exact may_not j n (by rw [hmm]; exact hr)) W
    have HD := Lib.hid HD
    have hrr := Lib.hid hr
    clear hr hmm
    cases t4 <;> cases t6 <;> (first | (exfalso; simp at h4 h6; omega) | skip)
    all_goals
      simp only [Bool.false_eq_true, if_true, if_false] at hm
      subst hm
      rcases hrr.out with hr | hr
    all_goals
      clear hrr
      first | (have hr2 : ¬ n < 0 := by omega) | skip
      go_enter Try.func8, Try.ntmps8
      go_wp2_with fail
      refine (HC.out _).mono ?_
      rintro e w1 ⟨rfl, hB1⟩
      have hz1 := hB1.size
      go_wp2_with fail
      refine (HD.out _).mono ?_
      rintro e w2 ⟨rfl, hB2⟩
      have hz2 := hB2.size
      go_wp2_with (go_at_call 22; refine (awake9_any _).mono ?_; rintro e w3 ⟨rfl, hB3⟩)
      go_ret
      exact ⟨rfl, (hB1.trans (hB2.mono hz1)).trans (hB3.mono (by omega))⟩
  · have hr0 : 0 ≤ n := by omega
    have hr1 : n ≤ m := by omega
    have hmay := may_most j n hr0 (by omega)
    have hlt := code_lt hmay
    have hbd := may_bd hmay
    have HD : ∀ W, Calls Try.prog 21 #[.agg #[.int .i64 ((j : Int) + 1), .int .i64 n]] W fun e w' => e = .returned (.tuple #[.int .u32 ((kcA j : Int) + n), .int .i64 0]) ∧ Below W.heap.size W w' := fun W => code_ok j hj n hmay W
    have HD := Lib.hid HD
    have v0 : IntKind.u32.wrap n = n := by rw [IntKind.wrap_u32]; omega
    have v1 : IntKind.u32.wrap ((kcA j : Int) + n) = (kcA j : Int) + n := by rw [IntKind.wrap_u32]; omega
    clear hmay hmm hr
    cases t4 <;> cases t6 <;> (first | (exfalso; simp at h4 h6; omega) | skip)
    all_goals
      simp only [Bool.false_eq_true, if_true, if_false] at hm
      subst hm
      go_enter Try.func8, Try.ntmps8
      go_wp2_with fail
      refine (HC.out _).mono ?_
      rintro e w1 ⟨rfl, hB1⟩
      have hz1 := hB1.size
      go_wp2_with fail
      refine (HD.out _).mono ?_
      rintro e w2 ⟨rfl, hB2⟩
      have hz2 := hB2.size
      go_wp2_with (go_at_call 22; refine (awake9_any _).mono ?_; rintro e w3 ⟨rfl, hB3⟩)
      go_ret
      exact ⟨rfl, (hB1.trans (hB2.mono hz1)).trans (hB3.mono (by omega))⟩

theorem walk_ActEdges {w0 : World} (a : Int) (ha : (Lit.int .u8 a).wf = true) (n : Int) (hn : (Lit.int .i64 n).wf = true) :
    Calls Try.prog 8 #[.int .u8 a, .int .i64 n] w0 fun e w' => e = .returned (.bool true) ∧ Below w0.heap.size w0 w' := by
  simp [Lit.wf, IntKind.min, IntKind.max, IntKind.signed, IntKind.bits] at ha hn
  obtain ⟨j, ej⟩ : ∃ j : Nat, a % 8 = j := Int.eq_ofNat_of_zero_le (by omega)
  refine edges_at a n ha.1 (by omega) hn.1 (by omega) j ej (if ((j : Int) + 1 == 6) = true then 65535 else if ((j : Int) + 1 == 4) = true then 4095 else 0) _ _ rfl rfl rfl ?_
  unfold mostA
  by_cases h3 : j = 3
  · subst h3; rfl
  by_cases h5 : j = 5
  · subst h5; rfl
  rw [if_neg h3, if_neg h5, if_neg (by simp; omega), if_neg (by simp; omega)]

namespace actEdgesRow
open Go.ChangeShapes Go.WideShapes Go.ChangeAt Go.RowKit Go.Joins
open Go.ChangeMaps (open_string shut_string)
set_option linter.unusedVariables false
theorem own : ownKnob Try.prog.godebug = none := by kernel_rfl
theorem laidOut : laidOutB Try.prog = true := by kernel_rfl
set_option maxRecDepth 100000 in
theorem lifted (os : Os) (started : os.Started) (H : Type) (enc : TypeId × Value → H) :
    ReturnsInHanded {} Try.checked os 8 .any (Rows.actEdgesSpec.pre6 enc Try.prog Try.f8 Rows.actEdgesRow.domain false) (Rows.actEdgesSpec.post enc Try.prog Try.f8 false true false false) := by
  refine returnsInHanded_of_change (C := Try.checked) own started (by kernel_rfl) Try.func8
    (ChangeSpec.witness6 (enc := enc) (C := Try.checked) false ⟨#[], #[.int .u8 0, .int .i64 0], []⟩ 8 (by kernel_rfl) (by kernel_rfl) (by kernel_rfl) (by kernel_rfl)) ?_
  intro W base args ds gs before hval0 hW hcnd _
  have hval : ∀ (j : Nat) t v, Try.f8.params[j]? = some t → args[j]? = some v → Value.okWide Try.prog W .any base t v := hval0
  have hW' := hW
  obtain ⟨p, q, hA0, hV, rfl, hfz, hnd⟩ := hW
  have hA : DataW.TrodAll enc Try.prog W 0 (fun _ => true) true Try.f8.params.toList args.toList ds p := hA0
  rw [Try.params8] at hA hval
  obtain ⟨v0, vs0, d0, ds0, p0, q0, hargs, rfl, rfl, h0, r0⟩ := trodAll_cons hA
  obtain ⟨v1, vs1, d1, ds1, p1, q1, rfl, rfl, rfl, h1, r1⟩ := trodAll_cons r0
  obtain ⟨rfl, rfl, rfl⟩ := trodAll_nil r1
  obtain rfl : args = #[v0, v1] := by cases args; simp_all
  obtain ⟨rfl, rfl⟩ := trodVars_none hV
  have k0 := h0
  have lt0 : ∀ x ∈ p0, x.block < W.heap.size := by obtain ⟨m, hm⟩ := k0; exact DataW.trod_lt m _ _ _ hm
  have k1 := h1
  have lt1 : ∀ x ∈ p1, x.block < W.heap.size := by obtain ⟨m, hm⟩ := k1; exact DataW.trod_lt m _ _ _ hm
  obtain ⟨a0, rfl, rfl, rfl, w0⟩ := open_int Try.underlying5 (hval 0 5 v0 rfl rfl) h0
  obtain ⟨a1, rfl, rfl, rfl, w1⟩ := open_int Try.underlying3 (hval 1 3 v1 rfl rfl) h1
  clear hA0 hval0
  refine (walk_ActEdges (w0 := W) a0 w0 a1 w1).mono fun e W' ⟨he, bel⟩ => ?_
  subst he
  exact ⟨_, rfl, _, _, _, [], _, [], hW', trodAll_mk1 (shut_bool Try.underlying4 _), (trodAll_cons_mk (Below.trod laidOut (by kernel_rfl) (of_decide_eq_true (by kernel_rfl)) k0 bel lt0) (trodAll_cons_mk (Below.trod laidOut (by kernel_rfl) (of_decide_eq_true (by kernel_rfl)) k1 bel lt1) trodAll_mk0)), rfl, bel.frame _, fun h => by cases h⟩

theorem over : Rows.actEdgesRow.holds Try.pinned (OpenSpec.ofChange Rows.actEdgesSpec) :=
  OpenClaim.holds_of_wide 8 Try.f8 rfl rfl rfl rfl rfl rfl rfl ⟨rfl, rfl, rfl, rfl, rfl⟩ rfl rfl rfl rfl rfl (by kernel_rfl) Try.func8 (by kernel_rfl)
    (of_decide_eq_true (by kernel_rfl)) (by unfold Func.isWrapper; first | (rw [if_pos (by decide +kernel)]; kernel_rfl) | (rw [if_neg (by decide +kernel)]; exact ⟨rfl, rfl⟩))
    (fun os started H enc _ => lifted os started H enc)
end actEdgesRow

theorem actEdges_proved : Rows.ActEdgesSaid := actEdgesRow.over
#print axioms actEdges_proved
end Go.Proofs.Ytjblkkffdhaiiaa
