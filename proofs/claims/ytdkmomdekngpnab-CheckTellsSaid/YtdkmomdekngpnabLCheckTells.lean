/-
  The law CheckTells holds for every input: whether a program may run, or what is wrong first, and where, is told as the reference says it. No condition (the law itself lets programs of more than 200 instructions go).
-/
import Derived.Test.YtdkmomdekngpnabKr
import Derived.Test.YtdkmomdekngpnabIf
import Derived.Test.YtdkmomdekngpnabRows
import Derived.Below
import Derived.ChangeOld
import Derived.ShutString
import Derived.Lib.SmallJoins
import Derived.OpenShut
import Derived.ProofKit
import Derived.WalkKit
namespace Go.Proofs.Ytdkmomdekngpnab
open Go.RowKit

set_option maxRecDepth 100000 in
set_option maxHeartbeats 4000000 in
theorem walk_CheckTells {w0 : World} (A : Option Addr) (n c : Nat) (g : Nat → IV) (hr : Ins w0 w0.heap.size A n c g) :
    Calls Try.prog 3 #[.slice A n c] w0 fun e w' => e = .returned (.bool true) ∧ Below w0.heap.size w0 w' := by
  have hmx := hr.1.le
  unfold maxLen at hmx
  obtain ⟨m1, m2⟩ := hmx
  have HR := Lib.hid hr
  clear hr
  by_cases h1 : 200 < n
  · go_enter Try.func3, Try.ntmps3
    go_wp2
    go_ret
    exact ⟨rfl, Below.refl _ _⟩
  · obtain ⟨FR, hFR⟩ : ∃ z, checkF g n = z := ⟨_, rfl⟩
    have HF := Lib.hid hFR
    clear hFR
    obtain ⟨a, b⟩ := FR
    go_enter Try.func3, Try.ntmps3
    go_wp2_with (first
      | (go_at_call 11
         refine (all4_any A n c g _ (by omega) HR.out).mono ?_
         rintro e w1 ⟨A1, c1, rfl, hown1, hB1⟩
         have hi1 : Ins w1 w1.heap.size A1 n c1 g := ⟨hown1.cel, HR.out.2⟩
         have HI1 := Lib.hid hi1
         clear hown1 hi1)
      | (go_at_call 10
         refine (check_any _ _ _ g _ HI1.out).mono ?_
         rw [HF.out]
         rintro e w2 ⟨rfl, hB2⟩
         have hb2 := hB1.trans (hB2.mono hB1.size))
      | (go_at_call 12
         refine (refCheck_any A n c g _ ((HR.out.below hb2).more hb2.size) (by omega)).mono ?_
         rw [HF.out]
         rintro e w3 ⟨rfl, hB3⟩
         have hb3 := hb2.trans (hB3.mono hb2.size))
      | (go_at_call 13
         refine (awake4_any _).mono ?_
         rintro e w4 ⟨rfl, hB4⟩
         have hb4 := hb3.trans (hB4.mono hb3.size)))
    go_ret
    exact ⟨rfl, hb4⟩

namespace checkTellsRow
open Go.ChangeShapes Go.WideShapes Go.ChangeAt Go.RowKit Go.Joins
open Go.ChangeMaps (open_string shut_string)
set_option linter.unusedVariables false
theorem own : ownKnob Try.prog.godebug = none := by kernel_rfl
theorem laidOut : laidOutB Try.prog = true := by kernel_rfl
set_option maxRecDepth 100000 in
theorem lifted (os : Os) (started : os.Started) (H : Type) (enc : TypeId × Value → H) :
    ReturnsInHanded {} Try.checked os 3 .any (Rows.checkTellsSpec.pre6 enc Try.prog Try.f3 Rows.checkTellsRow.domain false) (Rows.checkTellsSpec.post enc Try.prog Try.f3 false true false false) := by
  refine returnsInHanded_of_change (C := Try.checked) own started (by kernel_rfl) Try.func3
    (ChangeSpec.witness6 (enc := enc) (C := Try.checked) false ⟨#[], #[.slice none 0 0], []⟩ 8 (by kernel_rfl) (by kernel_rfl) (by kernel_rfl) (by kernel_rfl)) ?_
  intro W base args ds gs before hval0 hW hcnd _
  have hval : ∀ (j : Nat) t v, Try.f3.params[j]? = some t → args[j]? = some v → Value.okWide Try.prog W .any base t v := hval0
  have hW' := hW
  obtain ⟨p, q, hA0, hV, rfl, hfz, hnd⟩ := hW
  have hA : DataW.TrodAll enc Try.prog W 0 (fun _ => true) true Try.f3.params.toList args.toList ds p := hA0
  rw [Try.params3] at hA hval
  obtain ⟨v0, vs0, d0, ds0, p0, q0, hargs, rfl, rfl, h0, r0⟩ := trodAll_cons hA
  obtain ⟨rfl, rfl, rfl⟩ := trodAll_nil r0
  obtain rfl : args = #[v0] := by cases args; simp_all
  obtain ⟨rfl, rfl⟩ := trodVars_none hV
  have k0 := h0
  have lt0 : ∀ x ∈ p0, x.block < W.heap.size := by obtain ⟨m, hm⟩ := k0; exact DataW.trod_lt m _ _ _ hm
  obtain ⟨a0, len0, cap0, rfl⟩ := okWide_slice Try.underlying22 (hval 0 22 v0 rfl rfl)
  obtain ⟨g0, w0⟩ := open_ins h0
  clear hA0 hval0
  refine (walk_CheckTells (w0 := W) a0 len0 cap0 g0 w0).mono fun e W' ⟨he, bel⟩ => ?_
  subst he
  exact ⟨_, rfl, _, _, _, [], _, [], hW', trodAll_mk1 (shut_bool Try.underlying4 _), (trodAll_cons_mk (Below.trod laidOut (by kernel_rfl) (of_decide_eq_true (by kernel_rfl)) k0 bel lt0) trodAll_mk0), rfl, bel.frame _, fun h => by cases h⟩

theorem over : Rows.checkTellsRow.holds Try.pinned (OpenSpec.ofChange Rows.checkTellsSpec) :=
  OpenClaim.holds_of_wide 3 Try.f3 rfl rfl rfl rfl rfl rfl rfl ⟨rfl, rfl, rfl, rfl, rfl⟩ rfl rfl rfl rfl rfl (by kernel_rfl) Try.func3 (by kernel_rfl)
    (of_decide_eq_true (by kernel_rfl)) (by unfold Func.isWrapper; first | (rw [if_pos (by decide +kernel)]; kernel_rfl) | (rw [if_neg (by decide +kernel)]; exact ⟨rfl, rfl⟩))
    (fun os started H enc _ => lifted os started H enc)
end checkTellsRow

theorem checkTells_proved : Rows.CheckTellsSaid := checkTellsRow.over
#print axioms checkTells_proved
end Go.Proofs.Ytdkmomdekngpnab
