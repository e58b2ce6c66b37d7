/-
  The statement of InstWrites is proved: for every instructions the law returns true. No condition.
-/
import Derived.Test.YtfdfngljfilomaaRows
import Derived.Test.YtfdfngljfilomaaIf
import Derived.WalkKit
import Derived.ProofKit
import Derived.OpenShut
import Derived.ShutString
import Derived.ChangeOld
import Derived.Below
import Derived.Lib.SmallJoins
import Derived.Deep.RegionWith
namespace Go.Proofs.Ytfdfngljfilomaa
open Go.RowKit

theorem Ins.drew {w : World} {B n c : Nat} {A : Option Addr} {g : Nat → IV} (h : Ins w B A n c g) : Ins w.drew B A n c g := h
set_option maxRecDepth 100000 in
set_option maxHeartbeats 4000000 in
theorem walk_InstWrites {w0 : World} (A : Option Addr) (n c : Nat) (g : Nat → IV) (hr : Ins w0 w0.heap.size A n c g) :
    Calls Try.prog 10 #[.slice A n c] w0 fun e w' => e = .returned (.bool true) ∧ Below w0.heap.size w0 w' := by
  have hmx := hr.1.le
  unfold maxLen at hmx
  obtain ⟨m1, m2⟩ := hmx
  by_cases h : 300 < n
  · go_enter Try.func10, Try.ntmps10
    go_wp2
    go_ret
    exact ⟨rfl, Below.refl _ _⟩
  · go_enter Try.func10, Try.ntmps10
    go_wp2_with fail
    go_region_with (first
      | (go_at_call 29
         refine (of2_any _ _ _ g _ (by omega) hr.drew).mono ?_
         rintro e w1 ⟨A1, c1, rfl, hown1, hB1⟩
         have hi1 : Ins w1 w1.heap.size A1 n c1 g := ⟨hown1.cel, hr.2⟩)
      | (go_at_call 28
         refine (write_any _ _ _ g _ (by omega) hi1).mono ?_
         rintro e w2 ⟨A2, c2, rfl, hown2, hB2⟩
         have hb2 : Below w0.heap.size w0 w2 := ((Below.refl _ w0).drew.trans hB1).trans (hB2.mono hB1.size)
         have hby2 := hown2.byt
         have hstr := str_of_byt (P := Try.prog) Try.underlying22 Try.underlying5 Try.underlying9 hby2
         generalize hS : sbytes (8 * n) (wbytes g) = S at hstr
         have HS := Lib.hid hS
         clear hS)
      | (go_at_call 30
         refine (refWrite_any _ _ _ g _ (by omega) ((hr.below hb2).more hb2.size)).mono ?_
         rintro e w3 ⟨A3, c3, rfl, hown3, hB3⟩
         have hb3 := hb2.trans (hB3.mono hb2.size)
         have hstr2 := str_of_byt (P := Try.prog) Try.underlying22 Try.underlying5 Try.underlying9 hown3.byt
         have hstr3 := str_of_byt (P := Try.prog) Try.underlying22 Try.underlying5 Try.underlying9 (hby2.below hB3)
         rw [HS.out] at hstr2 hstr3)
      | (go_at_call 27
         refine (awake2_any _).mono ?_
         rintro e w4 ⟨rfl, hB4⟩
         have hb4 := hb3.trans (hB4.mono hb3.size)))
    all_goals go_wp2
    all_goals go_ret
    all_goals exact ⟨rfl, hb4⟩

namespace instWritesRow
open Go.ChangeShapes Go.WideShapes Go.ChangeAt Go.RowKit Go.Joins
open Go.ChangeMaps (open_string shut_string)
set_option linter.unusedVariables false
theorem own : ownKnob Try.prog.godebug = none := by kernel_rfl
theorem laidOut : laidOutB Try.prog = true := by kernel_rfl
set_option maxRecDepth 100000 in
theorem lifted (os : Os) (started : os.Started) (H : Type) (enc : TypeId × Value → H) :
    ReturnsInHanded {} Try.checked os 10 .any (Rows.instWritesSpec.pre6 enc Try.prog Try.f10 Rows.instWritesRow.domain false) (Rows.instWritesSpec.post enc Try.prog Try.f10 false true false false) := by
  refine returnsInHanded_of_change (C := Try.checked) own started (by kernel_rfl) Try.func10
    (ChangeSpec.witness6 (enc := enc) (C := Try.checked) false ⟨#[], #[.slice none 0 0], []⟩ 8 (by kernel_rfl) (by kernel_rfl) (by kernel_rfl) (by kernel_rfl)) ?_
  intro W base args ds gs before hval0 hW hcnd _
  have hval : ∀ (j : Nat) t v, Try.f10.params[j]? = some t → args[j]? = some v → Value.okWide Try.prog W .any base t v := hval0
  have hW' := hW
  obtain ⟨p, q, hA0, hV, rfl, hfz, hnd⟩ := hW
  have hA : DataW.TrodAll enc Try.prog W 0 (fun _ => true) true Try.f10.params.toList args.toList ds p := hA0
  rw [Try.params10] at hA hval
  obtain ⟨v0, vs0, d0, ds0, p0, q0, hargs, rfl, rfl, h0, r0⟩ := trodAll_cons hA
  obtain ⟨rfl, rfl, rfl⟩ := trodAll_nil r0
  obtain rfl : args = #[v0] := by cases args; simp_all
  obtain ⟨rfl, rfl⟩ := trodVars_none hV
  have k0 := h0
  have lt0 : ∀ x ∈ p0, x.block < W.heap.size := by obtain ⟨m, hm⟩ := k0; exact DataW.trod_lt m _ _ _ hm
  obtain ⟨a0, len0, cap0, rfl⟩ := okWide_slice Try.underlying55 (hval 0 55 v0 rfl rfl)
  obtain ⟨g0, w0⟩ := open_ins h0
  clear hA0 hval0
  refine (walk_InstWrites (w0 := W) a0 len0 cap0 g0 w0).mono fun e W' ⟨he, bel⟩ => ?_
  subst he
  exact ⟨_, rfl, _, _, _, [], _, [], hW', trodAll_mk1 (shut_bool Try.underlying4 _), (trodAll_cons_mk (Below.trod laidOut (by kernel_rfl) (of_decide_eq_true (by kernel_rfl)) k0 bel lt0) trodAll_mk0), rfl, bel.frame _, fun h => by cases h⟩

theorem over : Rows.instWritesRow.holds Try.pinned (OpenSpec.ofChange Rows.instWritesSpec) :=
  OpenClaim.holds_of_wide 10 Try.f10 rfl rfl rfl rfl rfl rfl rfl ⟨rfl, rfl, rfl, rfl, rfl⟩ rfl rfl rfl rfl rfl (by kernel_rfl) Try.func10 (by kernel_rfl)
    (of_decide_eq_true (by kernel_rfl)) (by unfold Func.isWrapper; first | (rw [if_pos (by decide +kernel)]; kernel_rfl) | (rw [if_neg (by decide +kernel)]; exact ⟨rfl, rfl⟩))
    (fun os started H enc _ => lifted os started H enc)
end instWritesRow

theorem instWrites_proved : Rows.InstWritesSaid := instWritesRow.over
#print axioms instWrites_proved
end Go.Proofs.Ytfdfngljfilomaa
