/-
  The law ValidLess holds for every input: a valid policy without one of its rules, and with another default, is valid, too; so is one with another action. No condition.
-/
import Derived.Test.YtcmdmnnkbliggaaGreatDoorRows
import Derived.Test.YtcmdmnnkbliggaaGreatDoorCards
import Derived.Test.YtcmdmnnkbliggaaGreatDoorTie
import Derived.Test.YtcmdmnnkbliggaaGreatDoorWValidLessk
import Derived.Lay
import Derived.MakeChecks
import Derived.WalkKit
import Derived.ProofKit
import Derived.OpenShut
import Derived.ShutString
import Derived.ChangeOld
import Derived.Below
import Derived.Lib.SmallJoins
import Derived.SevenTiedAt
import Derived.LaidMore
import Derived.Stop.Joined
import Derived.RegionTactic
import Derived.Deep.Cut
import Derived.Deep.CutRange
import Derived.Deep.RegionHeld3
namespace Go.Proofs.YtcmdmnnkbliggaaGreatDoor
open Go.RowKit Go.Shelf
set_option linter.unusedVariables false


namespace validLessRow
open Go.ChangeShapes Go.WideShapes Go.ChangeAt Go.RowKit Go.Joins
open Go.ChangeMaps (open_string shut_string)
set_option linter.unusedVariables false
theorem own : ownKnob Tryz.prog.godebug = none := by kernel_rfl
theorem laidOut : laidOutB Tryz.prog = true := by kernel_rfl
set_option maxRecDepth 100000 in
theorem lifted (os : Os) (started : os.Started) (H : Type) (enc : TypeId × Value → H) :
    ReturnsInHanded {} Tryz.checked os 6 .any (fun w args => (Rows.validLessSpec.pre enc Tryz.prog Tryz.f6 [] false w args ∧ laidMetH Tryz.prog Rows.validLessRow.laid w) ∧ sizedMet enc Tryz.prog Tryz.f6 (OpenSpec.ofChange Rows.validLessSpec) false w args) (Rows.validLessSpec.post enc Tryz.prog Tryz.f6 false true false false) := by
  refine returnsInHanded_of_change_and (C := Tryz.checked) (X := fun w _ => laidMetH Tryz.prog Rows.validLessRow.laid w) (fun _ _ _ hh h => h.of_heap hh) own started (by kernel_rfl) Tryz.func6
    (ChangeSpec.witness_shaped (enc := enc) (C := Tryz.checked) (os := os) (X := fun w _ => laidMetH Tryz.prog Rows.validLessRow.laid w) false (World.laidAll Tryz.prog os Rows.validLessRow.laid) #[.agg #[.int .i64 0, .int .i64 0, .bool false, .slice none 0 0, .slice none 0 0, .int .u8 0, .int .i64 0, .int .i64 0]] 8 (World.laidAll_os _ _ _) (World.shaped_of_ZipB (by kernel_rfl) (by kernel_rfl)) (by kernel_rfl) (by kernel_rfl) (by kernel_rfl) (by rw [MakeChecks.laidMetH_plain _ _ _ (by kernel_rfl)]; exact laidMet_laidAll _ (by kernel_rfl) (by kernel_rfl))) ?_
  intro W base args ds gs before hval0 hW _ _ hL _
  have hval : ∀ (j : Nat) t v, Tryz.f6.params[j]? = some t → args[j]? = some v → Value.okWide Tryz.prog W .any base t v := hval0
  have hW' := hW
  obtain ⟨p, q, hA0, hV, rfl, hfz, hnd⟩ := hW
  have hA : DataW.TrodAll enc Tryz.prog W 0 (fun _ => true) true Tryz.f6.params.toList args.toList ds p := hA0
  rw [Tryz.params6] at hA hval
  obtain ⟨v0, vs0, d0, ds0, p0, q0, hargs, rfl, rfl, h0, r0⟩ := trodAll_cons hA
  obtain ⟨rfl, rfl, rfl⟩ := trodAll_nil r0
  obtain rfl : args = #[v0] := by cases args; simp_all
  obtain ⟨rfl, rfl⟩ := trodVars_none hV
  have k0 := h0
  have lt0 : ∀ x ∈ p0, x.block < W.heap.size := by obtain ⟨m, hm⟩ := k0; exact DataW.trod_lt m _ _ _ hm
  obtain ⟨bk0, bu0, bx0, bA0, bn0, bc0, bR0, bTA0, btn0, btc0, bT0, bz0, bka0, bua0, rfl, bh10, bh20, bh30, bh40, bh50, bh60, bh70, bh80, bh90⟩ := open_less15 (hval 0 53 v0 rfl rfl) h0
  clear hA0 hval0
  refine (walk_ValidLess (w0 := W) bk0 bu0 bx0 bA0 bn0 bc0 bR0 bTA0 btn0 btc0 bT0 bz0 bka0 bua0 bh10 bh20 bh30 bh40 bh50 bh60 bh70 bh80 bh90 (of_laid hL)).mono fun e W' ⟨he, bel⟩ => ?_
  subst he
  exact ⟨_, rfl, _, _, _, [], _, [], hW', trodAll_mk1 (shut_bool Tryz.underlying4 _), (trodAll_cons_mk (Below.trod laidOut (by kernel_rfl) (of_decide_eq_true (by kernel_rfl)) k0 bel lt0) trodAll_mk0), rfl, bel.frame _, fun h => by cases h⟩

theorem over_inPlace : (Rows.validLessRow.inPlace == Tryz.prog.inPlace 6) = true := by kernel_rfl
theorem over_unfollowed : (Rows.validLessRow.unfollowed == Tryz.prog.unfollowed 6) = true := by kernel_rfl
theorem over_recurses : (Rows.validLessRow.recurses == Tryz.prog.recurses 6) = true := by kernel_rfl
theorem over_named : (Rows.validLessRow.named == Tryz.prog.varsNamed 6) = true := by kernel_rfl
theorem over_closed : joinedFacts Tryz.prog 6 Tryz.f6 Rows.validLessSpec Rows.validLessRow = true := by
  unfold joinedFacts
  rw [over_inPlace, over_unfollowed, over_recurses, over_named, laidOut]
  kernel_rfl
theorem over_found : Tryz.prog.funcNamed Rows.validLessRow.func = some 6 := by kernel_rfl
theorem over : Rows.validLessRow.holds Tryz.pinned (OpenSpec.ofChange Rows.validLessSpec) :=
  OpenClaim.holds_of_wide 6 Tryz.f6 rfl rfl rfl rfl rfl rfl rfl ⟨rfl, rfl, rfl, rfl, rfl⟩ rfl rfl rfl rfl rfl over_found Tryz.func6 over_closed
    (of_decide_eq_true (by kernel_rfl)) (by unfold Func.isWrapper; first | (rw [if_pos (by decide +kernel)]; kernel_rfl) | (rw [if_neg (by decide +kernel)]; exact ⟨rfl, rfl⟩))
    (fun os started H enc _ => lifted os started H enc)
end validLessRow

theorem validLess_looks : true = Tryz.prog.looks [] := by kernel_rfl
theorem validLess_goes : false = Rows.validLessRow.goesBy Tryz.prog := by kernel_rfl
theorem validLess_text : Rows.validLessRow.wfByText (OpenSpec.ofChange Rows.validLessSpec) = true := by kernel_rfl
theorem validLess_main : Tryz.prog.mainIs = some (Rows.validLessCard.stood.harness.1, Rows.validLessCard.stood.harness.2.toList) := by kernel_rfl
theorem validLess_proved : Rows.ValidLessCardSaid :=
  Claim7.holds_tied_plain_at .later [] [.data, .pinned] true Rows.validLessCard.stood.harness true
    validLessRow.over (fun _ h => by cases h) validLess_text (fun _ h => by cases h) validLess_row_tie rfl ⟨rfl, rfl⟩ validLess_main rfl
    (fun f fn hf hfn => by
      obtain rfl : f = 6 := Option.some.inj (validLessRow.over_found.symm.trans hf) |>.symm
      obtain rfl : fn = Tryz.f6 := (Option.some.inj (Tryz.func6.symm.trans hfn)).symm
      exact ⟨validLess_looks, fun j t ht => by
        rw [Tryz.params6] at ht
        have hall : ∀ t ∈ [53], Tryz.prog.wantsStandIn t = false := by
          intro t ht
          simp only [List.mem_cons, List.not_mem_nil, or_false] at ht
          rcases ht with rfl <;> kernel_rfl
        exact hall t (by simpa using Array.mem_of_getElem? ht)⟩)
    validLess_goes
#print axioms validLess_proved
end Go.Proofs.YtcmdmnnkbliggaaGreatDoor
