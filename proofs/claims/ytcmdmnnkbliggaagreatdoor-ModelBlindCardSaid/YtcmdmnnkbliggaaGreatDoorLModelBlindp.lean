/-
  The law ModelBlind holds for every input: where a record came from does not count, nor do arguments that no condition asks. No condition.
-/
import Derived.Test.YtcmdmnnkbliggaaGreatDoorRows
import Derived.Test.YtcmdmnnkbliggaaGreatDoorCards
import Derived.Test.YtcmdmnnkbliggaaGreatDoorTie
import Derived.Test.YtcmdmnnkbliggaaGreatDoorWModelBlindp
import Derived.Lay
import Derived.MakeChecks
import Derived.WalkKit
import Derived.ProofKit
import Derived.OpenShut
import Derived.ShutString
import Derived.ChangeOld
import Derived.Below
import Derived.Lib.SmallJoins
import Derived.SevenTiedAt
import Derived.LaidMore
import Derived.Stop.Joined
import Derived.RegionTactic
import Derived.Deep.Cut
import Derived.Deep.CutRange
import Derived.Deep.RegionHeld3
namespace Go.Proofs.YtcmdmnnkbliggaaGreatDoor
open Go.RowKit Go.Shelf
set_option linter.unusedVariables false


namespace modelBlindRow
open Go.ChangeShapes Go.WideShapes Go.ChangeAt Go.RowKit Go.Joins
open Go.ChangeMaps (open_string shut_string)
set_option linter.unusedVariables false
theorem own : ownKnob Tryz.prog.godebug = none := by kernel_rfl
theorem laidOut : laidOutB Tryz.prog = true := by kernel_rfl
set_option maxRecDepth 100000 in
theorem lifted (os : Os) (started : os.Started) (H : Type) (enc : TypeId × Value → H) :
    ReturnsInHanded {} Tryz.checked os 12 .any (fun w args => (Rows.modelBlindSpec.pre enc Tryz.prog Tryz.f12 [] false w args ∧ laidMetH Tryz.prog Rows.modelBlindRow.laid w) ∧ sizedMet enc Tryz.prog Tryz.f12 (OpenSpec.ofChange Rows.modelBlindSpec) false w args) (Rows.modelBlindSpec.post enc Tryz.prog Tryz.f12 false true false false) := by
  refine returnsInHanded_of_change_and (C := Tryz.checked) (X := fun w _ => laidMetH Tryz.prog Rows.modelBlindRow.laid w) (fun _ _ _ hh h => h.of_heap hh) own started (by kernel_rfl) Tryz.func12
    (ChangeSpec.witness_shaped (enc := enc) (C := Tryz.checked) (os := os) (X := fun w _ => laidMetH Tryz.prog Rows.modelBlindRow.laid w) false (World.laidAll Tryz.prog os Rows.modelBlindRow.laid) #[.agg #[.int .i64 0, .int .i64 0, .bool false, .slice none 0 0, .slice none 0 0, .int .u32 0, .int .u32 0, .int .u64 0, .int .u64 0, .int .u64 0, .int .u64 0, .int .u64 0, .int .u64 0, .int .u64 0, .int .u64 0, .int .u64 0, .int .u64 0, .int .u64 0, .int .u64 0, .int .u64 0, .int .u64 0]] 8 (World.laidAll_os _ _ _) (World.shaped_of_ZipB (by kernel_rfl) (by kernel_rfl)) (by kernel_rfl) (by kernel_rfl) (by kernel_rfl) (by rw [MakeChecks.laidMetH_plain _ _ _ (by kernel_rfl)]; exact laidMet_laidAll _ (by kernel_rfl) (by kernel_rfl))) ?_
  intro W base args ds gs before hval0 hW _ _ hL _
  have hval : ∀ (j : Nat) t v, Tryz.f12.params[j]? = some t → args[j]? = some v → Value.okWide Tryz.prog W .any base t v := hval0
  have hW' := hW
  obtain ⟨p, q, hA0, hV, rfl, hfz, hnd⟩ := hW
  have hA : DataW.TrodAll enc Tryz.prog W 0 (fun _ => true) true Tryz.f12.params.toList args.toList ds p := hA0
  rw [Tryz.params12] at hA hval
  obtain ⟨v0, vs0, d0, ds0, p0, q0, hargs, rfl, rfl, h0, r0⟩ := trodAll_cons hA
  obtain ⟨rfl, rfl, rfl⟩ := trodAll_nil r0
  obtain rfl : args = #[v0] := by cases args; simp_all
  obtain ⟨rfl, rfl⟩ := trodVars_none hV
  have k0 := h0
  have lt0 : ∀ x ∈ p0, x.block < W.heap.size := by obtain ⟨m, hm⟩ := k0; exact DataW.trod_lt m _ _ _ hm
  obtain ⟨bk0, bu0, bx0, bA0, bn0, bc0, bR0, bTA0, btn0, btc0, bT0, bg0, bz0, bf0, rfl, bh10, bh20, bh30, bh40, bh50, bh60, bh70⟩ := open_blind17 (hval 0 91 v0 rfl rfl) h0
  clear hA0 hval0
  refine (walk_ModelBlind (w0 := W) bk0 bu0 bx0 bA0 bn0 bc0 bR0 bTA0 btn0 btc0 bT0 bg0 bz0 bf0 bh10 bh20 bh30 bh40 bh50 bh60 bh70 (of_laid hL)).mono fun e W' ⟨he, bel⟩ => ?_
  subst he
  exact ⟨_, rfl, _, _, _, [], _, [], hW', trodAll_mk1 (shut_bool Tryz.underlying4 _), (trodAll_cons_mk (Below.trod laidOut (by kernel_rfl) (of_decide_eq_true (by kernel_rfl)) k0 bel lt0) trodAll_mk0), rfl, bel.frame _, fun h => by cases h⟩

theorem over_inPlace : (Rows.modelBlindRow.inPlace == Tryz.prog.inPlace 12) = true := by kernel_rfl
theorem over_unfollowed : (Rows.modelBlindRow.unfollowed == Tryz.prog.unfollowed 12) = true := by kernel_rfl
theorem over_recurses : (Rows.modelBlindRow.recurses == Tryz.prog.recurses 12) = true := by kernel_rfl
theorem over_named : (Rows.modelBlindRow.named == Tryz.prog.varsNamed 12) = true := by kernel_rfl
theorem over_closed : joinedFacts Tryz.prog 12 Tryz.f12 Rows.modelBlindSpec Rows.modelBlindRow = true := by
  unfold joinedFacts
  rw [over_inPlace, over_unfollowed, over_recurses, over_named, laidOut]
  kernel_rfl
theorem over_found : Tryz.prog.funcNamed Rows.modelBlindRow.func = some 12 := by kernel_rfl
theorem over : Rows.modelBlindRow.holds Tryz.pinned (OpenSpec.ofChange Rows.modelBlindSpec) :=
  OpenClaim.holds_of_wide 12 Tryz.f12 rfl rfl rfl rfl rfl rfl rfl ⟨rfl, rfl, rfl, rfl, rfl⟩ rfl rfl rfl rfl rfl over_found Tryz.func12 over_closed
    (of_decide_eq_true (by kernel_rfl)) (by unfold Func.isWrapper; first | (rw [if_pos (by decide +kernel)]; kernel_rfl) | (rw [if_neg (by decide +kernel)]; exact ⟨rfl, rfl⟩))
    (fun os started H enc _ => lifted os started H enc)
end modelBlindRow

theorem modelBlind_looks : true = Tryz.prog.looks [] := by kernel_rfl
theorem modelBlind_goes : false = Rows.modelBlindRow.goesBy Tryz.prog := by kernel_rfl
theorem modelBlind_text : Rows.modelBlindRow.wfByText (OpenSpec.ofChange Rows.modelBlindSpec) = true := by kernel_rfl
theorem modelBlind_main : Tryz.prog.mainIs = some (Rows.modelBlindCard.stood.harness.1, Rows.modelBlindCard.stood.harness.2.toList) := by kernel_rfl
theorem modelBlind_proved : Rows.ModelBlindCardSaid :=
  Claim7.holds_tied_plain_at .later [] [.data, .data, .data, .data, .sentinel, .sentinel, .pinned] true Rows.modelBlindCard.stood.harness true
    modelBlindRow.over (fun _ h => by cases h) modelBlind_text (fun _ h => by cases h) modelBlind_row_tie rfl ⟨rfl, rfl⟩ modelBlind_main rfl
    (fun f fn hf hfn => by
      obtain rfl : f = 12 := Option.some.inj (modelBlindRow.over_found.symm.trans hf) |>.symm
      obtain rfl : fn = Tryz.f12 := (Option.some.inj (Tryz.func12.symm.trans hfn)).symm
      exact ⟨modelBlind_looks, fun j t ht => by
        rw [Tryz.params12] at ht
        have hall : ∀ t ∈ [91], Tryz.prog.wantsStandIn t = false := by
          intro t ht
          simp only [List.mem_cons, List.not_mem_nil, or_false] at ht
          rcases ht with rfl <;> kernel_rfl
        exact hall t (by simpa using Array.mem_of_getElem? ht)⟩)
    modelBlind_goes
#print axioms modelBlind_proved
end Go.Proofs.YtcmdmnnkbliggaaGreatDoor
