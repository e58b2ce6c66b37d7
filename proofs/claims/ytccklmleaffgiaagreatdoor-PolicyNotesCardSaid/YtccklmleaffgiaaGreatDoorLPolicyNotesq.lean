/-
  The law PolicyNotes holds for every input: blanks, empty lines and notes change nothing of a policy's text. No condition.
-/
import Derived.Test.YtccklmleaffgiaaGreatDoorRows
import Derived.Test.YtccklmleaffgiaaGreatDoorCards
import Derived.Test.YtccklmleaffgiaaGreatDoorTie
import Derived.Test.YtccklmleaffgiaaGreatDoorWPolicyNotesq
import Derived.Lay
import Derived.MakeChecks
import Derived.WalkKit
import Derived.ProofKit
import Derived.OpenShut
import Derived.ShutString
import Derived.ChangeOld
import Derived.Below
import Derived.Lib.SmallJoins
import Derived.SevenTiedAt
import Derived.LaidMore
import Derived.Stop.Joined
import Derived.RegionTactic
import Derived.Deep.Cut
import Derived.Deep.CutRange
import Derived.Deep.RegionHeld3
namespace Go.Proofs.YtccklmleaffgiaaGreatDoor
open Go.RowKit Go.Shelf
set_option linter.unusedVariables false


namespace policyNotesRow
open Go.ChangeShapes Go.WideShapes Go.ChangeAt Go.RowKit Go.Joins
open Go.ChangeMaps (open_string shut_string)
set_option linter.unusedVariables false
theorem own : ownKnob Tryz.prog.godebug = none := by kernel_rfl
theorem laidOut : laidOutB Tryz.prog = true := by kernel_rfl
set_option maxRecDepth 100000 in
theorem lifted (os : Os) (started : os.Started) (H : Type) (enc : TypeId × Value → H) :
    ReturnsInHanded {} Tryz.checked os 4 .any (fun w args => (Rows.policyNotesSpec.pre enc Tryz.prog Tryz.f4 [] false w args ∧ laidMetH Tryz.prog Rows.policyNotesRow.laid w) ∧ sizedMet enc Tryz.prog Tryz.f4 (OpenSpec.ofChange Rows.policyNotesSpec) false w args) (Rows.policyNotesSpec.post enc Tryz.prog Tryz.f4 false true false false) := by
  refine returnsInHanded_of_change_and (C := Tryz.checked) (X := fun w _ => laidMetH Tryz.prog Rows.policyNotesRow.laid w) (fun _ _ _ hh h => h.of_heap hh) own started (by kernel_rfl) Tryz.func4
    (ChangeSpec.witness_shaped (enc := enc) (C := Tryz.checked) (os := os) (X := fun w _ => laidMetH Tryz.prog Rows.policyNotesRow.laid w) false (World.laidAll Tryz.prog os Rows.policyNotesRow.laid) #[.agg #[.int .i64 0, .int .i64 0, .bool false, .slice none 0 0], .string ⟨#[]⟩] 8 (World.laidAll_os _ _ _) (World.shaped_of_ZipB (by kernel_rfl) (by kernel_rfl)) (by kernel_rfl) (by kernel_rfl) (by kernel_rfl) (by rw [MakeChecks.laidMetH_plain _ _ _ (by kernel_rfl)]; exact laidMet_laidAll _ (by kernel_rfl) (by kernel_rfl))) ?_
  intro W base args ds gs before hval0 hW _ _ hL _
  have hval : ∀ (j : Nat) t v, Tryz.f4.params[j]? = some t → args[j]? = some v → Value.okWide Tryz.prog W .any base t v := hval0
  have hW' := hW
  obtain ⟨p, q, hA0, hV, rfl, hfz, hnd⟩ := hW
  have hA : DataW.TrodAll enc Tryz.prog W 0 (fun _ => true) true Tryz.f4.params.toList args.toList ds p := hA0
  rw [Tryz.params4] at hA hval
  obtain ⟨v0, vs0, d0, ds0, p0, q0, hargs, rfl, rfl, h0, r0⟩ := trodAll_cons hA
  obtain ⟨v1, vs1, d1, ds1, p1, q1, rfl, rfl, rfl, h1, r1⟩ := trodAll_cons r0
  obtain ⟨rfl, rfl, rfl⟩ := trodAll_nil r1
  obtain rfl : args = #[v0, v1] := by cases args; simp_all
  obtain ⟨rfl, rfl⟩ := trodVars_none hV
  have k0 := h0
  have lt0 : ∀ x ∈ p0, x.block < W.heap.size := by obtain ⟨m, hm⟩ := k0; exact DataW.trod_lt m _ _ _ hm
  have k1 := h1
  have lt1 : ∀ x ∈ p1, x.block < W.heap.size := by obtain ⟨m, hm⟩ := k1; exact DataW.trod_lt m _ _ _ hm
  obtain ⟨pk0, pu0, px0, pA0, pn0, pc0, pR0, rfl, pa0, pb0, pl0, pm0, pt0⟩ := open_policy (hval 0 39 v0 rfl rfl) h0
  obtain ⟨s1, rfl, rfl, rfl, w1⟩ := open_string Tryz.underlying9 (hval 1 9 v1 rfl rfl) h1
  clear hA0 hval0
  refine (walk_PolicyNotes (w0 := W) pk0 pu0 px0 pA0 pn0 pc0 pR0 pa0 pb0 pl0 pm0 pt0 s1 w1 (of_laid hL)).mono fun e W' ⟨he, bel⟩ => ?_
  subst he
  exact ⟨_, rfl, _, _, _, [], _, [], hW', trodAll_mk1 (shut_bool Tryz.underlying4 _), (trodAll_cons_mk (Below.trod laidOut (by kernel_rfl) (of_decide_eq_true (by kernel_rfl)) k0 bel lt0) (trodAll_cons_mk (Below.trod laidOut (by kernel_rfl) (of_decide_eq_true (by kernel_rfl)) k1 bel lt1) trodAll_mk0)), rfl, bel.frame _, fun h => by cases h⟩

theorem over_inPlace : (Rows.policyNotesRow.inPlace == Tryz.prog.inPlace 4) = true := by kernel_rfl
theorem over_unfollowed : (Rows.policyNotesRow.unfollowed == Tryz.prog.unfollowed 4) = true := by kernel_rfl
theorem over_recurses : (Rows.policyNotesRow.recurses == Tryz.prog.recurses 4) = true := by kernel_rfl
theorem over_named : (Rows.policyNotesRow.named == Tryz.prog.varsNamed 4) = true := by kernel_rfl
theorem over_closed : joinedFacts Tryz.prog 4 Tryz.f4 Rows.policyNotesSpec Rows.policyNotesRow = true := by
  unfold joinedFacts
  rw [over_inPlace, over_unfollowed, over_recurses, over_named, laidOut]
  kernel_rfl
theorem over_found : Tryz.prog.funcNamed Rows.policyNotesRow.func = some 4 := by kernel_rfl
theorem over : Rows.policyNotesRow.holds Tryz.pinned (OpenSpec.ofChange Rows.policyNotesSpec) :=
  OpenClaim.holds_of_wide 4 Tryz.f4 rfl rfl rfl rfl rfl rfl rfl ⟨rfl, rfl, rfl, rfl, rfl⟩ rfl rfl rfl rfl rfl over_found Tryz.func4 over_closed
    (of_decide_eq_true (by kernel_rfl)) (by unfold Func.isWrapper; first | (rw [if_pos (by decide +kernel)]; kernel_rfl) | (rw [if_neg (by decide +kernel)]; exact ⟨rfl, rfl⟩))
    (fun os started H enc _ => lifted os started H enc)
end policyNotesRow

theorem policyNotes_looks : true = Tryz.prog.looks [] := by kernel_rfl
theorem policyNotes_goes : false = Rows.policyNotesRow.goesBy Tryz.prog := by kernel_rfl
theorem policyNotes_text : Rows.policyNotesRow.wfByText (OpenSpec.ofChange Rows.policyNotesSpec) = true := by kernel_rfl
theorem policyNotes_main : Tryz.prog.mainIs = some (Rows.policyNotesCard.stood.harness.1, Rows.policyNotesCard.stood.harness.2.toList) := by kernel_rfl
theorem policyNotes_proved : Rows.PolicyNotesCardSaid :=
  Claim7.holds_tied_plain_at .later [] [.data, .data, .data, .data, .sentinel, .sentinel, .pinned] true Rows.policyNotesCard.stood.harness true
    policyNotesRow.over (fun _ h => by cases h) policyNotes_text (fun _ h => by cases h) policyNotes_row_tie rfl ⟨rfl, rfl⟩ policyNotes_main rfl
    (fun f fn hf hfn => by
      obtain rfl : f = 4 := Option.some.inj (policyNotesRow.over_found.symm.trans hf) |>.symm
      obtain rfl : fn = Tryz.f4 := (Option.some.inj (Tryz.func4.symm.trans hfn)).symm
      exact ⟨policyNotes_looks, fun j t ht => by
        rw [Tryz.params4] at ht
        have hall : ∀ t ∈ [39, 9], Tryz.prog.wantsStandIn t = false := by
          intro t ht
          simp only [List.mem_cons, List.not_mem_nil, or_false] at ht
          rcases ht with rfl | rfl <;> kernel_rfl
        exact hall t (by simpa using Array.mem_of_getElem? ht)⟩)
    policyNotes_goes
#print axioms policyNotes_proved
end Go.Proofs.YtccklmleaffgiaaGreatDoor
