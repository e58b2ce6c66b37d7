/-
  The law ValidMore holds for every input: a valid policy with one rule more, of a name that the table has not, or of a rule that is there already, is told by that rule's number. No condition.
-/
import Derived.Test.YtcmdmnnkbliggaaGreatDoorRows
import Derived.Test.YtcmdmnnkbliggaaGreatDoorCards
import Derived.Test.YtcmdmnnkbliggaaGreatDoorTie
import Derived.Test.YtcmdmnnkbliggaaGreatDoorWValidMorek
import Derived.Lay
import Derived.MakeChecks
import Derived.WalkKit
import Derived.ProofKit
import Derived.OpenShut
import Derived.ShutString
import Derived.ChangeOld
import Derived.Below
import Derived.Lib.SmallJoins
import Derived.SevenTiedAt
import Derived.LaidMore
import Derived.Stop.Joined
import Derived.RegionTactic
import Derived.Deep.Cut
import Derived.Deep.CutRange
import Derived.Deep.RegionHeld3
namespace Go.Proofs.YtcmdmnnkbliggaaGreatDoor
open Go.RowKit Go.Shelf
set_option linter.unusedVariables false


namespace validMoreRow
open Go.ChangeShapes Go.WideShapes Go.ChangeAt Go.RowKit Go.Joins
open Go.ChangeMaps (open_string shut_string)
set_option linter.unusedVariables false
theorem own : ownKnob Tryz.prog.godebug = none := by kernel_rfl
theorem laidOut : laidOutB Tryz.prog = true := by kernel_rfl
set_option maxRecDepth 100000 in
theorem lifted (os : Os) (started : os.Started) (H : Type) (enc : TypeId × Value → H) :
    ReturnsInHanded {} Tryz.checked os 8 .any (fun w args => (Rows.validMoreSpec.pre enc Tryz.prog Tryz.f8 [] false w args ∧ laidMetH Tryz.prog Rows.validMoreRow.laid w) ∧ sizedMet enc Tryz.prog Tryz.f8 (OpenSpec.ofChange Rows.validMoreSpec) false w args) (Rows.validMoreSpec.post enc Tryz.prog Tryz.f8 false true false false) := by
  refine returnsInHanded_of_change_and (C := Tryz.checked) (X := fun w _ => laidMetH Tryz.prog Rows.validMoreRow.laid w) (fun _ _ _ hh h => h.of_heap hh) own started (by kernel_rfl) Tryz.func8
    (ChangeSpec.witness_shaped (enc := enc) (C := Tryz.checked) (os := os) (X := fun w _ => laidMetH Tryz.prog Rows.validMoreRow.laid w) false (World.laidAll Tryz.prog os Rows.validMoreRow.laid) #[.agg #[.int .i64 0, .int .i64 0, .bool false, .slice none 0 0], .slice none 0 0, .int .u8 0] 8 (World.laidAll_os _ _ _) (World.shaped_of_ZipB (by kernel_rfl) (by kernel_rfl)) (by kernel_rfl) (by kernel_rfl) (by kernel_rfl) (by rw [MakeChecks.laidMetH_plain _ _ _ (by kernel_rfl)]; exact laidMet_laidAll _ (by kernel_rfl) (by kernel_rfl))) ?_
  intro W base args ds gs before hval0 hW _ _ hL _
  have hval : ∀ (j : Nat) t v, Tryz.f8.params[j]? = some t → args[j]? = some v → Value.okWide Tryz.prog W .any base t v := hval0
  have hW' := hW
  obtain ⟨p, q, hA0, hV, rfl, hfz, hnd⟩ := hW
  have hA : DataW.TrodAll enc Tryz.prog W 0 (fun _ => true) true Tryz.f8.params.toList args.toList ds p := hA0
  rw [Tryz.params8] at hA hval
  obtain ⟨v0, vs0, d0, ds0, p0, q0, hargs, rfl, rfl, h0, r0⟩ := trodAll_cons hA
  obtain ⟨v1, vs1, d1, ds1, p1, q1, rfl, rfl, rfl, h1, r1⟩ := trodAll_cons r0
  obtain ⟨v2, vs2, d2, ds2, p2, q2, rfl, rfl, rfl, h2, r2⟩ := trodAll_cons r1
  obtain ⟨rfl, rfl, rfl⟩ := trodAll_nil r2
  obtain rfl : args = #[v0, v1, v2] := by cases args; simp_all
  obtain ⟨rfl, rfl⟩ := trodVars_none hV
  have k0 := h0
  have lt0 : ∀ x ∈ p0, x.block < W.heap.size := by obtain ⟨m, hm⟩ := k0; exact DataW.trod_lt m _ _ _ hm
  have k1 := h1
  have lt1 : ∀ x ∈ p1, x.block < W.heap.size := by obtain ⟨m, hm⟩ := k1; exact DataW.trod_lt m _ _ _ hm
  have k2 := h2
  have lt2 : ∀ x ∈ p2, x.block < W.heap.size := by obtain ⟨m, hm⟩ := k2; exact DataW.trod_lt m _ _ _ hm
  obtain ⟨pk0, pu0, px0, pA0, pn0, pc0, pR0, rfl, pa0, pb0, pl0, pm0, pt0⟩ := open_policy (hval 0 39 v0 rfl rfl) h0
  obtain ⟨a1, len1, cap1, rfl⟩ := okWide_slice Tryz.underlying44 (hval 1 44 v1 rfl rfl)
  obtain ⟨g1, w1⟩ := open_rows h1
  obtain ⟨a2, rfl, rfl, rfl, w2⟩ := open_int Tryz.underlying5 (hval 2 5 v2 rfl rfl) h2
  clear hA0 hval0
  refine (walk_ValidMore (w0 := W) pk0 pu0 px0 pA0 pn0 pc0 pR0 pa0 pb0 pl0 pm0 pt0 a1 len1 cap1 g1 w1 a2 w2 (of_laid hL)).mono fun e W' ⟨he, bel⟩ => ?_
  subst he
  exact ⟨_, rfl, _, _, _, [], _, [], hW', trodAll_mk1 (shut_bool Tryz.underlying4 _), (trodAll_cons_mk (Below.trod laidOut (by kernel_rfl) (of_decide_eq_true (by kernel_rfl)) k0 bel lt0) (trodAll_cons_mk (Below.trod laidOut (by kernel_rfl) (of_decide_eq_true (by kernel_rfl)) k1 bel lt1) (trodAll_cons_mk (Below.trod laidOut (by kernel_rfl) (of_decide_eq_true (by kernel_rfl)) k2 bel lt2) trodAll_mk0))), rfl, bel.frame _, fun h => by cases h⟩

theorem over_inPlace : (Rows.validMoreRow.inPlace == Tryz.prog.inPlace 8) = true := by kernel_rfl
theorem over_unfollowed : (Rows.validMoreRow.unfollowed == Tryz.prog.unfollowed 8) = true := by kernel_rfl
theorem over_recurses : (Rows.validMoreRow.recurses == Tryz.prog.recurses 8) = true := by kernel_rfl
theorem over_named : (Rows.validMoreRow.named == Tryz.prog.varsNamed 8) = true := by kernel_rfl
theorem over_closed : joinedFacts Tryz.prog 8 Tryz.f8 Rows.validMoreSpec Rows.validMoreRow = true := by
  unfold joinedFacts
  rw [over_inPlace, over_unfollowed, over_recurses, over_named, laidOut]
  kernel_rfl
theorem over_found : Tryz.prog.funcNamed Rows.validMoreRow.func = some 8 := by kernel_rfl
theorem over : Rows.validMoreRow.holds Tryz.pinned (OpenSpec.ofChange Rows.validMoreSpec) :=
  OpenClaim.holds_of_wide 8 Tryz.f8 rfl rfl rfl rfl rfl rfl rfl ⟨rfl, rfl, rfl, rfl, rfl⟩ rfl rfl rfl rfl rfl over_found Tryz.func8 over_closed
    (of_decide_eq_true (by kernel_rfl)) (by unfold Func.isWrapper; first | (rw [if_pos (by decide +kernel)]; kernel_rfl) | (rw [if_neg (by decide +kernel)]; exact ⟨rfl, rfl⟩))
    (fun os started H enc _ => lifted os started H enc)
end validMoreRow

theorem validMore_looks : true = Tryz.prog.looks [] := by kernel_rfl
theorem validMore_goes : false = Rows.validMoreRow.goesBy Tryz.prog := by kernel_rfl
theorem validMore_text : Rows.validMoreRow.wfByText (OpenSpec.ofChange Rows.validMoreSpec) = true := by kernel_rfl
theorem validMore_main : Tryz.prog.mainIs = some (Rows.validMoreCard.stood.harness.1, Rows.validMoreCard.stood.harness.2.toList) := by kernel_rfl
theorem validMore_proved : Rows.ValidMoreCardSaid :=
  Claim7.holds_tied_plain_at .later [] [.data, .pinned] true Rows.validMoreCard.stood.harness true
    validMoreRow.over (fun _ h => by cases h) validMore_text (fun _ h => by cases h) validMore_row_tie rfl ⟨rfl, rfl⟩ validMore_main rfl
    (fun f fn hf hfn => by
      obtain rfl : f = 8 := Option.some.inj (validMoreRow.over_found.symm.trans hf) |>.symm
      obtain rfl : fn = Tryz.f8 := (Option.some.inj (Tryz.func8.symm.trans hfn)).symm
      exact ⟨validMore_looks, fun j t ht => by
        rw [Tryz.params8] at ht
        have hall : ∀ t ∈ [39, 44, 5], Tryz.prog.wantsStandIn t = false := by
          intro t ht
          simp only [List.mem_cons, List.not_mem_nil, or_false] at ht
          rcases ht with rfl | rfl | rfl <;> kernel_rfl
        exact hall t (by simpa using Array.mem_of_getElem? ht)⟩)
    validMore_goes
#print axioms validMore_proved
end Go.Proofs.YtcmdmnnkbliggaaGreatDoor
