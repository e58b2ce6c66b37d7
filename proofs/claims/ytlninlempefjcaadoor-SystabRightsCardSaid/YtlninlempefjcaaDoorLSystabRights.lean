/-
  Whether any rows may be a table, or what is wrong first, and where (of 40 rows, names of 60 bytes): the program's answer is the document's.
-/
import Derived.Test.YtlninlempefjcaaDoorRows
import Derived.Test.YtlninlempefjcaaDoorCards
import Derived.Test.YtlninlempefjcaaDoorTie
import Derived.Test.YtlninlempefjcaaDoorUe
import Derived.Test.YtlninlempefjcaaDoorSi
import Derived.Test.YtlninlempefjcaaDoorSm
import Derived.Test.YtlninlempefjcaaDoorSn
import Derived.Test.YtlninlempefjcaaDoorSr
import Derived.WalkKit
import Derived.ProofKit
import Derived.OpenShut
import Derived.ShutString
import Derived.ChangeOld
import Derived.Below
import Derived.Lib.SmallJoins
import Derived.SevenTiedAt
import Derived.LaidMore
import Derived.MakeChecks
import Derived.Lay
import Derived.Stop.Joined
import Derived.Deep.Cut
import Derived.RegionTactic
import Derived.BigQuiet
import Derived.Deep.QuietTactic
import Derived.Deep.RegionHeld3
import Derived.Deep.CutRange
namespace Go.Proofs.YtlninlempefjcaaDoor
open Go.RowKit
set_option linter.unusedVariables false

theorem own_tb {w : World} {base n c : Nat} {E : TypeId} {A : Option Addr} {T : Nat → SR} (h : OwnC w base E 8 A n c (rcell T)) : TbA w A n T := by
  rcases Nat.eq_zero_or_pos n with h0 | hp
  · exact .inl h0
  obtain ⟨b, rfl, _, hlt, hcl⟩ := own_atz h hp
  refine .inr ⟨b, 0, rfl, hlt, fun i hi => ?_⟩
  have hc : ∀ c, c < 8 → w.cell? ⟨b, 0 + i * 8 + c, none⟩ = some ((srow (T i)).getD c undef) := fun c hc => by
    rw [Nat.zero_add, hcl (i * 8 + c) (by omega), rcell_at T i c hc]
  exact ⟨hc 0 (by omega), hc 1 (by omega), hc 2 (by omega), hc 3 (by omega), hc 4 (by omega), hc 5 (by omega), hc 6 (by omega), hc 7 (by omega)⟩
theorem of_laid {W : World} (h : laidMetH Tryd.prog Rows.systabRightsRow.laid W) : True := trivial
set_option maxRecDepth 100000 in
set_option maxHeartbeats 8000000 in
theorem walk_SystabRights {w0 : World} (A : Option Addr) (n cap : Nat) (T : Nat → SR) (ht : TbA w0 A n T) (_ : True) :
    Calls Tryd.prog 3 #[.slice A n cap] w0 fun e w' => e = .returned (.bool true) ∧ Below w0.heap.size w0 w' := by
  have HT := Lib.hid ht
  have HLT := Lib.hid (light_any A n cap T w0 ht)
  clear ht
  go_enter Tryd.func3, Tryd.ntmps3
  go_wp2_with fail
  refine HLT.out.mono ?_
  rintro e w1 ⟨h, rfl⟩
  rcases h with ⟨hok, rfl⟩ | ⟨hok, rfl⟩
  case inr =>
    clear hok
    go_wp2
    go_ret
    exact ⟨rfl, Below.refl _ _⟩
  have h40 := hok.1
  have HOF := Lib.hid (of11_any A n cap T w0 (by omega) HT.out)
  have HAW := Lib.hid fun W => awake11_any W
  clear hok HLT
  go_wp2_with fail
  refine HOF.out.mono ?_
  rintro e w3 ⟨A2, c2, rfl, hown, hB3⟩
  have HRT := Lib.hid (Right_any A2 n c2 T w3 (own_tb hown))
  have HB3 := Lib.hid hB3
  clear hown hB3 HOF
  go_wp2_with fail
  refine HRT.out.mono ?_
  rintro e w4 ⟨p, q, hP, rfl, hB4⟩
  have HB4 := Lib.hid (HB3.out.trans (hB4.mono HB3.out.size))
  have HRR := Lib.hid (refRight_any A n cap T w4 (HT.out.below HB4.out (Nat.le_refl _)))
  have HP := Lib.hid hP
  clear hB4 HRT hP HB3
  go_wp2_with fail
  refine HRR.out.mono ?_
  rintro e w5 ⟨p', q', hP', rfl, hB5⟩
  obtain ⟨rfl, rfl⟩ := RightP.uniq HP.out hP'
  have HB5 := Lib.hid (HB4.out.trans (hB5.mono HB4.out.size))
  clear hB5 HRR hP' HB4
  go_wp2_with (go_at_call 13; refine (HAW.out _).mono ?_; rintro e w9 ⟨rfl, hB9⟩)
  go_ret
  exact ⟨rfl, HB5.out.trans (hB9.mono HB5.out.size)⟩

namespace systabRightsRow
open Go.ChangeShapes Go.WideShapes Go.ChangeAt Go.RowKit Go.Joins
open Go.ChangeMaps (open_string shut_string)
set_option linter.unusedVariables false
theorem own : ownKnob Tryd.prog.godebug = none := by kernel_rfl
theorem laidOut : laidOutB Tryd.prog = true := by kernel_rfl
set_option maxRecDepth 100000 in
theorem lifted (os : Os) (started : os.Started) (H : Type) (enc : TypeId × Value → H) :
    ReturnsInHanded {} Tryd.checked os 3 .any (fun w args => (Rows.systabRightsSpec.pre enc Tryd.prog Tryd.f3 [] false w args ∧ laidMetH Tryd.prog Rows.systabRightsRow.laid w) ∧ sizedMet enc Tryd.prog Tryd.f3 (OpenSpec.ofChange Rows.systabRightsSpec) false w args) (Rows.systabRightsSpec.post enc Tryd.prog Tryd.f3 false true false false) := by
  refine returnsInHanded_of_change_and (C := Tryd.checked) (X := fun w _ => laidMetH Tryd.prog Rows.systabRightsRow.laid w) (fun _ _ _ hh h => h.of_heap hh) own started (by kernel_rfl) Tryd.func3
    (ChangeSpec.witness_shaped (enc := enc) (C := Tryd.checked) (os := os) (X := fun w _ => laidMetH Tryd.prog Rows.systabRightsRow.laid w) false (World.laidAll Tryd.prog os Rows.systabRightsRow.laid) #[.slice none 0 0] 8 (World.laidAll_os _ _ _) (World.shaped_of_ZipB (by kernel_rfl) (by kernel_rfl)) (by kernel_rfl) (by kernel_rfl) (by kernel_rfl) (by rw [MakeChecks.laidMetH_plain _ _ _ (by kernel_rfl)]; exact laidMet_laidAll _ (by kernel_rfl) (by kernel_rfl))) ?_
  intro W base args ds gs before hval0 hW _ _ hL _
  have hval : ∀ (j : Nat) t v, Tryd.f3.params[j]? = some t → args[j]? = some v → Value.okWide Tryd.prog W .any base t v := hval0
  have hW' := hW
  obtain ⟨p, q, hA0, hV, rfl, hfz, hnd⟩ := hW
  have hA : DataW.TrodAll enc Tryd.prog W 0 (fun _ => true) true Tryd.f3.params.toList args.toList ds p := hA0
  rw [Tryd.params3] at hA hval
  obtain ⟨v0, vs0, d0, ds0, p0, q0, hargs, rfl, rfl, h0, r0⟩ := trodAll_cons hA
  obtain ⟨rfl, rfl, rfl⟩ := trodAll_nil r0
  obtain rfl : args = #[v0] := by cases args; simp_all
  obtain ⟨rfl, rfl⟩ := trodVars_none hV
  have k0 := h0
  have lt0 : ∀ x ∈ p0, x.block < W.heap.size := by obtain ⟨m, hm⟩ := k0; exact DataW.trod_lt m _ _ _ hm
  obtain ⟨a0, len0, cap0, rfl⟩ := okWide_slice Tryd.underlying22 (hval 0 22 v0 rfl rfl)
  obtain ⟨g0, w0⟩ := open_rows h0
  clear hA0 hval0
  refine (walk_SystabRights (w0 := W) a0 len0 cap0 g0 w0 (of_laid hL)).mono fun e W' ⟨he, bel⟩ => ?_
  subst he
  exact ⟨_, rfl, _, _, _, [], _, [], hW', trodAll_mk1 (shut_bool Tryd.underlying4 _), (trodAll_cons_mk (Below.trod laidOut (by kernel_rfl) (of_decide_eq_true (by kernel_rfl)) k0 bel lt0) trodAll_mk0), rfl, bel.frame _, fun h => by cases h⟩

theorem over : Rows.systabRightsRow.holds Tryd.pinned (OpenSpec.ofChange Rows.systabRightsSpec) :=
  OpenClaim.holds_of_wide 3 Tryd.f3 rfl rfl rfl rfl rfl rfl rfl ⟨rfl, rfl, rfl, rfl, rfl⟩ rfl rfl rfl rfl rfl (by kernel_rfl) Tryd.func3 (by kernel_rfl)
    (of_decide_eq_true (by kernel_rfl)) (by unfold Func.isWrapper; first | (rw [if_pos (by decide +kernel)]; kernel_rfl) | (rw [if_neg (by decide +kernel)]; exact ⟨rfl, rfl⟩))
    (fun os started H enc _ => lifted os started H enc)
end systabRightsRow

theorem systabRights_proved : Rows.SystabRightsCardSaid :=
  Claim7.holds_tied_plain_at .later [] [.data, .pinned] true Rows.systabRightsCard.stood.harness false
    systabRightsRow.over (fun _ h => by cases h) (by kernel_rfl) (fun _ h => by cases h) systabRights_row_tie rfl ⟨rfl, rfl⟩ (by kernel_rfl) rfl
    (fun f fn hf hfn => by
      obtain rfl : f = 3 := Option.some.inj ((show Tryd.prog.funcNamed "strainer/strainerlaw11.SystabRights" = some 3 by kernel_rfl).symm.trans hf) |>.symm
      obtain rfl : fn = Tryd.f3 := (Option.some.inj (Tryd.func3.symm.trans hfn)).symm
      exact ⟨by kernel_rfl, fun j t ht => by
        rw [Tryd.params3] at ht
        have hall : ∀ t ∈ [22], Tryd.prog.wantsStandIn t = false := by
          intro t ht
          simp only [List.mem_cons, List.not_mem_nil, or_false] at ht
          rcases ht with rfl <;> kernel_rfl
        exact hall t (by simpa using Array.mem_of_getElem? ht)⟩)
    (by kernel_rfl)
#print axioms systabRights_proved
end Go.Proofs.YtlninlempefjcaaDoor
