/-
  The law AsmCounts holds for every input: a program that leads nowhere far has just the instructions that some way leads to. No condition (the law itself lets lists of more than 200 items go).
-/
import Derived.Test.YtlghbkkjpjhelaaAs21
import Derived.Test.YtlghbkkjpjhelaaRows
import Derived.Below
import Derived.ChangeOld
import Derived.ShutString
import Derived.Lib.SmallJoins
import Derived.OpenShut
import Derived.ProofKit
import Derived.WalkKit
namespace Go.Proofs.Ytlghbkkjpjhelaa
open Go.RowKit Go.Shelf
set_option linter.unusedVariables false
set_option maxRecDepth 100000 in
set_option maxHeartbeats 8000000 in
theorem walk_AsmCounts {w0 : World} (A : Option Addr) (n c : Nat) (l : List IT) (hn : l.length = n) (hr : Cel w0 w0.heap.size 5 A n c (itcell fun i => l[i]!)) (hok : ∀ x ∈ l, x.ok) :
    Calls Try.prog 7 #[.slice A n c] w0 fun e w' => e = .returned (.bool true) ∧ Below w0.heap.size w0 w' := by
  have HR := Lib.hid hr
  have HOK := Lib.hid hok
  have HN := Lib.hid hn
  clear hr hok hn
  by_cases hn2 : n > 200
  · have i1 : (n : Int) > 200 := by omega
    go_enter Try.func7, Try.ntmps7
    go_wp2
    go_ret
    exact ⟨rfl, Below.refl _ _⟩
  have i1 : ¬ (n : Int) > 200 := by omega
  go_enter Try.func7, Try.ntmps7
  go_wp2_with fail
  refine (refFormed_any A n c l _ HN.out (by omega) HR.out HOK.out).mono ?_
  rintro e w1 ⟨b, rfl, hB1, hF⟩
  cases b with
  | false =>
    clear hF
    go_wp2_with (go_at_call 12; refine (awake21_any _).mono ?_; rintro e w5 ⟨rfl, hB5⟩; have hb5 := hB1.trans (hB5.mono hB1.size))
    go_ret
    exact ⟨rfl, hb5⟩
  | true =>
    have HF := Lib.hid (hF rfl)
    clear hF
    obtain ⟨N, hN⟩ : ∃ N, cntR l n = N := ⟨_, rfl⟩
    have HPN : Hid ((progI l).length = N) := Lib.hid (by rw [prog_near l (by rw [HN.out]; omega), HN.out, hN])
    have HMA := Lib.hid (refMany_any A n c l w1 HN.out (by omega) ((HR.out.below hB1).more hB1.size) HOK.out HF.out)
    rw [hN] at HMA
    clear hN
    go_wp2_with fail
    refine HMA.out.mono ?_
    rintro e w2 ⟨z, rfl, hB2⟩
    have hb2 := hB1.trans (hB2.mono hB1.size)
    go_wp2_with fail
    refine (of21_any A n c _ _ (by omega) ((HR.out.below hb2).more hb2.size)).mono ?_
    rintro e w3 ⟨A3, c3, rfl, hO3, hB3⟩
    have hb3 := hb2.trans (hB3.mono hb2.size)
    have HC3 := Lib.hid hO3.cel
    clear hO3
    go_wp2_with fail
    refine (size_ok A3 n c3 l _ HN.out (by omega) HC3.out HOK.out HF.out).mono ?_
    rw [HPN.out]
    rintro e w4 ⟨rfl, hB4⟩
    have hb4 := hb3.trans (hB4.mono hb3.size)
    have e0 : ((N : Int) == (N : Int)) = true := by simp
    go_wp2_with (go_at_call 12; refine (awake21_any _).mono ?_; rintro e w5 ⟨rfl, hB5⟩; have hb5 := hb4.trans (hB5.mono hb4.size))
    go_ret
    exact ⟨rfl, hb5⟩

namespace asmCountsRow
open Go.ChangeShapes Go.WideShapes Go.ChangeAt Go.RowKit Go.Joins
open Go.ChangeMaps (open_string shut_string)
set_option linter.unusedVariables false
theorem own : ownKnob Try.prog.godebug = none := by kernel_rfl
theorem laidOut : laidOutB Try.prog = true := by kernel_rfl
set_option maxRecDepth 100000 in
theorem lifted (os : Os) (started : os.Started) (H : Type) (enc : TypeId × Value → H) :
    ReturnsInHanded {} Try.checked os 7 .any (Rows.asmCountsSpec.pre6 enc Try.prog Try.f7 Rows.asmCountsRow.domain false) (Rows.asmCountsSpec.post enc Try.prog Try.f7 false true false false) := by
  refine returnsInHanded_of_change (C := Try.checked) own started (by kernel_rfl) Try.func7
    (ChangeSpec.witness6 (enc := enc) (C := Try.checked) false ⟨#[], #[.slice none 0 0], []⟩ 8 (by kernel_rfl) (by kernel_rfl) (by kernel_rfl) (by kernel_rfl)) ?_
  intro W base args ds gs before hval0 hW hcnd _
  have hval : ∀ (j : Nat) t v, Try.f7.params[j]? = some t → args[j]? = some v → Value.okWide Try.prog W .any base t v := hval0
  have hW' := hW
  obtain ⟨p, q, hA0, hV, rfl, hfz, hnd⟩ := hW
  have hA : DataW.TrodAll enc Try.prog W 0 (fun _ => true) true Try.f7.params.toList args.toList ds p := hA0
  rw [Try.params7] at hA hval
  obtain ⟨v0, vs0, d0, ds0, p0, q0, hargs, rfl, rfl, h0, r0⟩ := trodAll_cons hA
  obtain ⟨rfl, rfl, rfl⟩ := trodAll_nil r0
  obtain rfl : args = #[v0] := by cases args; simp_all
  obtain ⟨rfl, rfl⟩ := trodVars_none hV
  have k0 := h0
  have lt0 : ∀ x ∈ p0, x.block < W.heap.size := by obtain ⟨m, hm⟩ := k0; exact DataW.trod_lt m _ _ _ hm
  obtain ⟨a0, len0, cap0, rfl⟩ := okWide_slice Try.underlying47 (hval 0 47 v0 rfl rfl)
  obtain ⟨g0, e0, w0, o0⟩ := open_its h0
  clear hA0 hval0
  refine (walk_AsmCounts (w0 := W) a0 len0 cap0 g0 e0 w0 o0).mono fun e W' ⟨he, bel⟩ => ?_
  subst he
  exact ⟨_, rfl, _, _, _, [], _, [], hW', trodAll_mk1 (shut_bool Try.underlying4 _), (trodAll_cons_mk (Below.trod laidOut (by kernel_rfl) (of_decide_eq_true (by kernel_rfl)) k0 bel lt0) trodAll_mk0), rfl, bel.frame _, fun h => by cases h⟩

theorem over_inPlace : (Rows.asmCountsRow.inPlace == Try.prog.inPlace 7) = true := by kernel_rfl
theorem over_unfollowed : (Rows.asmCountsRow.unfollowed == Try.prog.unfollowed 7) = true := by kernel_rfl
theorem over_recurses : (Rows.asmCountsRow.recurses == Try.prog.recurses 7) = true := by kernel_rfl
theorem over_named : (Rows.asmCountsRow.named == Try.prog.varsNamed 7) = true := by kernel_rfl
theorem over_closed : joinedFacts Try.prog 7 Try.f7 Rows.asmCountsSpec Rows.asmCountsRow = true := by
  unfold joinedFacts
  rw [over_inPlace, over_unfollowed, over_recurses, over_named, laidOut]
  kernel_rfl
theorem over_found : Try.prog.funcNamed Rows.asmCountsRow.func = some 7 := by kernel_rfl
theorem over : Rows.asmCountsRow.holds Try.pinned (OpenSpec.ofChange Rows.asmCountsSpec) :=
  OpenClaim.holds_of_wide 7 Try.f7 rfl rfl rfl rfl rfl rfl rfl ⟨rfl, rfl, rfl, rfl, rfl⟩ rfl rfl rfl rfl rfl over_found Try.func7 over_closed
    (of_decide_eq_true (by kernel_rfl)) (by unfold Func.isWrapper; first | (rw [if_pos (by decide +kernel)]; kernel_rfl) | (rw [if_neg (by decide +kernel)]; exact ⟨rfl, rfl⟩))
    (fun os started H enc _ => lifted os started H enc)
end asmCountsRow

theorem asmCounts_proved : Rows.AsmCountsSaid := asmCountsRow.over
#print axioms asmCounts_proved
end Go.Proofs.Ytlghbkkjpjhelaa
