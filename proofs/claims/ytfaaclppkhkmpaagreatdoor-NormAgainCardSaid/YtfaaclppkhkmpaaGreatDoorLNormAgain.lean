/-
  The law NormAgain holds for every input: the normal form of a policy's normal form is it, may be, and has not more rules than the policy. No condition.
-/
import Derived.Test.YtfaaclppkhkmpaaGreatDoorRows
import Derived.Test.YtfaaclppkhkmpaaGreatDoorCards
import Derived.Test.YtfaaclppkhkmpaaGreatDoorTie
import Derived.Test.YtfaaclppkhkmpaaGreatDoorZd
import Derived.Lay
import Derived.MakeChecks
import Derived.WalkKit
import Derived.ProofKit
import Derived.OpenShut
import Derived.ShutString
import Derived.ChangeOld
import Derived.Below
import Derived.Lib.SmallJoins
import Derived.SevenTiedAt
import Derived.LaidMore
import Derived.Stop.Joined
import Derived.RegionTactic
import Derived.Deep.Cut
import Derived.Deep.CutRange
namespace Go.Proofs.YtfaaclppkhkmpaaGreatDoor
open Go.RowKit Go.Shelf
set_option linter.unusedVariables false

set_option maxRecDepth 100000 in
set_option maxHeartbeats 16000000 in
theorem walk_NormAgain {w0 : World} (k u : Int) (x : Bool) (A : Option Addr) (n c : Nat) (R : Nat → RL) (wk : (Lit.int .i64 k).wf = true) (wu : (Lit.int .i64 u).wf = true) (hnc : n ≤ c) (hcm : c ≤ maxLen) (hR : RlA w0 A n R) (_ : True) :
    Calls Tryz.prog 4 #[.agg (polA k u x A n c)] w0 fun e w' => e = .returned (.bool true) ∧ Below w0.heap.size w0 w' := by
  obtain ⟨W0, hW0⟩ : ∃ W, w0.alloc (.cells (polA k u x A n c) 26) = W := ⟨_, rfl⟩
  obtain ⟨B, hBs⟩ : ∃ B, w0.heap.size = B := ⟨_, rfl⟩
  have hB0 : Below B w0 W0 := by rw [← hW0, ← hBs]; exact (Below.refl _ _).alloc (Nat.le_refl _) _
  have hP0 : RowC W0 B (polA k u x A n c) 26 := by rw [← hW0, ← hBs]; exact RowC.new _ _ _ _ rfl
  have hR0 := hR.below hB0 (by rw [hBs]; exact Nat.le_refl _)
  have HL := Lib.hid (light_any k u x A n c R W0 hnc hcm hR0)
  have HAW := Lib.hid fun X => awake16_any X
  have HB0 := Lib.hid hB0
  have HP0 := Lib.hid hP0
  have HR0 := Lib.hid hR0
  have HW := Lib.hid hW0
  have HBS := Lib.hid hBs
  have HWF := Lib.hid (And.intro wk wu)
  have p0 := hP0.cell 0 (.int .i64 k) rfl
  have p1 := hP0.cell 1 (.int .i64 u) rfl
  have p2 := hP0.cell 2 (.bool x) rfl
  have p3 := hP0.cell 3 (.slice A n c) rfl
  clear hW0 hBs hB0 hP0 hR hR0 wk wu
  go_enter Tryz.func4, Tryz.ntmps4
  go_upto_region 1 with fail
  rw [HW.out, HBS.out]
  go_wp2_with fail
  refine HL.out.mono ?_
  rintro e w1 ⟨⟨b, rfl, hlight⟩, hB1⟩
  have hP1 := HP0.out.below hB1 HP0.out.lt
  have HP1 := Lib.hid hP1
  have HB1 := Lib.hid hB1
  have HB01 := Lib.hid (HB0.out.trans (hB1.mono (by rw [← HBS.out]; have := HB0.out.size; rw [HBS.out]; rw [HBS.out] at this; exact this)))
  have q0 := hP1.cell 0 (.int .i64 k) rfl
  have q1 := hP1.cell 1 (.int .i64 u) rfl
  have q2 := hP1.cell 2 (.bool x) rfl
  have q3 := hP1.cell 3 (.slice A n c) rfl
  clear hP1 hB1 p0 p1 p2 p3
  cases b with
  | false =>
    go_wp2
    go_ret
    exact ⟨rfl, by rw [HBS.out]; exact HB01.out⟩
  | true =>
    have hl := hlight rfl
    have HLP := Lib.hid hl
    have hn40 := hl.1
    clear hlight hl
    have HOF := Lib.hid (of16_any k u x A n c R w1 hn40 (fun i hi => (HLP.out.2 i hi).2) (HR0.out.below HB1.out (Nat.le_refl _)))
    go_wp2_with fail
    refine HOF.out.mono ?_
    rintro e w2 ⟨A1, c1, l1, rfl, hl1, hrow1, hval1, hB2⟩
    have hS1 : ∀ e ∈ l1, e.n ≤ 100000 := fun e he => by
      have h1 : e.val ∈ (List.range n).map (fun i => (R i).val) := by rw [← hval1]; exact List.mem_map.2 ⟨e, he, rfl⟩
      obtain ⟨i, hi, hv⟩ := List.mem_map.1 h1
      have h2 := (HLP.out.2 i (List.mem_range.1 hi)).2
      have h3 : e.val.L.length = e.n := by simp [RL.val]
      have h4 : (R i).val.L.length = (R i).n := by simp [RL.val]
      rw [hv] at h4
      omega
    have HPX := Lib.hid (policyN_any k u x A1 l1 c1 w2 hrow1.rl (by rw [hl1]; omega) hS1)
    have hw1 : B ≤ w1.heap.size := by have h1 := HB01.out.size; rw [HBS.out] at h1; exact h1
    have hP2 := HP1.out.below (hB2.mono (Nat.le_refl _)) HP1.out.lt
    have HP2 := Lib.hid hP2
    have HB02 := Lib.hid (HB01.out.trans (hB2.mono hw1))
    have HL1 := Lib.hid hl1
    rw [hl1] at HPX
    clear hrow1 hval1 hB2 hP2 hS1 hl1 q0 q1 q2 q3 hw1
    go_wp2_with fail
    refine HPX.out.mono ?_
    rintro e w3 ⟨A2, c2, ls2, k2, u2, xx2, er2, rfl, hrow2, hB3, hln2, hsm2, hor2⟩
    have hw2 : B ≤ w2.heap.size := by have h1 := HB02.out.size; rw [HBS.out] at h1; exact h1
    have HB03 := Lib.hid (HB02.out.trans (hB3.mono hw2))
    have hP3 := HP2.out.below hB3 HP2.out.lt
    have HP3 := Lib.hid hP3
    have hw3 : B ≤ w3.heap.size := by have h1 := HB03.out.size; rw [HBS.out] at h1; exact h1
    clear hB3 hP3 hw2
    rcases hor2 with ⟨hr2, rfl, e1, e2, e3, hv2⟩ | ⟨hr2, rfl, rfl, rfl, rfl, rfl⟩
    · have e1 := e1.symm
      have e2 := e2.symm
      have e3 := e3.symm
      subst e1 e2 e3
      obtain ⟨m2, hm2⟩ : ∃ m2, ls2.length = m2 := ⟨_, rfl⟩
      have hle : m2 ≤ n := by
        have h1 := nP_len k u (l1.map RL.val)
        rw [← hv2, List.length_map, List.length_map, HL1.out, hm2] at h1
        exact h1
      have hfx := rightV_nP hr2
      rw [← hv2] at hfx
      obtain ⟨W3, hW3⟩ : ∃ W, w3.alloc (.cells (polA k u x A2 m2 c2) 31) = W := ⟨_, rfl⟩
      have hB33 : Below w3.heap.size w3 W3 := by rw [← hW3]; exact (Below.refl _ _).alloc (Nat.le_refl _) _
      have hA3 : RowC W3 w3.heap.size (polA k u x A2 m2 c2) 31 := by rw [← hW3]; exact RowC.new _ _ _ _ rfl
      have hrl2 := hrow2.rl.below hB33 (Nat.le_refl _)
      have h100 : ∀ e ∈ ls2, e.n ≤ 100000 := fun e he => by have := hsm2 e he; omega
      have HPY := Lib.hid (policyN_any k u x A2 ls2 c2 W3 hrl2 (by rw [hm2]; omega) h100)
      rw [hm2] at HPY ⊢
      have p0 := hA3.cell 0 (.int .i64 k) rfl
      have p1 := hA3.cell 1 (.int .i64 u) rfl
      have p2 := hA3.cell 2 (.bool x) rfl
      have p3 := hA3.cell 3 (.slice A2 m2 c2) rfl
      have HA3 := Lib.hid hA3
      have HRL2 := Lib.hid hrl2
      have HW3 := Lib.hid hW3
      have HFX := Lib.hid hfx
      have HM2 := Lib.hid hm2
      have H100 := Lib.hid h100
      have HP33 := Lib.hid (HP3.out.below hB33 HP3.out.lt)
      have HB033 := Lib.hid (HB03.out.trans (hB33.mono hw3))
      clear hW3 hB33 hA3 hrl2 hrow2 hsm2 hln2 hv2 hr2 hfx hm2 h100 hw3
      go_wp2_with fail
      rw [HW3.out]
      refine HPY.out.mono ?_
      rintro e w4 ⟨A4, c4, ls4, k4, u4, xx4, er4, rfl, hrow4, hB4, hln4, hsm4, hor4⟩
      rcases hor4 with ⟨_, rfl, e1, e2, e3, hv4⟩ | ⟨hr4, _⟩
      · have e1 := e1.symm
        have e2 := e2.symm
        have e3 := e3.symm
        subst e1 e2 e3
        rw [HFX.out.2] at hv4
        have hw33 : B ≤ W3.heap.size := by have h1 := HB033.out.size; rw [HBS.out] at h1; exact h1
        have hB04 := HB033.out.trans (hB4.mono hw33)
        have hw4 : B ≤ w4.heap.size := by have h1 := hB04.size; rw [HBS.out] at h1; exact h1
        obtain ⟨W4, hW4⟩ : ∃ W, w4.alloc (.cells (polA k u x A4 ls4.length c4) 31) = W := ⟨_, rfl⟩
        have hB44 : Below w4.heap.size w4 W4 := by rw [← hW4]; exact (Below.refl _ _).alloc (Nat.le_refl _) _
        have hA4 := (HA3.out.below hB4 HA3.out.lt).below hB44 (HA3.out.below hB4 HA3.out.lt).lt
        have hY4 : RowC W4 w4.heap.size (polA k u x A4 ls4.length c4) 31 := by rw [← hW4]; exact RowC.new _ _ _ _ rfl
        have hrl4 := (HRL2.out.below hB4 (Nat.le_refl _)).below hB44 (Nat.le_refl _)
        have HSAME := Lib.hid (same_any k u k u x x A2 A4 ls2 ls4 c2 c4 W4 hrl4 (hrow4.rl.below hB44 (Nat.le_refl _)) (by rw [HM2.out]; omega) H100.out)
        rw [HM2.out] at HSAME
        have a0 := hA4.cell 0 (.int .i64 k) rfl
        have a1 := hA4.cell 1 (.int .i64 u) rfl
        have a2 := hA4.cell 2 (.bool x) rfl
        have a3 := hA4.cell 3 (.slice A2 m2 c2) rfl
        have b0 := hY4.cell 0 (.int .i64 k) rfl
        have b1 := hY4.cell 1 (.int .i64 u) rfl
        have b2 := hY4.cell 2 (.bool x) rfl
        have b3 := hY4.cell 3 (.slice A4 ls4.length c4) rfl
        have HA4 := Lib.hid hA4
        have HRL4 := Lib.hid hrl4
        have HW4 := Lib.hid hW4
        have HV4 := Lib.hid hv4
        have HP4 := Lib.hid ((HP33.out.below hB4 HP33.out.lt).below hB44 (HP33.out.below hB4 HP33.out.lt).lt)
        have HB04 := Lib.hid (hB04.trans (hB44.mono hw4))
        clear hW4 hB44 hA4 hY4 hrl4 hrow4 hsm4 hln4 hv4 hB4 hB04 hw33 hw4 p0 p1 p2 p3
        go_upto_region 7 with fail
        rw [HW4.out]
        go_wp2_with fail
        refine HSAME.out.mono ?_
        rintro e w5 ⟨⟨b5, rfl, hb5⟩, hB5⟩
        obtain rfl : b5 = true := hb5.2 ⟨by first | rfl | trivial, by first | rfl | trivial, by first | rfl | trivial, HV4.out.symm⟩
        have hA5 := HA4.out.below hB5 HA4.out.lt
        have HRT := Lib.hid (policyRight_any k u x A2 ls2 c2 w5 (HRL4.out.below hB5 (Nat.le_refl _)) (by rw [HM2.out]; omega) H100.out)
        rw [HM2.out, HFX.out.1] at HRT
        have d0 := hA5.cell 0 (.int .i64 k) rfl
        have d1 := hA5.cell 1 (.int .i64 u) rfl
        have d2 := hA5.cell 2 (.bool x) rfl
        have d3 := hA5.cell 3 (.slice A2 m2 c2) rfl
        have HA5 := Lib.hid hA5
        have HP5 := Lib.hid (HP4.out.below hB5 HP4.out.lt)
        have hw44 : B ≤ W4.heap.size := by have h1 := HB04.out.size; rw [HBS.out] at h1; exact h1
        have HB05 := Lib.hid (HB04.out.trans (hB5.mono hw44))
        clear hb5 hB5 hA5 a0 a1 a2 a3 b0 b1 b2 b3 hw44
        go_wp2_with fail
        refine HRT.out.mono ?_
        rintro e w6 ⟨rfl, hB6⟩
        have hA6 := HA5.out.below hB6 HA5.out.lt
        have hP6 := HP5.out.below hB6 HP5.out.lt
        have f3 := hA6.cell 3 (.slice A2 m2 c2) rfl
        have g3 := hP6.cell 3 (.slice A n c) rfl
        have hw5 : B ≤ w5.heap.size := by have h1 := HB05.out.size; rw [HBS.out] at h1; exact h1
        have HB06 := Lib.hid (HB05.out.trans (hB6.mono hw5))
        have l1 : decide ((m2 : Int) ≤ (n : Int)) = true := decide_eq_true (by omega)
        have l2 : decide (m2 ≤ n) = true := decide_eq_true hle
        clear hB6 hA6 hP6 d0 d1 d2 d3 hw5
        go_wp2_with fail
        refine (HAW.out _).mono ?_
        rintro e w7 ⟨rfl, hB7⟩
        go_wp2
        go_ret
        exact ⟨rfl, by rw [HBS.out]; exact HB06.out.trans (hB7.mono (by have h1 := HB06.out.size; rw [HBS.out] at h1; exact h1))⟩
      · rw [HFX.out.1] at hr4
        cases hr4
    · go_wp2_with fail
      refine (HAW.out _).mono ?_
      rintro e w7 ⟨rfl, hB7⟩
      go_wp2
      go_ret
      exact ⟨rfl, by rw [HBS.out]; exact (HB03.out.alloc hw3 _).trans (hB7.mono (by simp; omega))⟩
theorem of_laid {W : World} (h : laidMetH Tryz.prog Rows.normAgainRow.laid W) : True := trivial

namespace normAgainRow
open Go.ChangeShapes Go.WideShapes Go.ChangeAt Go.RowKit Go.Joins
open Go.ChangeMaps (open_string shut_string)
set_option linter.unusedVariables false
theorem own : ownKnob Tryz.prog.godebug = none := by kernel_rfl
theorem laidOut : laidOutB Tryz.prog = true := by kernel_rfl
set_option maxRecDepth 100000 in
theorem lifted (os : Os) (started : os.Started) (H : Type) (enc : TypeId × Value → H) :
    ReturnsInHanded {} Tryz.checked os 4 .any (fun w args => (Rows.normAgainSpec.pre enc Tryz.prog Tryz.f4 [] false w args ∧ laidMetH Tryz.prog Rows.normAgainRow.laid w) ∧ sizedMet enc Tryz.prog Tryz.f4 (OpenSpec.ofChange Rows.normAgainSpec) false w args) (Rows.normAgainSpec.post enc Tryz.prog Tryz.f4 false true false false) := by
  refine returnsInHanded_of_change_and (C := Tryz.checked) (X := fun w _ => laidMetH Tryz.prog Rows.normAgainRow.laid w) (fun _ _ _ hh h => h.of_heap hh) own started (by kernel_rfl) Tryz.func4
    (ChangeSpec.witness_shaped (enc := enc) (C := Tryz.checked) (os := os) (X := fun w _ => laidMetH Tryz.prog Rows.normAgainRow.laid w) false (World.laidAll Tryz.prog os Rows.normAgainRow.laid) #[.agg #[.int .i64 0, .int .i64 0, .bool false, .slice none 0 0]] 8 (World.laidAll_os _ _ _) (World.shaped_of_ZipB (by kernel_rfl) (by kernel_rfl)) (by kernel_rfl) (by kernel_rfl) (by kernel_rfl) (by rw [MakeChecks.laidMetH_plain _ _ _ (by kernel_rfl)]; exact laidMet_laidAll _ (by kernel_rfl) (by kernel_rfl))) ?_
  intro W base args ds gs before hval0 hW _ _ hL _
  have hval : ∀ (j : Nat) t v, Tryz.f4.params[j]? = some t → args[j]? = some v → Value.okWide Tryz.prog W .any base t v := hval0
  have hW' := hW
  obtain ⟨p, q, hA0, hV, rfl, hfz, hnd⟩ := hW
  have hA : DataW.TrodAll enc Tryz.prog W 0 (fun _ => true) true Tryz.f4.params.toList args.toList ds p := hA0
  rw [Tryz.params4] at hA hval
  obtain ⟨v0, vs0, d0, ds0, p0, q0, hargs, rfl, rfl, h0, r0⟩ := trodAll_cons hA
  obtain ⟨rfl, rfl, rfl⟩ := trodAll_nil r0
  obtain rfl : args = #[v0] := by cases args; simp_all
  obtain ⟨rfl, rfl⟩ := trodVars_none hV
  have k0 := h0
  have lt0 : ∀ x ∈ p0, x.block < W.heap.size := by obtain ⟨m, hm⟩ := k0; exact DataW.trod_lt m _ _ _ hm
  obtain ⟨pk0, pu0, px0, pA0, pn0, pc0, pR0, rfl, pa0, pb0, pl0, pm0, pt0⟩ := open_policy (hval 0 26 v0 rfl rfl) h0
  clear hA0 hval0
  refine (walk_NormAgain (w0 := W) pk0 pu0 px0 pA0 pn0 pc0 pR0 pa0 pb0 pl0 pm0 pt0 (of_laid hL)).mono fun e W' ⟨he, bel⟩ => ?_
  subst he
  exact ⟨_, rfl, _, _, _, [], _, [], hW', trodAll_mk1 (shut_bool Tryz.underlying4 _), (trodAll_cons_mk (Below.trod laidOut (by kernel_rfl) (of_decide_eq_true (by kernel_rfl)) k0 bel lt0) trodAll_mk0), rfl, bel.frame _, fun h => by cases h⟩

theorem over : Rows.normAgainRow.holds Tryz.pinned (OpenSpec.ofChange Rows.normAgainSpec) :=
  OpenClaim.holds_of_wide 4 Tryz.f4 rfl rfl rfl rfl rfl rfl rfl ⟨rfl, rfl, rfl, rfl, rfl⟩ rfl rfl rfl rfl rfl (by kernel_rfl) Tryz.func4 (by kernel_rfl)
    (of_decide_eq_true (by kernel_rfl)) (by unfold Func.isWrapper; first | (rw [if_pos (by decide +kernel)]; kernel_rfl) | (rw [if_neg (by decide +kernel)]; exact ⟨rfl, rfl⟩))
    (fun os started H enc _ => lifted os started H enc)
end normAgainRow

theorem normAgain_proved : Rows.NormAgainCardSaid :=
  Claim7.holds_tied_plain_at .later [] [.data, .pinned] true Rows.normAgainCard.stood.harness false
    normAgainRow.over (fun _ h => by cases h) (by kernel_rfl) (fun _ h => by cases h) normAgain_row_tie rfl ⟨rfl, rfl⟩ (by kernel_rfl) rfl
    (fun f fn hf hfn => by
      obtain rfl : f = 4 := Option.some.inj ((show Tryz.prog.funcNamed "strainer/strainerlaw16.NormAgain" = some 4 by kernel_rfl).symm.trans hf) |>.symm
      obtain rfl : fn = Tryz.f4 := (Option.some.inj (Tryz.func4.symm.trans hfn)).symm
      exact ⟨by kernel_rfl, fun j t ht => by
        rw [Tryz.params4] at ht
        have hall : ∀ t ∈ [26], Tryz.prog.wantsStandIn t = false := by
          intro t ht
          simp only [List.mem_cons, List.not_mem_nil, or_false] at ht
          rcases ht with rfl <;> kernel_rfl
        exact hall t (by simpa using Array.mem_of_getElem? ht)⟩)
    (by kernel_rfl)
#print axioms normAgain_proved
end Go.Proofs.YtfaaclppkhkmpaaGreatDoor
