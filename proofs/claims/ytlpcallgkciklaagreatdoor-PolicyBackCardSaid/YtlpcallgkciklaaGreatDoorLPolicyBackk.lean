/-
  The law PolicyBack holds for every input: what is printed of a policy that may be is parsed as it was. No condition.
-/
import Derived.Test.YtlpcallgkciklaaGreatDoorRows
import Derived.Test.YtlpcallgkciklaaGreatDoorCards
import Derived.Test.YtlpcallgkciklaaGreatDoorTie
import Derived.Test.YtlpcallgkciklaaGreatDoorMq
import Derived.Test.YtlpcallgkciklaaGreatDoorTab
import Derived.Lay
import Derived.MakeChecks
import Derived.WalkKit
import Derived.ProofKit
import Derived.OpenShut
import Derived.ShutString
import Derived.ChangeOld
import Derived.Below
import Derived.Lib.SmallJoins
import Derived.SevenTiedAt
import Derived.LaidMore
import Derived.Stop.Joined
import Derived.RegionTactic
import Derived.Deep.Cut
import Derived.Deep.CutRange
import Derived.Deep.RegionHeld3
namespace Go.Proofs.YtlpcallgkciklaaGreatDoor
open Go.RowKit Go.Shelf
set_option linter.unusedVariables false

theorem small_of {R : Nat → RL} {n : Nat} {l : List RL} (h : l.map RL.val = (List.range n).map (fun i => (R i).val)) (hR : ∀ i, i < n → (R i).n ≤ 12) : ∀ e ∈ l, e.n ≤ 100000 := fun e he => by
  have h1 : e.val ∈ (List.range n).map (fun i => (R i).val) := by rw [← h]; exact List.mem_map.2 ⟨e, he, rfl⟩
  obtain ⟨i, hi, hv⟩ := List.mem_map.1 h1
  have h2 := hR i (List.mem_range.1 hi)
  have h3 : e.val.L.length = e.n := by simp [RL.val]
  have h4 : (R i).val.L.length = (R i).n := by simp [RL.val]
  rw [hv] at h4
  omega
theorem small_ru {w : World} {r : RL} (h : RuT w r) : SmallV r.val := fun c hc => by
  obtain ⟨i, hi, rfl⟩ := List.mem_map.1 hc
  rw [List.mem_range] at hi
  rcases h.2.2.2.2.2.conA with h0 | ⟨b, o, _, _, hcs⟩
  · omega
  · exact (hcs i hi).2.2.2.2
/-- A right policy's own text is parsed as the policy. -/
theorem parse_own {k u : Int} {x : Bool} {L : List RV} (hr : rightV k u L = true) (hs : ∀ r ∈ L, SmallV r) (s : ByteArray) (hse : s = ⟨(joinF (polL k u x L)).toArray⟩) (hsz : s.size ≤ 65536) (w : World) (ht : TabP w) : Calls Tryz.prog 16 #[.string s] w (ParseP w k u x L) := by
  subst hse
  have hd : (⟨(joinF (polL k u x L)).toArray⟩ : ByteArray).data.toList = joinF (polL k u x L) := rfl
  refine parseP_ok _ hsz (polL k u x L) (by rw [hd, lines_pol x hr]) (by rw [hd, lines_pol x hr, numF_ws]) (List.cons_ne_nil _ _) k u x L (runs_lines x hr hs) w ht

set_option maxRecDepth 100000 in
set_option maxHeartbeats 16000000 in
theorem walk_PolicyBack {w0 : World} (k u : Int) (x : Bool) (A : Option Addr) (n c : Nat) (R : Nat → RL) (wk : (Lit.int .i64 k).wf = true) (wu : (Lit.int .i64 u).wf = true) (hnc : n ≤ c) (hcm : c ≤ maxLen) (hR : RlA w0 A n R) (ht : TabP w0) :
    Calls Tryz.prog 4 #[.agg (polA k u x A n c)] w0 fun e w' => e = .returned (.bool true) ∧ Below w0.heap.size w0 w' := by
  obtain ⟨B, hBs⟩ : ∃ B, w0.heap.size = B := ⟨_, rfl⟩
  obtain ⟨W0, hW0⟩ : ∃ W, w0.alloc (.cells (polA k u x A n c) 26) = W := ⟨_, rfl⟩
  have hB0 : Below B w0 W0 := by rw [← hW0, ← hBs]; exact (Below.refl _ _).alloc (Nat.le_refl _) _
  have hP0 : RowC W0 B (polA k u x A n c) 26 := by rw [← hW0, ← hBs]; exact RowC.new _ _ _ _ rfl
  have hR0 := hR.below hB0 (Nat.le_of_eq hBs)
  have HL := Lib.hid (light14_any k u x A n c R W0 hnc hcm hR0)
  have HB0 := Lib.hid hB0
  have HP0 := Lib.hid hP0
  have HR0 := Lib.hid hR0
  have HT := Lib.hid ht
  have HW := Lib.hid hW0
  have HBS := Lib.hid hBs
  have p0 := hP0.cell 0 (.int .i64 k) rfl
  have p1 := hP0.cell 1 (.int .i64 u) rfl
  have p2 := hP0.cell 2 (.bool x) rfl
  have p3 := hP0.cell 3 (.slice A n c) rfl
  clear hB0 hP0 hR hR0 wk wu ht hW0
  go_enter Tryz.func4, Tryz.ntmps4
  go_upto_region 1 with fail
  rw [HW.out]
  (try rw [hBs])
  clear hBs
  go_wp2_with fail
  refine HL.out.mono ?_
  rintro e w1 ⟨⟨bl, rfl, hlight⟩, hB1⟩
  have HB1 := Lib.hid (show Below B w0 w1 from HB0.out.trans (hB1.mono (Nat.le_of_lt HP0.out.lt)))
  have HP1 := Lib.hid (HP0.out.below hB1 HP0.out.lt)
  have HR1 := Lib.hid (HR0.out.below hB1 (Nat.le_refl _))
  have HS1 := Lib.hid (show B ≤ w1.heap.size by have := HB1.out.size; rw [HBS.out] at this; exact this)
  clear hB1 p0 p1 p2 p3 HP0 HR0 HB0
  cases bl with
  | false =>
    go_wp2
    go_ret
    exact ⟨rfl, by rw [HBS.out]; exact HB1.out⟩
  | true =>
    have HLP := Lib.hid (hlight rfl)
    have q0 := HP1.out.cell 0 (.int .i64 k) rfl
    have q1 := HP1.out.cell 1 (.int .i64 u) rfl
    have q2 := HP1.out.cell 2 (.bool x) rfl
    have q3 := HP1.out.cell 3 (.slice A n c) rfl
    have KO := Lib.hid (of14_any k u x A n c R w1 (by have := HLP.out.1; omega) (fun i hi => (HLP.out.2 i hi).2) HR1.out)
    clear hlight
    go_wp2_with fail
    refine KO.out.mono ?_
    rintro e w2 ⟨A2, c2, l2, rfl, hl2, hrow2, hv2, hB2⟩
    have HB2 := Lib.hid (HB1.out.trans (hB2.mono HS1.out))
    have HP2 := Lib.hid (HP1.out.below hB2 HP1.out.lt)
    have HR2 := Lib.hid (HR1.out.below hB2 (Nat.le_refl _))
    have HS2 := Lib.hid (Nat.le_trans HS1.out hB2.size)
    have hsv : ∀ r ∈ l2, SmallV r.val := fun r hr => small_ru (hrow2.2 r hr)
    have KP := Lib.hid (printP_any k u x A2 l2 c2 w2 hrow2.rl (by have := HLP.out.1; omega) (small_of hv2 (fun i hi => (HLP.out.2 i hi).2)) hsv (tab_on HT.out HB2.out (Nat.le_of_eq HBS.out)))
    rw [hl2, hv2] at KP
    have HSV : Hid (∀ r ∈ (List.range n).map (fun i => (R i).val), SmallV r) := Lib.hid (by
      rw [← hv2]
      intro v hv
      obtain ⟨r, hr, rfl⟩ := List.mem_map.1 hv
      exact hsv r hr)
    clear hrow2 hl2 hv2 hB2 hsv q0 q1 q2 q3 HP1 HR1 HB1 HS1
    go_wp2_with fail
    refine KP.out.mono ?_
    rintro e w3 ⟨⟨s, er, rfl, hor⟩, hB3⟩
    have HB3 := Lib.hid (HB2.out.trans (hB3.mono HS2.out))
    have HP3 := Lib.hid (HP2.out.below hB3 HP2.out.lt)
    have HR3 := Lib.hid (HR2.out.below hB3 (Nat.le_refl _))
    have HS3 := Lib.hid (Nat.le_trans HS2.out hB3.size)
    clear hB3 HP2 HR2 HB2 HS2
    rcases hor with ⟨rfl, hr, hse, hsz⟩ | her
    · have KQ := Lib.hid (parse_own hr HSV.out s hse hsz w3 (tab_on HT.out HB3.out (Nat.le_of_eq HBS.out)))
      clear hr hse hsz
      go_wp2_with fail
      refine KQ.out.mono ?_
      rintro e w4 ⟨A4, c4, l4, rfl, hrow4, hv4, hB4⟩
      obtain ⟨m4, hm4⟩ : ∃ m, l4.length = m := ⟨_, rfl⟩
      obtain ⟨W4, hW4⟩ : ∃ W, w4.alloc (.cells (polA k u x A4 m4 c4) 31) = W := ⟨_, rfl⟩
      obtain ⟨X, hX⟩ : ∃ X, w4.heap.size = X := ⟨_, rfl⟩
      have hb44 : Below X w4 W4 := by rw [← hW4, ← hX]; exact (Below.refl _ _).alloc (Nat.le_refl _) _
      have hx4 : RowC W4 X (polA k u x A4 m4 c4) 31 := by rw [← hW4, ← hX]; exact RowC.new _ _ _ _ rfl
      have hb3W : Below w3.heap.size w3 W4 := hB4.trans (hb44.mono (by rw [← hX]; exact hB4.size))
      have HB4 := Lib.hid (HB3.out.trans (hb3W.mono HS3.out))
      have hP4 := HP3.out.below hb3W HP3.out.lt
      have hlen : l4.length = n := by have := congrArg List.length hv4; simpa using this
      have KT := Lib.hid (told14_any k u k u x x A4 A l4 c4 n c R W4 (hrow4.rl.below hb44 (Nat.le_of_eq hX)) (by have := HLP.out.1; omega) (by have := HLP.out.1; omega) (fun i hi => (HLP.out.2 i hi).2) (HR3.out.below hb3W (Nat.le_refl _)))
      rw [hm4] at KT
      have x0 := hx4.cell 0 (.int .i64 k) rfl
      have x1 := hx4.cell 1 (.int .i64 u) rfl
      have x2 := hx4.cell 2 (.bool x) rfl
      have x3 := hx4.cell 3 (.slice A4 m4 c4) rfl
      have q0 := hP4.cell 0 (.int .i64 k) rfl
      have q1 := hP4.cell 1 (.int .i64 u) rfl
      have q2 := hP4.cell 2 (.bool x) rfl
      have q3 := hP4.cell 3 (.slice A n c) rfl
      have HV4 := Lib.hid hv4
      have HW4 := Lib.hid hW4
      have HM4 := Lib.hid hm4
      have HS4 := Lib.hid (Nat.le_trans HS3.out hb3W.size)
      clear hrow4 hv4 hB4 hW4 hb44 hx4 hb3W hP4 hlen HP3 HR3
      go_upto_region 7 with fail
      (try rw [HM4.out])
      (try rw [hX])
      (try rw [HW4.out])
      clear hX hm4
      go_wp2_with fail
      refine KT.out.mono ?_
      rintro e w5 ⟨⟨b5, rfl, hb5⟩, hB5⟩
      obtain rfl : b5 = true := hb5.2 ⟨rfl, rfl, rfl, HV4.out⟩
      have HB5 := Lib.hid (HB4.out.trans (hB5.mono HS4.out))
      have HS5 := Lib.hid (Nat.le_trans HS4.out hB5.size)
      have KW := Lib.hid (awake14_any w5 (tab_on HT.out HB5.out (Nat.le_of_eq HBS.out)))
      clear hb5 hB5
      go_wp2_with fail
      refine KW.out.mono ?_
      rintro e w6 ⟨rfl, hB6⟩
      go_wp2
      go_ret
      exact ⟨rfl, by rw [HBS.out]; exact HB5.out.trans (hB6.mono HS5.out)⟩
    · have KW := Lib.hid (awake14_any w3 (tab_on HT.out HB3.out (Nat.le_of_eq HBS.out)))
      have her2 : (er != 0) = true := by simpa using her
      go_wp2_with fail
      refine KW.out.mono ?_
      rintro e w6 ⟨rfl, hB6⟩
      go_wp2
      go_ret
      exact ⟨rfl, by rw [HBS.out]; exact HB3.out.trans (hB6.mono HS3.out)⟩
theorem of_laid {W : World} (h : laidMetH Tryz.prog Rows.policyBackRow.laid W) : TabP W := by
  rw [MakeChecks.laidMetH_plain _ _ _ (by kernel_rfl)] at h
  exact tab_of_third h

namespace policyBackRow
open Go.ChangeShapes Go.WideShapes Go.ChangeAt Go.RowKit Go.Joins
open Go.ChangeMaps (open_string shut_string)
set_option linter.unusedVariables false
theorem own : ownKnob Tryz.prog.godebug = none := by kernel_rfl
theorem laidOut : laidOutB Tryz.prog = true := by kernel_rfl
set_option maxRecDepth 100000 in
theorem lifted (os : Os) (started : os.Started) (H : Type) (enc : TypeId × Value → H) :
    ReturnsInHanded {} Tryz.checked os 4 .any (fun w args => (Rows.policyBackSpec.pre enc Tryz.prog Tryz.f4 [] false w args ∧ laidMetH Tryz.prog Rows.policyBackRow.laid w) ∧ sizedMet enc Tryz.prog Tryz.f4 (OpenSpec.ofChange Rows.policyBackSpec) false w args) (Rows.policyBackSpec.post enc Tryz.prog Tryz.f4 false true false false) := by
  refine returnsInHanded_of_change_and (C := Tryz.checked) (X := fun w _ => laidMetH Tryz.prog Rows.policyBackRow.laid w) (fun _ _ _ hh h => h.of_heap hh) own started (by kernel_rfl) Tryz.func4
    (ChangeSpec.witness_shaped (enc := enc) (C := Tryz.checked) (os := os) (X := fun w _ => laidMetH Tryz.prog Rows.policyBackRow.laid w) false (World.laidAll Tryz.prog os Rows.policyBackRow.laid) #[.agg #[.int .i64 0, .int .i64 0, .bool false, .slice none 0 0]] 8 (World.laidAll_os _ _ _) (World.shaped_of_ZipB (by kernel_rfl) (by kernel_rfl)) (by kernel_rfl) (by kernel_rfl) (by kernel_rfl) (by rw [MakeChecks.laidMetH_plain _ _ _ (by kernel_rfl)]; exact laidMet_laidAll _ (by kernel_rfl) (by kernel_rfl))) ?_
  intro W base args ds gs before hval0 hW _ _ hL _
  have hval : ∀ (j : Nat) t v, Tryz.f4.params[j]? = some t → args[j]? = some v → Value.okWide Tryz.prog W .any base t v := hval0
  have hW' := hW
  obtain ⟨p, q, hA0, hV, rfl, hfz, hnd⟩ := hW
  have hA : DataW.TrodAll enc Tryz.prog W 0 (fun _ => true) true Tryz.f4.params.toList args.toList ds p := hA0
  rw [Tryz.params4] at hA hval
  obtain ⟨v0, vs0, d0, ds0, p0, q0, hargs, rfl, rfl, h0, r0⟩ := trodAll_cons hA
  obtain ⟨rfl, rfl, rfl⟩ := trodAll_nil r0
  obtain rfl : args = #[v0] := by cases args; simp_all
  obtain ⟨rfl, rfl⟩ := trodVars_none hV
  have k0 := h0
  have lt0 : ∀ x ∈ p0, x.block < W.heap.size := by obtain ⟨m, hm⟩ := k0; exact DataW.trod_lt m _ _ _ hm
  obtain ⟨pk0, pu0, px0, pA0, pn0, pc0, pR0, rfl, pa0, pb0, pl0, pm0, pt0⟩ := open_policy (hval 0 26 v0 rfl rfl) h0
  clear hA0 hval0
  refine (walk_PolicyBack (w0 := W) pk0 pu0 px0 pA0 pn0 pc0 pR0 pa0 pb0 pl0 pm0 pt0 (of_laid hL)).mono fun e W' ⟨he, bel⟩ => ?_
  subst he
  exact ⟨_, rfl, _, _, _, [], _, [], hW', trodAll_mk1 (shut_bool Tryz.underlying4 _), (trodAll_cons_mk (Below.trod laidOut (by kernel_rfl) (of_decide_eq_true (by kernel_rfl)) k0 bel lt0) trodAll_mk0), rfl, bel.frame _, fun h => by cases h⟩

theorem over : Rows.policyBackRow.holds Tryz.pinned (OpenSpec.ofChange Rows.policyBackSpec) :=
  OpenClaim.holds_of_wide 4 Tryz.f4 rfl rfl rfl rfl rfl rfl rfl ⟨rfl, rfl, rfl, rfl, rfl⟩ rfl rfl rfl rfl rfl (by kernel_rfl) Tryz.func4 (by kernel_rfl)
    (of_decide_eq_true (by kernel_rfl)) (by unfold Func.isWrapper; first | (rw [if_pos (by decide +kernel)]; kernel_rfl) | (rw [if_neg (by decide +kernel)]; exact ⟨rfl, rfl⟩))
    (fun os started H enc _ => lifted os started H enc)
end policyBackRow

theorem policyBack_proved : Rows.PolicyBackCardSaid :=
  Claim7.holds_tied_plain_at .later [] [.data, .data, .data, .data, .sentinel, .sentinel, .pinned] true Rows.policyBackCard.stood.harness true
    policyBackRow.over (fun _ h => by cases h) (by kernel_rfl) (fun _ h => by cases h) policyBack_row_tie rfl ⟨rfl, rfl⟩ (by kernel_rfl) rfl
    (fun f fn hf hfn => by
      obtain rfl : f = 4 := Option.some.inj ((show Tryz.prog.funcNamed "strainer/strainerlaw14.PolicyBack" = some 4 by kernel_rfl).symm.trans hf) |>.symm
      obtain rfl : fn = Tryz.f4 := (Option.some.inj (Tryz.func4.symm.trans hfn)).symm
      exact ⟨by kernel_rfl, fun j t ht => by
        rw [Tryz.params4] at ht
        have hall : ∀ t ∈ [26], Tryz.prog.wantsStandIn t = false := by
          intro t ht
          simp only [List.mem_cons, List.not_mem_nil, or_false] at ht
          rcases ht with rfl <;> kernel_rfl
        exact hall t (by simpa using Array.mem_of_getElem? ht)⟩)
    (by kernel_rfl)
#print axioms policyBack_proved
end Go.Proofs.YtlpcallgkciklaaGreatDoor
