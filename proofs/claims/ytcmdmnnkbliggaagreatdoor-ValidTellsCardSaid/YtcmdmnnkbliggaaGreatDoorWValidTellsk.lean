/-
  The law ValidTells holds for every input: whether any policy is valid of any table, or what is wrong first, and in which rule, is what the document says. No condition.
-/
import Derived.Test.YtcmdmnnkbliggaaGreatDoorRows
import Derived.Test.YtcmdmnnkbliggaaGreatDoorCards
import Derived.Test.YtcmdmnnkbliggaaGreatDoorTie
import Derived.Test.YtcmdmnnkbliggaaGreatDoorCsk
import Derived.Test.YtcmdmnnkbliggaaGreatDoorCnk
import Derived.Test.YtcmdmnnkbliggaaGreatDoorMy
import Derived.Test.YtcmdmnnkbliggaaGreatDoorMv
import Derived.Lay
import Derived.MakeChecks
import Derived.WalkKit
import Derived.ProofKit
import Derived.OpenShut
import Derived.ShutString
import Derived.ChangeOld
import Derived.Below
import Derived.Lib.SmallJoins
import Derived.SevenTiedAt
import Derived.LaidMore
import Derived.Stop.Joined
import Derived.RegionTactic
import Derived.Deep.Cut
import Derived.Deep.CutRange
import Derived.Deep.RegionHeld3
namespace Go.Proofs.YtcmdmnnkbliggaaGreatDoor
open Go.RowKit Go.Shelf
set_option linter.unusedVariables false

theorem small_of15 {R : Nat → RL} {n : Nat} {l : List RL} (h : l.map RL.val = (List.range n).map (fun i => (R i).val)) (hR : ∀ i, i < n → (R i).n ≤ 12) : ∀ e ∈ l, e.n ≤ 100000 := fun e he => by
  have h1 : e.val ∈ (List.range n).map (fun i => (R i).val) := by rw [← h]; exact List.mem_map.2 ⟨e, he, rfl⟩
  obtain ⟨i, hi, hv⟩ := List.mem_map.1 h1
  have h2 := hR i (List.mem_range.1 hi)
  have h3 : e.val.L.length = e.n := by simp [RL.val]
  have h4 : (R i).val.L.length = (R i).n := by simp [RL.val]
  rw [hv] at h4
  omega
set_option maxRecDepth 100000 in
set_option maxHeartbeats 16000000 in
theorem walk_ValidTells {w0 : World} (k u : Int) (x : Bool) (A : Option Addr) (n c : Nat) (R : Nat → RL) (wk : (Lit.int .i64 k).wf = true) (wu : (Lit.int .i64 u).wf = true) (hnc : n ≤ c) (hcm : c ≤ maxLen) (hR : RlA w0 A n R) (TA : Option Addr) (tn tcap : Nat) (T : Nat → SR) (hT : TbA w0 TA tn T) (_ : True) :
    Calls Tryz.prog 5 #[.agg (polA k u x A n c), .slice TA tn tcap] w0 fun e w' => e = .returned (.bool true) ∧ Below w0.heap.size w0 w' := by
  obtain ⟨B, hBs⟩ : ∃ B, w0.heap.size = B := ⟨_, rfl⟩
  obtain ⟨W0, hW0⟩ : ∃ W, w0.alloc (.cells (polA k u x A n c) 39) = W := ⟨_, rfl⟩
  have hB0 : Below B w0 W0 := by rw [← hW0, ← hBs]; exact (Below.refl _ _).alloc (Nat.le_refl _) _
  have hP0 : RowC W0 B (polA k u x A n c) 39 := by rw [← hW0, ← hBs]; exact RowC.new _ _ _ _ rfl
  have hR0 := hR.below hB0 (Nat.le_of_eq hBs)
  have hT0 := hT.below hB0 (Nat.le_of_eq hBs)
  have hS0 : B ≤ W0.heap.size := Nat.le_of_lt hP0.lt
  have HFX : Hid (∀ W, Below W0.heap.size W0 W → RowC W B (polA k u x A n c) 39 ∧ RlA W A n R ∧ TbA W TA tn T ∧ Below B w0 W) := Lib.hid fun W hW => ⟨hP0.below hW hP0.lt, hR0.below hW (Nat.le_refl _), hT0.below hW (Nat.le_refl _), hB0.trans (hW.mono hS0)⟩
  have HL := Lib.hid (light15_any k u x A n c R TA tn tcap T W0 hnc hcm hR0 hT0)
  have HW := Lib.hid hW0
  have HBS := Lib.hid hBs
  have p0 := hP0.cell 0 (.int .i64 k) rfl
  have p1 := hP0.cell 1 (.int .i64 u) rfl
  have p2 := hP0.cell 2 (.bool x) rfl
  have p3 := hP0.cell 3 (.slice A n c) rfl
  clear hB0 hP0 hR hR0 hT hT0 wk wu hW0 hS0
  go_enter Tryz.func5, Tryz.ntmps5
  go_upto_region 1 with fail
  rw [HW.out]
  (try rw [hBs])
  clear hBs
  go_wp2_with fail
  refine HL.out.mono ?_
  rintro e w1 ⟨⟨bl, rfl, hlight⟩, hB1⟩
  have HB1 := Lib.hid hB1
  clear hB1 p0 p1 p2 p3 HL
  cases bl with
  | false =>
    go_wp2
    go_ret
    exact ⟨rfl, by rw [HBS.out]; exact (HFX.out _ HB1.out).2.2.2⟩
  | true =>
    have HLP := Lib.hid (hlight rfl)
    have hn40 := HLP.out.1.1
    have ht40 := HLP.out.2.1
    have hq := (HFX.out w1 HB1.out).1
    have q0 := hq.cell 0 (.int .i64 k) rfl
    have q1 := hq.cell 1 (.int .i64 u) rfl
    have q2 := hq.cell 2 (.bool x) rfl
    have q3 := hq.cell 3 (.slice A n c) rfl
    have KO := Lib.hid (of15_any k u x A n c R w1 (by omega) (fun i hi => (HLP.out.1.2 i hi).2) (HFX.out w1 HB1.out).2.1)
    clear hlight hq
    go_wp2_with fail
    refine KO.out.mono ?_
    rintro e w2 ⟨A2, c2, l2, rfl, hl2, hrow2, hv2, hB2⟩
    have HB2 := Lib.hid (bTr HB1.out hB2)
    have HO2 := Lib.hid hrow2.rl
    have HV2 := Lib.hid hv2
    have HL2 := Lib.hid hl2
    have KR := Lib.hid (rows15_any TA tn tcap T w2 (by omega) (HFX.out w2 HB2.out).2.2.1)
    clear q0 q1 q2 q3 KO hrow2 hv2 hl2 hB2
    go_wp2_with fail
    refine KR.out.mono ?_
    rintro e w3 ⟨A3, c3, rfl, hown3, hB3⟩
    have HB3 := Lib.hid (bTr HB2.out hB3)
    have hch := check_any k u x A2 l2 c2 A3 tn c3 T w3 (HO2.out.below hB3 (Nat.le_refl _)) (by rw [HL2.out]; omega) (small_of15 HV2.out fun i hi => (HLP.out.1.2 i hi).2) (by omega) (own_tbl hown3)
    rw [HL2.out, HV2.out] at hch
    have KC := Lib.hid hch
    clear KR hown3 hB3 hch
    go_wp2_with fail
    refine KC.out.mono ?_
    rintro e w4 ⟨a, f, rfl, hca, hB4⟩
    have HB4 := Lib.hid (bTr HB3.out hB4)
    have HCA := Lib.hid hca
    have hq := (HFX.out w4 HB4.out).1
    have q0 := hq.cell 0 (.int .i64 k) rfl
    have q1 := hq.cell 1 (.int .i64 u) rfl
    have q2 := hq.cell 2 (.bool x) rfl
    have q3 := hq.cell 3 (.slice A n c) rfl
    have KD := Lib.hid (checkD_any k u x A n c R TA tn tcap T w4 (by omega) (fun i hi => by have := (HLP.out.1.2 i hi).2; omega) (HFX.out w4 HB4.out).2.1 (by omega) (HFX.out w4 HB4.out).2.2.1)
    clear KC hB4 hca hq
    go_wp2_with fail
    refine KD.out.mono ?_
    rintro e w5 ⟨a', f', rfl, hcd, hB5⟩
    obtain ⟨e1, e2⟩ := chk_alike HCA.out hcd
    subst e1 e2
    have HB5 := Lib.hid (bTr HB4.out hB5)
    have KW := Lib.hid (awake15_any w5)
    clear hcd hB5 q0 q1 q2 q3 KD
    go_wp2_with fail
    refine KW.out.mono ?_
    rintro e w6 ⟨rfl, hB6⟩
    go_wp2
    go_ret
    exact ⟨rfl, by rw [HBS.out]; exact (HFX.out _ (bTr HB5.out hB6)).2.2.2⟩
theorem of_laid {W : World} (h : laidMetH Tryz.prog Rows.validTellsRow.laid W) : True := trivial
end Go.Proofs.YtcmdmnnkbliggaaGreatDoor
