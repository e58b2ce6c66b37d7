/-
  The law ModelJudges holds for every input: how any policy judges any record, of any table, is what the document says. No condition.
-/
import Derived.Test.YtcmdmnnkbliggaaGreatDoorRows
import Derived.Test.YtcmdmnnkbliggaaGreatDoorCards
import Derived.Test.YtcmdmnnkbliggaaGreatDoorTie
import Derived.Test.YtcmdmnnkbliggaaGreatDoorP29
import Derived.Test.YtcmdmnnkbliggaaGreatDoorP25
import Derived.Test.YtcmdmnnkbliggaaGreatDoorP26
import Derived.Test.YtcmdmnnkbliggaaGreatDoorP31
import Derived.Lay
import Derived.MakeChecks
import Derived.WalkKit
import Derived.ProofKit
import Derived.OpenShut
import Derived.ShutString
import Derived.ChangeOld
import Derived.Below
import Derived.Lib.SmallJoins
import Derived.SevenTiedAt
import Derived.LaidMore
import Derived.Stop.Joined
import Derived.RegionTactic
import Derived.Deep.Cut
import Derived.Deep.CutRange
import Derived.Deep.RegionHeld3
namespace Go.Proofs.YtcmdmnnkbliggaaGreatDoor
open Go.RowKit Go.Shelf
set_option linter.unusedVariables false

theorem small_of17 {R : Nat → RL} {n : Nat} {l : List RL} (h : l.map RL.val = (List.range n).map (fun i => (R i).val)) (hR : ∀ i, i < n → (R i).n ≤ 12) : ∀ e ∈ l, e.n ≤ 100000 := fun e he => by
  have h1 : e.val ∈ (List.range n).map (fun i => (R i).val) := by rw [← h]; exact List.mem_map.2 ⟨e, he, rfl⟩
  obtain ⟨i, hi, hv⟩ := List.mem_map.1 h1
  have h2 := hR i (List.mem_range.1 hi)
  have h3 : e.val.L.length = e.n := by simp [RL.val]
  have h4 : (R i).val.L.length = (R i).n := by simp [RL.val]
  rw [hv] at h4
  omega
theorem small_ru17 {w : World} {r : RL} (h : RuT w r) : SmallV r.val := fun c hc => by
  obtain ⟨i, hi, rfl⟩ := List.mem_map.1 hc
  rw [List.mem_range] at hi
  rcases h.2.2.2.2.2.conA with h0 | ⟨b, o, _, _, hcs⟩
  · omega
  · exact (hcs i hi).2.2.2.2
theorem RlL.nil17 (w : World) : RlL w none [] := ⟨.inl rfl, fun _ h => by cases h⟩
set_option maxRecDepth 100000 in
set_option maxHeartbeats 16000000 in
theorem walk_ModelJudges {w0 : World} (k u : Int) (x : Bool) (A : Option Addr) (n c : Nat) (R : Nat → RL) (wk : (Lit.int .i64 k).wf = true) (wu : (Lit.int .i64 u).wf = true) (hnc : n ≤ c) (hcm : c ≤ maxLen) (hR : RlA w0 A n R) (TA : Option Addr) (tn tcap : Nat) (T : Nat → SR) (hT : TbA w0 TA tn T) (g : RecV) (hg : g.ok) (hTab : TabP w0) :
    Calls Tryz.prog 10 #[.agg (polA k u x A n c), .slice TA tn tcap, .agg (rcells g)] w0 fun e w' => e = .returned (.bool true) ∧ Below w0.heap.size w0 w' := by
  obtain ⟨B, hBs⟩ : ∃ B, w0.heap.size = B := ⟨_, rfl⟩
  obtain ⟨W0, hW0⟩ : ∃ W, (w0.alloc (.cells (polA k u x A n c) 39)).alloc (.cells (rcells g) 74) = W := ⟨_, rfl⟩
  have hB0 : Below B w0 W0 := by rw [← hW0, ← hBs]; exact ((Below.refl _ _).alloc (Nat.le_refl _) _).alloc (by simp) _
  have hP0 : RowC W0 B (polA k u x A n c) 39 := by rw [← hW0, ← hBs]; exact (RowC.new _ _ _ _ rfl).alloc _
  have hG0 : RowC W0 (B + 1) (rcells g) 74 := by rw [← hW0, ← hBs]; exact RowC.new _ _ _ _ (by simp)
  have hS0 : B + 2 = W0.heap.size := by rw [← hW0, ← hBs]; simp
  have HRT : Hid (∀ W, Below B w0 W → RlA W A n R ∧ TbA W TA tn T ∧ TabP W) := Lib.hid fun W hW => ⟨hR.below hW (Nat.le_of_eq hBs), hT.below hW (Nat.le_of_eq hBs), tab_on hTab hW (Nat.le_of_eq hBs)⟩
  have HFX : Hid (∀ W, Below W0.heap.size W0 W → RowC W B (polA k u x A n c) 39 ∧ RowC W (B + 1) (rcells g) 74 ∧ Below B w0 W) := Lib.hid fun W hW => ⟨hP0.below hW hP0.lt, hG0.below hW hG0.lt, hB0.trans (hW.mono (by omega))⟩
  have HL := Lib.hid (light17_any k u x A n c R W0 hnc hcm (HRT.out _ hB0).1)
  have HW := Lib.hid hW0
  have HBS := Lib.hid hBs
  have HS0 := Lib.hid hS0
  have HGOK := Lib.hid hg
  have p0 := hP0.cell 0 (.int .i64 k) rfl
  have p1 := hP0.cell 1 (.int .i64 u) rfl
  have p2 := hP0.cell 2 (.bool x) rfl
  have p3 := hP0.cell 3 (.slice A n c) rfl
  clear hB0 hP0 hG0 hR hT hTab wk wu hW0 hS0 hg
  unfold rcells at HW HFX ⊢
  go_enter Tryz.func10, Tryz.ntmps10
  go_upto_region 1 with fail
  rw [HW.out]
  (try rw [hBs])
  clear hBs
  go_wp2_with fail
  refine HL.out.mono ?_
  rintro e w1 ⟨⟨bl, rfl, hlight⟩, hB1⟩
  have HB1 := Lib.hid hB1
  clear hB1 p0 p1 p2 p3 HL
  rcases bl with _ | _
  · go_wp2
    go_ret
    exact ⟨rfl, by rw [HBS.out]; exact (HFX.out _ HB1.out).2.2⟩
  have HLP := Lib.hid (hlight rfl)
  have hn40 := HLP.out.1
  clear hlight
  have HFEW := Lib.hid (few17_any TA tn tcap T w1 (HRT.out _ (HFX.out _ HB1.out).2.2).2.1)
  go_wp2_with fail
  refine HFEW.out.mono ?_
  rintro e w2 ⟨⟨hfew, rfl⟩ | ⟨hfew, rfl⟩, rfl⟩
  rotate_left
  · go_wp2
    go_ret
    exact ⟨rfl, by rw [HBS.out]; exact (HFX.out _ HB1.out).2.2⟩
  have ht40 := hfew.1
  clear hfew HFEW
  have HAW := Lib.hid fun (W : World) (hW : Below B w0 W) => awake17_any W (HRT.out W hW).2.2
  have HM : Hid (∀ w', Below w1.heap.size w1 w' → w'.cell? ⟨B, 0, none⟩ = some (.int .i64 k) ∧ w'.cell? ⟨B, 1, none⟩ = some (.int .i64 u) ∧ w'.cell? ⟨B, 2, none⟩ = some (.bool x) ∧ w'.cell? ⟨B, 3, none⟩ = some (.slice A n c) ∧ w'.cell? ⟨B + 1, 0, none⟩ = some (.int .u32 g.n) ∧ w'.cell? ⟨B + 1, 1, none⟩ = some (.int .u32 g.a) ∧ w'.cell? ⟨B + 1, 2, none⟩ = some (.int .u64 g.p) ∧ w'.cell? ⟨B + 1, 3, none⟩ = some (.int .u64 (g.q 0)) ∧ w'.cell? ⟨B + 1, 4, none⟩ = some (.int .u64 (g.q 1)) ∧ w'.cell? ⟨B + 1, 5, none⟩ = some (.int .u64 (g.q 2)) ∧ w'.cell? ⟨B + 1, 6, none⟩ = some (.int .u64 (g.q 3)) ∧ w'.cell? ⟨B + 1, 7, none⟩ = some (.int .u64 (g.q 4)) ∧ w'.cell? ⟨B + 1, 8, none⟩ = some (.int .u64 (g.q 5))) := Lib.hid fun W hW => by
    obtain ⟨h1, h2, _⟩ := HFX.out W (bTr HB1.out hW)
    exact ⟨h1.cell 0 _ rfl, h1.cell 1 _ rfl, h1.cell 2 _ rfl, h1.cell 3 _ rfl, h2.cell 0 _ rfl, h2.cell 1 _ rfl, h2.cell 2 _ rfl, h2.cell 3 _ rfl, h2.cell 4 _ rfl, h2.cell 5 _ rfl, h2.cell 6 _ rfl, h2.cell 7 _ rfl, h2.cell 8 _ rfl⟩
  obtain ⟨L, hL⟩ : ∃ L, (List.range n).map (fun i => (R i).val) = L := ⟨_, rfl⟩
  have HLL := Lib.hid hL
  have KO : Hid (∀ W, Below w1.heap.size w1 W → Calls Tryz.prog 33 #[.agg (polA k u x A n c)] W fun e w' => ∃ A' c' l, e = .returned (.agg (polA k u x A' n c')) ∧ l.length = n ∧ RowL w' W.heap.size A' l c' ∧ l.map RL.val = L ∧ Below W.heap.size W w') := Lib.hid fun W hW => by
    rw [← hL]
    exact of17_any k u x A n c R W hn40 (fun i hi => (HLP.out.2 i hi).2) (HRT.out _ (HFX.out _ (bTr HB1.out hW)).2.2).1
  have KRW : Hid (∀ W, Below w1.heap.size w1 W → Calls Tryz.prog 39 #[.slice TA tn tcap] W fun e w' => ∃ A' c', e = .returned (.slice A' tn c') ∧ OwnC w' W.heap.size 114 8 A' tn c' (rcell T) ∧ Below W.heap.size W w') := Lib.hid fun W hW => rows17_any TA tn tcap T W (by omega) (HRT.out _ (HFX.out _ (bTr HB1.out hW)).2.2).2.1
  have KRC := Lib.hid fun W => record17_any g W
  have KJ : Hid (∀ W A2 l2 c2, RlL W A2 l2 → l2.length = n → l2.map RL.val = L → ∀ A7 c7, TbA W A7 tn T → Calls Tryz.prog 38 #[.agg (polA k u x A2 n c2), .slice A7 tn c7, .agg (rcells g)] W fun e w' => ∃ cc ee : Nat, e = .returned (.tuple #[.int .u32 cc, .int .i64 ee]) ∧ JudP k u x L T tn g cc ee ∧ Below W.heap.size W w') := Lib.hid fun W A2 l2 c2 hl hln hv A7 c7 ht => by
    have h := judge_any k u x A2 l2 c2 A7 tn c7 T g W hl (by omega) (small_of17 (by rw [hv, hL]) fun i hi => (HLP.out.2 i hi).2) (fun e he => small_ru17 (hl.2 e he)) (by omega) ht HGOK.out
    rw [hln, hv] at h
    exact h
  unfold rcells at KRC KJ
  obtain ⟨m0, m1, m2, m3, m4, m5, m6, m7, m8, m9, ma, mb, mc⟩ := HM.out w1 (Below.refl _ _)
  clear hL
  go_upto_region 3 with fail
  go_region_held3 (fun w' => w'.cell? ⟨B, 0, none⟩ = some (.int .i64 k) ∧ w'.cell? ⟨B, 1, none⟩ = some (.int .i64 u) ∧ w'.cell? ⟨B, 2, none⟩ = some (.bool x) ∧ w'.cell? ⟨B, 3, none⟩ = some (.slice A n c) ∧ w'.cell? ⟨B + 1, 0, none⟩ = some (.int .u32 g.n) ∧ w'.cell? ⟨B + 1, 1, none⟩ = some (.int .u32 g.a) ∧ w'.cell? ⟨B + 1, 2, none⟩ = some (.int .u64 g.p) ∧ w'.cell? ⟨B + 1, 3, none⟩ = some (.int .u64 (g.q 0)) ∧ w'.cell? ⟨B + 1, 4, none⟩ = some (.int .u64 (g.q 1)) ∧ w'.cell? ⟨B + 1, 5, none⟩ = some (.int .u64 (g.q 2)) ∧ w'.cell? ⟨B + 1, 6, none⟩ = some (.int .u64 (g.q 3)) ∧ w'.cell? ⟨B + 1, 7, none⟩ = some (.int .u64 (g.q 4)) ∧ w'.cell? ⟨B + 1, 8, none⟩ = some (.int .u64 (g.q 5)))
    (first | (with_reducible exact HM.out _ (by assumption)) | exact HM.out _ (Below.refl _ _) | exact HM.out _ (Below.refl _ _).drew)
    (first
      | (go_at_call 33
         refine (KO.out _ (Below.refl _ _).drew).mono ?_
         rintro e w6 ⟨A2, c2, l2, rfl, hl2, hrow2, hv2, hB6⟩
         have hk6 : Below w1.heap.size w1 w6 := (Below.refl _ _).drew.trans hB6)
      | (go_at_call 39
         refine (KRW.out _ hk6).mono ?_
         rintro e w7 ⟨A7, c7, rfl, hown7, hB7⟩
         have hk7 : Below w1.heap.size w1 w7 := bTr hk6 hB7)
      | (go_at_call 40
         refine (KRC.out _).mono ?_
         rintro e w8 ⟨rfl, hB8⟩
         have hk8 : Below w1.heap.size w1 w8 := bTr hk7 hB8)
      | (go_at_call 38
         refine (KJ.out _ A2 l2 c2 ((hrow2.rl.below hB7 (Nat.le_refl _)).below hB8 (Nat.le_refl _)) hl2 hv2 A7 c7 ((own_TbA hown7).below hB8 (Nat.le_refl _))).mono ?_
         rintro e w9 ⟨cc, ee, rfl, hj, hB9⟩
         have hk9 : Below w1.heap.size w1 w9 := bTr hk8 hB9))
  have HJ := Lib.hid hj
  have HB9 : Hid (Below W0.heap.size W0 w9) := Lib.hid (bTr HB1.out hk9)
  clear m0 m1 m2 m3 m4 m5 m6 m7 m8 m9 ma mb mc hk6 hk7 hk8 hk9 hB6 hB7 hB8 hB9 hown7 hrow2 hl2 hv2 hj KO KRW KRC KJ HM
  have hrp := refPolRight_any k u x A n c R w9 (by omega) (HRT.out _ (HFX.out _ HB9.out).2.2).1
  obtain ⟨rv, hrv⟩ : ∃ rv, rightV k u ((List.range n).map fun i => (R i).val) = rv := ⟨_, rfl⟩
  rw [hrv] at hrp
  have KRP := Lib.hid hrp
  have HRV := Lib.hid hrv
  have hq := (HFX.out _ HB9.out).1
  have q0 := hq.cell 0 (.int .i64 k) rfl
  have q1 := hq.cell 1 (.int .i64 u) rfl
  have q2 := hq.cell 2 (.bool x) rfl
  have q3 := hq.cell 3 (.slice A n c) rfl
  clear hrp hrv hq
  go_wp2_with fail
  refine KRP.out.mono ?_
  rintro e v1 ⟨rfl, hV1⟩
  have HV1 : Hid (Below W0.heap.size W0 v1) := Lib.hid (bTr HB9.out hV1)
  clear q0 q1 q2 q3 hV1 KRP
  cases rv with
  | false =>
    have hz : cc = 0 ∧ ee = 13 := by
      rcases HJ.out with ⟨_, h1, h2⟩ | ⟨h, _⟩
      · exact ⟨h1, h2⟩
      · rw [← HLL.out, HRV.out] at h; cases h
    obtain ⟨rfl, rfl⟩ := hz
    have KW := Lib.hid (HAW.out v1 (HFX.out _ HV1.out).2.2)
    go_wp2_with fail
    refine KW.out.mono ?_
    rintro e v2 ⟨rfl, hV2⟩
    go_wp2
    go_ret
    exact ⟨rfl, by rw [HBS.out]; exact (HFX.out _ (bTr HV1.out hV2)).2.2⟩
  | true =>
    have KRR := Lib.hid (refRight_any TA tn tcap T v1 (HRT.out _ (HFX.out _ HV1.out).2.2).2.1)
    go_wp2_with fail
    refine KRR.out.mono ?_
    rintro e v2 ⟨p, q, hpq, rfl, hV2⟩
    have HV2 : Hid (Below W0.heap.size W0 v2) := Lib.hid (bTr HV1.out hV2)
    have HPQ := Lib.hid hpq
    have KW := Lib.hid (HAW.out v2 (HFX.out _ HV2.out).2.2)
    clear hpq hV2 KRR
    by_cases hq : q = 0
    · subst hq
      have hp0 : p = 0 := by rcases HPQ.out with ⟨_, _, h⟩ | ⟨_, _, _, h, h2⟩ | ⟨_, _, h, _⟩ <;> omega
      subst hp0
      have he : ee = 0 := jud_zero HJ.out (by rw [← HLL.out]; exact HRV.out) HPQ.out
      obtain ⟨_, _, sm, ab, nm, mu, hcall, hcc⟩ := jud_ok HJ.out he
      subst he
      have hok : OkT tn T := ⟨by omega, by
        rcases HPQ.out with ⟨_, _, h⟩ | ⟨_, _, _, h, h2⟩ | ⟨_, h, _⟩
        · cases h
        · exact absurd h2.symm h
        · exact h⟩
      have hsame : ∀ e, RefJ k u x ((List.range n).map fun i => (R i).val) T tn g e → e = .returned (.int .i64 (cc : Nat)) := fun e he => by
        obtain ⟨ab', p', mu', href, rfl⟩ := he
        rw [hcc, act_same hok hcall href g.q, HLL.out]
      have hlt : cc < 4294967296 := by
        rw [hcc]
        exact code_lt17 (actF_right (by rw [← HLL.out]; exact HRV.out) x sm ab nm mu g.q)
      have HSAME := Lib.hid hsame
      have KRJ := refJudge_any k u x A n c R TA tn tcap T g v2 (by omega) (fun i hi => by have := (HLP.out.2 i hi).2; omega) (HRT.out _ (HFX.out _ HV2.out).2.2).1 HRV.out (by omega) (HRT.out _ (HFX.out _ HV2.out).2.2).2.1 HGOK.out
      unfold rcells at KRJ
      have KRJ := Lib.hid KRJ
      have hq := (HFX.out _ HV2.out).1
      have hq2 := (HFX.out _ HV2.out).2.1
      have q0 := hq.cell 0 (.int .i64 k) rfl
      have q1 := hq.cell 1 (.int .i64 u) rfl
      have q2 := hq.cell 2 (.bool x) rfl
      have q3 := hq.cell 3 (.slice A n c) rfl
      have d0 := hq2.cell 0 (.int .u32 g.n) rfl
      have d1 := hq2.cell 1 (.int .u32 g.a) rfl
      have d2 := hq2.cell 2 (.int .u64 g.p) rfl
      have d3 := hq2.cell 3 (.int .u64 (g.q 0)) rfl
      have d4 := hq2.cell 4 (.int .u64 (g.q 1)) rfl
      have d5 := hq2.cell 5 (.int .u64 (g.q 2)) rfl
      have d6 := hq2.cell 6 (.int .u64 (g.q 3)) rfl
      have d7 := hq2.cell 7 (.int .u64 (g.q 4)) rfl
      have d8 := hq2.cell 8 (.int .u64 (g.q 5)) rfl
      have v1' : IntKind.i64.wrap (cc : Int) = (cc : Int) := by rw [IntKind.wrap_i64]; omega
      clear hq hq2 hok hsame hcall hcc
      go_wp2_with fail
      refine KRJ.out.mono ?_
      rintro e v3 ⟨hrj, hV3⟩
      obtain rfl := HSAME.out e hrj
      have HV3 : Hid (Below W0.heap.size W0 v3) := Lib.hid (bTr HV2.out hV3)
      have KW3 := Lib.hid (HAW.out v3 (HFX.out _ HV3.out).2.2)
      clear q0 q1 q2 q3 d0 d1 d2 d3 d4 d5 d6 d7 d8 hrj hV3 KRJ KW
      go_wp2_with fail
      refine KW3.out.mono ?_
      rintro e v4 ⟨rfl, hV4⟩
      go_wp2
      go_ret
      exact ⟨rfl, by rw [HBS.out]; exact (HFX.out _ (bTr HV3.out hV4)).2.2⟩
    · have hz : cc = 0 ∧ ee = 18 := by
        rcases HJ.out with ⟨h, _⟩ | ⟨_, ⟨_, h1, h2⟩ | ⟨h, _⟩⟩
        · rw [← HLL.out, HRV.out] at h; cases h
        · exact ⟨h1, h2⟩
        · exact absurd (RightP.uniq HPQ.out h).2 hq
      obtain ⟨rfl, rfl⟩ := hz
      have hqz : ((q : Int) != 0) = true := by simpa using hq
      clear hq
      go_wp2_with fail
      refine KW.out.mono ?_
      rintro e v3 ⟨rfl, hV3⟩
      go_wp2
      go_ret
      exact ⟨rfl, by rw [HBS.out]; exact (HFX.out _ (bTr HV2.out hV3)).2.2⟩
theorem of_laid {W : World} (h : laidMetH Tryz.prog Rows.modelJudgesRow.laid W) : TabP W := by
  rw [MakeChecks.laidMetH_plain _ _ _ (by kernel_rfl)] at h
  exact tab_of_third h
end Go.Proofs.YtcmdmnnkbliggaaGreatDoor
