/-
  The law ModelOthers holds for every input: a record of no ABI is killed; so is one of x32, if the policy does not let it in; the number of no call has the default's code in each ABI. No condition.
-/
import Derived.Test.YtcmdmnnkbliggaaGreatDoorRows
import Derived.Test.YtcmdmnnkbliggaaGreatDoorCards
import Derived.Test.YtcmdmnnkbliggaaGreatDoorTie
import Derived.Test.YtcmdmnnkbliggaaGreatDoorP29
import Derived.Test.YtcmdmnnkbliggaaGreatDoorP25
import Derived.Test.YtcmdmnnkbliggaaGreatDoorP26
import Derived.Test.YtcmdmnnkbliggaaGreatDoorP23
import Derived.Laws.BitsAllLaws
import Derived.Lay
import Derived.MakeChecks
import Derived.WalkKit
import Derived.ProofKit
import Derived.OpenShut
import Derived.ShutString
import Derived.ChangeOld
import Derived.Below
import Derived.Lib.SmallJoins
import Derived.SevenTiedAt
import Derived.LaidMore
import Derived.Stop.Joined
import Derived.RegionTactic
import Derived.Deep.Cut
import Derived.Deep.CutRange
import Derived.Deep.RegionHeld3
namespace Go.Proofs.YtcmdmnnkbliggaaGreatDoor
open Go.RowKit Go.Shelf
set_option linter.unusedVariables false

theorem small_of17 {R : Nat → RL} {n : Nat} {l : List RL} (h : l.map RL.val = (List.range n).map (fun i => (R i).val)) (hR : ∀ i, i < n → (R i).n ≤ 12) : ∀ e ∈ l, e.n ≤ 100000 := fun e he => by
  have h1 : e.val ∈ (List.range n).map (fun i => (R i).val) := by rw [← h]; exact List.mem_map.2 ⟨e, he, rfl⟩
  obtain ⟨i, hi, hv⟩ := List.mem_map.1 h1
  have h2 := hR i (List.mem_range.1 hi)
  have h3 : e.val.L.length = e.n := by simp [RL.val]
  have h4 : (R i).val.L.length = (R i).n := by simp [RL.val]
  rw [hv] at h4
  omega
theorem small_ru17 {w : World} {r : RL} (h : RuT w r) : SmallV r.val := fun c hc => by
  obtain ⟨i, hi, rfl⟩ := List.mem_map.1 hc
  rw [List.mem_range] at hi
  rcases h.2.2.2.2.2.conA with h0 | ⟨b, o, _, _, hcs⟩
  · omega
  · exact (hcs i hi).2.2.2.2
theorem RlL.nil17 (w : World) : RlL w none [] := ⟨.inl rfl, fun _ h => by cases h⟩
def someT (a : Nat) : Bool := ((a : Int) == 3221225534) || (((a : Int) == 1073741827) || (((a : Int) == 3221225655) || ((a : Int) == 3221225715)))
def highT (a n : Nat) : Bool := ((a : Int) == 3221225534) && (bit30 n && ((n : Int) != 4294967295))
theorem some_sel (a n : Nat) : (selA a n).2 = someT a := by
  unfold selA someT
  by_cases h1 : a = 3221225534
  · subst h1; simp; split <;> rfl
  by_cases h2 : a = 1073741827
  · subst h2; simp
  by_cases h3 : a = 3221225655
  · subst h3; simp
  by_cases h4 : a = 3221225715
  · subst h4; simp
  rw [if_neg h1, if_neg h2, if_neg h3, if_neg h4, show ((a : Int) == 3221225534) = false by simp; omega, show ((a : Int) == 1073741827) = false by simp; omega, show ((a : Int) == 3221225655) = false by simp; omega, show ((a : Int) == 3221225715) = false by simp; omega]
  rfl
theorem high_sel {a n : Nat} (h : highT a n = true) : selA a n = (1, true) := by
  unfold highT at h
  simp only [Bool.and_eq_true] at h
  obtain ⟨h1, h2, h3⟩ := h
  have h1 : a = 3221225534 := by simp at h1; omega
  have h3 : n ≠ 4294967295 := by intro e; subst e; simp at h3
  subst h1
  unfold selA hbF
  rw [h2]
  simp [h3]
theorem shift_bit (n : Nat) (hn : n < 4294967296) : (bit30 n = true ∧ bits .and .u32 ((n : Int) / 1073741824) 1 = 1) ∨ (bit30 n = false ∧ bits .and .u32 ((n : Int) / 1073741824) 1 = 0) := by
  have h1 : ((n : Int) / 1073741824) = ((n / 1073741824 : Nat) : Int) := by omega
  have h2 := u32_and_nat (n / 1073741824) 1 (by omega) (by decide)
  rw [Nat.and_one_is_mod] at h2
  rw [h1]
  have h3 : bits .and .u32 ((n / 1073741824 : Nat) : Int) 1 = ((n / 1073741824 % 2 : Nat) : Int) := h2
  rw [h3]
  unfold bit30
  rcases Nat.mod_two_eq_zero_or_one (n / 1073741824) with h | h
  · right; rw [h]; exact ⟨rfl, rfl⟩
  · left; rw [h]; exact ⟨rfl, rfl⟩
set_option maxRecDepth 100000 in
set_option maxHeartbeats 16000000 in
theorem walk_ModelOthers {w0 : World} (k u : Int) (x : Bool) (A : Option Addr) (n c : Nat) (R : Nat → RL) (wk : (Lit.int .i64 k).wf = true) (wu : (Lit.int .i64 u).wf = true) (hnc : n ≤ c) (hcm : c ≤ maxLen) (hR : RlA w0 A n R) (TA : Option Addr) (tn tcap : Nat) (T : Nat → SR) (hT : TbA w0 TA tn T) (g : RecV) (hg : g.ok) (hTab : TabP w0) :
    Calls Tryz.prog 13 #[.agg (polA k u x A n c), .slice TA tn tcap, .agg (rcells g)] w0 fun e w' => e = .returned (.bool true) ∧ Below w0.heap.size w0 w' := by
  obtain ⟨B, hBs⟩ : ∃ B, w0.heap.size = B := ⟨_, rfl⟩
  obtain ⟨W0, hW0⟩ : ∃ W, (w0.alloc (.cells (polA k u x A n c) 39)).alloc (.cells (rcells g) 74) = W := ⟨_, rfl⟩
  have hB0 : Below B w0 W0 := by rw [← hW0, ← hBs]; exact ((Below.refl _ _).alloc (Nat.le_refl _) _).alloc (by simp) _
  have hP0 : RowC W0 B (polA k u x A n c) 39 := by rw [← hW0, ← hBs]; exact (RowC.new _ _ _ _ rfl).alloc _
  have hG0 : RowC W0 (B + 1) (rcells g) 74 := by rw [← hW0, ← hBs]; exact RowC.new _ _ _ _ (by simp)
  have hS0 : B + 2 = W0.heap.size := by rw [← hW0, ← hBs]; simp
  have HRT : Hid (∀ W, Below B w0 W → RlA W A n R ∧ TbA W TA tn T ∧ TabP W) := Lib.hid fun W hW => ⟨hR.below hW (Nat.le_of_eq hBs), hT.below hW (Nat.le_of_eq hBs), tab_on hTab hW (Nat.le_of_eq hBs)⟩
  have HFX : Hid (∀ W, Below W0.heap.size W0 W → RowC W B (polA k u x A n c) 39 ∧ RowC W (B + 1) (rcells g) 74 ∧ Below B w0 W) := Lib.hid fun W hW => ⟨hP0.below hW hP0.lt, hG0.below hW hG0.lt, hB0.trans (hW.mono (by omega))⟩
  have HL := Lib.hid (light17_any k u x A n c R W0 hnc hcm (HRT.out _ hB0).1)
  have HW := Lib.hid hW0
  have HBS := Lib.hid hBs
  have HS0 := Lib.hid hS0
  have HGOK := Lib.hid hg
  have p0 := hP0.cell 0 (.int .i64 k) rfl
  have p1 := hP0.cell 1 (.int .i64 u) rfl
  have p2 := hP0.cell 2 (.bool x) rfl
  have p3 := hP0.cell 3 (.slice A n c) rfl
  clear hB0 hP0 hG0 hR hT hTab wk wu hW0 hS0 hg
  unfold rcells at HW HFX ⊢
  go_enter Tryz.func13, Tryz.ntmps13
  go_upto_region 1 with fail
  rw [HW.out]
  (try rw [hBs])
  clear hBs
  go_wp2_with fail
  refine HL.out.mono ?_
  rintro e w1 ⟨⟨bl, rfl, hlight⟩, hB1⟩
  have HB1 := Lib.hid hB1
  clear hB1 p0 p1 p2 p3 HL
  rcases bl with _ | _
  · go_wp2
    go_ret
    exact ⟨rfl, by rw [HBS.out]; exact (HFX.out _ HB1.out).2.2⟩
  have HLP := Lib.hid (hlight rfl)
  have hn40 := HLP.out.1
  clear hlight
  have HFEW := Lib.hid (few17_any TA tn tcap T w1 (HRT.out _ (HFX.out _ HB1.out).2.2).2.1)
  go_wp2_with fail
  refine HFEW.out.mono ?_
  rintro e w2 ⟨⟨hfew, rfl⟩ | ⟨hfew, rfl⟩, rfl⟩
  rotate_left
  · go_wp2
    go_ret
    exact ⟨rfl, by rw [HBS.out]; exact (HFX.out _ HB1.out).2.2⟩
  have ht40 := hfew.1
  have hq := (HFX.out w1 HB1.out).1
  have q0 := hq.cell 0 (.int .i64 k) rfl
  have q1 := hq.cell 1 (.int .i64 u) rfl
  have q2 := hq.cell 2 (.bool x) rfl
  have q3 := hq.cell 3 (.slice A n c) rfl
  have KO := Lib.hid (of17_any k u x A n c R w1 hn40 (fun i hi => (HLP.out.2 i hi).2) (HRT.out _ (HFX.out _ HB1.out).2.2).1)
  clear hfew hq HFEW
  go_wp2_with fail
  refine KO.out.mono ?_
  rintro e w2 ⟨A2, c2, l2, rfl, hl2, hrow2, hv2, hB2⟩
  clear q0 q1 q2 q3 KO
  obtain ⟨L, hL⟩ : ∃ L, l2.map RL.val = L := ⟨_, rfl⟩
  obtain ⟨C, hC⟩ : ∃ C, w2.heap.size = C := ⟨_, rfl⟩
  obtain ⟨W3, hW3⟩ : ∃ W, w2.alloc (.cells (polA k u x A2 n c2) 26) = W := ⟨_, rfl⟩
  have hB3 : Below w2.heap.size w2 W3 := by rw [← hW3]; exact (Below.refl _ _).alloc (Nat.le_refl _) _
  have hX3 : RowC W3 C (polA k u x A2 n c2) 26 := by rw [← hW3, ← hC]; exact RowC.new _ _ _ _ rfl
  have hO3 := hrow2.below hB3 (Nat.le_refl _)
  have hB03 : Below W0.heap.size W0 W3 := bTr (bTr HB1.out hB2) hB3
  have hCB : B + 1 < C := by have h1 := (HFX.out _ (bTr HB1.out hB2)).2.1.lt; rw [hC] at h1; exact h1
  have hsm : ∀ e ∈ l2, SmallV e.val := fun e he => small_ru17 (hrow2.2 e he)
  have h12 : ∀ e ∈ l2, e.n ≤ 100000 := small_of17 hv2 fun i hi => (HLP.out.2 i hi).2
  have HKR : Hid (∀ W, Below B w0 W → Calls Tryz.prog 39 #[.slice TA tn tcap] W fun e w' => ∃ A' c', e = .returned (.slice A' tn c') ∧ OwnC w' W.heap.size 114 8 A' tn c' (rcell T) ∧ Below W.heap.size W w') := Lib.hid fun W hW => rows17_any TA tn tcap T W (by omega) (HRT.out W hW).2.1
  have HJX : Hid (∀ W, RowL W w1.heap.size A2 l2 c2 → ∀ (r : RecV), r.ok → ∀ A7 c7, TbA W A7 tn T → Calls Tryz.prog 38 #[.agg (polA k u x A2 n c2), .slice A7 tn c7, .agg (rcells r)] W fun e w' => ∃ cc ee : Nat, e = .returned (.tuple #[.int .u32 cc, .int .i64 ee]) ∧ JudP k u x L T tn r cc ee ∧ Below W.heap.size W w') := Lib.hid fun W hW r hr A7 c7 ht => by
    have h := judge_any k u x A2 l2 c2 A7 tn c7 T r W hW.rl (by omega) h12 hsm (by omega) ht hr
    rw [hl2, hL] at h
    exact h
  have HJY : Hid (∀ W, ∀ (r : RecV), r.ok → ∀ A7 c7, TbA W A7 tn T → Calls Tryz.prog 38 #[.agg (polA k u x none 0 0), .slice A7 tn c7, .agg (rcells r)] W fun e w' => ∃ cc ee : Nat, e = .returned (.tuple #[.int .u32 cc, .int .i64 ee]) ∧ JudP k u x [] T tn r cc ee ∧ Below W.heap.size W w') := Lib.hid fun W r hr A7 c7 ht => judge_any k u x none [] 0 A7 tn c7 T r W (RlL.nil17 W) (by decide) (fun _ h => by cases h) (fun _ h => by cases h) (by omega) ht hr
  have HO3 := Lib.hid hO3
  have HX3 := Lib.hid hX3
  have HB03 := Lib.hid hB03
  have HC := Lib.hid hC
  have HCB := Lib.hid hCB
  have HW3 := Lib.hid hW3
  have KRC := Lib.hid fun W => record17_any g W
  have KRW : Hid (∀ W, Below W3.heap.size W3 W → Calls Tryz.prog 39 #[.slice TA tn tcap] W fun e w' => ∃ A' c', e = .returned (.slice A' tn c') ∧ OwnC w' W.heap.size 114 8 A' tn c' (rcell T) ∧ Below W.heap.size W w') := Lib.hid fun W hW => HKR.out W (HFX.out W (bTr HB03.out hW)).2.2
  have KJ : Hid (∀ W, Below W3.heap.size W3 W → ∀ A7 c7, TbA W A7 tn T → Calls Tryz.prog 38 #[.agg (polA k u x A2 n c2), .slice A7 tn c7, .agg (rcells g)] W fun e w' => ∃ cc ee : Nat, e = .returned (.tuple #[.int .u32 cc, .int .i64 ee]) ∧ JudP k u x L T tn g cc ee ∧ Below W.heap.size W w') := Lib.hid fun W hW A7 c7 ht => HJX.out W (HO3.out.below hW (Nat.le_refl _)) g HGOK.out A7 c7 ht
  have HM : Hid (∀ w', Below W3.heap.size W3 w' → w'.cell? ⟨C, 0, none⟩ = some (.int .i64 k) ∧ w'.cell? ⟨C, 1, none⟩ = some (.int .i64 u) ∧ w'.cell? ⟨C, 2, none⟩ = some (.bool x) ∧ w'.cell? ⟨C, 3, none⟩ = some (.slice A2 n c2) ∧ w'.cell? ⟨B + 1, 0, none⟩ = some (.int .u32 g.n) ∧ w'.cell? ⟨B + 1, 1, none⟩ = some (.int .u32 g.a) ∧ w'.cell? ⟨B + 1, 2, none⟩ = some (.int .u64 g.p) ∧ w'.cell? ⟨B + 1, 3, none⟩ = some (.int .u64 (g.q 0)) ∧ w'.cell? ⟨B + 1, 4, none⟩ = some (.int .u64 (g.q 1)) ∧ w'.cell? ⟨B + 1, 5, none⟩ = some (.int .u64 (g.q 2)) ∧ w'.cell? ⟨B + 1, 6, none⟩ = some (.int .u64 (g.q 3)) ∧ w'.cell? ⟨B + 1, 7, none⟩ = some (.int .u64 (g.q 4)) ∧ w'.cell? ⟨B + 1, 8, none⟩ = some (.int .u64 (g.q 5))) := Lib.hid fun W hW => by
    have h1 := HX3.out.below hW HX3.out.lt
    have h2 := (HFX.out W (bTr HB03.out hW)).2.1
    exact ⟨h1.cell 0 _ rfl, h1.cell 1 _ rfl, h1.cell 2 _ rfl, h1.cell 3 _ rfl, h2.cell 0 _ rfl, h2.cell 1 _ rfl, h2.cell 2 _ rfl, h2.cell 3 _ rfl, h2.cell 4 _ rfl, h2.cell 5 _ rfl, h2.cell 6 _ rfl, h2.cell 7 _ rfl, h2.cell 8 _ rfl⟩
  unfold rcells at KRC KJ
  clear hB3 hX3 hO3 hB03 hCB hsm h12 hl2 hrow2 hv2 hB2 hL
  go_upto_region 4 with fail
  (try rw [hC])
  (try rw [HW3.out])
  clear hC hW3
  obtain ⟨m0, m1, m2, m3, m4, m5, m6, m7, m8, m9, ma, mb, mc⟩ := HM.out W3 (Below.refl _ _)
  go_region_held3 (fun w' => w'.cell? ⟨C, 0, none⟩ = some (.int .i64 k) ∧ w'.cell? ⟨C, 1, none⟩ = some (.int .i64 u) ∧ w'.cell? ⟨C, 2, none⟩ = some (.bool x) ∧ w'.cell? ⟨C, 3, none⟩ = some (.slice A2 n c2) ∧ w'.cell? ⟨B + 1, 0, none⟩ = some (.int .u32 g.n) ∧ w'.cell? ⟨B + 1, 1, none⟩ = some (.int .u32 g.a) ∧ w'.cell? ⟨B + 1, 2, none⟩ = some (.int .u64 g.p) ∧ w'.cell? ⟨B + 1, 3, none⟩ = some (.int .u64 (g.q 0)) ∧ w'.cell? ⟨B + 1, 4, none⟩ = some (.int .u64 (g.q 1)) ∧ w'.cell? ⟨B + 1, 5, none⟩ = some (.int .u64 (g.q 2)) ∧ w'.cell? ⟨B + 1, 6, none⟩ = some (.int .u64 (g.q 3)) ∧ w'.cell? ⟨B + 1, 7, none⟩ = some (.int .u64 (g.q 4)) ∧ w'.cell? ⟨B + 1, 8, none⟩ = some (.int .u64 (g.q 5)))
    (first | (with_reducible exact HM.out _ (by assumption)) | exact HM.out _ (Below.refl _ _) | exact HM.out _ (Below.refl _ _).drew)
    (first
      | (go_at_call 39
         refine (KRW.out _ (Below.refl _ _).drew).mono ?_
         rintro e w7 ⟨A7, c7, rfl, hown7, hB7⟩
         have hk7 : Below W3.heap.size W3 w7 := (Below.refl _ _).drew.trans hB7)
      | (go_at_call 40
         refine (KRC.out _).mono ?_
         rintro e w8 ⟨rfl, hB8⟩
         have hk8 : Below W3.heap.size W3 w8 := bTr hk7 hB8)
      | (go_at_call 38
         refine (KJ.out _ hk8 A7 c7 ((own_TbA hown7).below hB8 (Nat.le_refl _))).mono ?_
         rintro e v1 ⟨cc1, ee1, rfl, hj1, hB9⟩
         have hv1 : Below W3.heap.size W3 v1 := bTr hk8 hB9))
  have HV1 := Lib.hid hv1
  have HJ1 := Lib.hid hj1
  clear m0 m1 m2 m3 m4 m5 m6 m7 m8 m9 ma mb mc hk7 hk8 hB7 hB8 hB9 hown7 hv1 hj1 KJ KRW
  have HAW := Lib.hid fun (W : World) (hW : Below B w0 W) => awake17_any W (HRT.out W hW).2.2
  by_cases he1 : ee1 = 0
  rotate_left
  · have f1 : ((ee1 : Int) != 0) = true := by simpa using he1
    have f2 : cc1 = 0 := jud_err HJ1.out he1
    subst f2
    clear he1
    have KW := Lib.hid (HAW.out v1 (HFX.out _ (bTr HB03.out HV1.out)).2.2)
    go_wp2_with fail
    refine KW.out.mono ?_
    rintro e w9 ⟨rfl, hB9⟩
    go_wp2
    go_ret
    exact ⟨rfl, by rw [HBS.out]; exact (HFX.out _ (bTr (bTr HB03.out HV1.out) hB9)).2.2⟩
  subst he1
  obtain ⟨hrv, hrt, _⟩ := jud_ok HJ1.out rfl
  have HRV := Lib.hid hrv
  have HRTT := Lib.hid hrt
  obtain ⟨sv, hsv⟩ : ∃ sv, someT g.a = sv := ⟨_, rfl⟩
  obtain ⟨hv, hhv⟩ : ∃ hv, highT g.a g.n = hv := ⟨_, rfl⟩
  have HSV := Lib.hid hsv
  have HKILL : Hid ((!sv || (hv && !x)) = true → cc1 = 2147483648) := Lib.hid fun h => by
    cases hsc : sv
    · exact jud_none HJ1.out rfl (by rw [some_sel, hsv, hsc])
    · rw [hsc] at h
      have h : hv = true ∧ x = false := by simpa using h
      exact jud_x32 HJ1.out rfl (high_sel (by rw [hhv]; exact h.1)) h.2
  clear hrv hrt
  go_upto_region 7 with fail
  obtain ⟨_, _, _, _, m4, m5, _⟩ := HM.out v1 HV1.out
  unfold someT at hsv
  unfold highT at hhv
  have hb := shift_bit g.n HGOK.out.1
  obtain ⟨t1, h1⟩ : ∃ t, ((g.a : Int) == 3221225534) = t := ⟨_, rfl⟩
  obtain ⟨t2, h2⟩ : ∃ t, ((g.a : Int) == 1073741827) = t := ⟨_, rfl⟩
  obtain ⟨t3, h3⟩ : ∃ t, ((g.a : Int) == 3221225655) = t := ⟨_, rfl⟩
  obtain ⟨t4, h4⟩ : ∃ t, ((g.a : Int) == 3221225715) = t := ⟨_, rfl⟩
  obtain ⟨t5, h5⟩ : ∃ t, bit30 g.n = t := ⟨_, rfl⟩
  obtain ⟨t6, h6⟩ : ∃ t, ((g.n : Int) != 4294967295) = t := ⟨_, rfl⟩
  rw [h1, h2, h3, h4] at hsv
  rw [h1, h5, h6] at hhv
  rw [h5] at hb
  have HSW := Lib.hid hsv
  have HHW := Lib.hid hhv
  clear hsv hhv
  go_cut [10] from 43 to 60 (fun s wx => s = .bool sv ∧ v1 = wx)
  case first =>
    cases t1 <;> cases t2 <;> cases t3 <;> cases t4
    all_goals go_wp2
    all_goals go_meet
    all_goals exact ⟨by rw [← HSW.out]; rfl, rfl⟩
  case rest =>
  obtain ⟨rfl, rfl⟩ := hcut
  go_upto_region 8 with fail
  go_cut [11] from 61 to 75 (fun s wx => s = .bool hv ∧ v1 = wx)
  case first =>
    rcases hb with ⟨rfl, hb⟩ | ⟨rfl, hb⟩ <;> cases t1 <;> cases t6
    all_goals go_wp2
    all_goals go_meet
    all_goals exact ⟨by rw [← HHW.out]; rfl, rfl⟩
  case rest =>
  obtain ⟨rfl, rfl⟩ := hcut
  have hq1 := (HFX.out _ (bTr HB03.out HV1.out)).1
  have p2 := hq1.cell 2 (.bool x) rfl
  clear hq1 hb h1 h2 h3 h4 h5 h6 HSW HHW m4 m5
  go_upto_region 9 with fail
  go_cut [89] from 76 to 89 (fun s wx => s = .bool false ∧ v1 = wx)
  case first =>
    cases sv <;> cases hv <;> cases x
    all_goals (try (obtain rfl : cc1 = 2147483648 := HKILL.out rfl))
    all_goals go_wp2
    all_goals go_meet
    all_goals exact ⟨rfl, rfl⟩
  case rest =>
  obtain ⟨rfl, rfl⟩ := hcut
  clear p2 HKILL
  have hG1 := (HFX.out _ (bTr HB03.out HV1.out)).2.1
  have hX1 := HX3.out.below HV1.out HX3.out.lt
  have hO1 := HO3.out.below HV1.out (Nat.le_refl _)
  have hBv := (HFX.out _ (bTr HB03.out HV1.out)).2.2
  obtain ⟨W11, hW11⟩ : ∃ W, v1.setCell ⟨B + 1, 0, none⟩ (.int .u32 4294967295) = W := ⟨_, rfl⟩
  have hG11 : RowC W11 (B + 1) #[.int .u32 4294967295, .int .u32 g.a, .int .u64 g.p, .int .u64 (g.q 0), .int .u64 (g.q 1), .int .u64 (g.q 2), .int .u64 (g.q 3), .int .u64 (g.q 4), .int .u64 (g.q 5)] 74 := by rw [← hW11]; exact hG1.set 0 _
  have hX11 : RowC W11 C (polA k u x A2 n c2) 26 := by rw [← hW11]; exact hX1.setOther (g := B + 1) 0 _ (by have := HCB.out; omega)
  have hO11 : RowL W11 w1.heap.size A2 l2 c2 := by rw [← hW11]; exact hO1.setLow hG1.ty (by decide) (by decide) 0 _
  have hB11 : Below B w0 W11 := by rw [← hW11]; exact hBv.setCell (by show B ≤ B + 1; omega) _
  have hS11 : B ≤ W11.heap.size := Nat.le_of_lt (Nat.lt_of_lt_of_le (by omega : B < B + 1) (Nat.le_of_lt hG11.lt))
  have y0 := hG1.cell 0 (.int .u32 g.n) rfl
  have y1 := hG1.frozen 0
  have HX11 := Lib.hid hX11
  have HG11 := Lib.hid hG11
  have HO11 := Lib.hid hO11
  have HB11 := Lib.hid hB11
  have HS11 := Lib.hid hS11
  have HW11 := Lib.hid hW11
  obtain ⟨g2, hg2⟩ : ∃ g2 : RecV, (⟨4294967295, g.a, g.p, g.q⟩ : RecV) = g2 := ⟨_, rfl⟩
  have HG2 := Lib.hid hg2
  have hok2 : g2.ok := by rw [← hg2]; exact ⟨by show 4294967295 < 4294967296; decide, HGOK.out.2.1, HGOK.out.2.2.1, HGOK.out.2.2.2⟩
  have hrc2 : rcells g2 = #[.int .u32 4294967295, .int .u32 g.a, .int .u64 g.p, .int .u64 (g.q 0), .int .u64 (g.q 1), .int .u64 (g.q 2), .int .u64 (g.q 3), .int .u64 (g.q 4), .int .u64 (g.q 5)] := by rw [← hg2]; rfl
  have KRC2 : Hid (∀ W, Calls Tryz.prog 40 #[.agg #[.int .u32 4294967295, .int .u32 g.a, .int .u64 g.p, .int .u64 (g.q 0), .int .u64 (g.q 1), .int .u64 (g.q 2), .int .u64 (g.q 3), .int .u64 (g.q 4), .int .u64 (g.q 5)]] W fun e w' => e = .returned (.agg #[.int .u32 4294967295, .int .u32 g.a, .int .u64 g.p, .int .u64 (g.q 0), .int .u64 (g.q 1), .int .u64 (g.q 2), .int .u64 (g.q 3), .int .u64 (g.q 4), .int .u64 (g.q 5)]) ∧ Below W.heap.size W w') := Lib.hid fun W => by
    have h := record17_any g2 W
    rw [hrc2] at h
    exact h
  have KJ2 : Hid (∀ W, Below W11.heap.size W11 W → ∀ A7 c7, TbA W A7 tn T → Calls Tryz.prog 38 #[.agg (polA k u x A2 n c2), .slice A7 tn c7, .agg #[.int .u32 4294967295, .int .u32 g.a, .int .u64 g.p, .int .u64 (g.q 0), .int .u64 (g.q 1), .int .u64 (g.q 2), .int .u64 (g.q 3), .int .u64 (g.q 4), .int .u64 (g.q 5)]] W fun e w' => ∃ cc ee : Nat, e = .returned (.tuple #[.int .u32 cc, .int .i64 ee]) ∧ JudP k u x L T tn g2 cc ee ∧ Below W.heap.size W w') := Lib.hid fun W hW A7 c7 ht => by
    have h := HJX.out W (HO11.out.below hW (Nat.le_refl _)) g2 hok2 A7 c7 ht
    rw [hrc2] at h
    exact h
  have KRW2 : Hid (∀ W, Below W11.heap.size W11 W → Calls Tryz.prog 39 #[.slice TA tn tcap] W fun e w' => ∃ A' c', e = .returned (.slice A' tn c') ∧ OwnC w' W.heap.size 114 8 A' tn c' (rcell T) ∧ Below W.heap.size W w') := Lib.hid fun W hW => HKR.out W (HB11.out.trans (hW.mono HS11.out))
  have HM2 : Hid (∀ w', Below W11.heap.size W11 w' → w'.cell? ⟨C, 0, none⟩ = some (.int .i64 k) ∧ w'.cell? ⟨C, 1, none⟩ = some (.int .i64 u) ∧ w'.cell? ⟨C, 2, none⟩ = some (.bool x) ∧ w'.cell? ⟨C, 3, none⟩ = some (.slice A2 n c2) ∧ w'.cell? ⟨B + 1, 0, none⟩ = some (.int .u32 4294967295) ∧ w'.cell? ⟨B + 1, 1, none⟩ = some (.int .u32 g.a) ∧ w'.cell? ⟨B + 1, 2, none⟩ = some (.int .u64 g.p) ∧ w'.cell? ⟨B + 1, 3, none⟩ = some (.int .u64 (g.q 0)) ∧ w'.cell? ⟨B + 1, 4, none⟩ = some (.int .u64 (g.q 1)) ∧ w'.cell? ⟨B + 1, 5, none⟩ = some (.int .u64 (g.q 2)) ∧ w'.cell? ⟨B + 1, 6, none⟩ = some (.int .u64 (g.q 3)) ∧ w'.cell? ⟨B + 1, 7, none⟩ = some (.int .u64 (g.q 4)) ∧ w'.cell? ⟨B + 1, 8, none⟩ = some (.int .u64 (g.q 5))) := Lib.hid fun W hW => by
    have h1 := HX11.out.below hW HX11.out.lt
    have h2 := HG11.out.below hW HG11.out.lt
    exact ⟨h1.cell 0 _ rfl, h1.cell 1 _ rfl, h1.cell 2 _ rfl, h1.cell 3 _ rfl, h2.cell 0 _ rfl, h2.cell 1 _ rfl, h2.cell 2 _ rfl, h2.cell 3 _ rfl, h2.cell 4 _ rfl, h2.cell 5 _ rfl, h2.cell 6 _ rfl, h2.cell 7 _ rfl, h2.cell 8 _ rfl⟩
  clear hG1 hX1 hO1 hBv hG11 hX11 hO11 hB11 hS11 hg2 hok2 hrc2 HX3 HO3 HM HFX
  go_upto_region 12 with fail
  (try rw [HW11.out])
  clear hW11 y0 y1
  obtain ⟨m0, m1, m2, m3, m4, m5, m6, m7, m8, m9, ma, mb, mc⟩ := HM2.out W11 (Below.refl _ _)
  go_region_held3 (fun w' => w'.cell? ⟨C, 0, none⟩ = some (.int .i64 k) ∧ w'.cell? ⟨C, 1, none⟩ = some (.int .i64 u) ∧ w'.cell? ⟨C, 2, none⟩ = some (.bool x) ∧ w'.cell? ⟨C, 3, none⟩ = some (.slice A2 n c2) ∧ w'.cell? ⟨B + 1, 0, none⟩ = some (.int .u32 4294967295) ∧ w'.cell? ⟨B + 1, 1, none⟩ = some (.int .u32 g.a) ∧ w'.cell? ⟨B + 1, 2, none⟩ = some (.int .u64 g.p) ∧ w'.cell? ⟨B + 1, 3, none⟩ = some (.int .u64 (g.q 0)) ∧ w'.cell? ⟨B + 1, 4, none⟩ = some (.int .u64 (g.q 1)) ∧ w'.cell? ⟨B + 1, 5, none⟩ = some (.int .u64 (g.q 2)) ∧ w'.cell? ⟨B + 1, 6, none⟩ = some (.int .u64 (g.q 3)) ∧ w'.cell? ⟨B + 1, 7, none⟩ = some (.int .u64 (g.q 4)) ∧ w'.cell? ⟨B + 1, 8, none⟩ = some (.int .u64 (g.q 5)))
    (first | (with_reducible exact HM2.out _ (by assumption)) | exact HM2.out _ (Below.refl _ _) | exact HM2.out _ (Below.refl _ _).drew)
    (first
      | (go_at_call 39
         refine (KRW2.out _ (Below.refl _ _).drew).mono ?_
         rintro e w7 ⟨A7, c7, rfl, hown7, hB7⟩
         have hk7 : Below W11.heap.size W11 w7 := (Below.refl _ _).drew.trans hB7)
      | (go_at_call 40
         refine (KRC2.out _).mono ?_
         rintro e w8 ⟨rfl, hB8⟩
         have hk8 : Below W11.heap.size W11 w8 := bTr hk7 hB8)
      | (go_at_call 38
         refine (KJ2.out _ hk8 A7 c7 ((own_TbA hown7).below hB8 (Nat.le_refl _))).mono ?_
         rintro e v2 ⟨cc2, ee2, rfl, hj2, hB9⟩
         have hv2 : Below W11.heap.size W11 v2 := bTr hk8 hB9))
  have HV2 := Lib.hid hv2
  have HJ2 := Lib.hid hj2
  clear m0 m1 m2 m3 m4 m5 m6 m7 m8 m9 ma mb mc hk7 hk8 hB7 hB8 hB9 hown7 hv2 hj2 KJ2 KRW2 KRC2
  have hx2 := HX11.out.below HV2.out HX11.out.lt
  have p0 := hx2.cell 0 (.int .i64 k) rfl
  have p1 := hx2.cell 1 (.int .i64 u) rfl
  have p2 := hx2.cell 2 (.bool x) rfl
  have p3 := hx2.cell 3 (.slice A2 n c2) rfl
  obtain ⟨Y, hY⟩ : ∃ Y, v2.heap.size = Y := ⟨_, rfl⟩
  obtain ⟨W13, hW13⟩ : ∃ W, v2.alloc (.cells (polA k u x A2 n c2) 26) = W := ⟨_, rfl⟩
  obtain ⟨W14, hW14⟩ : ∃ W, W13.setCell ⟨Y, 3, none⟩ (.slice none 0 0) = W := ⟨_, rfl⟩
  have hB13 : Below v2.heap.size v2 W13 := by rw [← hW13]; exact (Below.refl _ _).alloc (Nat.le_refl _) _
  have hY13 : RowC W13 Y (polA k u x A2 n c2) 26 := by rw [← hW13, ← hY]; exact RowC.new _ _ _ _ rfl
  have hY14 : RowC W14 Y (polA k u x none 0 0) 26 := by rw [← hW14]; exact hY13.set 3 _
  have hB14 : Below v2.heap.size v2 W14 := by rw [← hW14]; exact hB13.setCell (by show v2.heap.size ≤ Y; omega) _
  have hB014 : Below B w0 W14 := HB11.out.trans ((bTr HV2.out hB14).mono HS11.out)
  have z0 := hY13.cell 3 (.slice A2 n c2) rfl
  have z1 := hY13.frozen 3
  have HY14 := Lib.hid hY14
  have HB014 := Lib.hid hB014
  have HS14 : Hid (B ≤ W14.heap.size) := Lib.hid (Nat.le_trans HS11.out (Nat.le_trans HV2.out.size hB14.size))
  have HW13 := Lib.hid hW13
  have HW14 := Lib.hid hW14
  have HYY := Lib.hid hY
  obtain ⟨g3, hg3⟩ : ∃ g3 : RecV, (⟨4294967295, 3221225655, 0, fun _ => 0⟩ : RecV) = g3 := ⟨_, rfl⟩
  have HG3 := Lib.hid hg3
  have hok3 : g3.ok := by rw [← hg3]; exact ⟨by show 4294967295 < 4294967296; decide, by show 3221225655 < 4294967296; decide, by show 0 < 18446744073709551616; decide, fun _ => by show 0 < 18446744073709551616; decide⟩
  have hrc3 : rcells g3 = #[.int .u32 4294967295, .int .u32 3221225655, .int .u64 0, .int .u64 0, .int .u64 0, .int .u64 0, .int .u64 0, .int .u64 0, .int .u64 0] := by rw [← hg3]; rfl
  have KRC3 : Hid (∀ W, Calls Tryz.prog 40 #[.agg #[.int .u32 4294967295, .int .u32 3221225655, .int .u64 0, .int .u64 0, .int .u64 0, .int .u64 0, .int .u64 0, .int .u64 0, .int .u64 0]] W fun e w' => e = .returned (.agg #[.int .u32 4294967295, .int .u32 3221225655, .int .u64 0, .int .u64 0, .int .u64 0, .int .u64 0, .int .u64 0, .int .u64 0, .int .u64 0]) ∧ Below W.heap.size W w') := Lib.hid fun W => by
    have h := record17_any g3 W
    rw [hrc3] at h
    exact h
  have KJ3 : Hid (∀ W, Below W14.heap.size W14 W → ∀ A7 c7, TbA W A7 tn T → Calls Tryz.prog 38 #[.agg (polA k u x none 0 0), .slice A7 tn c7, .agg #[.int .u32 4294967295, .int .u32 3221225655, .int .u64 0, .int .u64 0, .int .u64 0, .int .u64 0, .int .u64 0, .int .u64 0, .int .u64 0]] W fun e w' => ∃ cc ee : Nat, e = .returned (.tuple #[.int .u32 cc, .int .i64 ee]) ∧ JudP k u x [] T tn g3 cc ee ∧ Below W.heap.size W w') := Lib.hid fun W hW A7 c7 ht => by
    have h := HJY.out W g3 hok3 A7 c7 ht
    rw [hrc3] at h
    exact h
  have KRW3 : Hid (∀ W, Below W14.heap.size W14 W → Calls Tryz.prog 39 #[.slice TA tn tcap] W fun e w' => ∃ A' c', e = .returned (.slice A' tn c') ∧ OwnC w' W.heap.size 114 8 A' tn c' (rcell T) ∧ Below W.heap.size W w') := Lib.hid fun W hW => HKR.out W (HB014.out.trans (hW.mono HS14.out))
  have HM3 : Hid (∀ w', Below W14.heap.size W14 w' → w'.cell? ⟨Y, 0, none⟩ = some (.int .i64 k) ∧ w'.cell? ⟨Y, 1, none⟩ = some (.int .i64 u) ∧ w'.cell? ⟨Y, 2, none⟩ = some (.bool x) ∧ w'.cell? ⟨Y, 3, none⟩ = some (.slice none 0 0)) := Lib.hid fun W hW => by
    have h1 := HY14.out.below hW HY14.out.lt
    exact ⟨h1.cell 0 _ rfl, h1.cell 1 _ rfl, h1.cell 2 _ rfl, h1.cell 3 _ rfl⟩
  clear hx2 hB13 hY13 hY14 hB14 hB014 hg3 hok3 hrc3 HM2
  go_upto_region 14 with fail
  (try rw [hY])
  (try rw [HW13.out])
  go_upto_region 15 with fail
  (try rw [HW14.out])
  clear hY hW13 hW14 p0 p1 p2 p3 z0 z1
  obtain ⟨m0, m1, m2, m3⟩ := HM3.out W14 (Below.refl _ _)
  go_region_held3 (fun w' => w'.cell? ⟨Y, 0, none⟩ = some (.int .i64 k) ∧ w'.cell? ⟨Y, 1, none⟩ = some (.int .i64 u) ∧ w'.cell? ⟨Y, 2, none⟩ = some (.bool x) ∧ w'.cell? ⟨Y, 3, none⟩ = some (.slice none 0 0))
    (first | (with_reducible exact HM3.out _ (by assumption)) | exact HM3.out _ (Below.refl _ _) | exact HM3.out _ (Below.refl _ _).drew)
    (first
      | (go_at_call 39
         refine (KRW3.out _ (Below.refl _ _).drew).mono ?_
         rintro e w7 ⟨A7, c7, rfl, hown7, hB7⟩
         have hk7 : Below W14.heap.size W14 w7 := (Below.refl _ _).drew.trans hB7)
      | (go_at_call 40
         refine (KRC3.out _).mono ?_
         rintro e w8 ⟨rfl, hB8⟩
         have hk8 : Below W14.heap.size W14 w8 := bTr hk7 hB8)
      | (go_at_call 38
         refine (KJ3.out _ hk8 A7 c7 ((own_TbA hown7).below hB8 (Nat.le_refl _))).mono ?_
         rintro e v3 ⟨cc3, ee3, rfl, hj3, hB9⟩
         have hv3 : Below W14.heap.size W14 v3 := bTr hk8 hB9))
  have HV3 := Lib.hid hv3
  have HJ3 := Lib.hid hj3
  clear m0 m1 m2 m3 hk7 hk8 hB7 hB8 hB9 hown7 hv3 hj3 KJ3 KRW3 KRC3
  have hz2 : ee2 = 0 := jud_zero HJ2.out HRV.out HRTT.out
  have hr0 : rightV k u [] = true := by
    have h := (act_mem HRV.out).1
    unfold rightV
    rw [h]
    rfl
  have hz3 : ee3 = 0 := jud_zero HJ3.out hr0 HRTT.out
  have e3 : cc3 = codeOf (k, u) := jud_nocall HJ3.out hz3 (by rw [← HG3.out]) (by rw [← HG3.out]; rfl)
  have hB3 : Below B w0 v3 := HB014.out.trans (HV3.out.mono HS14.out)
  have KW := Lib.hid (HAW.out v3 hB3)
  have HB3 := Lib.hid hB3
  have hS3 : B ≤ v3.heap.size := Nat.le_trans HS14.out HV3.out.size
  have HS3 := Lib.hid hS3
  obtain ⟨cu, hcu⟩ : ∃ cu, codeOf (k, u) = cu := ⟨_, rfl⟩
  rw [hcu] at e3
  cases sv with
  | false =>
    have e2 : cc2 = 2147483648 := jud_none HJ2.out hz2 (by rw [← HG2.out]; show (selA g.a 4294967295).2 = false; rw [some_sel]; exact HSV.out)
    subst hz2 hz3 e2 e3
    clear hr0 hB3 hS3 hcu
    go_wp2_with fail
    refine KW.out.mono ?_
    rintro e w9 ⟨rfl, hB9⟩
    go_wp2
    go_ret
    exact ⟨rfl, by rw [HBS.out]; exact HB3.out.trans (hB9.mono HS3.out)⟩
  | true =>
    have e2 : cc2 = cu := by rw [← hcu]; exact jud_nocall HJ2.out hz2 (by rw [← HG2.out]) (by rw [← HG2.out]; show (selA g.a 4294967295).2 = true; rw [some_sel]; exact HSV.out)
    subst hz2 hz3 e2 e3
    clear hr0 hB3 hS3 hcu
    go_wp2_with fail
    refine KW.out.mono ?_
    rintro e w9 ⟨rfl, hB9⟩
    go_wp2
    go_ret
    exact ⟨rfl, by rw [HBS.out]; exact HB3.out.trans (hB9.mono HS3.out)⟩
theorem of_laid {W : World} (h : laidMetH Tryz.prog Rows.modelOthersRow.laid W) : TabP W := by
  rw [MakeChecks.laidMetH_plain _ _ _ (by kernel_rfl)] at h
  exact tab_of_third h
end Go.Proofs.YtcmdmnnkbliggaaGreatDoor
