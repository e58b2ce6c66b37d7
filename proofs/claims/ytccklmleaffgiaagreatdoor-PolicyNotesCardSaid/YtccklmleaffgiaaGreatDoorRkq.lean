/-
  policy.Right.
-/
import Derived.Test.YtccklmleaffgiaaGreatDoorQ8
import Derived.Test.YtccklmleaffgiaaGreatDoorQ11
import Derived.Test.YtccklmleaffgiaaGreatDoorQ12
namespace Go.Proofs.YtccklmleaffgiaaGreatDoor
open Go.RowKit Go.Shelf
set_option linter.unusedVariables false

def actB (k u : Int) : Bool := (List.range 8).any fun j => decide (k = (j : Int) + 1) && mayA j u
theorem actB_ok {k u : Int} (h : actB k u = true) : ∃ j : Nat, j < 8 ∧ k = (j : Int) + 1 ∧ mayA j u = true := by
  unfold actB at h
  obtain ⟨j, hj, h⟩ := List.any_eq_true.1 h
  simp only [Bool.and_eq_true, decide_eq_true_eq] at h
  exact ⟨j, List.mem_range.1 hj, h.1, h.2⟩
theorem actB_no {k u : Int} (h : actB k u = false) : ∀ j : Nat, j < 8 → k = (j : Int) + 1 → mayA j u = false := by
  unfold actB at h
  intro j hj hk
  have := List.any_eq_false.1 h j (List.mem_range.2 hj)
  simp only [Bool.and_eq_true, decide_eq_true_eq, not_and, Bool.not_eq_true] at this
  exact this hk
set_option maxRecDepth 100000 in
set_option maxHeartbeats 4000000 in
theorem actRight_any (kd nm : Int) (w : World) :
    Calls Tryz.prog 25 #[.agg #[.int .i64 kd, .int .i64 nm]] w fun e w' => e = .returned (.bool (actB kd nm)) ∧ Below w.heap.size w w' := by
  have hb : Below w.heap.size w (w.alloc (.cells #[.int .i64 kd, .int .i64 nm] 23)) := (Below.refl _ _).alloc (Nat.le_refl _) _
  have HB := Lib.hid hb
  clear hb
  rcases ha : actB kd nm with _ | _
  · have HF := Lib.hid (kindOf_no kd nm (actB_no ha) (w.alloc (.cells #[.int .i64 kd, .int .i64 nm] 23)))
    clear ha
    go_enter Tryz.func25, Tryz.ntmps25
    go_wp2_with fail
    refine HF.out.mono ?_
    rintro e w1 ⟨rfl, hB1⟩
    have HBE := Lib.hid ((HB.out.trans (hB1.mono HB.out.size)).alloc (by have := HB.out.size; have := hB1.size; omega) (.cells kind0 108))
    clear hB1
    go_wp2
    go_ret
    exact ⟨rfl, HBE.out⟩
  · obtain ⟨j, hj, rfl, hm⟩ := actB_ok ha
    have HF := Lib.hid (kindOf_ok j hj nm hm (w.alloc (.cells #[.int .i64 ((j : Int) + 1), .int .i64 nm] 23)))
    clear ha hm hj
    go_enter Tryz.func25, Tryz.ntmps25
    go_wp2_with fail
    refine HF.out.mono ?_
    rintro e w1 ⟨⟨F, cap, rfl⟩, hB1⟩
    have HBE := Lib.hid ((HB.out.trans (hB1.mono HB.out.size)).alloc (by have := HB.out.size; have := hB1.size; omega) (.cells #[.string (kwA j), .int .u32 (kcA j), .bool (knA j), .func (.func F) #[] cap] 108))
    clear hB1
    go_wp2
    go_ret
    exact ⟨rfl, HBE.out⟩
abbrev nmRow (nm : ByteArray) : SR := ⟨nm, 0, 0, 0, 0, 0, 0, 0⟩
noncomputable def nameB (nm : ByteArray) : Bool := decide (rowF (fun _ => nmRow nm) 0 = 0)
theorem name_right {nm : ByteArray} {p q : Nat} (h : RightP (fun _ => nmRow nm) 1 p q) : ((q : Int) == 0) = nameB nm := by
  unfold nameB
  have e : (q = 0) = (rowF (fun _ => nmRow nm) 0 = 0) := by
    rcases h with ⟨h1, _⟩ | ⟨_, h2, _, h4, h5⟩ | ⟨_, h2, _, h4⟩
    · omega
    · obtain rfl : p = 0 := by omega
      rw [h5]
    · rw [h4, h2 0 (by omega)]
  by_cases h0 : q = 0
  · rw [decide_eq_true (e ▸ h0), h0]; rfl
  · rw [decide_eq_false (fun x => h0 (e.symm ▸ x))]
    exact beq_eq_false_iff_ne.2 (by omega)
set_option maxRecDepth 100000 in
set_option maxHeartbeats 4000000 in
theorem policyName_any (nm : ByteArray) (w : World) : Calls Tryz.prog 41 #[.string nm] w fun e w' => e = .returned (.bool (nameB nm)) ∧ Below w.heap.size w w' := by
  obtain ⟨W0, hW0⟩ : ∃ W, w.alloc (.cells (srow (nmRow nm)) 73) = W := ⟨_, rfl⟩
  have hB0 : Below w.heap.size w W0 := by rw [← hW0]; exact (Below.refl _ _).alloc (Nat.le_refl _) _
  have hP0 : RowC W0 w.heap.size (srow (nmRow nm)) 73 := by rw [← hW0]; exact RowC.new _ _ _ _ rfl
  have ht : TbA W0 (some ⟨w.heap.size, 0, none⟩) 1 (fun _ => nmRow nm) := TbA.of ⟨hP0.lt, fun i hi => by
    obtain rfl : i = 0 := by omega
    simp only [Nat.zero_mul, Nat.zero_add]
    exact ⟨hP0.cell 0 _ rfl, hP0.cell 1 _ rfl, hP0.cell 2 _ rfl, hP0.cell 3 _ rfl, hP0.cell 4 _ rfl, hP0.cell 5 _ rfl, hP0.cell 6 _ rfl, hP0.cell 7 _ rfl⟩⟩
  have HR := Lib.hid (Right_any (some ⟨w.heap.size, 0, none⟩) 1 1 (fun _ => nmRow nm) W0 ht)
  have HB0 := Lib.hid hB0
  have HW := Lib.hid hW0
  clear hW0 hB0 hP0 ht
  go_enter Tryz.func41, Tryz.ntmps41
  go_wp2_with fail
  rw [HW.out]
  refine HR.out.mono ?_
  rintro e w2 ⟨p, q, hr, rfl, hB2⟩
  have HE := Lib.hid (name_right hr)
  clear hr
  go_wp2
  go_ret
  exact ⟨by rw [← HE.out]; rfl, HB0.out.trans (hB2.mono HB0.out.size)⟩
instance (c : CD) : Decidable (RiC c) := by unfold RiC; infer_instance
theorem condRight_any (c : CD) (w : World) : Calls Tryz.prog 42 #[.agg (condA c.a c.o c.m c.v)] w fun e w' => e = .returned (.bool (decide (RiC c))) ∧ Below w.heap.size w w' := by
  by_cases h : RiC c
  · obtain ⟨j, hj⟩ := h.right
    rw [decide_eq_true h]
    exact right_ok c.a c.o c.m c.v j hj w
  · rw [decide_eq_false h]
    exact right_no c.a c.o c.m c.v (ric_not h) w
noncomputable def mayV (v : RV) : Bool := nameB v.nm && (actB v.k v.u && (decide (v.L.length ≤ 6) && v.L.all fun c => decide (RiC c)))
noncomputable def rightV (k u : Int) (l : List RV) : Bool := actB k u && (decide (l.length ≤ 500) && l.all mayV)
set_option maxRecDepth 100000 in
set_option maxHeartbeats 8000000 in
theorem mayBe_any (r : RL) (w : World) (hn : r.n ≤ 100000) (hC : ConA w r.A r.n r.C) :
    Calls Tryz.prog 26 #[.agg (rulA r.nm r.k r.u r.A r.n r.c)] w fun e w' => e = .returned (.bool (mayV r.val)) ∧ Below w.heap.size w w' := by
  obtain ⟨W0, hW0⟩ : ∃ W, w.alloc (.cells (rulA r.nm r.k r.u r.A r.n r.c) 50) = W := ⟨_, rfl⟩
  have hB0 : Below w.heap.size w W0 := by rw [← hW0]; exact (Below.refl _ _).alloc (Nat.le_refl _) _
  have hP0 : RowC W0 w.heap.size (rulA r.nm r.k r.u r.A r.n r.c) 50 := by rw [← hW0]; exact RowC.new _ _ _ _ rfl
  have HV : Hid (mayV r.val = (nameB r.nm && (actB r.k r.u && (decide (r.n ≤ 6) && ((List.range r.n).map r.C).all fun c => decide (RiC c))))) := Lib.hid (by unfold mayV RL.val; simp only [List.length_map, List.length_range])
  obtain ⟨mv, hmv⟩ : ∃ mv, mayV r.val = mv := ⟨_, rfl⟩
  rw [hmv] at HV ⊢
  obtain ⟨nm, k, u, A, n, c, C⟩ := r
  simp only at HV hW0 hP0 hn hC
  have HP0 := Lib.hid hP0
  have HB0 := Lib.hid hB0
  have HW := Lib.hid hW0
  have HC := Lib.hid hC
  have p0 := hP0.cell 0 (.string nm) rfl
  have HNM := Lib.hid (policyName_any nm W0)
  clear hW0 hB0 hP0 hmv hC
  rcases hb : nameB nm with _ | _
  · rw [hb] at HV HNM
    go_enter Tryz.func26, Tryz.ntmps26
    go_upto_region 1 with fail
    rw [HW.out]
    go_wp2_with fail
    refine HNM.out.mono ?_
    rintro e w1 ⟨rfl, hB1⟩
    go_wp2
    go_ret
    exact ⟨by rw [HV.out]; rfl, HB0.out.trans (hB1.mono HB0.out.size)⟩
  · rw [hb] at HV HNM
    rcases ha : actB k u with _ | _
    · rw [ha] at HV
      go_enter Tryz.func26, Tryz.ntmps26
      go_upto_region 1 with fail
      rw [HW.out]
      go_wp2_with fail
      refine HNM.out.mono ?_
      rintro e w1 ⟨rfl, hB1⟩
      have hP1 := HP0.out.below hB1 HP0.out.lt
      have a1 := hP1.cell 1 (.int .i64 k) rfl
      have a2 := hP1.cell 2 (.int .i64 u) rfl
      have HA := Lib.hid (actRight_any k u w1)
      rw [ha] at HA
      have HB1 := Lib.hid (HB0.out.trans (hB1.mono HB0.out.size))
      clear hP1 hB1
      go_wp2_with fail
      refine HA.out.mono ?_
      rintro e w2 ⟨rfl, hB2⟩
      go_wp2
      go_ret
      exact ⟨by rw [HV.out]; rfl, HB1.out.trans (hB2.mono HB1.out.size)⟩
    · rw [ha] at HV
      by_cases h6 : n ≤ 6
      · have HV := Lib.hid (HV.out.trans (by rw [decide_eq_true h6]; simp : _ = ((List.range n).map C).all fun c => decide (RiC c)))
        have g6 : ¬ (n : Int) > 6 := by omega
        have g7 : ¬ 6 < n := by omega
        go_enter Tryz.func26, Tryz.ntmps26
        go_upto_region 1 with fail
        rw [HW.out]
        go_wp2_with fail
        refine HNM.out.mono ?_
        rintro e w1 ⟨rfl, hB1⟩
        have hP1 := HP0.out.below hB1 HP0.out.lt
        have a1 := hP1.cell 1 (.int .i64 k) rfl
        have a2 := hP1.cell 2 (.int .i64 u) rfl
        have HA := Lib.hid (actRight_any k u w1)
        rw [ha] at HA
        have HB1 := Lib.hid (HB0.out.trans (hB1.mono HB0.out.size))
        have HP1 := Lib.hid hP1
        clear hP1 hB1
        go_wp2_with fail
        refine HA.out.mono ?_
        rintro e w2 ⟨rfl, hB2⟩
        have hP2 := HP1.out.below hB2 HP1.out.lt
        have b3 := hP2.cell 3 (.slice A n c) rfl
        have HB2 := Lib.hid (HB1.out.trans (hB2.mono HB1.out.size))
        clear hP2 hB2 p0 a1 a2
        go_wp2
        go_loopw [24] (fun i wr => ∃ q : Nat, q ≤ n ∧ i = .int .i64 q ∧ Hid (Below w.heap.size w wr ∧ ((List.range q).map C).all (fun c => decide (RiC c)) = true)) (fun i _ => n - (intOf i).toNat)
        case atStart => exact ⟨0, Nat.zero_le _, rfl, Lib.hid ⟨HB2.out, rfl⟩⟩
        case round =>
          obtain ⟨q, hq, rfl, HI⟩ := hrel
          by_cases hlt : q < n
          · obtain ⟨x, hx⟩ : ∃ x, C q = x := ⟨_, rfl⟩
            obtain ⟨b, o, rfl, c0, c1, c2, c3⟩ := (HC.out.below HI.out.1 (Nat.le_refl _)).four hlt hx
            have HX := Lib.hid hx
            have HCR := Lib.hid fun X => condRight_any x X
            obtain ⟨cv, hcv⟩ : ∃ cv, decide (RiC x) = cv := ⟨_, rfl⟩
            rw [hcv] at HCR
            have HCV := Lib.hid hcv
            have i1 : (0 : Int) ≤ (q : Int) := by omega
            have i2 : (q : Int) < (n : Int) := by omega
            clear hx hcv
            go_wp2_with fail
            refine (HCR.out _).mono ?_
            rintro e w3 ⟨rfl, hB3⟩
            have HB3 := Lib.hid (((Below.refl wr.heap.size wr).alloc (Nat.le_refl _) _).trans (hB3.mono (by simp)))
            clear hB3
            cases cv with
            | true =>
              go_wp2
              exact ⟨⟨q + 1, by omega, by go_num, Lib.hid ⟨HI.out.1.trans (HB3.out.mono HI.out.1.size), by rw [List.range_succ, List.map_append, List.all_append, HI.out.2]; simp [HX.out, HCV.out]⟩⟩, by simp [intOf]; omega⟩
            | false =>
              go_wp2
              go_ret
              refine ⟨?_, HI.out.1.trans (HB3.out.mono HI.out.1.size)⟩
              rw [HV.out, range_take C q n hlt, List.all_append, List.all_append]
              simp [HX.out, HCV.out]
          · obtain rfl : q = n := by omega
            go_wp2
            go_ret
            exact ⟨by rw [HV.out, HI.out.2]; rfl, HI.out.1⟩
      · have HV := Lib.hid (HV.out.trans (by rw [decide_eq_false h6]; simp : _ = false))
        have g6 : (n : Int) > 6 := by omega
        have g7 : 6 < n := by omega
        go_enter Tryz.func26, Tryz.ntmps26
        go_upto_region 1 with fail
        rw [HW.out]
        go_wp2_with fail
        refine HNM.out.mono ?_
        rintro e w1 ⟨rfl, hB1⟩
        have hP1 := HP0.out.below hB1 HP0.out.lt
        have a1 := hP1.cell 1 (.int .i64 k) rfl
        have a2 := hP1.cell 2 (.int .i64 u) rfl
        have HA := Lib.hid (actRight_any k u w1)
        rw [ha] at HA
        have HB1 := Lib.hid (HB0.out.trans (hB1.mono HB0.out.size))
        have HP1 := Lib.hid hP1
        clear hP1 hB1
        go_wp2_with fail
        refine HA.out.mono ?_
        rintro e w2 ⟨rfl, hB2⟩
        have hP2 := HP1.out.below hB2 HP1.out.lt
        have b3 := hP2.cell 3 (.slice A n c) rfl
        have HB2 := Lib.hid (HB1.out.trans (hB2.mono HB1.out.size))
        clear hP2 hB2 p0 a1 a2
        go_wp2
        go_ret
        exact ⟨by rw [HV.out]; rfl, HB2.out⟩
set_option maxRecDepth 100000 in
set_option maxHeartbeats 8000000 in
theorem policyRight_any (k u : Int) (x : Bool) (A : Option Addr) (l : List RL) (c : Nat) (w : World) (hl : RlL w A l) (hn : l.length ≤ 1000) (h12 : ∀ e ∈ l, e.n ≤ 100000) :
    Calls Tryz.prog 10 #[.agg (polA k u x A l.length c)] w fun e w' => e = .returned (.bool (rightV k u (l.map RL.val))) ∧ Below w.heap.size w w' := by
  obtain ⟨n, hnl⟩ : ∃ n, l.length = n := ⟨_, rfl⟩
  have HNL := Lib.hid hnl
  have HL := Lib.hid hl
  have H12 := Lib.hid h12
  obtain ⟨W0, hW0⟩ : ∃ W, w.alloc (.cells (polA k u x A n c) 26) = W := ⟨_, rfl⟩
  have hB0 : Below w.heap.size w W0 := by rw [← hW0]; exact (Below.refl _ _).alloc (Nat.le_refl _) _
  have hP0 : RowC W0 w.heap.size (polA k u x A n c) 26 := by rw [← hW0]; exact RowC.new _ _ _ _ rfl
  have HV : Hid (rightV k u (l.map RL.val) = (actB k u && (decide (n ≤ 500) && (l.map RL.val).all mayV))) := Lib.hid (by unfold rightV; rw [List.length_map, hnl])
  obtain ⟨rv, hrv⟩ : ∃ rv, rightV k u (l.map RL.val) = rv := ⟨_, rfl⟩
  rw [hrv] at HV ⊢
  rw [hnl] at hn ⊢
  have HP0 := Lib.hid hP0
  have HB0 := Lib.hid hB0
  have HW := Lib.hid hW0
  have p0 := hP0.cell 0 (.int .i64 k) rfl
  have p1 := hP0.cell 1 (.int .i64 u) rfl
  have HA := Lib.hid (actRight_any k u W0)
  clear hW0 hB0 hP0 hrv hl h12 hnl
  rcases ha : actB k u with _ | _
  · rw [ha] at HV HA
    go_enter Tryz.func10, Tryz.ntmps10
    go_upto_region 1 with fail
    rw [HW.out]
    go_wp2_with fail
    refine HA.out.mono ?_
    rintro e w1 ⟨rfl, hB1⟩
    go_wp2
    go_ret
    exact ⟨by rw [HV.out]; rfl, HB0.out.trans (hB1.mono HB0.out.size)⟩
  · rw [ha] at HV HA
    by_cases h5 : n ≤ 500
    · have HV2 := Lib.hid (HV.out.trans (by rw [decide_eq_true h5]; simp : _ = (l.map RL.val).all mayV))
      have g6 : ¬ (n : Int) > 500 := by omega
      have g7 : ¬ 500 < n := by omega
      go_enter Tryz.func10, Tryz.ntmps10
      go_upto_region 1 with fail
      rw [HW.out]
      go_wp2_with fail
      refine HA.out.mono ?_
      rintro e w1 ⟨rfl, hB1⟩
      have hP1 := HP0.out.below hB1 HP0.out.lt
      have a3 := hP1.cell 3 (.slice A n c) rfl
      have HB1 := Lib.hid (HB0.out.trans (hB1.mono HB0.out.size))
      clear hP1 hB1 p0 p1
      go_wp2
      go_loopw [18] (fun i wr => ∃ q : Nat, q ≤ n ∧ i = .int .i64 q ∧ Hid (Below w.heap.size w wr ∧ ((l.take q).map RL.val).all mayV = true)) (fun i _ => n - (intOf i).toNat)
      case atStart => exact ⟨0, Nat.zero_le _, rfl, Lib.hid ⟨HB1.out, rfl⟩⟩
      case round =>
        obtain ⟨q, hq, rfl, HI⟩ := hrel
        by_cases hlt : q < n
        · have hlq : q < l.length := by rw [HNL.out]; exact hlt
          have hmem : l[q]! ∈ l := by rw [getElem!_pos l q hlq]; exact List.getElem_mem hlq
          have hLr := HL.out.below HI.out.1 (Nat.le_refl _)
          have hru := hLr.2 _ hmem
          have h1000 := H12.out _ hmem
          rcases hLr.1 with h0 | ⟨bb, o, rfl, hbl, hcs⟩
          · rw [h0] at hlq; exact absurd hlq (Nat.not_lt_zero _)
          obtain ⟨q0, q1, q2, q3⟩ := hcs q hlq
          obtain ⟨r, hr⟩ : ∃ r, l[q]! = r := ⟨_, rfl⟩
          have HMR := Lib.hid (show r ∈ l by rw [← hr]; exact hmem)
          rw [hr] at q0 q1 q2 q3 hru h1000
          rw [Nat.add_zero] at q0
          have HTK := Lib.hid (show (l.take (q + 1)).map RL.val = (l.take q).map RL.val ++ [r.val] by rw [List.take_add_one, List.getElem?_eq_getElem hlq, List.map_append, ← hr, getElem!_pos l q hlq]; rfl)
          have HCL := Lib.hid fun X (hX : Below wr.heap.size wr X) => mayBe_any r X h1000 (hru.2.2.2.2.2.conA.below hX (Nat.le_refl _))
          obtain ⟨mv, hmv⟩ : ∃ mv, mayV r.val = mv := ⟨_, rfl⟩
          rw [hmv] at HCL
          have HMV := Lib.hid hmv
          have i1 : (0 : Int) ≤ (q : Int) := by omega
          have i2 : (q : Int) < (n : Int) := by omega
          clear hcs hr hlq hmem hru hLr h1000 hmv
          go_wp2_with fail
          refine (HCL.out _ ((Below.refl _ _).alloc (Nat.le_refl _) _)).mono ?_
          rintro e w3 ⟨rfl, hB3⟩
          have HB3 := Lib.hid (((Below.refl wr.heap.size wr).alloc (Nat.le_refl _) _).trans (hB3.mono (by simp)))
          clear hB3
          cases mv with
          | true =>
            go_wp2
            exact ⟨⟨q + 1, by omega, by go_num, Lib.hid ⟨HI.out.1.trans (HB3.out.mono HI.out.1.size), by rw [HTK.out, List.all_append, HI.out.2]; simp [HMV.out]⟩⟩, by simp [intOf]; omega⟩
          | false =>
            go_wp2
            go_ret
            refine ⟨?_, HI.out.1.trans (HB3.out.mono HI.out.1.size)⟩
            have : (l.map RL.val).all mayV = false := by
              rw [List.all_eq_false]
              exact ⟨r.val, List.mem_map.2 ⟨r, HMR.out, rfl⟩, by rw [HMV.out]; simp⟩
            rw [HV2.out, this]
            rfl
        · obtain rfl : q = n := by omega
          have htk : l.take q = l := List.take_of_length_le (by rw [HNL.out]; exact Nat.le_refl _)
          have HTK := Lib.hid htk
          clear htk
          go_wp2
          go_ret
          exact ⟨by have := HI.out.2; rw [HTK.out] at this; rw [HV2.out, this]; rfl, HI.out.1⟩
    · have HV := Lib.hid (HV.out.trans (by rw [decide_eq_false h5]; simp : _ = false))
      have g6 : (n : Int) > 500 := by omega
      have g7 : 500 < n := by omega
      go_enter Tryz.func10, Tryz.ntmps10
      go_upto_region 1 with fail
      rw [HW.out]
      go_wp2_with fail
      refine HA.out.mono ?_
      rintro e w1 ⟨rfl, hB1⟩
      have hP1 := HP0.out.below hB1 HP0.out.lt
      have a3 := hP1.cell 3 (.slice A n c) rfl
      have HB1 := Lib.hid (HB0.out.trans (hB1.mono HB0.out.size))
      clear hP1 hB1 p0 p1
      go_wp2
      go_ret
      exact ⟨by rw [HV.out]; rfl, HB1.out⟩
end Go.Proofs.YtccklmleaffgiaaGreatDoor
