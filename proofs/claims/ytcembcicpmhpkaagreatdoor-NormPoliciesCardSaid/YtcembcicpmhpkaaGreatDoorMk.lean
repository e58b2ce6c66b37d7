/-
  policy.Right.
-/
import Derived.Test.YtcembcicpmhpkaaGreatDoorRi
import Derived.Test.YtcembcicpmhpkaaGreatDoorUe
import Derived.Test.YtcembcicpmhpkaaGreatDoorBc
import Derived.Test.YtcembcicpmhpkaaGreatDoorRh
namespace Go.Proofs.YtcembcicpmhpkaaGreatDoor
open Go.RowKit Go.Shelf
set_option linter.unusedVariables false

def actB (k u : Int) : Bool := (List.range 8).any fun j => decide (k = (j : Int) + 1) && mayA j u
theorem actB_ok {k u : Int} (h : actB k u = true) : ∃ j : Nat, j < 8 ∧ k = (j : Int) + 1 ∧ mayA j u = true := by
  unfold actB at h
  obtain ⟨j, hj, h⟩ := List.any_eq_true.1 h
  simp only [Bool.and_eq_true, decide_eq_true_eq] at h
  exact ⟨j, List.mem_range.1 hj, h.1, h.2⟩
theorem actB_no {k u : Int} (h : actB k u = false) : ∀ j : Nat, j < 8 → k = (j : Int) + 1 → mayA j u = false := by
  unfold actB at h
  intro j hj hk
  have := List.any_eq_false.1 h j (List.mem_range.2 hj)
  simp only [Bool.and_eq_true, decide_eq_true_eq, not_and, Bool.not_eq_true] at this
  exact this hk
set_option maxRecDepth 100000 in
set_option maxHeartbeats 4000000 in
theorem actRight_any (kd nm : Int) (w : World) :
    Calls Tryz.prog 32 #[.agg #[.int .i64 kd, .int .i64 nm]] w fun e w' => e = .returned (.bool (actB kd nm)) ∧ Below w.heap.size w w' := by
  have hb : Below w.heap.size w (w.alloc (.cells #[.int .i64 kd, .int .i64 nm] 28)) := (Below.refl _ _).alloc (Nat.le_refl _) _
  have HB := Lib.hid hb
  clear hb
  rcases ha : actB kd nm with _ | _
  · have HF := Lib.hid (kindOf_no kd nm (actB_no ha) (w.alloc (.cells #[.int .i64 kd, .int .i64 nm] 28)))
    clear ha
    go_enter Tryz.func32, Tryz.ntmps32
    go_wp2_with fail
    refine HF.out.mono ?_
    rintro e w1 ⟨rfl, hB1⟩
    have HBE := Lib.hid ((HB.out.trans (hB1.mono HB.out.size)).alloc (by have := HB.out.size; have := hB1.size; omega) (.cells kind0 123))
    clear hB1
    go_wp2
    go_ret
    exact ⟨rfl, HBE.out⟩
  · obtain ⟨j, hj, rfl, hm⟩ := actB_ok ha
    have HF := Lib.hid (kindOf_ok j hj nm hm (w.alloc (.cells #[.int .i64 ((j : Int) + 1), .int .i64 nm] 28)))
    clear ha hm hj
    go_enter Tryz.func32, Tryz.ntmps32
    go_wp2_with fail
    refine HF.out.mono ?_
    rintro e w1 ⟨⟨F, cap, rfl⟩, hB1⟩
    have HBE := Lib.hid ((HB.out.trans (hB1.mono HB.out.size)).alloc (by have := HB.out.size; have := hB1.size; omega) (.cells #[.string (kwA j), .int .u32 (kcA j), .bool (knA j), .func (.func F) #[] cap] 123))
    clear hB1
    go_wp2
    go_ret
    exact ⟨rfl, HBE.out⟩
abbrev nmRow (nm : ByteArray) : SR := ⟨nm, 0, 0, 0, 0, 0, 0, 0⟩
noncomputable def nameB (nm : ByteArray) : Bool := decide (rowF (fun _ => nmRow nm) 0 = 0)
theorem name_right {nm : ByteArray} {p q : Nat} (h : RightP (fun _ => nmRow nm) 1 p q) : ((q : Int) == 0) = nameB nm := by
  unfold nameB
  have e : (q = 0) = (rowF (fun _ => nmRow nm) 0 = 0) := by
    rcases h with ⟨h1, _⟩ | ⟨_, h2, _, h4, h5⟩ | ⟨_, h2, _, h4⟩
    · omega
    · obtain rfl : p = 0 := by omega
      rw [h5]
    · rw [h4, h2 0 (by omega)]
  by_cases h0 : q = 0
  · rw [decide_eq_true (e ▸ h0), h0]; rfl
  · rw [decide_eq_false (fun x => h0 (e.symm ▸ x))]
    exact beq_eq_false_iff_ne.2 (by omega)
set_option maxRecDepth 100000 in
set_option maxHeartbeats 4000000 in
theorem policyName_any (nm : ByteArray) (w : World) : Calls Tryz.prog 61 #[.string nm] w fun e w' => e = .returned (.bool (nameB nm)) ∧ Below w.heap.size w w' := by
  obtain ⟨W0, hW0⟩ : ∃ W, w.alloc (.cells (srow (nmRow nm)) 159) = W := ⟨_, rfl⟩
  have hB0 : Below w.heap.size w W0 := by rw [← hW0]; exact (Below.refl _ _).alloc (Nat.le_refl _) _
  have hP0 : RowC W0 w.heap.size (srow (nmRow nm)) 159 := by rw [← hW0]; exact RowC.new _ _ _ _ rfl
  have ht : TbA W0 (some ⟨w.heap.size, 0, none⟩) 1 (fun _ => nmRow nm) := TbA.of ⟨hP0.lt, fun i hi => by
    obtain rfl : i = 0 := by omega
    simp only [Nat.zero_mul, Nat.zero_add]
    exact ⟨hP0.cell 0 _ rfl, hP0.cell 1 _ rfl, hP0.cell 2 _ rfl, hP0.cell 3 _ rfl, hP0.cell 4 _ rfl, hP0.cell 5 _ rfl, hP0.cell 6 _ rfl, hP0.cell 7 _ rfl⟩⟩
  have HR := Lib.hid (Right_any (some ⟨w.heap.size, 0, none⟩) 1 1 (fun _ => nmRow nm) W0 ht)
  have HB0 := Lib.hid hB0
  have HW := Lib.hid hW0
  clear hW0 hB0 hP0 ht
  go_enter Tryz.func61, Tryz.ntmps61
  go_wp2_with fail
  rw [HW.out]
  refine HR.out.mono ?_
  rintro e w2 ⟨p, q, hr, rfl, hB2⟩
  have HE := Lib.hid (name_right hr)
  clear hr
  go_wp2
  go_ret
  exact ⟨by rw [← HE.out]; rfl, HB0.out.trans (hB2.mono HB0.out.size)⟩
instance (c : CD) : Decidable (RiC c) := by unfold RiC; infer_instance
theorem condRight_any (c : CD) (w : World) : Calls Tryz.prog 62 #[.agg (condA c.a c.o c.m c.v)] w fun e w' => e = .returned (.bool (decide (RiC c))) ∧ Below w.heap.size w w' := by
  by_cases h : RiC c
  · obtain ⟨j, hj⟩ := h.right
    rw [decide_eq_true h]
    exact right_ok c.a c.o c.m c.v j hj w
  · rw [decide_eq_false h]
    exact right_no c.a c.o c.m c.v (ric_not h) w
noncomputable def mayV (v : RV) : Bool := nameB v.nm && (actB v.k v.u && (decide (v.L.length ≤ 6) && v.L.all fun c => decide (RiC c)))
noncomputable def rightV (k u : Int) (l : List RV) : Bool := actB k u && (decide (l.length ≤ 500) && l.all mayV)
theorem mayV_ri {r : RL} (h : mayV r.val = true) : RiR r := by
  unfold mayV at h
  simp only [Bool.and_eq_true, decide_eq_true_eq, List.all_eq_true] at h
  obtain ⟨_, _, h1, h2⟩ := h
  refine ⟨by simpa [RL.val] using h1, fun i hi => h2 _ ?_⟩
  exact List.mem_map.2 ⟨i, List.mem_range.2 hi, rfl⟩
set_option maxRecDepth 100000 in
set_option maxHeartbeats 8000000 in
theorem mayBe_any (r : RL) (w : World) (hn : r.n ≤ 100000) (hC : ConA w r.A r.n r.C) :
    Calls Tryz.prog 33 #[.agg (rulA r.nm r.k r.u r.A r.n r.c)] w fun e w' => e = .returned (.bool (mayV r.val)) ∧ Below w.heap.size w w' := by
  obtain ⟨W0, hW0⟩ : ∃ W, w.alloc (.cells (rulA r.nm r.k r.u r.A r.n r.c) 52) = W := ⟨_, rfl⟩
  have hB0 : Below w.heap.size w W0 := by rw [← hW0]; exact (Below.refl _ _).alloc (Nat.le_refl _) _
  have hP0 : RowC W0 w.heap.size (rulA r.nm r.k r.u r.A r.n r.c) 52 := by rw [← hW0]; exact RowC.new _ _ _ _ rfl
  have HV : Hid (mayV r.val = (nameB r.nm && (actB r.k r.u && (decide (r.n ≤ 6) && ((List.range r.n).map r.C).all fun c => decide (RiC c))))) := Lib.hid (by unfold mayV RL.val; simp only [List.length_map, List.length_range])
  obtain ⟨mv, hmv⟩ : ∃ mv, mayV r.val = mv := ⟨_, rfl⟩
  rw [hmv] at HV ⊢
  obtain ⟨nm, k, u, A, n, c, C⟩ := r
  simp only at HV hW0 hP0 hn hC
  have HP0 := Lib.hid hP0
  have HB0 := Lib.hid hB0
  have HW := Lib.hid hW0
  have HC := Lib.hid hC
  have p0 := hP0.cell 0 (.string nm) rfl
  have HNM := Lib.hid (policyName_any nm W0)
  clear hW0 hB0 hP0 hmv hC
  rcases hb : nameB nm with _ | _
  · rw [hb] at HV HNM
    go_enter Tryz.func33, Tryz.ntmps33
    go_upto_region 1 with fail
    rw [HW.out]
    go_wp2_with fail
    refine HNM.out.mono ?_
    rintro e w1 ⟨rfl, hB1⟩
    go_wp2
    go_ret
    exact ⟨by rw [HV.out]; rfl, HB0.out.trans (hB1.mono HB0.out.size)⟩
  · rw [hb] at HV HNM
    rcases ha : actB k u with _ | _
    · rw [ha] at HV
      go_enter Tryz.func33, Tryz.ntmps33
      go_upto_region 1 with fail
      rw [HW.out]
      go_wp2_with fail
      refine HNM.out.mono ?_
      rintro e w1 ⟨rfl, hB1⟩
      have hP1 := HP0.out.below hB1 HP0.out.lt
      have a1 := hP1.cell 1 (.int .i64 k) rfl
      have a2 := hP1.cell 2 (.int .i64 u) rfl
      have HA := Lib.hid (actRight_any k u w1)
      rw [ha] at HA
      have HB1 := Lib.hid (HB0.out.trans (hB1.mono HB0.out.size))
      clear hP1 hB1
      go_wp2_with fail
      refine HA.out.mono ?_
      rintro e w2 ⟨rfl, hB2⟩
      go_wp2
      go_ret
      exact ⟨by rw [HV.out]; rfl, HB1.out.trans (hB2.mono HB1.out.size)⟩
    · rw [ha] at HV
      by_cases h6 : n ≤ 6
      · have HV := Lib.hid (HV.out.trans (by rw [decide_eq_true h6]; simp : _ = ((List.range n).map C).all fun c => decide (RiC c)))
        have g6 : ¬ (n : Int) > 6 := by omega
        have g7 : ¬ 6 < n := by omega
        go_enter Tryz.func33, Tryz.ntmps33
        go_upto_region 1 with fail
        rw [HW.out]
        go_wp2_with fail
        refine HNM.out.mono ?_
        rintro e w1 ⟨rfl, hB1⟩
        have hP1 := HP0.out.below hB1 HP0.out.lt
        have a1 := hP1.cell 1 (.int .i64 k) rfl
        have a2 := hP1.cell 2 (.int .i64 u) rfl
        have HA := Lib.hid (actRight_any k u w1)
        rw [ha] at HA
        have HB1 := Lib.hid (HB0.out.trans (hB1.mono HB0.out.size))
        have HP1 := Lib.hid hP1
        clear hP1 hB1
        go_wp2_with fail
        refine HA.out.mono ?_
        rintro e w2 ⟨rfl, hB2⟩
        have hP2 := HP1.out.below hB2 HP1.out.lt
        have b3 := hP2.cell 3 (.slice A n c) rfl
        have HB2 := Lib.hid (HB1.out.trans (hB2.mono HB1.out.size))
        clear hP2 hB2 p0 a1 a2
        go_wp2
        go_loopw [24] (fun i wr => ∃ q : Nat, q ≤ n ∧ i = .int .i64 q ∧ Hid (Below w.heap.size w wr ∧ ((List.range q).map C).all (fun c => decide (RiC c)) = true)) (fun i _ => n - (intOf i).toNat)
        case atStart => exact ⟨0, Nat.zero_le _, rfl, Lib.hid ⟨HB2.out, rfl⟩⟩
        case round =>
          obtain ⟨q, hq, rfl, HI⟩ := hrel
          by_cases hlt : q < n
          · obtain ⟨x, hx⟩ : ∃ x, C q = x := ⟨_, rfl⟩
            obtain ⟨b, o, rfl, c0, c1, c2, c3⟩ := (HC.out.below HI.out.1 (Nat.le_refl _)).four hlt hx
            have HX := Lib.hid hx
            have HCR := Lib.hid fun X => condRight_any x X
            obtain ⟨cv, hcv⟩ : ∃ cv, decide (RiC x) = cv := ⟨_, rfl⟩
            rw [hcv] at HCR
            have HCV := Lib.hid hcv
            have i1 : (0 : Int) ≤ (q : Int) := by omega
            have i2 : (q : Int) < (n : Int) := by omega
            clear hx hcv
            go_wp2_with fail
            refine (HCR.out _).mono ?_
            rintro e w3 ⟨rfl, hB3⟩
            have HB3 := Lib.hid (((Below.refl wr.heap.size wr).alloc (Nat.le_refl _) _).trans (hB3.mono (by simp)))
            clear hB3
            cases cv with
            | true =>
              go_wp2
              exact ⟨⟨q + 1, by omega, by go_num, Lib.hid ⟨HI.out.1.trans (HB3.out.mono HI.out.1.size), by rw [List.range_succ, List.map_append, List.all_append, HI.out.2]; simp [HX.out, HCV.out]⟩⟩, by simp [intOf]; omega⟩
            | false =>
              go_wp2
              go_ret
              refine ⟨?_, HI.out.1.trans (HB3.out.mono HI.out.1.size)⟩
              rw [HV.out, range_take C q n hlt, List.all_append, List.all_append]
              simp [HX.out, HCV.out]
          · obtain rfl : q = n := by omega
            go_wp2
            go_ret
            exact ⟨by rw [HV.out, HI.out.2]; rfl, HI.out.1⟩
      · have HV := Lib.hid (HV.out.trans (by rw [decide_eq_false h6]; simp : _ = false))
        have g6 : (n : Int) > 6 := by omega
        have g7 : 6 < n := by omega
        go_enter Tryz.func33, Tryz.ntmps33
        go_upto_region 1 with fail
        rw [HW.out]
        go_wp2_with fail
        refine HNM.out.mono ?_
        rintro e w1 ⟨rfl, hB1⟩
        have hP1 := HP0.out.below hB1 HP0.out.lt
        have a1 := hP1.cell 1 (.int .i64 k) rfl
        have a2 := hP1.cell 2 (.int .i64 u) rfl
        have HA := Lib.hid (actRight_any k u w1)
        rw [ha] at HA
        have HB1 := Lib.hid (HB0.out.trans (hB1.mono HB0.out.size))
        have HP1 := Lib.hid hP1
        clear hP1 hB1
        go_wp2_with fail
        refine HA.out.mono ?_
        rintro e w2 ⟨rfl, hB2⟩
        have hP2 := HP1.out.below hB2 HP1.out.lt
        have b3 := hP2.cell 3 (.slice A n c) rfl
        have HB2 := Lib.hid (HB1.out.trans (hB2.mono HB1.out.size))
        clear hP2 hB2 p0 a1 a2
        go_wp2
        go_ret
        exact ⟨by rw [HV.out]; rfl, HB2.out⟩
set_option maxRecDepth 100000 in
set_option maxHeartbeats 8000000 in
theorem policyRight_any (k u : Int) (x : Bool) (A : Option Addr) (l : List RL) (c : Nat) (w : World) (hl : RlL w A l) (hn : l.length ≤ 1000) (h12 : ∀ e ∈ l, e.n ≤ 100000) :
    Calls Tryz.prog 16 #[.agg (polA k u x A l.length c)] w fun e w' => e = .returned (.bool (rightV k u (l.map RL.val))) ∧ Below w.heap.size w w' := by
  obtain ⟨n, hnl⟩ : ∃ n, l.length = n := ⟨_, rfl⟩
  have HNL := Lib.hid hnl
  have HL := Lib.hid hl
  have H12 := Lib.hid h12
  obtain ⟨W0, hW0⟩ : ∃ W, w.alloc (.cells (polA k u x A n c) 31) = W := ⟨_, rfl⟩
  have hB0 : Below w.heap.size w W0 := by rw [← hW0]; exact (Below.refl _ _).alloc (Nat.le_refl _) _
  have hP0 : RowC W0 w.heap.size (polA k u x A n c) 31 := by rw [← hW0]; exact RowC.new _ _ _ _ rfl
  have HV : Hid (rightV k u (l.map RL.val) = (actB k u && (decide (n ≤ 500) && (l.map RL.val).all mayV))) := Lib.hid (by unfold rightV; rw [List.length_map, hnl])
  obtain ⟨rv, hrv⟩ : ∃ rv, rightV k u (l.map RL.val) = rv := ⟨_, rfl⟩
  rw [hrv] at HV ⊢
  rw [hnl] at hn ⊢
  have HP0 := Lib.hid hP0
  have HB0 := Lib.hid hB0
  have HW := Lib.hid hW0
  have p0 := hP0.cell 0 (.int .i64 k) rfl
  have p1 := hP0.cell 1 (.int .i64 u) rfl
  have HA := Lib.hid (actRight_any k u W0)
  clear hW0 hB0 hP0 hrv hl h12 hnl
  rcases ha : actB k u with _ | _
  · rw [ha] at HV HA
    go_enter Tryz.func16, Tryz.ntmps16
    go_upto_region 1 with fail
    rw [HW.out]
    go_wp2_with fail
    refine HA.out.mono ?_
    rintro e w1 ⟨rfl, hB1⟩
    go_wp2
    go_ret
    exact ⟨by rw [HV.out]; rfl, HB0.out.trans (hB1.mono HB0.out.size)⟩
  · rw [ha] at HV HA
    by_cases h5 : n ≤ 500
    · have HV2 := Lib.hid (HV.out.trans (by rw [decide_eq_true h5]; simp : _ = (l.map RL.val).all mayV))
      have g6 : ¬ (n : Int) > 500 := by omega
      have g7 : ¬ 500 < n := by omega
      go_enter Tryz.func16, Tryz.ntmps16
      go_upto_region 1 with fail
      rw [HW.out]
      go_wp2_with fail
      refine HA.out.mono ?_
      rintro e w1 ⟨rfl, hB1⟩
      have hP1 := HP0.out.below hB1 HP0.out.lt
      have a3 := hP1.cell 3 (.slice A n c) rfl
      have HB1 := Lib.hid (HB0.out.trans (hB1.mono HB0.out.size))
      clear hP1 hB1 p0 p1
      go_wp2
      go_loopw [18] (fun i wr => ∃ q : Nat, q ≤ n ∧ i = .int .i64 q ∧ Hid (Below w.heap.size w wr ∧ ((l.take q).map RL.val).all mayV = true)) (fun i _ => n - (intOf i).toNat)
      case atStart => exact ⟨0, Nat.zero_le _, rfl, Lib.hid ⟨HB1.out, rfl⟩⟩
      case round =>
        obtain ⟨q, hq, rfl, HI⟩ := hrel
        by_cases hlt : q < n
        · have hlq : q < l.length := by rw [HNL.out]; exact hlt
          have hmem : l[q]! ∈ l := by rw [getElem!_pos l q hlq]; exact List.getElem_mem hlq
          have hLr := HL.out.below HI.out.1 (Nat.le_refl _)
          have hru := hLr.2 _ hmem
          have h1000 := H12.out _ hmem
          rcases hLr.1 with h0 | ⟨bb, o, rfl, hbl, hcs⟩
          · rw [h0] at hlq; exact absurd hlq (Nat.not_lt_zero _)
          obtain ⟨q0, q1, q2, q3⟩ := hcs q hlq
          obtain ⟨r, hr⟩ : ∃ r, l[q]! = r := ⟨_, rfl⟩
          have HMR := Lib.hid (show r ∈ l by rw [← hr]; exact hmem)
          rw [hr] at q0 q1 q2 q3 hru h1000
          rw [Nat.add_zero] at q0
          have HTK := Lib.hid (show (l.take (q + 1)).map RL.val = (l.take q).map RL.val ++ [r.val] by rw [List.take_add_one, List.getElem?_eq_getElem hlq, List.map_append, ← hr, getElem!_pos l q hlq]; rfl)
          have HCL := Lib.hid fun X (hX : Below wr.heap.size wr X) => mayBe_any r X h1000 (hru.2.2.2.2.2.conA.below hX (Nat.le_refl _))
          obtain ⟨mv, hmv⟩ : ∃ mv, mayV r.val = mv := ⟨_, rfl⟩
          rw [hmv] at HCL
          have HMV := Lib.hid hmv
          have i1 : (0 : Int) ≤ (q : Int) := by omega
          have i2 : (q : Int) < (n : Int) := by omega
          clear hcs hr hlq hmem hru hLr h1000 hmv
          go_wp2_with fail
          refine (HCL.out _ ((Below.refl _ _).alloc (Nat.le_refl _) _)).mono ?_
          rintro e w3 ⟨rfl, hB3⟩
          have HB3 := Lib.hid (((Below.refl wr.heap.size wr).alloc (Nat.le_refl _) _).trans (hB3.mono (by simp)))
          clear hB3
          cases mv with
          | true =>
            go_wp2
            exact ⟨⟨q + 1, by omega, by go_num, Lib.hid ⟨HI.out.1.trans (HB3.out.mono HI.out.1.size), by rw [HTK.out, List.all_append, HI.out.2]; simp [HMV.out]⟩⟩, by simp [intOf]; omega⟩
          | false =>
            go_wp2
            go_ret
            refine ⟨?_, HI.out.1.trans (HB3.out.mono HI.out.1.size)⟩
            have : (l.map RL.val).all mayV = false := by
              rw [List.all_eq_false]
              exact ⟨r.val, List.mem_map.2 ⟨r, HMR.out, rfl⟩, by rw [HMV.out]; simp⟩
            rw [HV2.out, this]
            rfl
        · obtain rfl : q = n := by omega
          have htk : l.take q = l := List.take_of_length_le (by rw [HNL.out]; exact Nat.le_refl _)
          have HTK := Lib.hid htk
          clear htk
          go_wp2
          go_ret
          exact ⟨by have := HI.out.2; rw [HTK.out] at this; rw [HV2.out, this]; rfl, HI.out.1⟩
    · have HV := Lib.hid (HV.out.trans (by rw [decide_eq_false h5]; simp : _ = false))
      have g6 : (n : Int) > 500 := by omega
      have g7 : 500 < n := by omega
      go_enter Tryz.func16, Tryz.ntmps16
      go_upto_region 1 with fail
      rw [HW.out]
      go_wp2_with fail
      refine HA.out.mono ?_
      rintro e w1 ⟨rfl, hB1⟩
      have hP1 := HP0.out.below hB1 HP0.out.lt
      have a3 := hP1.cell 3 (.slice A n c) rfl
      have HB1 := Lib.hid (HB0.out.trans (hB1.mono HB0.out.size))
      clear hP1 hB1 p0 p1
      go_wp2
      go_ret
      exact ⟨by rw [HV.out]; rfl, HB1.out⟩
end Go.Proofs.YtcembcicpmhpkaaGreatDoor

/-
  Layer 16: norm.Policy.
-/
namespace Go.Proofs.YtcembcicpmhpkaaGreatDoor
open Go.RowKit Go.Shelf Go.Maps Go.Sort Go.ChangeMaps Go.WideMaps
set_option linter.unusedVariables false

theorem RowL.blocks {w w' : World} {base : Nat} {A : Option Addr} {l : List RL} {c : Nat} (h : RowL w base A l c) (he : ∀ g, (Value.slice A l.length c).ownBlock = some g → w'.heap[g]? = w.heap[g]?) (hk : KeepC w w') : RowL w' base A l c := by
  refine ⟨?_, fun r hr => (h.2 r hr).keep hk⟩
  obtain ⟨h1, h2⟩ := h.1
  refine ⟨h1, ?_⟩
  rcases h2 with h2 | ⟨gg, cap, cur, hv, hg, hh, r⟩
  · exact Or.inl h2
  · exact Or.inr ⟨gg, cap, cur, hv, hg, (he gg (by rw [hv]; rfl)).trans hh, r⟩
theorem Named.keep {w w' : World} {base bm q : Nat} {pre : List RV} {T : List UInt8 → RS} (h : Named w base bm q pre T) (hk : KeepC w w') (hb : w'.heap[bm]? = w.heap[bm]?) (hr : ∀ s g, (T s).v.ownBlock = some g → w'.heap[g]? = w.heap[g]?) : Named w' base bm q pre T where
  map := by
    obtain ⟨D, n, h1, h2, h3, h4⟩ := h.map
    exact ⟨D, n, ownsMap_block h1 hb, h2, h3, h4⟩
  row := fun s => (h.row s).blocks (hr s) hk
  val := h.val
  apart := h.apart
theorem Named.setLow {w : World} {base bm q g : Nat} {T' : TypeId} {pre : List RV} {T : List UInt8 → RS} (h : Named w base bm q pre T) (hg : TyAt w g T') (h1 : T' ≠ 62) (h2 : T' ≠ 52) (i : Nat) (v : Value) : Named (w.setCell ⟨g, i, none⟩ v) base bm q pre T := by
  refine h.keep ((KeepC.refl w).set hg h1 i v) ?_ fun s gg hgg => ?_
  · refine Below.heap_setCell w ⟨g, i, none⟩ v bm fun e => ?_
    obtain ⟨D, n, h3, _⟩ := h.map
    have e' : bm = g := e
    rw [← e'] at hg
    exact map_not_cells h3 hg
  · refine Below.heap_setCell w ⟨g, i, none⟩ v gg fun e => ?_
    have e' : gg = g := e
    obtain ⟨cs, fr, hx⟩ := (h.row s).ty gg hgg
    obtain ⟨cs', fr', hy⟩ := hg
    rw [e', hy] at hx
    cases hx
    exact h2 rfl
theorem Named.lt {w : World} {base bm q : Nat} {pre : List RV} {T : List UInt8 → RS} (h : Named w base bm q pre T) : bm < w.heap.size ∧ ∀ s g, (T s).v.ownBlock = some g → g < w.heap.size := by
  obtain ⟨D, n, h3, _⟩ := h.map
  exact ⟨h3.lt, fun s g hg => ((h.row s).1.lt g hg).2⟩
theorem nub_len : ∀ l, (nub l).length ≤ l.length
  | [] => by simp [nub]
  | x :: t => by
    have := nub_len t
    unfold nub
    split
    · simp; omega
    · simp; omega
theorem kys_len (pre : List RV) : (kys pre).length ≤ pre.length := by
  unfold kys nms
  rw [List.length_mergeSort]
  refine Nat.le_trans (nub_len _) ?_
  rw [List.length_map]
  exact List.length_filterMap_le _ _
theorem grp_len (pre : List RV) (s : List UInt8) : (grp pre s).length ≤ pre.length := Nat.le_trans (List.length_filter_le _ _) (List.length_filterMap_le _ _)
theorem nR_len {v x : RV} (h : nR v = some x) : x.L.length ≤ v.L.length := by
  unfold nR at h
  rcases hl : askL v.L with _ | l
  · rw [hl] at h; cases h
  · rw [hl] at h
    cases h
    exact Nat.le_trans (srt_len l) (askL_len _ _ hl)
theorem Named.small {w : World} {base bm q : Nat} {pre : List RV} {T : List UInt8 → RS} (h : Named w base bm q pre T) (hp : ∀ v ∈ pre, v.L.length ≤ 6) (s : List UInt8) : ∀ e ∈ (T s).l, e.n ≤ 6 := fun e he => by
  have h1 : e.val ∈ grp pre s := by rw [← h.val s]; exact List.mem_map.2 ⟨e, he, rfl⟩
  obtain ⟨v, hv, hn⟩ := List.mem_filterMap.1 (List.mem_filter.1 h1).1
  have h2 := nR_len hn
  have h3 : e.val.L.length = e.n := by simp [RL.val]
  have := hp v hv
  omega
/-- A row of strings. -/
def StrR (w : World) (A : Option Addr) (ks : List (List UInt8)) : Prop := ks = [] ∨ ∃ g cs, A = some ⟨g, 0, none⟩ ∧ w.heap[g]? = some (.cells cs 9 (0, 0)) ∧ ∀ i, i < ks.length → cs[i]? = some (encStr ks[i]!)
theorem StrR.of_own {w : World} {base n c : Nat} {A : Option Addr} {ks : List (List UInt8)} (h : w.ownsRow base 9 1 (.slice A n c) ks.length (ks.map encStr)) (hn : n = ks.length) : StrR w A ks := by
  rcases Nat.eq_zero_or_pos ks.length with h0 | hp
  · exact .inl (List.eq_nil_of_length_eq_zero h0)
  · rcases h.2 with ⟨_, h0⟩ | ⟨g, cap, cur, hv, hg, hh, h1, h2, h3, h4⟩
    · omega
    · injection hv with e1 e2 e3
      subst e1
      refine .inr ⟨g, cur, rfl, hh, fun i hi => ?_⟩
      have h5 : (cur.toList.take (ks.length * 1))[i]? = some (encStr ks[i]!) := by
        rw [h4, List.getElem?_map, List.getElem?_eq_getElem hi, getElem!_pos ks i hi]
        rfl
      rw [List.getElem?_take] at h5
      rw [if_pos (by omega)] at h5
      simpa using h5
theorem StrR.keep {w w' : World} {A : Option Addr} {ks : List (List UInt8)} (h : StrR w A ks) (hb : ∀ g, A = some ⟨g, 0, none⟩ → TyAt w g 9 → w'.heap[g]? = w.heap[g]?) : StrR w' A ks := by
  rcases h with h | ⟨g, cs, rfl, h1, h2⟩
  · exact .inl h
  · exact .inr ⟨g, cs, rfl, (hb g rfl ⟨cs, _, h1⟩).trans h1, h2⟩
/-- The state of norm.Policy's loop. -/
structure PInv (w0 w : World) (B b1 b2 bm qn : Nat) (k u : Int) (x : Bool) (pre : List RV) (T : List UInt8 → RS) (ks : List (List UInt8)) (A3 : Option Addr) (q : Nat) (A' : Option Addr) (c' : Nat) (ls : List RL) : Prop where
  named : Named w b1 bm qn pre T
  low : ∀ s g, (T s).v.ownBlock = some g → g < b2
  mapLow : bm < b2
  str : StrR w A3 ks
  strLow : ∀ g, A3 = some ⟨g, 0, none⟩ → g < b2
  row : RowL w b2 A' ls c'
  val : ls.map RL.val = (ks.take q).flatMap fun s => utl k u (unh (grp pre s))
  cnt : ls.length ≤ q * 1000
  p : RowC w B (polA k u x A' ls.length c') 31
  z : RowC w (B + 1) zPol 31
  below : Below B w0 w
  size : b2 ≤ w.heap.size
  blow : B + 2 ≤ b2
theorem PInv.set {w0 w w' : World} {B b1 b2 bm qn : Nat} {k u : Int} {x : Bool} {pre : List RV} {T : List UInt8 → RS} {ks : List (List UInt8)} {A3 : Option Addr} {q : Nat} {A' : Option Addr} {c' : Nat} {ls : List RL} (h : PInv w0 w B b1 b2 bm qn k u x pre T ks A3 q A' c' ls)
    (hB : Below b2 w w') (hk : KeepC w w') {A2 : Option Addr} {c2 : Nat} {l2 : List RL} (hrow : RowL w' b2 A2 (ls ++ l2) c2) (hq : q < ks.length) (hl : l2.map RL.val = utl k u (unh (grp pre ks[q]!))) (hc : l2.length ≤ 1000) :
    PInv w0 (w'.setCell ⟨B, 3, none⟩ (.slice A2 (ls ++ l2).length c2)) B b1 b2 bm qn k u x pre T ks A3 (q + 1) A2 c2 (ls ++ l2) := by
  have hlo := h.blow
  have hp : RowC w' B (polA k u x A' ls.length c') 31 := h.p.below hB (by omega)
  have hz : RowC w' (B + 1) zPol 31 := h.z.below hB (by omega)
  have hn : Named w' b1 bm qn pre T := h.named.keep hk (hB.block bm h.mapLow) fun s g hg => hB.block g (h.low s g hg)
  have hs : StrR w' A3 ks := h.str.keep fun g hg _ => hB.block g (h.strLow g hg)
  refine ⟨hn.setLow hp.ty (by decide) (by decide) _ _, h.low, h.mapLow, hs.keep fun g hg ht => ?_, h.strLow, hrow.setLow hp.ty (by decide) (by decide) _ _, ?_, ?_, hp.set 3 (.slice A2 (ls ++ l2).length c2), hz.setOther 3 _ (by omega), (h.below.trans (hB.mono (by omega))).setCell (Nat.le_refl _) _, ?_, hlo⟩
  · refine Below.heap_setCell w' ⟨B, 3, none⟩ _ g fun e => ?_
    have e' : g = B := e
    obtain ⟨cs, fr, h1⟩ := ht
    rw [e', hp] at h1
    exact absurd h1 (by simp)
  · rw [List.map_append, h.val, hl, List.take_add_one, List.getElem?_eq_getElem hq, List.flatMap_append, getElem!_pos ks q hq]
    simp
  · have := h.cnt
    rw [List.length_append]
    omega
  · have := hB.size
    have := h.size
    simp
    omega
set_option maxRecDepth 100000 in
set_option maxHeartbeats 8000000 in
theorem policyN_no (k u : Int) (x : Bool) (A : Option Addr) (l : List RL) (c : Nat) (w : World) (hl : RlL w A l) (hn : l.length ≤ 1000) (h12 : ∀ e ∈ l, e.n ≤ 100000) (hr : rightV k u (l.map RL.val) = false) :
    Calls Tryz.prog 18 #[.agg (polA k u x A l.length c)] w fun e w' => e = .returned (.tuple #[.agg zPol, .int .i64 13]) ∧ Below w.heap.size w w' := by
  obtain ⟨n, hnl⟩ : ∃ n, l.length = n := ⟨_, rfl⟩
  obtain ⟨W0, hW0⟩ : ∃ W, (w.alloc (.cells (polA k u x A n c) 31)).alloc (.cells zPol 31) = W := ⟨_, rfl⟩
  have hB0 : Below w.heap.size w W0 := by rw [← hW0]; exact ((Below.refl _ _).alloc (Nat.le_refl _) _).alloc (by simp) _
  have hP0 : RowC W0 w.heap.size (polA k u x A n c) 31 := by rw [← hW0]; exact (RowC.new _ _ _ _ rfl).alloc _
  have hZ0 : RowC W0 (w.heap.size + 1) zPol 31 := by rw [← hW0]; exact RowC.new _ _ _ _ (by simp)
  have HR := Lib.hid (policyRight_any k u x A l c W0 (hl.below hB0 (Nat.le_refl _)) hn h12)
  rw [hr, hnl] at HR
  rw [hnl]
  have p0 := hP0.cell 0 (.int .i64 k) rfl
  have p1 := hP0.cell 1 (.int .i64 u) rfl
  have p2 := hP0.cell 2 (.bool x) rfl
  have p3 := hP0.cell 3 (.slice A n c) rfl
  have HB0 := Lib.hid hB0
  have HZ0 := Lib.hid hZ0
  have HW := Lib.hid hW0
  clear hW0 hB0 hP0 hZ0 hl h12 hr hnl hn
  go_enter Tryz.func18, Tryz.ntmps18
  go_upto_region 1 with fail
  rw [HW.out]
  go_wp2_with fail
  refine HR.out.mono ?_
  rintro e w1 ⟨rfl, hB1⟩
  have hZ1 := HZ0.out.below hB1 HZ0.out.lt
  have HZ1 := Lib.hid hZ1
  have HB1 := Lib.hid (HB0.out.trans (hB1.mono HB0.out.size))
  have z0 := hZ1.cell 0 (.int .i64 0) rfl
  have z1 := hZ1.cell 1 (.int .i64 0) rfl
  have z2 := hZ1.cell 2 (.bool false) rfl
  have z3 := hZ1.cell 3 (.slice none 0 0) rfl
  have y0 := hZ1.frozen 0
  have y1 := hZ1.frozen 1
  have y2 := hZ1.frozen 2
  have y3 := hZ1.frozen 3
  clear hZ1 hB1
  go_wp2
  (try simp only [Exit.inBlock, Exit.then])
  refine bodyPost_ret (results_ctO Tryz.results18 _ _ (w.heap.size + 1) _ zPol (0, 0) _ (.int .i64 13) (by rfl) (by rfl) (show RowC _ (w.heap.size + 1) zPol 31 from ((((HZ1.out).set 0 (.int .i64 0)).set 1 (.int .i64 0)).set 2 (.bool false)).set 3 (.slice none 0 0)) Tryz.underlying31 (by rfl) infoPol) rfl ?_
  exact ⟨rfl, (((HB1.out.setCell (Nat.le_succ _) _).setCell (Nat.le_succ _) _).setCell (Nat.le_succ _) _).setCell (Nat.le_succ _) _⟩
set_option maxRecDepth 100000 in
set_option maxHeartbeats 16000000 in
theorem policyN_ok (k u : Int) (x : Bool) (A : Option Addr) (l : List RL) (c : Nat) (w : World) (hl : RlL w A l) (hr : rightV k u (l.map RL.val) = true) :
    Calls Tryz.prog 18 #[.agg (polA k u x A l.length c)] w fun e w' => ∃ A' c' ls, e = .returned (.tuple #[.agg (polA k u x A' (ls : List RL).length c'), .int .i64 0]) ∧ RowL w' w.heap.size A' ls c' ∧ ls.map RL.val = nP k u (l.map RL.val) ∧ ls.length ≤ 1000000 ∧ Below w.heap.size w w' := by
  have hr2 := hr
  unfold rightV at hr2
  simp only [Bool.and_eq_true, decide_eq_true_eq, List.length_map, List.all_eq_true] at hr2
  obtain ⟨_, hn5, hmay⟩ := hr2
  have hri : ∀ r ∈ l, RiR r := fun r h => mayV_ri (hmay _ (List.mem_map.2 ⟨r, h, rfl⟩))
  have h12 : ∀ e ∈ l, e.n ≤ 100000 := fun e he => by have := (hri e he).1; omega
  have h6 : ∀ v ∈ l.map RL.val, v.L.length ≤ 6 := fun v hv => by
    obtain ⟨r, hr', rfl⟩ := List.mem_map.1 hv
    have := (hri r hr').1
    simpa [RL.val] using this
  obtain ⟨pre, hpre⟩ : ∃ pre, l.map RL.val = pre := ⟨_, rfl⟩
  obtain ⟨n, hnl⟩ : ∃ n, l.length = n := ⟨_, rfl⟩
  obtain ⟨B, hBs⟩ : ∃ B, w.heap.size = B := ⟨_, rfl⟩
  have hpl : pre.length = n := by rw [← hpre, List.length_map, hnl]
  obtain ⟨W0, hW0⟩ : ∃ W, (w.alloc (.cells (polA k u x A n c) 31)).alloc (.cells zPol 31) = W := ⟨_, rfl⟩
  have hB0 : Below B w W0 := by rw [← hW0, ← hBs]; exact ((Below.refl _ _).alloc (Nat.le_refl _) _).alloc (by simp) _
  have hP0 : RowC W0 B (polA k u x A n c) 31 := by rw [← hW0, ← hBs]; exact (RowC.new _ _ _ _ rfl).alloc _
  have hZ0 : RowC W0 (B + 1) zPol 31 := by rw [← hW0, ← hBs]; exact RowC.new _ _ _ _ (by simp)
  have hs0 : W0.heap.size = B + 2 := by rw [← hW0, ← hBs]; simp
  have hl0 := hl.below hB0 (by rw [hBs]; exact Nat.le_refl _)
  have HR := Lib.hid (policyRight_any k u x A l c W0 hl0 (by omega) h12)
  have HBN := Lib.hid fun X (hX : Below W0.heap.size W0 X) => byName_any A l c X (by omega) hri (hl0.below hX (Nat.le_refl _))
  rw [hr, hnl] at HR
  rw [hnl, hpre] at HBN
  rw [hnl, hpre]
  have p0 := hP0.cell 0 (.int .i64 k) rfl
  have p1 := hP0.cell 1 (.int .i64 u) rfl
  have p2 := hP0.cell 2 (.bool x) rfl
  have p3 := hP0.cell 3 (.slice A n c) rfl
  have HB0 := Lib.hid hB0
  have HP0 := Lib.hid hP0
  have HZ0 := Lib.hid hZ0
  have HW := Lib.hid hW0
  have HBS := Lib.hid hBs
  have HS0 := Lib.hid hs0
  have H6 := Lib.hid h6
  rw [hpre] at H6
  have HPL := Lib.hid hpl
  have hn500 : n ≤ 500 := by omega
  clear hW0 hB0 hP0 hZ0 hl h12 hr hnl hBs hs0 hl0 hri hmay h6 hpre hpl hn5
  go_enter Tryz.func18, Tryz.ntmps18
  go_upto_region 1 with fail
  rw [HW.out, HBS.out]
  go_wp2_with fail
  refine HR.out.mono ?_
  rintro e w1 ⟨rfl, hB1⟩
  have hP1 := HP0.out.below hB1 HP0.out.lt
  have HP1 := Lib.hid hP1
  have HB1 := Lib.hid hB1
  have q3 := hP1.cell 3 (.slice A n c) rfl
  clear hP1 hB1 p0 p1 p2 p3
  go_wp2_with fail
  refine (HBN.out _ HB1.out).mono ?_
  rintro e w2 ⟨bm, T, rfl, hbm, hN2, hB2⟩
  have hs1 : B + 2 ≤ w1.heap.size := by rw [← HS0.out]; exact HB1.out.size
  have hB12 : Below (B + 2) W0 w2 := by rw [← HS0.out]; exact HB1.out.trans (hB2.mono HB1.out.size)
  have hP2 := HP0.out.below hB12 (by omega)
  have hZ2 := HZ0.out.below hB12 (by omega)
  have HN2 := Lib.hid hN2
  have HB12 := Lib.hid hB12
  have HP2 := Lib.hid hP2
  have HZ2 := Lib.hid hZ2
  have r3 := hP2.cell 3 (.slice A n c) rfl
  have f3 := hP2.frozen 3
  clear hbm hN2 hB2 hB12 hP2 hZ2 q3
  obtain ⟨w3, hw3⟩ : ∃ W, w2.setCell ⟨B, 3, none⟩ (.slice none 0 0) = W := ⟨_, rfl⟩
  have hN3 : Named w3 w1.heap.size bm n pre T := by rw [← hw3]; exact HN2.out.setLow HP2.out.ty (by decide) (by decide) _ _
  obtain ⟨D, nn, o1, o2, o3, o4⟩ := hN3.map
  have HSC := Lib.hid (sorted_call w3 o1 (by omega))
  have HKL := Lib.hid fun ss (hp : List.Perm ss (strKeys D)) => hN3.keys o1 o4 hp
  have HLE := Lib.hid (strKeys_le o1 Tryz.underlying9)
  have HN3 := Lib.hid hN3
  have HW3 := Lib.hid hw3
  have hs3 : w3.heap.size = w2.heap.size := by rw [← hw3]; simp
  have hs2 : B + 2 ≤ w2.heap.size := by have := HB12.out.size; rw [HS0.out] at this; exact this
  have HS3 := Lib.hid (And.intro hs3 hs2)
  clear hN3 o1 o2 o3 o4 hw3 hs3 hs2
  go_wp2_with fail
  rw [HW3.out]
  refine (keys_call _ _).mono ?_
  rintro e w4 ⟨rfl, rfl⟩
  go_wp2_with fail
  refine HSC.out.mono ?_
  rintro e w5 ⟨v, ss, rfl, hperm, hrow, hnil, hB5⟩
  obtain ⟨A3, c3, rfl⟩ := ownsRow_parts hrow
  have hks := HKL.out ss hperm
  obtain ⟨ks, hkd⟩ : ∃ ks, ss.mergeSort Go.leB = ks := ⟨_, rfl⟩
  have hrow2 : w5.ownsRow (w3.heap.size + 1) 9 1 (.slice A3 ss.length c3) ks.length (ks.map encStr) := by
    rw [← hkd, List.length_mergeSort]; exact hrow
  have hkl : ks.length = ss.length := by rw [← hkd, List.length_mergeSort]
  have hstr := StrR.of_own hrow2 hkl.symm
  have hkey : kys pre = ks := by rw [← hks, hkd]
  have hlen : ks.length ≤ n := by rw [← hkey, ← HPL.out]; exact kys_len pre
  have hle : ∀ y ∈ ks, y.length ≤ maxLen := fun y hy => HLE.out y (hperm.mem_iff.1 (by rw [← hkd] at hy; exact List.mem_mergeSort.1 hy))
  have hB35 : Below (B + 2) w2 w5 ∨ True := .inr trivial
  have hs3 := HS3.out.1
  have hs2 := HS3.out.2
  have hP3 : RowC w3 B (polA k u x none 0 0) 31 := by rw [← HW3.out]; exact HP2.out.set 3 (.slice none 0 0)
  have hZ3 : RowC w3 (B + 1) zPol 31 := by rw [← HW3.out]; exact HZ2.out.setOther 3 _ (by omega)
  have hB3 : Below B w w3 := by rw [← HW3.out]; exact (HB0.out.trans (HB12.out.mono (by omega))).setCell (Nat.le_refl _) _
  have hB45 : Below w3.heap.size w3 w5 := ((Below.refl _ w3).alloc (Nat.le_refl _) _).trans (hB5.mono (by omega))
  have hsz5 := hB45.size
  have hN5 := HN3.out.below hB45 (Nat.le_refl _)
  have hinv : PInv w w5 B w1.heap.size w5.heap.size bm n k u x pre T ks A3 0 none 0 [] := {
    named := hN5
    low := hN5.lt.2
    mapLow := hN5.lt.1
    str := hstr
    strLow := fun g hg => by
      have := hrow2.lt g (by rw [hg]; rfl)
      exact this.2
    row := RowL.nil_ _ _
    val := rfl
    cnt := Nat.zero_le _
    p := hP3.below hB45 (by omega)
    z := hZ3.below hB45 (by omega)
    below := hB3.trans (hB45.mono (by omega))
    size := Nat.le_refl _
    blow := by omega }
  have HINV := Lib.hid hinv
  have HKEY := Lib.hid hkey
  have HLE2 := Lib.hid hle
  have HKL2 := Lib.hid hkl
  obtain ⟨b2, hb2⟩ : ∃ b2, w5.heap.size = b2 := ⟨_, rfl⟩
  rw [hb2] at HINV
  obtain ⟨m, hm⟩ : ∃ m, ss.length = m := ⟨_, rfl⟩
  rw [hm] at HKL2
  have hmn : m ≤ 500 := by rw [hkl, hm] at hlen; omega
  rw [hm]
  clear hperm hrow hnil hB5 hks hkd hrow2 hkl hstr hkey hlen hle hB35 hs3 hs2 hP3 hZ3 hB3 hB45 hsz5 hN5 hinv hb2 hm HKL HLE HSC
  go_wp2
  go_loopw [19] (fun i wr => ∃ (q : Nat) (A' : Option Addr) (c' : Nat) (ls : List RL), q ≤ m ∧ i = .int .i64 q ∧ Hid (PInv w wr B w1.heap.size b2 bm n k u x pre T ks A3 q A' c' ls)) (fun i _ => m - (intOf i).toNat)
  case atStart => exact ⟨0, none, 0, [], Nat.zero_le _, rfl, HINV⟩
  case round =>
    obtain ⟨q, A', c', ls, hq, rfl, HI⟩ := hrel
    by_cases hlt : q < m
    · have hqk : q < ks.length := by rw [HKL2.out]; exact hlt
      have hmem : ks[q]! ∈ ks := by rw [getElem!_pos ks q hqk]; exact List.getElem_mem hqk
      obtain ⟨s, hs⟩ : ∃ s, ks[q]! = s := ⟨_, rfl⟩
      obtain ⟨g3, cs3, rfl, hg3, hc3⟩ : ∃ g cs, A3 = some ⟨g, 0, none⟩ ∧ wr.heap[g]? = some (.cells cs 9 (0, 0)) ∧ cs[q]? = some (encStr s) := by
        rcases HI.out.str with h0 | ⟨g, cs, h1, h2, h3⟩
        · rw [h0] at hqk; exact absurd hqk (Nat.not_lt_zero _)
        · exact ⟨g, cs, h1, h2, by rw [← hs]; exact h3 q hqk⟩
      have kc : wr.cell? ⟨g3, q, none⟩ = some (.string ⟨s.toArray⟩) := (cell_of_row wr g3 q cs3 _ _ hg3).trans hc3
      have hsl : (⟨s.toArray⟩ : ByteArray).size ≤ maxLen := by
        have := HLE2.out _ hmem
        rw [hs] at this
        simpa [ByteArray.size] using this
      obtain ⟨RSv, hRS⟩ : ∃ y, T s = y := ⟨_, rfl⟩
      obtain ⟨rA, rl, rc⟩ := RSv
      obtain ⟨rn, hrn⟩ : ∃ y, rl.length = y := ⟨_, rfl⟩
      have hvs : (T s).v = .slice rA rn rc := by rw [hRS, ← hrn]; rfl
      have hlk : ∀ X, Below wr.heap.size wr X → (Instr.lookup 73 (.map (some bm)) (.string ⟨s.toArray⟩) false).run Tryz.prog X = .ok (.slice rA rn rc) X := fun X hX => by
        rw [(HI.out.named.below hX (Nat.le_refl _)).look hsl]
        show _ = Result.ok _ X
        rw [← hvs]
      have lk0 := hlk wr (Below.refl _ _)
      have lk1 := hlk wr.drew (Below.refl _ wr).drew
      have hrow := HI.out.named.row s
      have hsml := HI.out.named.small H6.out s
      have hval := HI.out.named.val s
      rw [hRS] at hrow hsml hval
      simp only at hrow hsml hval
      have hrl : rn ≤ n := by
        have := grp_len pre s
        rw [← hval, List.length_map, hrn, HPL.out] at this
        exact this
      have HUN := Lib.hid fun X (hX : Below wr.heap.size wr X) => unhidden_any rA rl rc X (hrow.rl.below hX (Nat.le_refl _)) (by omega) (fun e he => by have := hsml e he; omega)
      rw [hrn, hval] at HUN
      have hk0 : Below wr.heap.size wr wr.drew := (Below.refl _ wr).drew
      have hlo := HI.out.blow
      have hsz := HI.out.size
      have HPC : Hid (∀ X, Below wr.heap.size wr X → X.cell? ⟨B, 0, none⟩ = some (.int .i64 k) ∧ X.cell? ⟨B, 1, none⟩ = some (.int .i64 u) ∧ X.cell? ⟨B, 3, none⟩ = some (.slice A' ls.length c')) :=
        Lib.hid fun X hX => by
          have h := HI.out.p.below hX HI.out.p.lt
          exact ⟨h.cell 0 _ rfl, h.cell 1 _ rfl, h.cell 3 _ rfl⟩
      have HQK := Lib.hid hqk
      have HSS := Lib.hid hs
      have HCN := Lib.hid HI.out.cnt
      have i1 : (0 : Int) ≤ (q : Int) := by omega
      have i2 : (q : Int) < (m : Int) := by omega
      clear hmem hs hg3 hc3 hRS hvs hlk hrow hsml hval hqk hrn hsl
      go_wp2_with fail
      obtain ⟨d0, d1, d3⟩ := HPC.out wr (Below.refl _ _)
      go_region_law
        (first
          | (go_simp
             refine (HUN.out _ (by first | exact hk0 | exact Below.refl _ _)).mono ?_
             rintro e w7 ⟨A7, c7, k7, rfl, hrow7, hval7, _, hlen7, hB7⟩
             have hk1 : Below wr.heap.size wr w7 := by first | exact hB7 | exact bTr hk0 hB7
             obtain ⟨d0, d1, d3⟩ := HPC.out w7 hk1
             have HUT := Lib.hid fun X (hX : Below w7.heap.size w7 X) => upToLast_any A7 k7 c7 k u X (hrow7.rl.below hX (Nat.le_refl _)) (by omega) hrow7.le.1
             have hk7 : Below w7.heap.size w7 w7.drew := (Below.refl _ w7).drew)
          | (go_simp
             refine (HUT.out _ (by first | exact hk7 | exact Below.refl _ _)).mono ?_
             rintro e w8 ⟨m8, rfl, hm8, hval8, hB8⟩
             have hk8 : Below w7.heap.size w7 w8 := by first | exact hB8 | exact bTr hk7 hB8
             have hk2 : Below wr.heap.size wr w8 := bTr hk1 hk8
             obtain ⟨d0, d1, d3⟩ := HPC.out w8 hk2
             have hrl8 : RlL w8 A7 (k7.take m8) := (hrow7.rl.below hk8 (Nat.le_refl _)).take m8
             have hln8 : (k7.take m8).length = m8 := by rw [List.length_take]; omega
             have hnn8 : A7 = none → c7 = 0 := fun e => by
               have h9 := hrow7.1.2
               rw [e] at h9
               rcases h9 with ⟨h9, _⟩ | ⟨_, _, _, h9, _⟩
               · injection h9
               · injection h9 with h9; cases h9)
          | (refine step_rules (by rfl) _ _ (by rfl) (l := ls) (l5 := k7.take m8) (by rfl) (HI.out.row.below hk2 (Nat.le_refl _)) (by rw [hln8]; rfl) hrl8 (by rw [hln8]; have := HCN.out; omega) (by rw [hln8]; have := hrow7.le.1; omega) hnn8 (by have := hk2.size; omega) ?_
             rintro A9 c9 w9 hrow9 hgr9 hkc9 hB9
             have hp9 := (HI.out.p.below hk2 HI.out.p.lt).below hB9 (by omega)
             have x3 := hp9.cell 3 (.slice A' ls.length c') rfl
             have y3 := hp9.frozen 3
             skip)
          | (refine step_rules (by rfl) _ _ (by rfl) (l := ls) (l5 := k7.take m8) (by rfl) ((HI.out.row.below hk2 (Nat.le_refl _)).drew) (by rw [hln8]; rfl) (hrl8.below (B := w8.heap.size) (Below.refl _ w8).drew (Nat.le_refl _)) (by rw [hln8]; have := HCN.out; omega) (by rw [hln8]; have := hrow7.le.1; omega) hnn8 (by have := hk2.size; show b2 ≤ w8.heap.size; omega) ?_
             rintro A9 c9 w9 hrow9 hgr9 hkc9 hB9
             have hp9 := (HI.out.p.below hk2 HI.out.p.lt).below hB9 (by omega)
             have x3 := hp9.cell 3 (.slice A' ls.length c') rfl
             have y3 := hp9.frozen 3
             skip))
      all_goals go_wp2
      all_goals
        have hKw : KeepC wr w9 := by
          first
          | exact (KeepC.of_below hk2 (Nat.le_refl _)).trans hkc9
        have hBw : Below b2 wr w9 := by
          first
          | exact (hk2.mono hsz).trans hB9
          | exact ((hk2.mono hsz).drew).trans hB9
        have hset := HI.out.set hBw hKw hrow9 HQK.out (by rw [HSS.out, hval8, hval7]) (by rw [hln8]; omega)
        rw [show (ls ++ k7.take m8).length = ls.length + m8 by rw [List.length_append, hln8]] at hset
        exact ⟨⟨q + 1, A9, c9, ls ++ k7.take m8, by omega, by go_num, Lib.hid hset⟩, by simp [intOf]; omega⟩
    · obtain rfl : q = m := by omega
      have hp := HI.out.p
      have hz := HI.out.z
      have s0 := hp.cell 0 (.int .i64 k) rfl
      have s1 := hp.cell 1 (.int .i64 u) rfl
      have s2 := hp.cell 2 (.bool x) rfl
      have s3 := hp.cell 3 (.slice A' ls.length c') rfl
      have z0 := hz.cell 0 (.int .i64 0) rfl
      have z1 := hz.cell 1 (.int .i64 0) rfl
      have z2 := hz.cell 2 (.bool false) rfl
      have z3 := hz.cell 3 (.slice none 0 0) rfl
      have y0 := hz.frozen 0
      have y1 := hz.frozen 1
      have y2 := hz.frozen 2
      have y3 := hz.frozen 3
      have HZ := Lib.hid hz
      have hlo := HI.out.blow
      clear hp hz
      go_wp2
      have t1 := HZ.out.set 0 (.int .i64 k)
      have t2 := t1.set 1 (.int .i64 u)
      have t3 := t2.set 2 (.bool x)
      refine bodyPost_ret (results_ctO Tryz.results18 _ _ (B + 1) _ (polA k u x A' ls.length c') (0, 0) _ (.int .i64 0) (by rfl) (by rfl) (show RowC _ (B + 1) (polA k u x A' ls.length c') 31 from t3.set 3 (.slice A' ls.length c')) Tryz.underlying31 (by rfl) infoPol) rfl ?_
      refine ⟨A', c', ls, rfl, ((((HI.out.row.setLow HZ.out.ty (by decide) (by decide) 0 _).setLow t1.ty (by decide) (by decide) 1 _).setLow t2.ty (by decide) (by decide) 2 _).setLow t3.ty (by decide) (by decide) 3 _).lower (by rw [HBS.out]; omega), ?_, ?_, by rw [HBS.out]; exact (((HI.out.below.setCell (Nat.le_succ _) _).setCell (Nat.le_succ _) _).setCell (Nat.le_succ _) _).setCell (Nat.le_succ _) _⟩
      · rw [HI.out.val, List.take_of_length_le (by rw [HKL2.out]; exact Nat.le_refl _), ← HKEY.out]
        rfl
      · have := HI.out.cnt
        omega
end Go.Proofs.YtcembcicpmhpkaaGreatDoor

/-
  policy.Same.
-/
namespace Go.Proofs.YtcembcicpmhpkaaGreatDoor
open Go.RowKit Go.Shelf
set_option linter.unusedVariables false

theorem bytes_ext {a b : ByteArray} (h : (a.toList == b.toList) = true) : a = b := by
  have h' : a.toList = b.toList := by simpa using h
  rw [ByteArray.toList_eq, ByteArray.toList_eq] at h'
  obtain ⟨⟨x⟩⟩ := a
  obtain ⟨⟨y⟩⟩ := b
  exact congrArg (fun l => ByteArray.mk ⟨l⟩) h'
def sameV (x y : RV) : Bool := (x.nm.toList == y.nm.toList) && ((x.k == y.k) && (x.u == y.u)) && decide (x.L = y.L)
theorem sameV_iff (x y : RV) : sameV x y = true ↔ x = y := by
  unfold sameV
  constructor
  · intro h
    simp only [Bool.and_eq_true, beq_iff_eq, decide_eq_true_eq] at h
    obtain ⟨⟨h1, h2, h3⟩, h4⟩ := h
    obtain ⟨a, b, c, d⟩ := x
    obtain ⟨a', b', c', d'⟩ := y
    simp only at h1 h2 h3 h4
    obtain rfl := bytes_ext (by simpa using h1)
    subst h2 h3 h4
    rfl
  · rintro rfl
    simp
set_option maxRecDepth 100000 in
set_option maxHeartbeats 8000000 in
theorem sameRule_any (a b : RL) (w : World) (hn : a.n ≤ 100000) (ha : ConA w a.A a.n a.C) (hb : ConA w b.A b.n b.C) :
    Calls Tryz.prog 27 #[.agg (rulA a.nm a.k a.u a.A a.n a.c), .agg (rulA b.nm b.k b.u b.A b.n b.c)] w fun e w' => e = .returned (.bool (sameV a.val b.val)) ∧ Below w.heap.size w w' := by
  obtain ⟨W0, hW0⟩ : ∃ W, (w.alloc (.cells (rulA a.nm a.k a.u a.A a.n a.c) 52)).alloc (.cells (rulA b.nm b.k b.u b.A b.n b.c) 52) = W := ⟨_, rfl⟩
  have hB0 : Below w.heap.size w W0 := by rw [← hW0]; exact ((Below.refl _ _).alloc (Nat.le_refl _) _).alloc (by simp) _
  have hP0 : RowC W0 w.heap.size (rulA a.nm a.k a.u a.A a.n a.c) 52 := by rw [← hW0]; exact (RowC.new _ _ _ _ rfl).alloc _
  have hQ0 : RowC W0 (w.heap.size + 1) (rulA b.nm b.k b.u b.A b.n b.c) 52 := by rw [← hW0]; exact RowC.new _ _ _ _ (by simp)
  have HEQ := Lib.hid (eqConds_any a.A b.A a.n a.c b.n b.c a.C b.C W0 hn (ha.below hB0 (Nat.le_refl _)) (hb.below hB0 (Nat.le_refl _)))
  have HV := Lib.hid (show sameV a.val b.val = ((a.nm.toList == b.nm.toList) && ((a.k == b.k) && (a.u == b.u)) && decide ((List.range a.n).map a.C = (List.range b.n).map b.C)) from rfl)
  obtain ⟨sv, hsv⟩ : ∃ sv, sameV a.val b.val = sv := ⟨_, rfl⟩
  rw [hsv] at HV ⊢
  have p0 := hP0.cell 0 (.string a.nm) rfl
  have p1 := hP0.cell 1 (.int .i64 a.k) rfl
  have p2 := hP0.cell 2 (.int .i64 a.u) rfl
  have p3 := hP0.cell 3 (.slice a.A a.n a.c) rfl
  have r0 := hQ0.cell 0 (.string b.nm) rfl
  have r1 := hQ0.cell 1 (.int .i64 b.k) rfl
  have r2 := hQ0.cell 2 (.int .i64 b.u) rfl
  have r3 := hQ0.cell 3 (.slice b.A b.n b.c) rfl
  have HB0 := Lib.hid hB0
  have HW := Lib.hid hW0
  clear ha hb hW0 hB0 hP0 hQ0 hsv
  obtain ⟨an, ak, au, aA, aN, aC, aF⟩ := a
  obtain ⟨bn, bk, bu, bA, bN, bC, bF⟩ := b
  simp only at HEQ HV p0 p1 p2 p3 r0 r1 r2 r3 HW
  rcases hnm : (an.toList == bn.toList) with _ | _
  · rw [hnm] at HV
    go_enter Tryz.func27, Tryz.ntmps27
    go_upto_region 1 with fail
    rw [HW.out]
    go_wp2
    go_ret
    exact ⟨by rw [HV.out]; rfl, HB0.out⟩
  · rw [hnm] at HV
    rcases act_cases ak au bk bu with ⟨h1, h2⟩ | h | ⟨h1, h⟩
    · subst h1 h2
      have HV := Lib.hid (HV.out.trans (by simp : _ = decide ((List.range aN).map aF = (List.range bN).map bF)))
      go_enter Tryz.func27, Tryz.ntmps27
      go_upto_region 1 with fail
      rw [HW.out]
      go_wp2_with fail
      refine HEQ.out.mono ?_
      rintro x w2 ⟨rfl, hB2⟩
      go_wp2
      go_ret
      exact ⟨by rw [HV.out]; rfl, HB0.out.trans (hB2.mono HB0.out.size)⟩
    · rw [h] at HV
      go_enter Tryz.func27, Tryz.ntmps27
      go_upto_region 1 with fail
      rw [HW.out]
      go_wp2
      go_ret
      exact ⟨by rw [HV.out]; rfl, HB0.out⟩
    · subst h1
      rw [h] at HV
      have HV := Lib.hid (HV.out.trans (by simp : _ = false))
      go_enter Tryz.func27, Tryz.ntmps27
      go_upto_region 1 with fail
      rw [HW.out]
      go_wp2
      go_ret
      exact ⟨by rw [HV.out]; rfl, HB0.out⟩
set_option maxRecDepth 100000 in
set_option maxHeartbeats 8000000 in
theorem equalRules_any (A A' : Option Addr) (l l' : List RL) (c c' : Nat) (w : World) (hl : RlL w A l) (hl' : RlL w A' l') (hn : l.length ≤ 1000000) (h12 : ∀ e ∈ l, e.n ≤ 100000) :
    Calls Tryz.prog 26 #[.slice A l.length c, .slice A' l'.length c', .func (.func 27) #[] #[]] w fun e w' => (∃ b, e = .returned (.bool b) ∧ (b = true ↔ l.map RL.val = l'.map RL.val)) ∧ Below w.heap.size w w' := by
  obtain ⟨n, hnl⟩ : ∃ n, l.length = n := ⟨_, rfl⟩
  obtain ⟨m, hml⟩ : ∃ m, l'.length = m := ⟨_, rfl⟩
  have HNL := Lib.hid hnl
  have HML := Lib.hid hml
  have HL := Lib.hid hl
  have HL' := Lib.hid hl'
  have H12 := Lib.hid h12
  rw [hnl] at hn ⊢
  rw [hml]
  clear hnl hml hl hl' h12
  by_cases hnm : n = m
  · subst hnm
    go_enter Tryz.func26, Tryz.ntmps26
    go_wp2
    go_loopw [17] (fun i wr => ∃ q : Nat, q ≤ n ∧ i = .int .i64 q ∧ Hid (Below w.heap.size w wr ∧ (l.take q).map RL.val = (l'.take q).map RL.val)) (fun i _ => n - (intOf i).toNat)
    case atStart => exact ⟨0, Nat.zero_le _, rfl, Lib.hid ⟨Below.refl _ _, rfl⟩⟩
    case round =>
      obtain ⟨q, hq, rfl, HI⟩ := hrel
      by_cases hlt : q < n
      · have hlq : q < l.length := by rw [HNL.out]; exact hlt
        have hlq' : q < l'.length := by rw [HML.out]; exact hlt
        have hmem : l[q]! ∈ l := by rw [getElem!_pos l q hlq]; exact List.getElem_mem hlq
        have hmem' : l'[q]! ∈ l' := by rw [getElem!_pos l' q hlq']; exact List.getElem_mem hlq'
        have hLr := HL.out.below HI.out.1 (Nat.le_refl _)
        have hLr' := HL'.out.below HI.out.1 (Nat.le_refl _)
        have hru := hLr.2 _ hmem
        have hru' := hLr'.2 _ hmem'
        have h1000 := H12.out _ hmem
        rcases hLr.1 with h0 | ⟨bb, o, rfl, hbl, hcs⟩
        · rw [h0] at hlq; exact absurd hlq (Nat.not_lt_zero _)
        rcases hLr'.1 with h0 | ⟨bb', o', rfl, hbl', hcs'⟩
        · rw [h0] at hlq'; exact absurd hlq' (Nat.not_lt_zero _)
        obtain ⟨q0, q1, q2, q3⟩ := hcs q hlq
        obtain ⟨k0, k1, k2, k3⟩ := hcs' q hlq'
        obtain ⟨r, hr⟩ : ∃ r, l[q]! = r := ⟨_, rfl⟩
        obtain ⟨s, hs⟩ : ∃ s, l'[q]! = s := ⟨_, rfl⟩
        rw [hr] at q0 q1 q2 q3 hru h1000
        rw [hs] at k0 k1 k2 k3 hru'
        rw [Nat.add_zero] at q0 k0
        have HTK := Lib.hid (show (l.take (q + 1)).map RL.val = (l.take q).map RL.val ++ [r.val] by rw [List.take_add_one, List.getElem?_eq_getElem hlq, List.map_append, ← hr, getElem!_pos l q hlq]; rfl)
        have HTK' := Lib.hid (show (l'.take (q + 1)).map RL.val = (l'.take q).map RL.val ++ [s.val] by rw [List.take_add_one, List.getElem?_eq_getElem hlq', List.map_append, ← hs, getElem!_pos l' q hlq']; rfl)
        have HGT := Lib.hid (show (l.map RL.val)[q]? = some r.val ∧ (l'.map RL.val)[q]? = some s.val by
          rw [List.getElem?_map, List.getElem?_map, List.getElem?_eq_getElem hlq, List.getElem?_eq_getElem hlq', ← hr, ← hs, getElem!_pos l q hlq, getElem!_pos l' q hlq']
          exact ⟨rfl, rfl⟩)
        have HCL := Lib.hid fun X (hX : Below wr.heap.size wr X) => sameRule_any r s X h1000 (hru.2.2.2.2.2.conA.below hX (Nat.le_refl _)) (hru'.2.2.2.2.2.conA.below hX (Nat.le_refl _))
        have HSV := Lib.hid (sameV_iff r.val s.val)
        obtain ⟨sv, hsv⟩ : ∃ sv, sameV r.val s.val = sv := ⟨_, rfl⟩
        rw [hsv] at HCL HSV
        have i1 : (0 : Int) ≤ (q : Int) := by omega
        have i2 : (q : Int) < (n : Int) := by omega
        have h2 : ∀ (X Y : Obj), Below wr.heap.size wr ((wr.alloc X).alloc Y) := fun X Y => ((Below.refl _ _).alloc (Nat.le_refl _) _).alloc (by simp) _
        have HH2 := Lib.hid h2
        obtain ⟨W2, hW2⟩ : ∃ W, (wr.alloc (.cells (rulA r.nm r.k r.u r.A r.n r.c) 52)).alloc (.cells (rulA s.nm s.k s.u s.A s.n s.c) 52) = W := ⟨_, rfl⟩
        have hB2 : Below wr.heap.size wr W2 := by rw [← hW2]; exact h2 _ _
        have HB2 := Lib.hid hB2
        have hb1 : RowC W2 wr.heap.size (rulA r.nm r.k r.u r.A r.n r.c) 52 := by rw [← hW2]; exact (RowC.new _ _ _ _ rfl).alloc _
        have hb2 : RowC W2 (wr.heap.size + 1) (rulA s.nm s.k s.u s.A s.n s.c) 52 := by rw [← hW2]; exact RowC.new _ _ _ _ (by simp)
        have e0 := hb1.cell 0 (.string r.nm) rfl
        have e1 := hb1.cell 1 (.int .i64 r.k) rfl
        have e2 := hb1.cell 2 (.int .i64 r.u) rfl
        have e3 := hb1.cell 3 (.slice r.A r.n r.c) rfl
        have f0 := hb2.cell 0 (.string s.nm) rfl
        have f1 := hb2.cell 1 (.int .i64 s.k) rfl
        have f2 := hb2.cell 2 (.int .i64 s.u) rfl
        have f3 := hb2.cell 3 (.slice s.A s.n s.c) rfl
        have HW2 := Lib.hid hW2
        clear hW2 hb1 hb2
        clear hcs hcs' hr hs hlq hlq' hmem hmem' hru hru' hLr hLr' h1000 hsv h2 hB2
        go_upto_region 7 with fail
        rw [HW2.out]
        go_wp2_with fail
        refine (HCL.out _ HB2.out).mono ?_
        rintro x w3 ⟨rfl, hB3⟩
        have HB3 := Lib.hid (HI.out.1.trans ((HB2.out.trans (hB3.mono HB2.out.size)).mono HI.out.1.size))
        clear hB3
        cases sv with
        | true =>
          go_wp2
          exact ⟨⟨q + 1, by omega, by go_num, Lib.hid ⟨HB3.out, by rw [HTK.out, HTK'.out, HI.out.2, HSV.out.1 (by first | rfl | trivial)]⟩⟩, by simp [intOf]; omega⟩
        | false =>
          go_wp2
          go_ret
          refine ⟨⟨false, rfl, fun h => by (cases h), fun h => ?_⟩, HB3.out⟩
          have := HGT.out.1
          rw [h, HGT.out.2] at this
          exact by simpa using HSV.out.2 (Option.some.inj this).symm
      · obtain rfl : q = n := by omega
        have htk : l.take q = l := List.take_of_length_le (by rw [HNL.out]; exact Nat.le_refl _)
        have htk' : l'.take q = l' := List.take_of_length_le (by rw [HML.out]; exact Nat.le_refl _)
        have HTK := Lib.hid (And.intro htk htk')
        clear htk htk'
        go_wp2
        go_ret
        exact ⟨⟨true, rfl, fun _ => by have := HI.out.2; rw [HTK.out.1, HTK.out.2] at this; exact this, fun _ => rfl⟩, HI.out.1⟩
  · have hne : ¬ (n : Int) = (m : Int) := by omega
    have HD := Lib.hid (show ¬ l.map RL.val = l'.map RL.val from fun e => hnm (by have := congrArg List.length e; rw [List.length_map, List.length_map, HNL.out, HML.out] at this; exact this))
    go_enter Tryz.func26, Tryz.ntmps26
    go_wp2
    go_ret
    exact ⟨⟨false, rfl, fun h => by (cases h), fun h => absurd h HD.out⟩, Below.refl _ _⟩
set_option maxRecDepth 100000 in
set_option maxHeartbeats 8000000 in
theorem same_any (k u k' u' : Int) (x x' : Bool) (A A' : Option Addr) (l l' : List RL) (c c' : Nat) (w : World) (hl : RlL w A l) (hl' : RlL w A' l') (hn : l.length ≤ 1000000) (h12 : ∀ e ∈ l, e.n ≤ 100000) :
    Calls Tryz.prog 11 #[.agg (polA k u x A l.length c), .agg (polA k' u' x' A' l'.length c')] w fun e w' => (∃ b, e = .returned (.bool b) ∧ (b = true ↔ k = k' ∧ u = u' ∧ x = x' ∧ l.map RL.val = l'.map RL.val)) ∧ Below w.heap.size w w' := by
  obtain ⟨W0, hW0⟩ : ∃ W, (w.alloc (.cells (polA k u x A l.length c) 31)).alloc (.cells (polA k' u' x' A' l'.length c') 31) = W := ⟨_, rfl⟩
  have hB0 : Below w.heap.size w W0 := by rw [← hW0]; exact ((Below.refl _ _).alloc (Nat.le_refl _) _).alloc (by simp) _
  have hP0 : RowC W0 w.heap.size (polA k u x A l.length c) 31 := by rw [← hW0]; exact (RowC.new _ _ _ _ rfl).alloc _
  have hQ0 : RowC W0 (w.heap.size + 1) (polA k' u' x' A' l'.length c') 31 := by rw [← hW0]; exact RowC.new _ _ _ _ (by simp)
  have HEQ := Lib.hid (equalRules_any A A' l l' c c' W0 (hl.below hB0 (Nat.le_refl _)) (hl'.below hB0 (Nat.le_refl _)) hn h12)
  have p0 := hP0.cell 0 (.int .i64 k) rfl
  have p1 := hP0.cell 1 (.int .i64 u) rfl
  have p2 := hP0.cell 2 (.bool x) rfl
  have p3 := hP0.cell 3 (.slice A l.length c) rfl
  have r0 := hQ0.cell 0 (.int .i64 k') rfl
  have r1 := hQ0.cell 1 (.int .i64 u') rfl
  have r2 := hQ0.cell 2 (.bool x') rfl
  have r3 := hQ0.cell 3 (.slice A' l'.length c') rfl
  have HB0 := Lib.hid hB0
  have HW := Lib.hid hW0
  clear hl hl' hW0 hB0 hP0 hQ0 hn h12
  rcases act_cases k u k' u' with ⟨h1, h2⟩ | h | ⟨h1, h⟩
  · subst h1 h2
    rcases hx : (x == x') with _ | _
    · have HX := Lib.hid hx
      go_enter Tryz.func11, Tryz.ntmps11
      go_upto_region 1 with fail
      rw [HW.out]
      go_wp2
      go_ret
      exact ⟨⟨false, rfl, fun h => by (cases h), fun h => by have := HX.out; rw [h.2.2.1] at this; simp at this⟩, HB0.out⟩
    · have HX := Lib.hid hx
      go_enter Tryz.func11, Tryz.ntmps11
      go_upto_region 1 with fail
      rw [HW.out]
      go_wp2_with fail
      refine HEQ.out.mono ?_
      rintro e w2 ⟨⟨b, rfl, hb⟩, hB2⟩
      go_wp2
      go_ret
      exact ⟨⟨b, rfl, fun h => ⟨by first | rfl | trivial, by first | rfl | trivial, by simpa using HX.out, hb.1 h⟩, fun h => hb.2 h.2.2.2⟩, HB0.out.trans (hB2.mono HB0.out.size)⟩
  · have HX := Lib.hid h
    go_enter Tryz.func11, Tryz.ntmps11
    go_upto_region 1 with fail
    rw [HW.out]
    go_wp2
    go_ret
    exact ⟨⟨false, rfl, fun h => by (cases h), fun h => by have := HX.out; rw [h.1] at this; simp at this⟩, HB0.out⟩
  · subst h1
    have HX := Lib.hid h
    go_enter Tryz.func11, Tryz.ntmps11
    go_upto_region 1 with fail
    rw [HW.out]
    go_wp2
    go_ret
    exact ⟨⟨false, rfl, fun h => by (cases h), fun h => by have := HX.out; rw [h.2.1] at this; simp at this⟩, HB0.out⟩
end Go.Proofs.YtcembcicpmhpkaaGreatDoor

/-
  Layer 16: norm.Policy at any policy, its two ends in one.
-/
namespace Go.Proofs.YtcembcicpmhpkaaGreatDoor
open Go.RowKit Go.Shelf
set_option linter.unusedVariables false

theorem utl_sub {k u : Int} {l : List RV} {v : RV} (h : v ∈ utl k u l) : v ∈ l := by
  unfold utl at h
  exact List.mem_reverse.1 ((List.dropWhile_sublist _).subset (List.mem_reverse.1 h))
theorem unh_sub' : ∀ (l acc : List RV) (v : RV), v ∈ l.foldl unhF acc → v ∈ acc ∨ v ∈ l
  | [], acc, v, h => .inl h
  | r :: t, acc, v, h => by
    rcases unh_sub' t (unhF acc r) v h with h1 | h1
    · unfold unhF at h1
      split at h1
      · exact .inl h1
      · rcases List.mem_append.1 h1 with h2 | h2
        · exact .inl h2
        · rw [List.mem_singleton] at h2; subst h2; exact .inr (List.mem_cons_self ..)
    · exact .inr (List.mem_cons_of_mem _ h1)
theorem unh_sub {l : List RV} {v : RV} (h : v ∈ unh l) : v ∈ l := (unh_sub' l [] v h).elim (fun h => by cases h) id
theorem nP_sub {k u : Int} {l : List RV} {v : RV} (h : v ∈ nP k u l) : ∃ r ∈ l, nR r = some v := by
  unfold nP at h
  obtain ⟨s, _, h⟩ := List.mem_flatMap.1 h
  have h2 := unh_sub (utl_sub h)
  exact List.mem_filterMap.1 (List.mem_filter.1 h2).1
theorem policyN_any (k u : Int) (x : Bool) (A : Option Addr) (l : List RL) (c : Nat) (w : World) (hl : RlL w A l) (hn : l.length ≤ 1000) (h12 : ∀ e ∈ l, e.n ≤ 100000) :
    Calls Tryz.prog 18 #[.agg (polA k u x A l.length c)] w fun e w' => ∃ (A' : Option Addr) (c' : Nat) (ls : List RL) (k' u' : Int) (x' : Bool) (er : Int), e = .returned (.tuple #[.agg (polA k' u' x' A' ls.length c'), .int .i64 er]) ∧ RowL w' w.heap.size A' ls c' ∧ Below w.heap.size w w' ∧
      ls.length ≤ 1000000 ∧ (∀ e ∈ ls, e.n ≤ 6) ∧
      ((rightV k u (l.map RL.val) = true ∧ er = 0 ∧ k' = k ∧ u' = u ∧ x' = x ∧ ls.map RL.val = nP k u (l.map RL.val)) ∨ (rightV k u (l.map RL.val) = false ∧ er = 13 ∧ k' = 0 ∧ u' = 0 ∧ x' = false ∧ ls = [])) := by
  rcases hr : rightV k u (l.map RL.val) with _ | _
  · refine (policyN_no k u x A l c w hl hn h12 hr).mono ?_
    rintro e w' ⟨rfl, hB⟩
    exact ⟨none, 0, [], 0, 0, false, 13, rfl, RowL.nil_ _ _, hB, by simp, (fun e h => by cases h), .inr ⟨rfl, rfl, rfl, rfl, rfl, rfl⟩⟩
  · refine (policyN_ok k u x A l c w hl hr).mono ?_
    rintro e w' ⟨A', c', ls, rfl, hrow, hval, hlen, hB⟩
    refine ⟨A', c', ls, k, u, x, 0, rfl, hrow, hB, hlen, fun e he => ?_, .inl ⟨rfl, rfl, rfl, rfl, rfl, hval⟩⟩
    have h1 : e.val ∈ nP k u (l.map RL.val) := by rw [← hval]; exact List.mem_map.2 ⟨e, he, rfl⟩
    obtain ⟨r, hr', hn'⟩ := nP_sub h1
    have h2 := nR_len hn'
    have h3 : e.val.L.length = e.n := by simp [RL.val]
    unfold rightV at hr
    simp only [Bool.and_eq_true, decide_eq_true_eq, List.length_map, List.all_eq_true] at hr
    have h4 := hr.2.2 r hr'
    unfold mayV at h4
    simp only [Bool.and_eq_true, decide_eq_true_eq, List.all_eq_true] at h4
    have := h4.2.2.1
    omega
end Go.Proofs.YtcembcicpmhpkaaGreatDoor

/-
  Layer 16, pure: the normal form of a normal form is it; it may be; it has not more rules.
-/
namespace Go.Proofs.YtcembcicpmhpkaaGreatDoor
open Go.RowKit
set_option linter.unusedVariables false

/-- What asks in normal form stays as it is. -/
theorem nC_idem {c : CD} (hr : RiC c) (h : (nC c).2 = 0) : nC (nC c).1 = ((nC c).1, 0) ∧ RiC (nC c).1 := by
  obtain ⟨a, o, m, v⟩ := c
  obtain ⟨h1, h2, h3, h4, h5⟩ := hr
  simp only at h1 h2 h3 h4 h5
  have ho : o = 1 ∨ o = 2 ∨ o = 3 ∨ o = 4 ∨ o = 5 ∨ o = 6 ∨ o = 7 := by omega
  rcases ho with rfl | rfl | rfl | rfl | rfl | rfl | rfl
  · have e : nC ⟨a, 1, m, v⟩ = (⟨a, 1, m, v⟩, 0) := by simp [nC]
    rw [e]; exact ⟨e, h1, h2, by simp, by simp, h5⟩
  · have e : nC ⟨a, 2, m, v⟩ = (⟨a, 2, m, v⟩, 0) := by simp [nC]
    rw [e]; exact ⟨e, h1, h2, by simp, by simp, h5⟩
  · have e : nC ⟨a, 3, m, v⟩ = bel ⟨a, 3, m, v⟩ := by simp [nC]
    rw [e] at h ⊢
    unfold bel at h ⊢
    simp only at h ⊢
    by_cases v0 : v = 0
    · rw [if_pos v0] at h; cases h
    · rw [if_neg v0]
      by_cases v1 : v = 1
      · rw [if_pos v1]
        exact ⟨by simp [nC], h1, h2, by simp, by simp, .inr rfl⟩
      · rw [if_neg v1]
        exact ⟨by rw [e]; unfold bel; simp only; rw [if_neg v0, if_neg v1], h1, h2, by simp, by simp, h5⟩
  · have e : nC ⟨a, 4, m, v⟩ = if v = 18446744073709551615 then (⟨0, 0, 0, 0⟩, 1) else bel ⟨a, 3, 0, v + 1⟩ := by simp [nC]
    rw [e] at h ⊢
    by_cases vm : v = 18446744073709551615
    · rw [if_pos vm] at h; cases h
    · rw [if_neg vm] at h ⊢
      unfold bel at h ⊢
      simp only at h ⊢
      rw [if_neg (by omega : ¬ v + 1 = 0)]
      by_cases v1 : v + 1 = 1
      · rw [if_pos v1]
        exact ⟨by simp [nC], h1, h2, by simp, by simp, .inr rfl⟩
      · rw [if_neg v1]
        refine ⟨?_, h1, h2, by simp, by simp, .inr rfl⟩
        have e3 : nC ⟨a, 3, 0, v + 1⟩ = bel ⟨a, 3, 0, v + 1⟩ := by simp [nC]
        rw [e3]; unfold bel; simp only
        rw [if_neg (by omega : ¬ v + 1 = 0), if_neg v1]
  · have e : nC ⟨a, 5, m, v⟩ = if v = 18446744073709551615 then (⟨0, 0, 0, 0⟩, 2) else atl ⟨a, 6, 0, v + 1⟩ := by simp [nC]
    rw [e] at h ⊢
    by_cases vm : v = 18446744073709551615
    · rw [if_pos vm] at h; cases h
    · rw [if_neg vm] at h ⊢
      unfold atl at h ⊢
      simp only at h ⊢
      rw [if_neg (by omega : ¬ v + 1 = 0)]
      by_cases v1 : v + 1 = 18446744073709551615
      · rw [if_pos v1]
        exact ⟨by simp [nC], h1, h2, by simp, by simp, .inr rfl⟩
      · rw [if_neg v1]
        refine ⟨?_, h1, h2, by simp, by simp, .inr rfl⟩
        have e3 : nC ⟨a, 6, 0, v + 1⟩ = atl ⟨a, 6, 0, v + 1⟩ := by simp [nC]
        rw [e3]; unfold atl; simp only
        rw [if_neg (by omega : ¬ v + 1 = 0), if_neg v1]
  · have e : nC ⟨a, 6, m, v⟩ = atl ⟨a, 6, m, v⟩ := by simp [nC]
    rw [e] at h ⊢
    unfold atl at h ⊢
    simp only at h ⊢
    by_cases v0 : v = 0
    · rw [if_pos v0] at h; cases h
    · rw [if_neg v0]
      by_cases v1 : v = 18446744073709551615
      · rw [if_pos v1]
        exact ⟨by simp [nC], h1, h2, by simp, by simp, .inr rfl⟩
      · rw [if_neg v1]
        exact ⟨by rw [e]; unfold atl; simp only; rw [if_neg v0, if_neg v1], h1, h2, by simp, by simp, h5⟩
  · have e : nC ⟨a, 7, m, v⟩ = if v &&& (18446744073709551615 - m) ≠ 0 then (⟨0, 0, 0, 0⟩, 2) else if m = 0 then (⟨0, 0, 0, 0⟩, 1) else if m = 18446744073709551615 then (⟨a, 1, 0, v⟩, 0) else (⟨a, 7, m, v⟩, 0) := by simp [nC]
    rw [e] at h ⊢
    by_cases b0 : v &&& (18446744073709551615 - m) ≠ 0
    · rw [if_pos b0] at h; cases h
    · rw [if_neg b0] at h ⊢
      by_cases m0 : m = 0
      · rw [if_pos m0] at h; cases h
      · rw [if_neg m0]
        by_cases m1 : m = 18446744073709551615
        · rw [if_pos m1]
          exact ⟨by simp [nC], h1, h2, by simp, by simp, .inr rfl⟩
        · rw [if_neg m1]
          exact ⟨by rw [e, if_neg b0, if_neg m0, if_neg m1], h1, h2, by simp, by simp, .inl rfl⟩
theorem askL_fix : ∀ l : List CD, (∀ c ∈ l, nC c = (c, 0)) → askL l = some l
  | [], _ => rfl
  | c :: t, h => by
    rw [askL_cons, h c (List.mem_cons_self ..), askL_fix t fun x hx => h x (List.mem_cons_of_mem _ hx)]
    rfl
theorem askL_mem : ∀ (l M : List CD), askL l = some M → ∀ c ∈ M, ∃ d ∈ l, (nC d).2 = 0 ∧ (nC d).1 = c
  | [], M, h, c, hc => by cases h; cases hc
  | d :: t, M, h, c, hc => by
    rw [askL_cons] at h
    by_cases h2 : (nC d).2 = 2
    · rw [if_pos h2] at h; cases h
    · rw [if_neg h2] at h
      rcases ht : askL t with _ | x
      · rw [ht] at h; cases h
      · rw [ht] at h
        simp only [Option.map_some, Option.some.injEq] at h
        by_cases h0 : (nC d).2 = 0
        · rw [if_pos h0] at h
          subst h
          rcases List.mem_cons.1 hc with e | e
          · exact ⟨d, List.mem_cons_self .., h0, e.symm⟩
          · obtain ⟨y, hy, hh⟩ := askL_mem t x ht c e
            exact ⟨y, List.mem_cons_of_mem _ hy, hh⟩
        · rw [if_neg h0] at h
          subst h
          obtain ⟨y, hy, hh⟩ := askL_mem t _ ht c hc
          exact ⟨y, List.mem_cons_of_mem _ hy, hh⟩
theorem nR_fix {v x : RV} (hv : ∀ c ∈ v.L, RiC c) (h : nR v = some x) : nR x = some x ∧ ∀ c ∈ x.L, RiC c := by
  unfold nR at h
  rcases hl : askL v.L with _ | M
  · rw [hl] at h; cases h
  · rw [hl] at h
    cases h
    have key : ∀ c ∈ srt M, nC c = (c, 0) ∧ RiC c := fun c hc => by
      obtain ⟨d, hd, h0, rfl⟩ := askL_mem _ _ hl c ((mem_srt c M).1 hc)
      exact nC_idem (hv d hd) h0
    refine ⟨?_, fun c hc => (key c hc).2⟩
    unfold nR
    simp only
    rw [askL_fix _ fun c hc => (key c hc).1]
    simp only [Option.map_some]
    rw [← srt_uniq (pw_srt M) fun _ => Iff.rfl]
theorem mayV_fix {v x : RV} (hm : mayV v = true) (h : nR v = some x) : mayV x = true ∧ nR x = some x := by
  unfold mayV at hm
  simp only [Bool.and_eq_true, decide_eq_true_eq, List.all_eq_true] at hm
  obtain ⟨h1, h2, h3, h4⟩ := hm
  obtain ⟨f1, f2⟩ := nR_fix h4 h
  have hl := nR_len h
  have he : x.nm = v.nm ∧ x.k = v.k ∧ x.u = v.u := by
    unfold nR at h
    rcases hl : askL v.L with _ | M
    · rw [hl] at h; cases h
    · rw [hl] at h; cases h; exact ⟨rfl, rfl, rfl⟩
  refine ⟨?_, f1⟩
  unfold mayV
  simp only [Bool.and_eq_true, decide_eq_true_eq, List.all_eq_true]
  exact ⟨by rw [he.1]; exact h1, by rw [he.2.1, he.2.2]; exact h2, by omega, f2⟩
theorem utl_sublist (k u : Int) (l : List RV) : (utl k u l).Sublist l := by
  unfold utl
  have h : (List.dropWhile (isAct k u) l.reverse).Sublist l.reverse := List.dropWhile_sublist _
  have := h.reverse
  rwa [List.reverse_reverse] at this
theorem dropWhile_idem {α : Type} (p : α → Bool) : ∀ l : List α, (l.dropWhile p).dropWhile p = l.dropWhile p
  | [] => rfl
  | x :: t => by
    rcases hp : p x with _ | _
    · rw [List.dropWhile_cons_of_neg (by simp [hp]), List.dropWhile_cons_of_neg (by simp [hp])]
    · rw [List.dropWhile_cons_of_pos hp]; exact dropWhile_idem p t
theorem utl_idem (k u : Int) (l : List RV) : utl k u (utl k u l) = utl k u l := by
  unfold utl
  rw [List.reverse_reverse, dropWhile_idem]
def UnhP (l : List RV) : Prop := l.Pairwise fun e r => hides r e = false
theorem unh_pw' : ∀ (l acc : List RV), UnhP acc → UnhP (l.foldl unhF acc)
  | [], acc, h => h
  | r :: t, acc, h => by
    refine unh_pw' t _ ?_
    unfold unhF
    split
    · exact h
    · rename_i hn
      refine List.pairwise_append.2 ⟨h, by simp, fun e he r' hr' => ?_⟩
      rw [List.mem_singleton] at hr'
      subst hr'
      have := hn
      simp only [List.any_eq_true, not_exists, not_and, Bool.not_eq_true] at this
      exact this e he
theorem unh_fix' : ∀ (l acc : List RV), UnhP (acc ++ l) → l.foldl unhF acc = acc ++ l
  | [], acc, _ => by simp
  | r :: t, acc, h => by
    have h1 : unhF acc r = acc ++ [r] := by
      unfold unhF
      rw [if_neg]
      intro hc
      obtain ⟨e, he, hh⟩ := List.any_eq_true.1 hc
      have := (List.pairwise_append.1 h).2.2 e he r (List.mem_cons_self ..)
      rw [this] at hh
      cases hh
    show t.foldl unhF (unhF acc r) = _
    rw [h1, unh_fix' t (acc ++ [r]) (by simpa using h)]
    simp
theorem blk_idem (k u : Int) (G : List RV) : utl k u (unh (utl k u (unh G))) = utl k u (unh G) := by
  have h1 : UnhP (unh G) := unh_pw' G [] List.Pairwise.nil
  have h2 : UnhP (utl k u (unh G)) := List.Pairwise.sublist (utl_sublist k u _) h1
  have h3 : unh (utl k u (unh G)) = utl k u (unh G) := unh_fix' _ [] (by simpa using h2)
  rw [h3, utl_idem]
theorem mem_blk {k u : Int} {l : List RV} {s : List UInt8} {v : RV} (h : v ∈ utl k u (unh (grp l s))) : v.key = s ∧ ∃ r ∈ l, nR r = some v := by
  have h2 := List.mem_filter.1 (unh_sub (utl_sub h))
  exact ⟨by simpa using h2.2, List.mem_filterMap.1 h2.1⟩
theorem filter_flatMap_key (f : List UInt8 → List RV) (s : List UInt8) : ∀ K : List (List UInt8), K.Nodup → (∀ t ∈ K, ∀ v ∈ f t, v.key = t) → (K.flatMap f).filter (fun r => r.key == s) = if s ∈ K then f s else []
  | [], _, _ => rfl
  | t :: K, hn, hk => by
    rw [List.nodup_cons] at hn
    rw [List.flatMap_cons, List.filter_append, filter_flatMap_key f s K hn.2 fun t' ht' => hk t' (List.mem_cons_of_mem _ ht')]
    have ht := hk t (List.mem_cons_self ..)
    by_cases e : s = t
    · subst e
      rw [if_neg hn.1, if_pos (List.mem_cons_self ..), List.append_nil, List.filter_eq_self.2 fun v hv => by simp [ht v hv]]
    · have h0 : (f t).filter (fun r => r.key == s) = [] := List.filter_eq_nil_iff.2 fun v hv => by
        rw [ht v hv]; simpa using fun x => e x.symm
      rw [h0, List.nil_append]
      by_cases hs : s ∈ K
      · rw [if_pos hs, if_pos (List.mem_cons_of_mem _ hs)]
      · rw [if_neg hs, if_neg (fun h => by rcases List.mem_cons.1 h with h | h; exact e h; exact hs h)]
theorem filterMap_fix {α : Type} (f : α → Option α) : ∀ l : List α, (∀ x ∈ l, f x = some x) → l.filterMap f = l
  | [], _ => rfl
  | x :: t, h => by
    rw [List.filterMap_cons, h x (List.mem_cons_self ..)]
    simp only
    rw [filterMap_fix f t fun y hy => h y (List.mem_cons_of_mem _ hy)]
theorem grp_nP {k u : Int} {l : List RV} (hm : ∀ r ∈ l, mayV r = true) (s : List UInt8) : grp (nP k u l) s = utl k u (unh (grp l s)) := by
  have hfix : ∀ v ∈ nP k u l, nR v = some v := fun v hv => by
    obtain ⟨r, hr, hn⟩ := nP_sub hv
    exact (mayV_fix (hm r hr) hn).2
  unfold grp
  rw [filterMap_fix nR _ hfix]
  show (nP k u l).filter _ = _
  unfold nP
  rw [filter_flatMap_key _ s (kys l) ((List.mergeSort_perm (nms l) _).nodup_iff.2 (nodup_nub _)) fun t _ v hv => (mem_blk hv).1]
  by_cases hs : s ∈ kys l
  · rw [if_pos hs]; rfl
  · rw [if_neg hs]
    have : grp l s = [] := Classical.byContradiction fun h => hs (by
      unfold kys
      rw [List.mem_mergeSort]
      exact (mem_nms l s).2 h)
    show [] = utl k u (unh (grp l s))
    rw [this]
    rfl
/-- The normal form of a normal form is it. -/
theorem nP_idem {k u : Int} {l : List RV} (hm : ∀ r ∈ l, mayV r = true) : nP k u (nP k u l) = nP k u l := by
  have h := nP_keys (k := k) (u := u) (l := nP k u l) (ss := nms l) (nodup_nub _) (fun s hs => (mem_nms l s).2 fun h0 => hs (by rw [grp_nP hm, h0]; rfl)) (fun _ _ _ => trivial) (fun s => utl k u (unh (grp l s))) (fun s _ => by rw [grp_nP hm, blk_idem])
  rw [← h]
  rfl
theorem unh_len' : ∀ (l acc : List RV), (l.foldl unhF acc).length ≤ acc.length + l.length
  | [], acc => by simp
  | r :: t, acc => by
    have := unh_len' t (unhF acc r)
    have h2 : (unhF acc r).length ≤ acc.length + 1 := by unfold unhF; split <;> simp
    simp only [List.foldl_cons, List.length_cons]
    omega
theorem filter_two (s : List UInt8) : ∀ L : List RV, (L.filter fun r => r.key == s).length + (L.filter fun r => !(r.key == s)).length = L.length
  | [] => rfl
  | x :: t => by
    have ih := filter_two s t
    rcases hb : (x.key == s) with _ | _
    · simp only [List.filter_cons, hb, List.length_cons]; simp; omega
    · simp only [List.filter_cons, hb, List.length_cons]; simp; omega
theorem sum_keys : ∀ (K : List (List UInt8)) (L : List RV), K.Nodup → (K.flatMap fun s => L.filter fun r => r.key == s).length ≤ L.length
  | [], L, _ => by simp
  | s :: K, L, hn => by
    rw [List.nodup_cons] at hn
    rw [List.flatMap_cons, List.length_append]
    have h1 : (K.flatMap fun t => L.filter fun r => r.key == t) = K.flatMap fun t => (L.filter fun r => !(r.key == s)).filter fun r => r.key == t := flatMap_ext _ _ K fun t ht => by
      rw [List.filter_filter]
      refine List.filter_congr fun r _ => ?_
      by_cases e : r.key = t
      · have : ¬ t = s := fun h => hn.1 (h ▸ ht)
        simp [e, this]
      · simp [e]
    have h2 := sum_keys K (L.filter fun r => !(r.key == s)) hn.2
    have h3 := filter_two s L
    rw [h1]
    omega
theorem flatMap_le {f g : List UInt8 → List RV} (h : ∀ s, (f s).length ≤ (g s).length) : ∀ K : List (List UInt8), (K.flatMap f).length ≤ (K.flatMap g).length
  | [] => Nat.le_refl _
  | s :: K => by
    have := flatMap_le h K
    have := h s
    rw [List.flatMap_cons, List.flatMap_cons, List.length_append, List.length_append]
    omega
theorem nP_len (k u : Int) (l : List RV) : (nP k u l).length ≤ l.length := by
  unfold nP
  refine Nat.le_trans (flatMap_le (g := fun s => (l.filterMap nR).filter fun r => r.key == s) (fun s => ?_) _) (Nat.le_trans (sum_keys (kys l) (l.filterMap nR) ((List.mergeSort_perm (nms l) _).nodup_iff.2 (nodup_nub _))) (List.length_filterMap_le _ _))
  have h1 := (utl_sublist k u (unh (grp l s))).length_le
  have h2 := unh_len' (grp l s) []
  simp only [List.length_nil, Nat.zero_add] at h2
  exact Nat.le_trans h1 h2
theorem rightV_nP {k u : Int} {l : List RV} (h : rightV k u l = true) : rightV k u (nP k u l) = true ∧ nP k u (nP k u l) = nP k u l := by
  unfold rightV at h
  simp only [Bool.and_eq_true, decide_eq_true_eq, List.all_eq_true] at h
  obtain ⟨h1, h2, h3⟩ := h
  refine ⟨?_, nP_idem h3⟩
  unfold rightV
  simp only [Bool.and_eq_true, decide_eq_true_eq, List.all_eq_true]
  refine ⟨h1, Nat.le_trans (nP_len k u l) h2, fun v hv => ?_⟩
  obtain ⟨r, hr, hn⟩ := nP_sub hv
  exact (mayV_fix (h3 r hr) hn).1
end Go.Proofs.YtcembcicpmhpkaaGreatDoor
