/-
  Layer 15: the document's Check, walked.
-/
import Derived.Test.YtcmdmnnkbliggaaGreatDoorMx
import Derived.Laws.BitsAllLaws
namespace Go.Proofs.YtcmdmnnkbliggaaGreatDoor
open Go.RowKit Go.Shelf Go.Lib Go.Sort
set_option linter.unusedVariables false

theorem nm_eq (a b : ByteArray) : (a.toList == b.toList) = decide (a = b) := by
  by_cases h : a = b
  · rw [h]; simp
  · rw [decide_eq_false h]
    have h2 : a.toList ≠ b.toList := fun e => h (WideShapes.bytes_inj (by rw [← Lib.toList_data, ← Lib.toList_data]; exact e))
    simpa using h2
theorem any_take_of (L : List RV) (p : RV → Bool) {k i : Nat} (hk : k < i) (h : (L.take (k + 1)).any p = true) : (L.take i).any p = true := by
  obtain ⟨x, hx, hp⟩ := List.any_eq_true.1 h
  refine List.any_eq_true.2 ⟨x, ?_, hp⟩
  have h2 : L.take (k + 1) = (L.take i).take (k + 1) := by rw [List.take_take, Nat.min_eq_left (by omega)]
  rw [h2] at hx
  exact List.mem_of_mem_take hx
theorem rlaRest {w : World} {A : Option Addr} {n : Nat} {R : Nat → RL} (h : RlA w A n R) : ∀ i, i < n → ConA w (R i).A (R i).n (R i).C := fun i hi => by
  rcases h with h0 | ⟨b, o, _, _, hc⟩
  · omega
  · exact (hc i hi).2.2.2.2.2.2.2.2.2
set_option maxRecDepth 100000 in
set_option maxHeartbeats 16000000 in
theorem checkD_any (k u : Int) (x : Bool) (A : Option Addr) (n c : Nat) (R : Nat → RL) (TA : Option Addr) (tn tcap : Nat) (T : Nat → SR) (w : World) (hn : n ≤ 500) (h12 : ∀ i, i < n → (R i).n ≤ 1000) (hR : RlA w A n R) (htn : tn ≤ 1000000) (ht : TbA w TA tn T) :
    Calls Tryz.prog 26 #[.agg (polA k u x A n c), .slice TA tn tcap] w fun e w' => ∃ a f : Nat, e = .returned (.tuple #[.int .i64 a, .int .i64 f]) ∧ ChkD k u ((List.range n).map fun i => (R i).val) T tn a f ∧ Below w.heap.size w w' := by
  obtain ⟨B, hBs⟩ : ∃ B, w.heap.size = B := ⟨_, rfl⟩
  obtain ⟨L, hL⟩ : ∃ L, (List.range n).map (fun i => (R i).val) = L := ⟨_, rfl⟩
  obtain ⟨W0, hW0⟩ : ∃ W, w.alloc (.cells (polA k u x A n c) 39) = W := ⟨_, rfl⟩
  have hb0 : Below B w W0 := by rw [← hW0, ← hBs]; exact (Below.refl _ _).alloc (Nat.le_refl _) _
  have hr0 : RowC W0 B (polA k u x A n c) 39 := by rw [← hW0, ← hBs]; exact RowC.new _ _ _ _ rfl
  have hR0 := hR.below hb0 (Nat.le_of_eq hBs)
  have ht0 := ht.below hb0 (Nat.le_of_eq hBs)
  have hrt := refPolRight_any k u x A n c R W0 hn hR0
  have hS0 : B ≤ W0.heap.size := by have := hb0.size; omega
  have HFX : Hid (∀ W, Below W0.heap.size W0 W → RowC W B (polA k u x A n c) 39 ∧ RlA W A n R ∧ TbA W TA tn T ∧ Below B w W) := Lib.hid fun W hW => ⟨hr0.below hW hr0.lt, hR0.below hW (Nat.le_refl _), ht0.below hW (Nat.le_refl _), hb0.trans (hW.mono hS0)⟩
  rw [hL] at hrt ⊢
  obtain ⟨rv, hrv⟩ : ∃ rv, rightV k u L = rv := ⟨_, rfl⟩
  rw [hrv] at hrt
  have HRT := Lib.hid hrt
  have HRV := Lib.hid hrv
  have HW0 := Lib.hid hW0
  have HBS := Lib.hid hBs
  have HL := Lib.hid hL
  have HN := Lib.hid (And.intro hn h12)
  have p0 := hr0.cell 0 (.int .i64 k) rfl
  have p1 := hr0.cell 1 (.int .i64 u) rfl
  have p2 := hr0.cell 2 (.bool x) rfl
  have p3 := hr0.cell 3 (.slice A n c) rfl
  clear hb0 hr0 hR0 ht0 hR ht hrt hrv hL h12 hS0
  go_enter Tryz.func26, Tryz.ntmps26
  go_upto_region 1 with fail
  (try rw [HW0.out])
  clear hW0
  go_wp2_with fail
  refine HRT.out.mono ?_
  rintro e w1 ⟨rfl, hB1⟩
  have HB1 := Lib.hid hB1
  have HRS := Lib.hid (refRight_any TA tn tcap T w1 (HFX.out w1 hB1).2.2.1)
  clear hB1 p0 p1 p2 p3 HRT
  cases rv with
  | false =>
    go_wp2
    go_ret2
    exact ⟨0, 13, rfl, .inl ⟨HRV.out, rfl, rfl⟩, by rw [HBS.out]; exact (HFX.out _ HB1.out).2.2.2⟩
  | true =>
    go_wp2_with fail
    refine HRS.out.mono ?_
    rintro e w2 ⟨p, q, hpq, rfl, hB2⟩
    have HB2 : Hid (Below W0.heap.size W0 w2) := Lib.hid (bTr HB1.out hB2)
    have HPQ := Lib.hid hpq
    clear hB2 HB1 HRS hpq
    by_cases hq : q = 0
    · subst hq
      have hp0 : p = 0 := by rcases HPQ.out with ⟨_, _, h⟩ | ⟨_, _, _, h, h2⟩ | ⟨_, _, h, _⟩ <;> omega
      subst hp0
      go_wp2
      go_loopw [8] (fun s wr => ∃ i : Nat, i ≤ n ∧ s = .int .i64 i ∧ Hid (Below W0.heap.size W0 wr ∧ ∀ a f, VR T tn L i a f → VR T tn L 0 a f))
        (fun s _ => n - (intOf s).toNat)
      case atStart => exact ⟨0, Nat.zero_le _, rfl, Lib.hid ⟨HB2.out, fun a f h => h⟩⟩
      case round =>
        obtain ⟨i, hi, rfl, HI⟩ := hrel
        have hfx := HFX.out wr HI.out.1
        have p3 := hfx.1.cell 3 (.slice A n c) rfl
        by_cases hlt : i < n
        · rcases hfx.2.1 with h0 | ⟨b2, o2, rfl, hbl, hc⟩
          · omega
          obtain ⟨q0, q1, q2, q3, hrest⟩ := hc i hlt
          obtain ⟨r, hr⟩ : ∃ r, R i = r := ⟨_, rfl⟩
          rw [hr] at q0 q1 q2 q3
          rw [Nat.add_zero] at q0
          have hLi : L[i]? = some r.val := by rw [← HL.out, List.getElem?_map, List.getElem?_range hlt, ← hr]; rfl
          have HLI := Lib.hid hLi
          have HRI := Lib.hid hr
          have HRN : Hid (r.n ≤ 1000) := Lib.hid (by rw [← hr]; exact HN.out.2 i hlt)
          obtain ⟨X, hX⟩ : ∃ X, wr.heap.size = X := ⟨_, rfl⟩
          obtain ⟨W5, hW5⟩ : ∃ W, wr.alloc (.cells #[.string r.nm, .int .i64 r.k, .int .i64 r.u, .slice r.A r.n r.c] 108) = W := ⟨_, rfl⟩
          have hb5 : Below wr.heap.size wr W5 := by rw [← hW5]; exact (Below.refl _ _).alloc (Nat.le_refl _) _
          have hx5 : RowC W5 X #[.string r.nm, .int .i64 r.k, .int .i64 r.u, .slice r.A r.n r.c] 108 := by rw [← hW5, ← hX]; exact RowC.new _ _ _ _ rfl
          have hB5 : Below W0.heap.size W0 W5 := bTr HI.out.1 hb5
          have HX5 := Lib.hid hx5
          have HB5 := Lib.hid hB5
          have HW5 := Lib.hid hW5
          have KF := Lib.hid (refFind_any TA tn tcap T r.nm W5 htn (HFX.out W5 hB5).2.2.1)
          have c0 := hx5.cell 0 (.string r.nm) rfl
          have i1 : (0 : Int) ≤ (i : Int) := by omega
          have i2 : (i : Int) < (n : Int) := by omega
          clear hfx hbl hc hrest hr hLi hb5 hx5 hB5
          go_upto_region 10 with fail
          (try rw [hX])
          (try rw [HW5.out])
          clear hX hW5 q0 q1 q2 q3 p3
          go_wp2_with fail
          refine KF.out.mono ?_
          rintro e w6 ⟨⟨j, hj, hjp, _, rfl⟩ | ⟨hno, rfl⟩, rfl⟩
          · have hhas : (List.range tn).any (isN T r.nm) = true := List.any_eq_true.2 ⟨j, List.mem_range.2 hj, hjp⟩
            have HHAS := Lib.hid hhas
            have jn : ¬ ((j : Int) < 0) := by omega
            clear hj hjp hhas c0 KF i1 i2
            go_wp2
            have hr3 := HX5.out.cell 3 (.slice r.A r.n r.c) rfl
            clear hr3
            go_loopw [10] (fun s wq => ∃ kk : Nat, kk ≤ r.n ∧ s = .int .i64 kk ∧ Hid (Below W5.heap.size W5 wq ∧ ∀ j, j < kk → besF (r.C j) = false)) (fun s _ => r.n - (intOf s).toNat)
            case atStart => exact ⟨0, Nat.zero_le _, rfl, Lib.hid ⟨Below.refl _ _, fun j hj => absurd hj (Nat.not_lt_zero _)⟩⟩
            case round =>
              obtain ⟨kk, hkk, rfl, HJ⟩ := hrel
              have hBW : Below W0.heap.size W0 wr := bTr HB5.out HJ.out.1
              have hx := HX5.out.below HJ.out.1 HX5.out.lt
              have x3 := hx.cell 3 (.slice r.A r.n r.c) rfl
              by_cases hkl : kk < r.n
              · have hcon := rlaRest (HFX.out wr hBW).2.1 i hlt
                rw [HRI.out] at hcon
                rcases hcon with h0 | ⟨b3, o3, hA3, hbl, hcs⟩
                · omega
                obtain ⟨q0, q1, q2, q3, hbm, hbv⟩ := hcs kk hkl
                rw [Nat.add_zero] at q0
                obtain ⟨y, hy⟩ : ∃ y, r.C kk = y := ⟨_, rfl⟩
                rw [hy] at q0 q1 q2 q3 hbm hbv
                rw [hA3] at x3
                have HY := Lib.hid hy
                have hbo := bes_or y hbm hbv
                have hbits := u64_or_nat y.v y.m (by omega) (by omega)
                obtain ⟨z, hz⟩ : ∃ z, y.v ||| y.m = z := ⟨_, rfl⟩
                rw [hz] at hbo hbits
                obtain ⟨Y, hY⟩ : ∃ Y, wr.heap.size = Y := ⟨_, rfl⟩
                obtain ⟨W7, hW7⟩ : ∃ W, wr.alloc (.cells #[.int .i64 y.a, .int .i64 y.o, .int .u64 y.m, .int .u64 y.v] 109) = W := ⟨_, rfl⟩
                have hb7 : Below wr.heap.size wr W7 := by rw [← hW7]; exact (Below.refl _ _).alloc (Nat.le_refl _) _
                have hy7 : RowC W7 Y #[.int .i64 y.a, .int .i64 y.o, .int .u64 y.m, .int .u64 y.v] 109 := by rw [← hW7, ← hY]; exact RowC.new _ _ _ _ rfl
                have HB7 : Hid (Below W5.heap.size W5 W7) := Lib.hid (bTr HJ.out.1 hb7)
                have y1 := hy7.cell 1 (.int .i64 y.o) rfl
                have y2 := hy7.cell 2 (.int .u64 y.m) rfl
                have y3 := hy7.cell 3 (.int .u64 y.v) rfl
                have HBO := Lib.hid hbo
                have HW7 := Lib.hid hW7
                have i1 : (0 : Int) ≤ (kk : Int) := by omega
                have i2 : (kk : Int) < (r.n : Int) := by omega
                have hrn := HRN.out
                clear hcs hy hbo hz hx hbl hA3 hb7 hy7 hbm hbv
                cases h7 : (y.o == 7)
                · have HF : Hid (besF y = false) := Lib.hid (by rw [HBO.out, h7]; rfl)
                  go_upto_region 16 with fail
                  (try rw [hY])
                  (try rw [HW7.out])
                  clear hY hW7 q0 q1 q2 q3
                  go_wp2
                  exact ⟨⟨kk + 1, by omega, by go_num, Lib.hid ⟨HB7.out, fun j hj => by
                    by_cases e : j = kk
                    · subst e; rw [HY.out]; exact HF.out
                    · exact HJ.out.2 j (by omega)⟩⟩, by simp [intOf]; omega⟩
                · cases hzm : (z != y.m)
                  · have HF : Hid (besF y = false) := Lib.hid (by rw [HBO.out, h7, hzm]; rfl)
                    have hzi : (((z : Nat) : Int) != ((y.m : Nat) : Int)) = false := by
                      have h : z = y.m := by simpa using hzm
                      rw [h]
                      simp
                    go_upto_region 16 with fail
                    (try rw [hY])
                    (try rw [HW7.out])
                    clear hY hW7 q0 q1 q2 q3
                    go_wp2
                    exact ⟨⟨kk + 1, by omega, by go_num, Lib.hid ⟨HB7.out, fun j hj => by
                      by_cases e : j = kk
                      · subst e; rw [HY.out]; exact HF.out
                      · exact HJ.out.2 j (by omega)⟩⟩, by simp [intOf]; omega⟩
                  · have hzi : (((z : Nat) : Int) != ((y.m : Nat) : Int)) = true := by
                      have h : z ≠ y.m := by simpa using hzm
                      simp
                      omega
                    have hbt : r.val.L.any besF = true := List.any_eq_true.2 ⟨y, List.mem_map.2 ⟨kk, List.mem_range.2 hkl, HY.out⟩, by rw [HBO.out, h7, hzm]; rfl⟩
                    have HV : Hid (VR T tn L 0 i 16) := Lib.hid (HI.out.2 i 16 (VR.bes i r.val HLI.out HHAS.out hbt))
                    have HE : Hid (Below B w W7) := Lib.hid (HFX.out W7 (bTr HB5.out HB7.out)).2.2.2
                    clear hbt
                    go_upto_region 16 with fail
                    (try rw [hY])
                    (try rw [HW7.out])
                    clear hY hW7 q0 q1 q2 q3
                    go_wp2
                    go_ret2
                    exact ⟨i, 16, rfl, .inr ⟨HRV.out, .inr ⟨HPQ.out, HV.out⟩⟩, by rw [HBS.out]; exact HE.out⟩
              · obtain rfl : kk = r.n := by omega
                have HNB : Hid (r.val.L.any besF = false) := Lib.hid (by
                  rw [List.any_eq_false]
                  intro z hz
                  obtain ⟨j, hj, rfl⟩ := List.mem_map.1 hz
                  rw [HJ.out.2 j (List.mem_range.1 hj)]
                  simp)
                go_wp2
                go_loopw [12] (fun s wq => ∃ kk : Nat, kk ≤ i ∧ s = .int .i64 kk ∧ Hid (Below W5.heap.size W5 wq ∧ (L.take kk).any (fun a => hidD a r.val) = false)) (fun s _ => i - (intOf s).toNat)
                case atStart => exact ⟨0, Nat.zero_le _, rfl, Lib.hid ⟨HJ.out.1, rfl⟩⟩
                case round =>
                  obtain ⟨kk, hkk, rfl, HK⟩ := hrel
                  by_cases hkl : kk < i
                  · have hBW : Below W0.heap.size W0 wr := bTr HB5.out HK.out.1
                    have hfx := HFX.out wr hBW
                    rcases hfx.2.1 with h0 | ⟨b4, o4, hA4, hb4, hc4⟩
                    · omega
                    obtain ⟨rfl, rfl⟩ : b2 = b4 ∧ o2 = o4 := by injection hA4 with h; injection h with h1 h2; exact ⟨h1, h2⟩
                    obtain ⟨q0, q1, q2, q3, hrest⟩ := hc4 kk (by omega)
                    have hca := rlaRest hfx.2.1 kk (by omega)
                    have hcr := rlaRest hfx.2.1 i hlt
                    have hna := HN.out.2 kk (by omega)
                    obtain ⟨ra, hra⟩ : ∃ ra, R kk = ra := ⟨_, rfl⟩
                    rw [hra] at q0 q3 hca hna
                    rw [HRI.out] at hcr
                    rw [Nat.add_zero] at q0
                    have hLk : (L.take (kk + 1)).any (fun a => hidD a r.val) = hidD ra.val r.val := by
                      rw [List.take_add_one, List.any_append, HK.out.2, ← HL.out, List.getElem?_map, List.getElem?_range (by omega), ← hra]
                      simp
                    have hBK := HK.out.1
                    have HM : Hid (∀ w', Below wr.heap.size wr w' → w'.cell? ⟨B, 3, none⟩ = some (.slice (some ⟨b2, o2, none⟩) n c) ∧ w'.cell? ⟨b2, o2 + kk * 4, none⟩ = some (.string ra.nm) ∧ w'.cell? ⟨b2, o2 + kk * 4 + 3, none⟩ = some (.slice ra.A ra.n ra.c) ∧ w'.cell? ⟨X, 0, none⟩ = some (.string r.nm) ∧ w'.cell? ⟨X, 3, none⟩ = some (.slice r.A r.n r.c)) := Lib.hid fun W hW => by
                      have hx := HX5.out.below (bTr hBK hW) HX5.out.lt
                      have f := (HFX.out W (bTr hBW hW)).1.cell 3 (.slice (some ⟨b2, o2, none⟩) n c) rfl
                      exact ⟨f, (hW.cell (p := ⟨b2, o2 + kk * 4, none⟩) hb4).trans q0, (hW.cell (p := ⟨b2, o2 + kk * 4 + 3, none⟩) hb4).trans q3, hx.cell 0 _ rfl, hx.cell 3 _ rfl⟩
                    have hM0 := HM.out wr (Below.refl _ _)
                    obtain ⟨m0, m1, m2, m3, m4⟩ := hM0
                    have KA := Lib.hid fun (W : World) (hW : Below wr.heap.size wr W) => alike_any ra.A r.A ra.n ra.c r.n r.c ra.C r.C W (by omega) (by have := HRN.out; omega) (hca.below hW (Nat.le_refl _)) (hcr.below hW (Nat.le_refl _))
                    have HLK := Lib.hid hLk
                    have i1 : (0 : Int) ≤ (kk : Int) := by omega
                    have i2 : (kk : Int) < (n : Int) := by omega
                    have i3 : (kk : Int) < (i : Int) := by omega
                    clear hfx hA4 hb4 hc4 q0 q1 q2 q3 hrest hca hcr hna hra hLk hBK hBW
                    have hnm : (ra.nm.toList == r.nm.toList) = decide (ra.nm = r.nm) := nm_eq ra.nm r.nm
                    cases q : decide (ra.nm = r.nm)
                    · have HF : Hid (hidD ra.val r.val = false) := Lib.hid (by unfold hidD; rw [show decide (ra.val.nm = r.val.nm) = false from q]; rfl)
                      rw [q] at hnm
                      clear q
                      go_wp2_with fail
                      go_quiet (fail)
                      go_wp2
                      exact ⟨⟨kk + 1, by omega, by go_num, Lib.hid ⟨bdn HK.out.1 nq, by rw [HLK.out]; exact HF.out⟩⟩, by simp [intOf]; omega⟩
                    · rw [q] at hnm
                      by_cases h0 : ra.n = 0
                      · have hz : ((ra.n : Int) == 0) = true := by rw [h0]; rfl
                        have HF : Hid (hidD ra.val r.val = true) := Lib.hid (by unfold hidD; rw [show decide (ra.val.nm = r.val.nm) = true from q, show ra.val.L.isEmpty = true by simp [RL.val, h0]]; rfl)
                        have HV : Hid (VR T tn L 0 i 15) := Lib.hid (HI.out.2 i 15 (VR.twice i r.val HLI.out HHAS.out HNB.out (any_take_of L (fun a => hidD a r.val) hkl (by rw [HLK.out]; exact HF.out))))
                        clear q h0
                        go_wp2_with fail
                        go_quiet (fail)
                        go_wp2
                        go_ret2
                        exact ⟨i, 15, rfl, .inr ⟨HRV.out, .inr ⟨HPQ.out, HV.out⟩⟩, by rw [HBS.out]; exact (HFX.out _ (bTr HB5.out (bdn HK.out.1 nq))).2.2.2⟩
                      · have hz : ((ra.n : Int) == 0) = false := by
                          have h : ¬ (ra.n : Int) = 0 := by omega
                          simpa using h0
                        have hhid : hidD ra.val r.val = alkF ((List.range ra.n).map ra.C) ((List.range r.n).map r.C) := by
                          unfold hidD
                          rw [show decide (ra.val.nm = r.val.nm) = true from q, show ra.val.L.isEmpty = false by simp [RL.val, h0]]
                          rfl
                        obtain ⟨ql, hql⟩ : ∃ ql, alkF ((List.range ra.n).map ra.C) ((List.range r.n).map r.C) = ql := ⟨_, rfl⟩
                        have ka := KA.out
                        rw [hql] at ka hhid
                        have KB := Lib.hid ka
                        have HH := Lib.hid hhid
                        clear q h0 hhid hql ka KA
                        cases ql with
                        | false =>
                          have HF : Hid (hidD ra.val r.val = false) := HH
                          go_wp2_with fail
                          go_region_held3 (fun w' => w'.cell? ⟨B, 3, none⟩ = some (.slice (some ⟨b2, o2, none⟩) n c) ∧ w'.cell? ⟨b2, o2 + kk * 4, none⟩ = some (.string ra.nm) ∧ w'.cell? ⟨b2, o2 + kk * 4 + 3, none⟩ = some (.slice ra.A ra.n ra.c) ∧ w'.cell? ⟨X, 0, none⟩ = some (.string r.nm) ∧ w'.cell? ⟨X, 3, none⟩ = some (.slice r.A r.n r.c))
                            (first | (with_reducible exact HM.out _ (by assumption)) | exact HM.out _ (Below.refl _ _) | exact HM.out _ (Below.refl _ _).drew)
                            (first
                              | (go_at_call 58
                                 (refine (KB.out _ (Below.refl _ _).drew).mono ?_)
                                 rintro e w9 ⟨rfl, hB9⟩
                                 have hk9 : Below wr.heap.size wr w9 := (Below.refl _ _).drew.trans hB9))
                          all_goals go_wp2
                          all_goals exact ⟨⟨kk + 1, by omega, by go_num, Lib.hid ⟨bTr HK.out.1 hk9, by rw [HLK.out]; exact HF.out⟩⟩, by simp [intOf]; omega⟩
                        | true =>
                          have HF : Hid (hidD ra.val r.val = true) := HH
                          have HV : Hid (VR T tn L 0 i 15) := Lib.hid (HI.out.2 i 15 (VR.twice i r.val HLI.out HHAS.out HNB.out (any_take_of L (fun a => hidD a r.val) hkl (by rw [HLK.out]; exact HF.out))))
                          go_wp2_with fail
                          go_region_held3 (fun w' => w'.cell? ⟨B, 3, none⟩ = some (.slice (some ⟨b2, o2, none⟩) n c) ∧ w'.cell? ⟨b2, o2 + kk * 4, none⟩ = some (.string ra.nm) ∧ w'.cell? ⟨b2, o2 + kk * 4 + 3, none⟩ = some (.slice ra.A ra.n ra.c) ∧ w'.cell? ⟨X, 0, none⟩ = some (.string r.nm) ∧ w'.cell? ⟨X, 3, none⟩ = some (.slice r.A r.n r.c))
                            (first | (with_reducible exact HM.out _ (by assumption)) | exact HM.out _ (Below.refl _ _) | exact HM.out _ (Below.refl _ _).drew)
                            (first
                              | (go_at_call 58
                                 (refine (KB.out _ (Below.refl _ _).drew).mono ?_)
                                 rintro e w9 ⟨rfl, hB9⟩
                                 have hk9 : Below wr.heap.size wr w9 := (Below.refl _ _).drew.trans hB9))
                          all_goals go_wp2
                          all_goals go_ret2
                          all_goals exact ⟨i, 15, rfl, .inr ⟨HRV.out, .inr ⟨HPQ.out, HV.out⟩⟩, by rw [HBS.out]; exact (HFX.out _ (bTr HB5.out (bTr HK.out.1 hk9))).2.2.2⟩

                  · obtain rfl : kk = i := by omega
                    have HV : Hid (∀ a f, VR T tn L (kk + 1) a f → VR T tn L 0 a f) := Lib.hid fun a f h => HI.out.2 a f (VR.go kk r.val a f HLI.out HHAS.out HNB.out HK.out.2 h)
                    go_wp2
                    exact ⟨⟨kk + 1, by omega, by go_num, Lib.hid ⟨bTr HB5.out HK.out.1, HV.out⟩⟩, by simp [intOf]; omega⟩
          · have hhas : (List.range tn).any (isN T r.nm) = false := by
              rw [List.any_eq_false]
              intro j hj
              rw [hno j (List.mem_range.1 hj)]
              simp
            have HV : Hid (VR T tn L 0 i 14) := Lib.hid (HI.out.2 i 14 (VR.name i r.val HLI.out hhas))
            clear hno hhas c0 KF
            go_wp2
            go_ret2
            exact ⟨i, 14, rfl, .inr ⟨HRV.out, .inr ⟨HPQ.out, HV.out⟩⟩, by rw [HBS.out]; exact (HFX.out _ HB5.out).2.2.2⟩
        · obtain rfl : i = n := by omega
          have HEND : Hid (VR T tn L 0 0 0) := Lib.hid (HI.out.2 0 0 (VR.nil _ (by rw [← HL.out]; simp)))
          have HW := Lib.hid hfx.2.2.2
          clear hfx
          go_wp2
          go_ret2
          exact ⟨0, 0, rfl, .inr ⟨HRV.out, .inr ⟨HPQ.out, HEND.out⟩⟩, by rw [HBS.out]; exact HW.out⟩
    · have hqz : ((q : Int) != 0) = true := by simpa using hq
      have HQ := Lib.hid hq
      clear hq
      go_wp2
      go_ret2
      exact ⟨0, 18, rfl, .inr ⟨HRV.out, .inl ⟨⟨p, q, HPQ.out, HQ.out⟩, rfl, rfl⟩⟩, by rw [HBS.out]; exact (HFX.out _ HB2.out).2.2.2⟩
end Go.Proofs.YtcmdmnnkbliggaaGreatDoor
