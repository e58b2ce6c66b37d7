/-
  The document's Read at words that do not begin with .code.
-/
import Derived.Test.YtebeoadmdflfcaaGreatDoorQe
namespace Go.Proofs.YtebeoadmdflfcaaGreatDoor
open Go.RowKit Go.Shelf
set_option linter.unusedVariables false

theorem bTrQ {w w' w'' : World} (h : Below w.heap.size w w') (h2 : Below w'.heap.size w' w'') : Below w.heap.size w w'' := h.trans (h2.mono h.size)
theorem wsN_list {l : List UInt8} {n : Nat} (hn : (wsOf l).length = n) {m : List UInt8} (hm : (wsOf m).length = n) (h : ∀ i, i < n → wsN m i = wsN l i) : wsOf m = wsOf l := by
  apply List.ext_getElem (hm.trans hn.symm)
  intro i h1 h2
  have a := wsN_at m i h1
  have b := wsN_at l i h2
  rw [List.getElem?_eq_getElem h1] at a
  rw [List.getElem?_eq_getElem h2] at b
  rw [Option.some.inj a, Option.some.inj b, h i (by omega)]
set_option maxRecDepth 100000 in
set_option maxHeartbeats 64000000 in
theorem refRead_main (s : ByteArray) (hs : s.size ≤ 100) (h0 : 0 < (wsOf s.data.toList).length) (hcd : wsN s.data.toList 0 ≠ codeT) (w : World) :
    Calls Tryz.prog 7 #[.string s] w fun e w' => RefA s.data.toList e ∧ Below w.heap.size w w' := by
  have hlen : s.data.toList.length = s.size := Array.length_toList
  have HWD := Lib.hid fun X => refWords_any s (by omega) X
  obtain ⟨l, hl⟩ : ∃ l, s.data.toList = l := ⟨_, rfl⟩
  rw [hl] at HWD hlen h0 hcd ⊢
  obtain ⟨z1, z2⟩ := wsOf_size l
  have HRA : Hid (∀ c t f k x, RefR l c t f k x → RefA l (.returned (.tuple #[.agg (instA c t f k), .int .i64 x]))) := Lib.hid fun c t f k x h => ⟨c, t, f, k, x, rfl, .inr ⟨h0, h⟩⟩
  have HN : Hid (∀ i wd, Wd wd → ∀ X, Calls Tryz.prog 17 #[.string ⟨(wsN l i).toArray⟩, .int .i64 ((2 ^ wd : Nat) : Int)] X fun e w' => (∃ x : Nat, e = .returned (.tuple #[.int .i64 x, .bool (numW wd (wsN l i)).isSome]) ∧ ∀ u, numW wd (wsN l i) = some u → x = u) ∧ w' = X) := Lib.hid fun i wd hw X => by
    have h := refNum_any ⟨(wsN l i).toArray⟩ (by show (wsN l i).toArray.size ≤ _; have := z2 i; simp; omega) wd hw X
    rw [show (⟨(wsN l i).toArray⟩ : ByteArray).data.toList = wsN l i by simp] at h
    exact h
  have hdl : (digF (wsN l 1)).length ≤ 100 := by
    have h1 : (digF (wsN l 1)).length ≤ ((wsN l 1).dropWhile fun b => !isDg b).length := (List.takeWhile_sublist _).length_le
    have h2 := (List.dropWhile_sublist (l := wsN l 1) fun b => !isDg b).length_le
    have h3 := z2 1
    omega
  have HND : Hid (∀ X, Calls Tryz.prog 17 #[.string ⟨(digF (wsN l 1)).toArray⟩, .int .i64 4294967296] X fun e w' => (∃ x : Nat, e = .returned (.tuple #[.int .i64 x, .bool (numW 32 (digF (wsN l 1))).isSome]) ∧ ∀ u, numW 32 (digF (wsN l 1)) = some u → x = u) ∧ w' = X) := Lib.hid fun X => by
    have h := refNum_any ⟨(digF (wsN l 1)).toArray⟩ (by show (digF (wsN l 1)).toArray.size ≤ _; simp; omega) 32 (.inr (.inr rfl)) X
    rw [show (⟨(digF (wsN l 1)).toArray⟩ : ByteArray).data.toList = digF (wsN l 1) by simp] at h
    exact h
  have HDG : Hid (∀ X, Calls Tryz.prog 18 #[.string ⟨(wsN l 1).toArray⟩] X fun e w' => e = .returned (.string ⟨(digF (wsN l 1)).toArray⟩) ∧ w' = X) := Lib.hid fun X => by
    have h := refDig_any ⟨(wsN l 1).toArray⟩ (by show (wsN l 1).toArray.size ≤ _; have := z2 1; simp; omega) X
    rw [show (⟨(wsN l 1).toArray⟩ : ByteArray).data.toList = wsN l 1 by simp] at h
    exact h
  obtain ⟨n, hn⟩ : ∃ n, (wsOf l).length = n := ⟨_, rfl⟩
  have HNE := Lib.hid hn
  have HCD := Lib.hid hcd
  rw [hn] at HWD h0 z1
  obtain ⟨kk, hkk⟩ : ∃ kk, kD n (wsN l) = kk := ⟨_, rfl⟩
  have HKK := Lib.hid hkk
  have hkl : kk < 4294967296 := by rw [← hkk]; exact kD_lt _ _
  -- the tail, of any t and f
  have HT : Hid (∀ (t' f' : Nat), (((wsOf l).length = 4 ∧ numW 8 (wsN l 2) = some t' ∧ numW 8 (wsN l 3) = some f') ∨ ((wsOf l).length ≠ 4 ∧ t' = 0 ∧ f' = 0)) → (∀ c, c < 256 → wsOf (lineL c t' f' kk) = wsOf l → RefA l (.returned (.tuple #[.agg (instA c t' f' kk), .int .i64 0]))) ∧ ((∀ c, c < 256 → wsOf (lineL c t' f' kk) ≠ wsOf l) → RefA l (.returned (.tuple #[.agg zI, .int .i64 13])))) := Lib.hid fun t' f' htf => by
    constructor
    · intro c hc hw
      refine HRA.out c t' f' kk 0 (.inr ⟨HCD.out, .inr ⟨t', f', htf, .inl ⟨hc, ?_, rfl, rfl, ?_, rfl⟩⟩⟩)
      · rw [HNE.out, HKK.out]; exact hw
      · rw [HNE.out, HKK.out]
    · intro hno
      refine HRA.out 0 0 0 0 13 (.inr ⟨HCD.out, .inr ⟨t', f', htf, .inr ⟨fun c hc => ?_, rfl, rfl, rfl, rfl, rfl⟩⟩⟩)
      rw [HNE.out, HKK.out]
      exact hno c hc
  have HB4 : Hid ((wsOf l).length = 4 → (numW 8 (wsN l 2) = none ∨ numW 8 (wsN l 3) = none) → RefA l (.returned (.tuple #[.agg zI, .int .i64 13]))) := Lib.hid fun h4 h => HRA.out 0 0 0 0 13 (.inr ⟨HCD.out, .inl ⟨h4, h, rfl, rfl, rfl, rfl, rfl⟩⟩)
  have hnl : n ≤ 100 := by omega
  clear hl hlen z2 hn hcd hkk hdl HRA
  obtain ⟨W0, hW0⟩ : ∃ W, w.alloc (.cells zI 29) = W := ⟨_, rfl⟩
  have hb0 : Below w.heap.size w W0 := by rw [← hW0]; exact (Below.refl _ _).alloc (Nat.le_refl _) _
  have r0 : RInst W0 w.heap.size 0 0 0 0 := by rw [← hW0]; exact RowC.new _ _ _ _ rfl
  have HB := Lib.hid hb0
  have HR := Lib.hid r0
  have HW := Lib.hid hW0
  clear hb0 r0 hW0
  have g0 : ((n : Int) == 0) = false := beq_eq_false_iff_ne.2 (by omega)
  have g0' : ((⟨(wsN l 0).toArray⟩ : ByteArray).toList == [46, 99, 111, 100, 101]) = false := by
    have := eqL_false (y := codeT) HCD.out
    rw [Lib.toList_data (⟨codeT.toArray⟩ : ByteArray)] at this
    simpa [codeT] using this
  obtain ⟨S0, hS0⟩ : ∃ S : ByteArray, (⟨(wsN l 0).toArray⟩ : ByteArray) = S := ⟨_, rfl⟩
  rw [hS0] at g0'
  go_enter Tryz.func7, Tryz.ntmps7
  go_upto_region 1 with fail
  rw [HW.out]
  go_wp2_with fail
  refine (HWD.out _).mono ?_
  rintro e w1 ⟨A, c1, rfl, hcl, hB1⟩
  obtain ⟨b, off, rfl, hb, hcc⟩ := hcl.at_ (by omega)
  have HB1 := Lib.hid (HB.out.trans (hB1.mono HB.out.size))
  have HR1 := Lib.hid (HR.out.below hB1 HR.out.lt)
  have p0 : w1.cell? ⟨b, off, none⟩ = some (.string S0) := by
    have := hcc 0 (by omega)
    rw [Nat.add_zero] at this
    rw [this, ← hS0]
    rfl
  have HP : Hid (∀ X, Below w1.heap.size w1 X → ∀ i, i < n → X.cell? ⟨b, off + i, none⟩ = some (.string ⟨(wsN l i).toArray⟩)) := Lib.hid fun X hX i hi => (hX.cell (p := ⟨b, off + i, none⟩) hb).trans (hcc i (by omega))
  clear hcl hB1 hcc HWD HB HR HW hS0
  obtain ⟨W2, hW2⟩ : ∃ W, w1.alloc (.cells zI 29) = W := ⟨_, rfl⟩
  have hb2 : Below w1.heap.size w1 W2 := by rw [← hW2]; exact (Below.refl _ _).alloc (Nat.le_refl _) _
  have r2 : RInst W2 w1.heap.size 0 0 0 0 := by rw [← hW2]; exact RowC.new _ _ _ _ rfl
  have HB2 := Lib.hid hb2
  have HR2 := Lib.hid r2
  have HW2 := Lib.hid hW2
  have HRR := Lib.hid (HR1.out.below hb2 HR1.out.lt)
  clear hb2 r2 hW2
  go_upto_region 14 with fail
  first | go_values | go_skip | go_step
  first | go_values | go_skip | go_step
  first | go_values | go_skip | go_step
  first | go_values | go_skip | go_step
  first | go_values | go_skip | go_step
  rename_i K1 hK1
  refine hK1 _ _ ?_
  refine wp_seq_k fun K hK => ?_
  rw [HW2.out]
  clear HW2 p0 g0' hK1
  go_cut [] from 14 to 105 (fun wx => RInst wx w1.heap.size 0 0 0 kk ∧ Below w1.heap.size w1 wx)
  case first => as_aux_lemma =>
    have hk3 : (n < 2 ∧ kk = 0) ∨ (2 ≤ n ∧ (numW 32 (digF (wsN l 1))).isSome = false ∧ kk = 0) ∨ (2 ≤ n ∧ numW 32 (digF (wsN l 1)) = some kk) := by
      have h := HKK.out
      unfold kD at h
      by_cases h2 : 2 ≤ n
      · rw [if_pos h2] at h
        cases hd : numW 32 (digF (wsN l 1)) with
        | none => rw [hd] at h; exact .inr (.inl ⟨h2, rfl, h.symm⟩)
        | some u =>
          rw [hd] at h
          obtain rfl : u = kk := h
          exact .inr (.inr ⟨h2, rfl⟩)
      · rw [if_neg h2] at h
        exact .inl ⟨by omega, h.symm⟩
    clear HKK HT HB4 hK
    rcases hk3 with ⟨h2, hz⟩ | ⟨h2, hno, hz⟩ | ⟨h2, hso⟩
    · have g2 : decide ((n : Int) ≥ 2) = false := decide_eq_false (by omega)
      clear HND HDG
      go_wp2_with fail
      go_meet
      exact ⟨by rw [hz]; exact HR2.out, HB2.out⟩
    · have g2 : decide ((n : Int) ≥ 2) = true := decide_eq_true (by omega)
      have p1 := HP.out W2 HB2.out 1 (by omega)
      rw [hno] at HND
      generalize (⟨(wsN l 1).toArray⟩ : ByteArray) = S1 at HDG p1
      generalize (⟨(digF (wsN l 1)).toArray⟩ : ByteArray) = S2 at HDG HND
      clear hno
      go_wp2_with fail
      refine (HDG.out _).mono ?_
      rintro e w3 ⟨rfl, rfl⟩
      go_wp2_with fail
      refine (HND.out _).mono ?_
      rintro e w4 ⟨⟨x1, rfl, hx1⟩, rfl⟩
      clear hx1 HND HDG
      go_wp2_with fail
      go_meet
      exact ⟨by rw [hz]; exact HR2.out, HB2.out⟩
    · have g2 : decide ((n : Int) ≥ 2) = true := decide_eq_true (by omega)
      have p1 := HP.out W2 HB2.out 1 (by omega)
      have HSO := Lib.hid hso
      rw [show (numW 32 (digF (wsN l 1))).isSome = true by rw [hso]; rfl] at HND
      generalize (⟨(wsN l 1).toArray⟩ : ByteArray) = S1 at HDG p1
      generalize (⟨(digF (wsN l 1)).toArray⟩ : ByteArray) = S2 at HDG HND
      have z3 := HR2.out.cell 3 _ rfl
      have y3 := HR2.out.frozen 3
      clear hso
      go_wp2_with fail
      refine (HDG.out _).mono ?_
      rintro e w3 ⟨rfl, rfl⟩
      go_wp2_with fail
      refine (HND.out _).mono ?_
      rintro e w4 ⟨⟨x1, rfl, hx1⟩, rfl⟩
      have hxe := Lib.hid (hx1 kk HSO.out)
      have hxl : x1 < 4294967296 := by have := hxe.out; omega
      have t4 : IntKind.u32.wrap (x1 : Int) = x1 := IntWalk.u32_in _ (by omega)
      clear hx1 HND HDG HSO
      go_wp2_with fail
      go_meet
      exact ⟨by rw [← hxe.out]; exact HR2.out.set 3 (.int .u32 x1), HB2.out.setCell (Nat.le_refl _) _⟩
  case rest =>
    obtain ⟨hru, hbu⟩ := hcut
    have HRU := Lib.hid hru
    have HBU := Lib.hid hbu
    have HRRU := Lib.hid (HR1.out.below hbu HR1.out.lt)
    have HLT := Lib.hid HR1.out.lt
    clear hru hbu HR2 HB2 HRR HND HDG HKK
    refine hK _ _ ?_
    refine wp_seq_k fun K2 hK2 => ?_
    clear hK
    go_cut [] from 14 to 135 (fun wx => ∃ tq fq : Nat, tq < 256 ∧ fq < 256 ∧ (((wsOf l).length = 4 ∧ numW 8 (wsN l 2) = some tq ∧ numW 8 (wsN l 3) = some fq) ∨ ((wsOf l).length ≠ 4 ∧ tq = 0 ∧ fq = 0)) ∧ RInst wx w1.heap.size 0 tq fq kk ∧ Below w1.heap.size w1 wx)
    case first => as_aux_lemma =>
      clear hK2
      by_cases h4 : n = 4
      · have g4 : ((n : Int) == 4) = true := beq_iff_eq.2 (by omega)
        have p2 := HP.out _ HBU.out 2 (by omega)
        have p3 := HP.out _ HBU.out 3 (by omega)
        have HN2 := Lib.hid (HN.out 2 8 (.inl rfl))
        have HN3 := Lib.hid (HN.out 3 8 (.inl rfl))
        obtain ⟨o2, ho2⟩ : ∃ o, numW 8 (wsN l 2) = o := ⟨_, rfl⟩
        obtain ⟨o3, ho3⟩ : ∃ o, numW 8 (wsN l 3) = o := ⟨_, rfl⟩
        have HO := Lib.hid (And.intro ho2 ho3)
        rw [ho2] at HN2
        rw [ho3] at HN3
        generalize (⟨(wsN l 2).toArray⟩ : ByteArray) = S2 at HN2 p2
        generalize (⟨(wsN l 3).toArray⟩ : ByteArray) = S3 at HN3 p3
        clear ho2 ho3
        have z0 := HRRU.out.cell 0 _ rfl
        have z1 := HRRU.out.cell 1 _ rfl
        have z2 := HRRU.out.cell 2 _ rfl
        have z3 := HRRU.out.cell 3 _ rfl
        have y0 := HRRU.out.frozen 0
        have y1 := HRRU.out.frozen 1
        have y2 := HRRU.out.frozen 2
        have y3 := HRRU.out.frozen 3
        have i1 := HRU.out.cell 1 _ rfl
        have i2 := HRU.out.cell 2 _ rfl
        have j1 := HRU.out.frozen 1
        have j2 := HRU.out.frozen 2
        have gq2 : (2 : Int) < (n : Int) := by omega
        have gq3 : (3 : Int) < (n : Int) := by omega
        have H4 := Lib.hid h4
        clear h4
        have hcase : (∃ tq fq, o2 = some tq ∧ o3 = some fq) ∨ (o2.isSome = false ∨ (o2.isSome = true ∧ o3.isSome = false)) := by
          cases o2 with
          | none => exact .inr (.inl rfl)
          | some tq => cases o3 with
            | none => exact .inr (.inr ⟨rfl, rfl⟩)
            | some fq => exact .inl ⟨tq, fq, rfl, rfl⟩
        rcases hcase with ⟨tq, fq, e2, e3⟩ | hbad
        · have b2 : tq < 256 := numW_lt (.inl rfl) (HO.out.1.trans e2)
          have b3 : fq < 256 := numW_lt (.inl rfl) (HO.out.2.trans e3)
          have HFN : Hid ((wsOf l).length = 4 ∧ numW 8 (wsN l 2) = some tq ∧ numW 8 (wsN l 3) = some fq) := Lib.hid ⟨by have := HNE.out; have := H4.out; omega, HO.out.1.trans e2, HO.out.2.trans e3⟩
          rw [e2] at HN2
          rw [e3] at HN3
          clear HO e2 e3
          go_wp2_with fail
          refine (HN2.out _).mono ?_
          rintro e w3 ⟨⟨x2, rfl, hx2⟩, rfl⟩
          have hx2' := Lib.hid (hx2 tq rfl)
          clear hx2
          go_wp2_with fail
          refine (HN3.out _).mono ?_
          rintro e w4 ⟨⟨x3, rfl, hx3⟩, rfl⟩
          have hx3' := Lib.hid (hx3 fq rfl)
          clear hx3
          have l2 : x2 < 256 := by have := hx2'.out; omega
          have l3 : x3 < 256 := by have := hx3'.out; omega
          have t2 : IntKind.u8.wrap (x2 : Int) = x2 := IntWalk.u8_in _ (by omega)
          have t3 : IntKind.u8.wrap (x3 : Int) = x3 := IntWalk.u8_in _ (by omega)
          clear HN2 HN3
          go_wp2_with fail
          go_meet
          exact ⟨tq, fq, b2, b3, .inl HFN.out, by rw [← hx2'.out, ← hx3'.out]; exact (HRU.out.set 1 (.int .u8 x2)).set 2 (.int .u8 x3), (HBU.out.setCell (Nat.le_refl _) _).setCell (Nat.le_refl _) _⟩
        · have HA : Hid (RefA l (.returned (.tuple #[.agg zI, .int .i64 13]))) := Lib.hid (HB4.out (by have := HNE.out; have := H4.out; omega) (by
            rw [HO.out.1, HO.out.2]
            rcases hbad with h | ⟨_, h⟩
            · exact .inl (by simpa using h)
            · exact .inr (by simpa using h)))
          obtain ⟨x2b, hx2b⟩ : ∃ x, o2.isSome = x := ⟨_, rfl⟩
          obtain ⟨x3b, hx3b⟩ : ∃ x, o3.isSome = x := ⟨_, rfl⟩
          rw [hx2b] at HN2 hbad
          rw [hx3b] at HN3 hbad
          clear HO hx2b hx3b HP HT HB4 HN
          rcases hbad with rfl | ⟨rfl, rfl⟩
          all_goals
            go_wp2_with fail
            refine (HN2.out _).mono ?_
            rintro e w3 ⟨⟨x2, rfl, hx2⟩, rfl⟩
            clear hx2
            go_wp2_with fail
            refine (HN3.out _).mono ?_
            rintro e w4 ⟨⟨x3, rfl, hx3⟩, rfl⟩
            clear hx3
            go_wp2
            exact bodyPost_ret (ref_res (ref_zero HRRU.out) (by rfl) (by rfl)) rfl ⟨HA.out, below4 (HB1.out.trans (HBU.out.mono HB1.out.size)) _ _ _ _⟩
      · have g4 : ((n : Int) == 4) = false := beq_eq_false_iff_ne.2 (by omega)
        go_wp2_with fail
        go_meet
        exact ⟨0, 0, by decide, by decide, .inr ⟨by have := HNE.out; omega, rfl, rfl⟩, HRU.out, HBU.out⟩
    case rest =>
      obtain ⟨tq, fq, b2, b3, htf, hrv, hbv⟩ := hcut
      have HFN := Lib.hid (HT.out tq fq htf)
      have HRV := Lib.hid hrv
      have HBV := Lib.hid hbv
      have HRRV := Lib.hid (HR1.out.below hbv HR1.out.lt)
      clear htf hrv hbv HRU HBU HRRU HT HB4 HN
      refine hK2 _ _ ?_
      clear hK2
      have HFA := Lib.hid HFN.out.1
      have HFB := Lib.hid HFN.out.2
      clear HFN
      go_wp2
      go_loopw [20] (fun i wr => ∃ q : Nat, q ≤ 256 ∧ i = .int .i64 q ∧ (∀ c, c < q → wsOf (lineL c tq fq kk) ≠ wsOf l) ∧ (∃ z : Nat, RInst wr w1.heap.size z tq fq kk) ∧ RInst wr w.heap.size 0 0 0 0 ∧ Below w1.heap.size w1 wr) (fun i _ => 256 - (intOf i).toNat)
      case atStart => exact ⟨0, by omega, rfl, fun c h => by omega, ⟨0, HRV.out⟩, HRRV.out, HBV.out⟩
      case round => as_aux_lemma =>
        obtain ⟨q, hq, rfl, hno, ⟨z, hI⟩, hR, hB⟩ := hrel
        have HI := Lib.hid hI
        have HRW := Lib.hid hR
        have HBW := Lib.hid hB
        have HNO := Lib.hid hno
        clear hno hI hR hB HRV HBV HRRV
        by_cases hlt : q < 256
        · have g2 : (q : Int) < 256 := by omega
          have t1 : IntKind.u16.wrap (q : Int) = q := IntWalk.u16_in _ (by omega)
          have i0 := HI.out.cell 0 _ rfl
          have j0 := HI.out.frozen 0
          obtain ⟨V3, hV3⟩ : ∃ V, wr.setCell ⟨w1.heap.size, 0, none⟩ (.int .u16 q) = V := ⟨_, rfl⟩
          have HI3 : Hid (RInst V3 w1.heap.size q tq fq kk) := Lib.hid (by rw [← hV3]; exact HI.out.set 0 (.int .u16 q))
          have HRW3 : Hid (RInst V3 w.heap.size 0 0 0 0) := Lib.hid (by rw [← hV3]; exact HRW.out.setOther 0 _ (Nat.ne_of_lt HLT.out))
          have HBW3 : Hid (Below w1.heap.size w1 V3) := Lib.hid (by rw [← hV3]; exact HBW.out.setCell (Nat.le_refl _) _)
          have HV3 := Lib.hid hV3
          clear hV3
          go_upto_region 29 with fail
          rw [HV3.out]
          clear HV3 i0 j0 HI HRW HBW
          have k0 := HI3.out.cell 0 _ rfl
          have k1 := HI3.out.cell 1 _ rfl
          have k2 := HI3.out.cell 2 _ rfl
          have k3 := HI3.out.cell 3 _ rfl
          have HLN := Lib.hid fun X => refLine3 q tq fq kk (by omega) b2 b3 hkl X
          have hll := line_len q tq fq kk (by omega) b2 b3 hkl
          obtain ⟨O, hO⟩ : ∃ O, lineL q tq fq kk = O := ⟨_, rfl⟩
          rw [hO] at HLN hll
          have HWO : Hid (∀ X, Calls Tryz.prog 16 #[.string ⟨O.toArray⟩] X fun e w' => ∃ A c, e = .returned (.slice A (wsOf O).length c) ∧ Cel w' w'.heap.size 1 A (wsOf O).length c (scell (wsOf O)) ∧ Below X.heap.size X w') := Lib.hid fun X => by
            have h := refWords_any ⟨O.toArray⟩ (by show O.toArray.size ≤ _; simp; omega) X
            rw [show (⟨O.toArray⟩ : ByteArray).data.toList = O by simp] at h
            exact h
          have HOE := Lib.hid hO
          clear hO hll
          go_wp2_with fail
          refine (HLN.out _).mono ?_
          rintro e w4 ⟨rfl, hB4⟩
          have HB4' := Lib.hid (HBW3.out.trans (hB4.mono HBW3.out.size))
          have HI4 := Lib.hid (HI3.out.below hB4 HI3.out.lt)
          have HR4 := Lib.hid (HRW3.out.below hB4 HRW3.out.lt)
          clear hB4 HI3 HRW3 HBW3 k0 k1 k2 k3 HLN
          go_wp2_with fail
          refine (HWO.out _).mono ?_
          rintro e w5 ⟨A5, c5, rfl, hcl, hB5⟩
          have HB5 := Lib.hid (HB4'.out.trans (hB5.mono HB4'.out.size))
          have HI5 := Lib.hid (HI4.out.below hB5 HI4.out.lt)
          have HR5 := Lib.hid (HR4.out.below hB5 HR4.out.lt)
          have HCL : Hid ((wsOf O).length = n → ∃ b5 off5, A5 = some ⟨b5, off5, none⟩ ∧ b5 < w5.heap.size ∧ ∀ i, i < n → w5.cell? ⟨b5, off5 + i, none⟩ = some (.string ⟨(wsN O i).toArray⟩)) := Lib.hid fun h => by
            obtain ⟨b5, off5, e5, h5, hc5⟩ := hcl.at_ (by omega)
            exact ⟨b5, off5, e5, h5, fun i hi => hc5 i (by omega)⟩
          have HSAME : Hid ((wsOf O).length = n → (∀ i, i < n → wsN O i = wsN l i) → wsOf O = wsOf l) := Lib.hid fun h1 h2 => wsN_list HNE.out h1 h2
          have HDIFF : Hid (((wsOf O).length ≠ n ∨ ∃ i, i < n ∧ wsN O i ≠ wsN l i) → wsOf O ≠ wsOf l) := Lib.hid fun h e => by
            rcases h with h | ⟨i, _, h⟩
            · exact h (by rw [e]; exact HNE.out)
            · exact h (by unfold wsN; rw [e])
          clear hcl hB5 HB4' HI4 HR4 HWO
          obtain ⟨m, hm⟩ : ∃ m, (wsOf O).length = m := ⟨_, rfl⟩
          rw [hm] at HCL HSAME HDIFF ⊢
          clear hm
          go_upto_region 30 with fail
          go_cut [22] from 145 to 156 (fun sv wx => ∃ bl : Bool, sv = .bool bl ∧ (bl = true → m = n) ∧ (bl = false → wsOf O ≠ wsOf l) ∧ wx = w5)
          case first => as_aux_lemma =>
            have hst : m ≠ n ∨ (m = n ∧ wsN O 0 = codeT) ∨ (m = n ∧ wsN O 0 ≠ codeT) := by
              by_cases h : m = n
              · by_cases h2 : wsN O 0 = codeT
                · exact .inr (.inl ⟨h, h2⟩)
                · exact .inr (.inr ⟨h, h2⟩)
              · exact .inl h
            rcases hst with hne | ⟨he, hc0⟩ | ⟨he, hc0⟩
            · have g3 : ((m : Int) == (n : Int)) = false := beq_eq_false_iff_ne.2 (by omega)
              have HS0 : Hid (wsOf O ≠ wsOf l) := Lib.hid (HDIFF.out (.inl hne))
              clear hne
              go_wp2_with fail
              go_meet
              exact ⟨false, rfl, (fun h => by cases h), fun _ => HS0.out, by trivial⟩
            · obtain ⟨b5, off5, rfl, h5, hc5⟩ := HCL.out he
              have g3 : ((m : Int) == (n : Int)) = true := beq_iff_eq.2 (by omega)
              have x0 : w5.cell? ⟨b5, off5, none⟩ = some (.string ⟨#[46, 99, 111, 100, 101]⟩) := by
                have := hc5 0 (by omega)
                rw [Nat.add_zero, hc0] at this
                exact this
              have HS0 : Hid (wsOf O ≠ wsOf l) := Lib.hid (HDIFF.out (.inr ⟨0, by omega, by rw [hc0]; exact fun h => HCD.out h.symm⟩))
              have g5 : (0 : Int) < (m : Int) := by omega
              clear hc0 hc5
              go_wp2_with fail
              go_meet
              exact ⟨false, rfl, (fun h => by cases h), fun _ => HS0.out, by trivial⟩
            · obtain ⟨b5, off5, rfl, h5, hc5⟩ := HCL.out he
              have HEQ := Lib.hid he
              have g3 : ((m : Int) == (n : Int)) = true := beq_iff_eq.2 (by omega)
              have x0 : w5.cell? ⟨b5, off5, none⟩ = some (.string ⟨(wsN O 0).toArray⟩) := by
                have := hc5 0 (by omega)
                rw [Nat.add_zero] at this
                exact this
              have g6 : ((⟨(wsN O 0).toArray⟩ : ByteArray).toList == [46, 99, 111, 100, 101]) = false := by
                have := eqL_false (y := codeT) hc0
                rw [Lib.toList_data (⟨codeT.toArray⟩ : ByteArray)] at this
                simpa [codeT] using this
              generalize (⟨(wsN O 0).toArray⟩ : ByteArray) = SO at x0 g6
              have g5 : (0 : Int) < (m : Int) := by omega
              clear hc0 hc5 he
              go_wp2_with fail
              go_meet
              exact ⟨true, rfl, (fun _ => HEQ.out), (fun h => by cases h), by trivial⟩
          case rest =>
            obtain ⟨b0, rfl, hb01, hb02, rfl⟩ := hcut
            have HB01 := Lib.hid (And.intro hb01 hb02)
            clear hb01 hb02
            rename_i KX hKX
            refine hKX _ _ ?_
            go_wp2
            go_loopw [22, 23] (fun v i wr2 => ∃ (p : Nat) (b : Bool), p ≤ n ∧ v = .bool b ∧ i = .int .i64 p ∧ (b = true → m = n ∧ ∀ i, i < p → wsN O i = wsN l i) ∧ (b = false → wsOf O ≠ wsOf l) ∧ Below wc.heap.size wc wr2) (fun _ i _ => n - (intOf i).toNat)
            case atStart => exact ⟨0, b0, by omega, rfl, rfl, (fun h => ⟨HB01.out.1 h, fun i h => by omega⟩), HB01.out.2, Below.refl _ _⟩
            case round => as_aux_lemma =>
              obtain ⟨p, bl, hpn, rfl, rfl, hbt, hbf, hbq⟩ := hrel
              have HBQ := Lib.hid hbq
              have HI6 := Lib.hid (HI5.out.below hbq HI5.out.lt)
              have HR6 := Lib.hid (HR5.out.below hbq HR5.out.lt)
              have HB6 := Lib.hid (HB5.out.trans (hbq.mono HB5.out.size))
              clear hbq
              have HBT := Lib.hid hbt
              have HBF := Lib.hid hbf
              clear hbt hbf HB01
              cases bl with
              | true =>
                by_cases hlp : p < n
                · have g3 : (p : Int) < (n : Int) := by omega
                  have g4 : (0 : Int) ≤ (p : Int) := by omega
                  obtain ⟨he, hall⟩ := HBT.out rfl
                  obtain ⟨b5, off5, rfl, h5, hc5⟩ := HCL.out he
                  have g5 : (p : Int) < (m : Int) := by omega
                  have c5a := (HBQ.out.cell (p := ⟨b5, off5 + p, none⟩) h5).trans (hc5 p hlp)
                  have c5b := HP.out _ HB6.out p hlp
                  have HNX : Hid (wsN O p = wsN l p → ∀ i, i < p + 1 → wsN O i = wsN l i) := Lib.hid fun h i hi => by
                    rcases Nat.lt_succ_iff_lt_or_eq.1 hi with h1 | rfl
                    · exact hall i h1
                    · exact h
                  have HEQ := Lib.hid he
                  obtain ⟨bb, hbb⟩ : ∃ bb : Bool, ((⟨(wsN O p).toArray⟩ : ByteArray).toList == (⟨(wsN l p).toArray⟩ : ByteArray).toList) = bb := ⟨_, rfl⟩
                  have HBB : Hid ((bb = true → wsN O p = wsN l p) ∧ (bb = false → wsOf O ≠ wsOf l)) := Lib.hid (by
                    constructor
                    · intro h
                      rcases Classical.em (wsN O p = wsN l p) with h2 | h2
                      · exact h2
                      · rw [eqL_false h2] at hbb; rw [h] at hbb; cases hbb
                    · intro h
                      refine HDIFF.out (.inr ⟨p, hlp, fun h2 => ?_⟩)
                      rw [h2, eqL_true, h] at hbb
                      cases hbb)
                  generalize (⟨(wsN O p).toArray⟩ : ByteArray) = SO at c5a hbb
                  generalize (⟨(wsN l p).toArray⟩ : ByteArray) = SL at c5b hbb
                  clear hall hc5 he
                  go_upto_region 34 with fail
                  go_region_held3 (fun w' => w'.cell? ⟨b5, off5 + p, none⟩ = some (.string SO) ∧ w'.cell? ⟨b, off + p, none⟩ = some (.string SL)) (exact ⟨c5a, c5b⟩) (fail)
                  all_goals go_wp2
                  all_goals exact ⟨⟨p + 1, bb, by omega, rfl, by go_num, (fun h => ⟨HEQ.out, HNX.out (HBB.out.1 h)⟩), HBB.out.2, (by first | exact HBQ.out.drew | exact HBQ.out | exact bdn HBQ.out _)⟩, by simp [intOf]; omega⟩
                · obtain rfl : p = n := by omega
                  have g3 : ¬ (p : Int) < (p : Int) := by omega
                  obtain ⟨he, hall⟩ := HBT.out rfl
                  have HA := Lib.hid (HFA.out q hlt (by rw [HOE.out]; exact HSAME.out he hall))
                  have k0 := HI6.out.cell 0 _ rfl
                  have k1 := HI6.out.cell 1 _ rfl
                  have k2 := HI6.out.cell 2 _ rfl
                  have k3 := HI6.out.cell 3 _ rfl
                  have z0 := HR6.out.cell 0 _ rfl
                  have z1 := HR6.out.cell 1 _ rfl
                  have z2 := HR6.out.cell 2 _ rfl
                  have z3 := HR6.out.cell 3 _ rfl
                  have y0 := HR6.out.frozen 0
                  have y1 := HR6.out.frozen 1
                  have y2 := HR6.out.frozen 2
                  have y3 := HR6.out.frozen 3
                  clear hall he HFA HFB HNO HP HCL HSAME HDIFF HBT HBF
                  go_wp2
                  exact bodyPost_ret (ref_res (ref_four HR6.out) (by rfl) (by rfl)) rfl ⟨HA.out, below4 (HB1.out.trans (HB6.out.mono HB1.out.size)) _ _ _ _⟩
              | false =>
                have HN2 : Hid (∀ c, c < q + 1 → wsOf (lineL c tq fq kk) ≠ wsOf l) := Lib.hid fun c hc => by
                  rcases Nat.lt_succ_iff_lt_or_eq.1 hc with h1 | rfl
                  · exact HNO.out c h1
                  · rw [HOE.out]; exact HBF.out rfl
                clear HFA HFB HP HCL HSAME HDIFF HBT HBF HNO
                have hgx : ((p : Int) < (n : Int)) ∨ ¬ ((p : Int) < (n : Int)) := by omega
                rcases hgx with hgx | hgx
                all_goals
                  go_wp2
                  exact ⟨⟨q + 1, by omega, by go_num, HN2.out, ⟨q, HI6.out⟩, HR6.out, HB6.out⟩, by simp [intOf]; omega⟩
        · obtain rfl : q = 256 := by omega
          have HA := Lib.hid (HFB.out HNO.out)
          have z0 := HRW.out.cell 0 _ rfl
          have z1 := HRW.out.cell 1 _ rfl
          have z2 := HRW.out.cell 2 _ rfl
          have z3 := HRW.out.cell 3 _ rfl
          have y0 := HRW.out.frozen 0
          have y1 := HRW.out.frozen 1
          have y2 := HRW.out.frozen 2
          have y3 := HRW.out.frozen 3
          clear HI HFA HFB HNO HP
          go_wp2
          exact bodyPost_ret (ref_res (ref_zero HRW.out) (by rfl) (by rfl)) rfl ⟨HA.out, below4 (HB1.out.trans (HBW.out.mono HB1.out.size)) _ _ _ _⟩
end Go.Proofs.YtebeoadmdflfcaaGreatDoor
