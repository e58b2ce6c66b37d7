/-
  Layer 16: the document's normal form of a policy.
-/
import Derived.Test.YtcembcicpmhpkaaGreatDoorMx
import Derived.RegionTactic
import Derived.Deep.LoopGhost
import Derived.Deep.Cut
import Derived.Deep.CutRange
namespace Go.Proofs.YtcembcicpmhpkaaGreatDoor
open Go.RowKit Go.Shelf Go.Maps
set_option linter.unusedVariables false

set_option maxRecDepth 100000 in
set_option maxHeartbeats 16000000 in
theorem refPolicy_any (k u : Int) (x : Bool) (A : Option Addr) (n c : Nat) (R : Nat → RL) (w : World) (hn : n ≤ 500) (hri : ∀ i, i < n → RiR (R i)) (hR : RlA w A n R) :
    Calls Tryz.prog 25 #[.agg (polA k u x A n c)] w fun e w' => ∃ A' c' l', e = .returned (.agg (polA k u x A' l'.length c')) ∧ RlE w' A' l' ∧ l'.map RL.val = nP k u ((List.range n).map fun i => (R i).val) ∧ Below w.heap.size w w' := by
  obtain ⟨B, hBs⟩ : ∃ B, w.heap.size = B := ⟨_, rfl⟩
  obtain ⟨W0, hW0⟩ : ∃ W, (w.alloc (.cells (polA k u x A n c) 26)).alloc (.cells zPo 26) = W := ⟨_, rfl⟩
  have hs0 : W0.heap.size = B + 2 := by rw [← hW0, ← hBs]; simp
  have hB0 : Below B w W0 := by rw [← hW0, ← hBs]; exact ((Below.refl _ _).alloc (Nat.le_refl _) _).alloc (by simp) _
  have HP0 := Lib.hid (show RowC W0 B (polA k u x A n c) 26 by rw [← hW0, ← hBs]; exact (RowC.new _ _ _ _ rfl).alloc _)
  have HR0 := Lib.hid (show RowC W0 (B + 1) zPo 26 by rw [← hW0, ← hBs]; exact RowC.new _ _ _ _ (by simp))
  have HRL := Lib.hid (hR.below hB0 (by rw [hBs]; exact Nat.le_refl _))
  obtain ⟨W2, hW2⟩ : ∃ W, (W0.alloc (.cells (polA k u x none 0 0) 26)).alloc (.cells (boolRow n fun _ => false) 4) = W := ⟨_, rfl⟩
  have hs2 : W2.heap.size = B + 4 := by rw [← hW2]; simp [hs0]
  have HPW := Lib.hid (show PW W0 B k u x n (fun i => (R i).val) [] (fun _ => false) none [] 0 W2 from {
    out := by rw [← hW2]; exact (RowC.new _ _ _ _ hs0.symm).alloc _
    don := by rw [← hW2]; exact RowC.new _ _ _ _ (by simp [hs0])
    row := RowE.nil_ _ _
    low := by rw [← hW2]; exact ((Below.refl _ _).alloc (by omega) _).alloc (by simp; omega) _
    pick := PickI.start _ _
    val := rfl
    len := Nat.zero_le _
    cnt := by rw [left_all]; simp })
  have HB0 := Lib.hid hB0
  have HW := Lib.hid hW0
  have HW2 := Lib.hid hW2
  have HBS := Lib.hid hBs
  have HS := Lib.hid hs0
  have HS2 := Lib.hid hs2
  have HRI := Lib.hid hri
  have hmk := mk_bools n (by omega)
  have p0 := HP0.out.cell 0 (.int .i64 k) rfl
  have p1 := HP0.out.cell 1 (.int .i64 u) rfl
  have p2 := HP0.out.cell 2 (.bool x) rfl
  have p3 := fun ob => (HP0.out.alloc ob).cell 3 (.slice A n c) rfl
  clear hW0 hBs hs0 hB0 hR hW2 hs2 hri
  go_enter Tryz.func25, Tryz.ntmps25
  go_upto_region 1 with fail
  rw [HW.out, HBS.out]
  go_wp2
  rw [HS.out]
  rw [show B + 2 + 1 = B + 3 from rfl]
  have e2 : (W0.alloc (.cells #[.int .i64 k, .int .i64 u, .bool x, .slice none 0 0] 26)).alloc (.cells (boolRow n fun _ => false) 4) = W2 := HW2.out
  rw [e2]
  clear e2 hmk p0 p1 p2 p3
  go_loopw [] (fun wr => ∃ ss D A' l' c', Hid (PW W0 B k u x n (fun i => (R i).val) ss D A' l' c' wr)) (fun wr => leftW wr (B + 3) n)
  case atStart => exact ⟨[], _, none, [], 0, HPW⟩
  case round => as_aux_lemma =>
    obtain ⟨ss, D, A', l', c', HI⟩ := hrel
    have HI0 := HI
    go_wp2
    go_loopw [5, 6] (fun at6 i wq => ∃ (q : Nat) (o : Option Nat), q ≤ n ∧ i = .int .i64 q ∧ at6 = atV o ∧ Hid (LeastI (fun i => (R i).val.key) D q o ∧ PW W0 B k u x n (fun i => (R i).val) ss D A' l' c' wq)) (fun _ i _ => n - (intOf i).toNat)
    case atStart => exact ⟨0, none, Nat.zero_le _, rfl, rfl, Lib.hid ⟨fun i hi => absurd hi (Nat.not_lt_zero _), HI.out⟩⟩
    case round => as_aux_lemma =>
      rename_i wr
      obtain ⟨q, o, hq, rfl, rfl, HJ⟩ := hrel
      have hRq := HRL.out.below HJ.out.2.low (by rw [HS.out]; exact Nat.le_refl _)
      have p3 := (HP0.out.below HJ.out.2.low (by omega)).cell 3 (.slice A n c) rfl
      by_cases hlt : q < n
      · rcases hRq with h0 | ⟨bb, o5, rfl, hbl, hcs⟩
        · omega
        have d0 := HJ.out.2.don.cell q _ (boolRow_at n D q hlt)
        obtain ⟨q0, _⟩ := hcs q hlt
        rw [Nat.add_zero] at q0
        have i1 : (0 : Int) ≤ (q : Int) := by omega
        have i2 : (q : Int) < (n : Int) := by omega
        rcases hd : D q with _ | _
        · rw [hd] at d0
          rcases o with _ | a
          · clear hcs
            simp only [atV]
            go_wp2_with fail
            go_quiet (fail)
            go_wp2
            exact ⟨⟨q + 1, some q, by omega, by go_num, rfl, Lib.hid ⟨HJ.out.1.first hd, HJ.out.2.below (bdn (Below.refl _ _) nq)⟩⟩, by simp [intOf]; omega⟩
          · have ha := HJ.out.1.1
            obtain ⟨a0, _⟩ := hcs a (by omega)
            rw [Nat.add_zero] at a0
            have j0 : ¬ (a : Int) < 0 := by omega
            have j1 : (0 : Int) ≤ (a : Int) := by omega
            have j2 : (a : Int) < (n : Int) := by omega
            have hbe := bytesLess_eq (R q).nm.toList (R a).nm.toList
            obtain ⟨nq1, hnq1⟩ : ∃ s, (R q).nm = s := ⟨_, rfl⟩
            obtain ⟨na1, hna1⟩ : ∃ s, (R a).nm = s := ⟨_, rfl⟩
            have HBE := Lib.hid (show Op.bytesLess nq1.toList na1.toList = decide ((R q).val.key < (R a).val.key) by
              rw [← hnq1, ← hna1, hbe]
              show decide (_ < _) = decide ((R q).nm.data.toList < (R a).nm.data.toList)
              rw [ByteArray.toList_eq, ByteArray.toList_eq])
            rw [hnq1] at q0
            rw [hna1] at a0
            obtain ⟨bl, hbl1⟩ : ∃ bl, Op.bytesLess nq1.toList na1.toList = bl := ⟨_, rfl⟩
            rw [hbl1] at HBE
            clear hcs hbe hnq1 hna1
            simp only [atV]
            cases bl with
            | true =>
              go_wp2_with fail
              go_quiet (fail)
              go_wp2
              exact ⟨⟨q + 1, some q, by omega, by go_num, rfl, Lib.hid ⟨HJ.out.1.less hd (of_decide_eq_true HBE.out.symm), HJ.out.2.below (bdn (Below.refl _ _) nq)⟩⟩, by simp [intOf]; omega⟩
            | false =>
              go_wp2_with fail
              go_quiet (fail)
              go_wp2
              exact ⟨⟨q + 1, some a, by omega, by go_num, rfl, Lib.hid ⟨HJ.out.1.keep (of_decide_eq_false HBE.out.symm), HJ.out.2.below (bdn (Below.refl _ _) nq)⟩⟩, by simp [intOf]; omega⟩
        · rw [hd] at d0
          clear hcs
          go_wp2_with fail
          go_quiet (fail)
          go_wp2
          exact ⟨⟨q + 1, o, by omega, by go_num, rfl, Lib.hid ⟨HJ.out.1.skip hd, HJ.out.2.below (bdn (Below.refl _ _) nq)⟩⟩, by simp [intOf]; omega⟩
      · have HQN := Lib.hid (show q = n by omega)
        have i2 : ¬ (q : Int) < (n : Int) := by omega
        rcases o with _ | a
        · have hO := HJ.out.2.out
          have hRz := HR0.out.below HJ.out.2.low (by omega)
          have HO := Lib.hid hO
          have HRz := Lib.hid hRz
          have o0 := hO.cell 0 (.int .i64 k) rfl
          have o1 := hO.cell 1 (.int .i64 u) rfl
          have o2 := hO.cell 2 (.bool x) rfl
          have o3 := hO.cell 3 (.slice A' l'.length c') rfl
          have z0 := hRz.cell 0 (.int .i64 0) rfl
          have z1 := hRz.cell 1 (.int .i64 0) rfl
          have z2 := hRz.cell 2 (.bool false) rfl
          have z3 := hRz.cell 3 (.slice none 0 0) rfl
          have y0 := hRz.frozen 0
          have y1 := hRz.frozen 1
          have y2 := hRz.frozen 2
          have y3 := hRz.frozen 3
          clear hO hRz hRq
          simp only [atV]
          go_wp2
          have s0 := HRz.out.set 0 (.int .i64 k)
          have s1 := s0.set 1 (.int .i64 u)
          have s2 := s1.set 2 (.bool x)
          have s3 := s2.set 3 (.slice A' l'.length c')
          have hrow := (((HJ.out.2.row.setLow HRz.out.ty (by decide) (by decide) 0 (.int .i64 k)).setLow s0.ty (by decide) (by decide) 1 (.int .i64 u)).setLow s1.ty (by decide) (by decide) 2 (.bool x)).setLow s2.ty (by decide) (by decide) 3 (.slice A' l'.length c')
          exact bodyPost_ret (results_cN Tryz.results25 _ _ (B + 1) _ (polA k u x A' l'.length c') (0, 0) _ (by rfl) (show RowC _ (B + 1) (polA k u x A' l'.length c') 26 from s3) Tryz.underlying26 (by rfl) infoP14) rfl
            ⟨A', c', l', rfl, hrow.rl, by rw [HJ.out.2.val]; exact pick_end HJ.out.2.pick (by rw [← HQN.out]; exact HJ.out.1) k u _ (fun _ _ => rfl), by rw [HBS.out]; exact ((((HB0.out.trans (HJ.out.2.low.mono (by omega))).setCell (Nat.le_succ _) _).setCell (Nat.le_succ _) _).setCell (Nat.le_succ _) _).setCell (Nat.le_succ _) _⟩
        · have ha := HJ.out.1.1
          rcases hRq with h0 | ⟨bb, o5, rfl, hbl, hcs⟩
          · omega
          obtain ⟨a0, _⟩ := hcs a (by omega)
          rw [Nat.add_zero] at a0
          have j0 : ¬ (a : Int) < 0 := by omega
          have j1 : (0 : Int) ≤ (a : Int) := by omega
          have j2 : (a : Int) < (n : Int) := by omega
          have HLE := Lib.hid (show LeastI (fun i => (R i).val.key) D n (some a) by rw [← HQN.out]; exact HJ.out.1)
          obtain ⟨na, hna⟩ : ∃ na, (R a).nm = na := ⟨_, rfl⟩
          rw [hna] at a0
          have HNA := Lib.hid (show (R a).val.key = na.data.toList by rw [← hna]; rfl)
          have HW7 := Lib.hid HJ.out.2
          clear hcs hna
          simp only [atV]
          go_wp2
          go_loopw [8, 9] (fun lv iv wq => ∃ (p : Nat) (A2 : Option Addr) (l2 : List RL) (c2 : Nat), p ≤ n ∧ lv = .slice A2 l2.length c2 ∧ iv = .int .i64 p ∧ Hid (PM W0 B k u x n a p (fun i => (R i).val) D A' l' c' A2 l2 c2 wq)) (fun _ iv _ => n - (intOf iv).toNat)
          case atStart =>
            refine ⟨0, none, [], 0, Nat.zero_le _, rfl, rfl, Lib.hid { out := HW7.out.out, don := ?_, row := HW7.out.row, low := HW7.out.low, row2 := RowE.nil_ _ _, apart := fun g hg => (by cases hg), val2 := rfl, len2 := Nat.le_refl _ }⟩
            have e : (fun i => D i || (decide (i < 0) && ((R i).val.key == (R a).val.key))) = D := funext fun i => by simp
            rw [e]
            exact HW7.out.don
          case round => as_aux_lemma =>
            obtain ⟨p, A2, l2, c2, hp, rfl, rfl, HM⟩ := hrel
            have hRp := HRL.out.below HM.out.low (by rw [HS.out]; exact Nat.le_refl _)
            have p3 := (HP0.out.below HM.out.low (by omega)).cell 3 (.slice (some ⟨bb, o5, none⟩) n c) rfl
            by_cases hlp : p < n
            · rcases hRp with h0 | ⟨bb', o5', he5, hbl5, hcs⟩
              · omega
              obtain ⟨rfl, rfl⟩ : bb = bb' ∧ o5 = o5' := by simpa using he5
              obtain ⟨r0, r1, r2, r3, rw1, rw2, rw3, rw4, rw5, rC⟩ := hcs p hlp
              rw [Nat.add_zero] at r0
              have k1 : (0 : Int) ≤ (p : Int) := by omega
              have k2 : (p : Int) < (n : Int) := by omega
              obtain ⟨rp, hrp⟩ : ∃ rp, R p = rp := ⟨_, rfl⟩
              rw [hrp] at r0 r1 r2 r3 rw1 rw2 rw3 rw4 rw5 rC
              have HRP := Lib.hid hrp
              obtain ⟨nm, k1r, u1r, A1, n1, c1, C1⟩ := rp
              simp only at r0 r1 r2 r3 rw1 rw2 rw3 rw4 rw5 rC
              have HKEY := Lib.hid (show ((R p).val.key == (R a).val.key) = (nm.toList == na.toList) by
                rw [hrp, HNA.out]
                show (nm.data.toList == na.data.toList) = _
                rw [ByteArray.toList_eq, ByteArray.toList_eq])
              obtain ⟨bE, hbE⟩ : ∃ bE, (nm.toList == na.toList) = bE := ⟨_, rfl⟩
              rw [hbE] at HKEY
              clear hcs hbl5 he5 hrp a0
              cases bE with
              | false =>
                go_wp2
                exact ⟨⟨p + 1, A2, l2, c2, by omega, rfl, by go_num, Lib.hid (HM.out.pass HKEY.out)⟩, by simp [intOf]; omega⟩
              | true =>
                have dz := HM.out.don.cell p _ (boolRow_at n _ p hlp)
                have df := HM.out.don.frozen p
                obtain ⟨W3, hW3⟩ : ∃ W, wr.setCell ⟨B + 3, p, none⟩ (.bool true) = W := ⟨_, rfl⟩
                have hlow3 : Below (B + 2) W0 W3 := by rw [← hW3]; exact HM.out.low.setCell (Nat.le_succ _) _
                have p4 := (HP0.out.below hlow3 (by omega)).cell 3 (.slice (some ⟨bb, o5, none⟩) n c) rfl
                rcases HRL.out.below hlow3 (by rw [HS.out]; exact Nat.le_refl _) with h0 | ⟨bb', o5', he5, _, hcs⟩
                · omega
                obtain ⟨rfl, rfl⟩ : bb = bb' ∧ o5 = o5' := by simpa using he5
                obtain ⟨t0, t1, t2, t3, _, _, _, _, _, tC⟩ := hcs p hlp
                rw [Nat.add_zero] at t0
                rw [HRP.out] at t0 t1 t2 t3 tC
                simp only at t0 t1 t2 t3 tC
                have HRU := Lib.hid (refRule_any nm k1r u1r A1 n1 c1 C1 W3 (by have := (HRI.out p hlp).1; rw [HRP.out] at this; exact this) (fun i hi => by have := (HRI.out p hlp).2 i (by rw [HRP.out]; exact hi); rw [HRP.out] at this; exact this) tC)
                have HLOW3 := Lib.hid hlow3
                have HW3 := Lib.hid hW3
                clear hcs he5 tC hlow3
                go_upto_region 18 with fail
                (try rw [hW3])
                clear hW3 r0 r1 r2 r3 dz df p3
                go_wp2_with fail
                refine HRU.out.mono ?_
                rintro e w4 ⟨hB4, hans⟩
                have HPN3 := Lib.hid (show PN W0 B k u x n a p (fun i => (R i).val) D A' l' c' A2 l2 c2 W3 by rw [← HW3.out]; exact HM.out.mark HKEY.out)
                have HNR := Lib.hid (show nR ((R p).val) = (askL ((List.range n1).map C1)).map fun l => ⟨nm, k1r, u1r, srt l⟩ by rw [HRP.out]; rfl)
                obtain ⟨st0, nm', k', u', A3, M, c3, he, hM, hnr⟩ : ∃ (st0 : Bool) (nm' : ByteArray) (k' u' : Int) (A3 : Option Addr) (M : List CD) (c3 : Nat), e = .returned (.tuple #[.agg (rulA nm' k' u' A3 M.length c3), .bool st0]) ∧ RdF w4 A3 M c3 ∧ ((st0 = false ∧ nR ((R p).val) = none) ∨ (st0 = true ∧ nm' = nm ∧ k' = k1r ∧ u' = u1r ∧ nR ((R p).val) = some ⟨nm, k1r, u1r, M⟩)) := by
                  rcases hans with ⟨h1, h2⟩ | ⟨M, A3, c3, h1, h2, h3⟩
                  · exact ⟨false, ⟨#[]⟩, 0, 0, none, [], 0, h2, RdF.nil_ _, .inl ⟨rfl, by rw [HNR.out, h1]; rfl⟩⟩
                  · exact ⟨true, nm, k1r, u1r, A3, srt M, c3, h2, h3, .inr ⟨rfl, rfl, rfl, rfl, by rw [HNR.out, h1]; rfl⟩⟩
                subst he
                obtain ⟨X, hX⟩ : ∃ X, w4.heap.size = X := ⟨_, rfl⟩
                obtain ⟨W5, hW5⟩ : ∃ W, w4.alloc (.cells (rulA nm' k' u' A3 M.length c3) 47) = W := ⟨_, rfl⟩
                have hB5 : Below X w4 W5 := by rw [← hW5, ← hX]; exact (Below.refl _ _).alloc (Nat.le_refl _) _
                have hx5 : RowC W5 X (rulA nm' k' u' A3 M.length c3) 47 := by rw [← hW5, ← hX]; exact RowC.new _ _ _ _ rfl
                have HX := Lib.hid hX
                have HW5 := Lib.hid hW5
                have HX5 := Lib.hid hx5
                have HPN5 := Lib.hid ((HPN3.out.below hB4).below (by rw [hX]; exact hB5))
                have HM5 := Lib.hid (hM.below hB5 (by rw [hX]; exact Nat.le_refl _))
                have HNN := Lib.hid hnr
                have HWF := Lib.hid (And.intro rw1 (And.intro rw2 rw3))
                have hl5 : l2.length ≤ 500 := by have := HPN5.out.len2; omega
                clear hB4 hans hW5 hB5 hx5 hM hnr rw1 rw2 rw3 rw4 rw5 rC HW7 HRU t1 t2 t3 t0 p4
                go_upto_region 19 with fail
                (try rw [hX])
                (try rw [HW5.out])
                clear hX
                go_wp2
                go_loopw [11, 12] (fun iv kv wx => ∃ (kk : Nat), kk ≤ l2.length ∧ kv = .int .i64 kk ∧ iv = .bool (st0 && !((l2.take kk).map RL.val).any (hides ⟨nm', k', u', M⟩)) ∧ Hid (∃ m, wx = W5.drewN m)) (fun _ kv _ => l2.length - (intOf kv).toNat)
                case atStart => exact ⟨0, Nat.zero_le _, rfl, by simp, Lib.hid ⟨0, rfl⟩⟩
                case round => as_aux_lemma =>
                  obtain ⟨kk, hkk, rfl, rfl, HDN⟩ := hrel
                  have HBX : Hid (Below W5.heap.size W5 wr) := Lib.hid (by obtain ⟨m, e⟩ := HDN.out; rw [e]; exact bdn (Below.refl _ _) m)
                  obtain ⟨st, hst⟩ : ∃ st, (st0 && !((l2.take kk).map RL.val).any (hides ⟨nm', k', u', M⟩)) = st := ⟨_, rfl⟩
                  have HST := Lib.hid hst
                  rw [hst]
                  clear hst
                  by_cases hlk : kk < l2.length
                  · have k1 : (0 : Int) ≤ (kk : Int) := by omega
                    have k2 : (kk : Int) < (l2.length : Int) := by omega
                    have HSN := Lib.hid (show ((l2.take (kk + 1)).map RL.val).any (hides ⟨nm', k', u', M⟩) = (((l2.take kk).map RL.val).any (hides ⟨nm', k', u', M⟩) || hides ⟨nm', k', u', M⟩ (l2[kk]!).val) by
                      rw [List.take_add_one, List.getElem?_eq_getElem hlk, List.map_append, List.any_append, getElem!_pos l2 kk hlk]
                      simp)
                    cases st with
                    | false =>
                      go_wp2_with fail
                      go_quiet (fail)
                      go_wp2
                      refine ⟨⟨kk + 1, by omega, by go_num, ?_, Lib.hid (dn_more HDN.out nq)⟩, by simp [intOf]; omega⟩
                      have h := HST.out
                      rw [HSN.out]
                      congr 1
                      revert h
                      cases st0 <;> cases ((l2.take kk).map RL.val).any (hides ⟨nm', k', u', M⟩) <;> simp
                    | true =>
                      rcases (HPN5.out.row2.below HBX.out (Nat.le_refl _)).rl.1 with h0 | ⟨lb, lo, rfl, hlb, hls⟩
                      · rw [h0] at hlk; exact absurd hlk (Nat.not_lt_zero _)
                      obtain ⟨_, _, _, s3⟩ := hls kk hlk
                      have hmem : l2[kk]! ∈ l2 := by rw [getElem!_pos l2 kk hlk]; exact List.getElem_mem hlk
                      have hru := (HPN5.out.row2.below HBX.out (Nat.le_refl _)).2 _ hmem
                      obtain ⟨re, hre⟩ : ∃ re, l2[kk]! = re := ⟨_, rfl⟩
                      rw [hre] at s3 hru HSN
                      obtain ⟨e0, e1, e2, EA, en, ec, EC⟩ := re
                      simp only at s3
                      have hce : ConA wr EA en EC := hru.2.2.2.2.2.conA
                      have hen : en ≤ ec ∧ ec ≤ maxLen := ⟨hru.2.2.2.1, hru.2.2.2.2.1⟩
                      have x3 := (HX5.out.below HBX.out HX5.out.lt).cell 3 (.slice A3 M.length c3) rfl
                      have HST0 := Lib.hid (show st0 = true ∧ ((l2.take kk).map RL.val).any (hides ⟨nm', k', u', M⟩) = false by
                        have h := HST.out
                        revert h
                        cases st0 <;> cases ((l2.take kk).map RL.val).any (hides ⟨nm', k', u', M⟩) <;> simp)
                      by_cases hen0 : en = 0
                      · have g0 : ¬ (en : Int) > 0 := by omega
                        have g1 : decide (0 < en) = false := by simp; omega
                        have g2 : ¬ 0 < en := by omega
                        have HHI := Lib.hid (show hides ⟨nm', k', u', M⟩ (⟨e0, e1, e2, EA, en, ec, EC⟩ : RL).val = true by
                          unfold hides RL.val
                          subst hen0
                          simp)
                        clear hls hru hce hmem hre hen0
                        go_wp2_with fail
                        go_quiet (fail)
                        go_wp2
                        refine ⟨⟨kk + 1, by omega, by go_num, ?_, Lib.hid (dn_more HDN.out nq)⟩, by simp [intOf]; omega⟩
                        rw [HSN.out, HHI.out]; simp
                      · have g0 : (en : Int) > 0 := by omega
                        have g1 : decide (0 < en) = true := by simp; omega
                        have g2 : 0 < en := by omega
                        obtain ⟨bS, hbS⟩ : ∃ bS, decide ((List.range en).map EC = (List.range M.length).map fun i => M[i]!) = bS := ⟨_, rfl⟩
                        have hm5 := (HM5.out.below HBX.out (Nat.le_refl _))
                        have KS : Hid (∀ q, Calls Tryz.prog 49 #[.slice EA en ec, .slice A3 M.length c3] (wr.drewN q) fun e w' => e = .returned (.bool bS) ∧ ∃ m, w' = wr.drewN m) := Lib.hid fun q => by
                          have h := sameDq_any EA A3 en ec M.length c3 EC (fun i => M[i]!) (wr.drewN q) (by have h1 := hen.1; have h2 := hen.2; unfold maxLen at h2; omega) (hce.below (bdn (Below.refl _ _) q) (Nat.le_refl _)) (hm5.1.conA.below (bdn (Below.refl _ _) q) (Nat.le_refl _))
                          rw [hbS] at h
                          refine h.mono ?_
                          rintro e w' ⟨rfl, m, rfl⟩
                          exact ⟨rfl, q + m, World.drewN_drewN _ _ _⟩
                        have HHI := Lib.hid (show hides ⟨nm', k', u', M⟩ (⟨e0, e1, e2, EA, en, ec, EC⟩ : RL).val = bS by
                          unfold hides RL.val
                          rw [range_get] at hbS
                          rw [← hbS]
                          have e5 : ((List.range en).map EC).isEmpty = false := by
                            cases h : en with
                            | zero => exact absurd h hen0
                            | succ z => simp [List.range_succ]
                          simp only [e5, Bool.false_or])
                        clear hls hru hce hmem hre hen0 hm5 hbS
                        cases bS with
                        | true =>
                          go_wp2_with fail
                          go_quiet ((go_at_call 49; exact KS.out _))
                          go_wp2
                          refine ⟨⟨kk + 1, by omega, by go_num, ?_, Lib.hid (dn_more HDN.out nq)⟩, by simp [intOf]; omega⟩
                          rw [HSN.out, HHI.out]; simp
                        | false =>
                          go_wp2_with fail
                          go_quiet ((go_at_call 49; exact KS.out _))
                          go_wp2
                          refine ⟨⟨kk + 1, by omega, by go_num, ?_, Lib.hid (dn_more HDN.out nq)⟩, by simp [intOf]; omega⟩
                          rw [HSN.out, HHI.out, HST0.out.1, HST0.out.2]; simp
                  · obtain rfl : kk = l2.length := by omega
                    have k2 : ¬ (l2.length : Int) < (l2.length : Int) := by omega
                    rw [List.take_of_length_le (Nat.le_refl _)] at HST
                    cases st with
                    | false =>
                      go_wp2
                      refine ⟨⟨p + 1, A2, l2, c2, by omega, rfl, by go_num, Lib.hid ((HPN5.out.below HBX.out).no HKEY.out fun r hr => ?_)⟩, by simp [intOf]; omega⟩
                      rcases HNN.out with ⟨h1, h2⟩ | ⟨h1, rfl, rfl, rfl, h5⟩
                      · rw [h2] at hr; cases hr
                      · rw [h5] at hr
                        cases hr
                        have h := HST.out
                        rw [h1] at h
                        simpa using h
                    | true =>
                      have HST0 := Lib.hid (show st0 = true ∧ (l2.map RL.val).any (hides ⟨nm', k', u', M⟩) = false by
                        have h := HST.out
                        revert h
                        cases st0 <;> cases (l2.map RL.val).any (hides ⟨nm', k', u', M⟩) <;> simp)
                      have hx5 := HX5.out.below HBX.out HX5.out.lt
                      have x0 := hx5.cell 0 (.string nm') rfl
                      have x1 := hx5.cell 1 (.int .i64 k') rfl
                      have x2 := hx5.cell 2 (.int .i64 u') rfl
                      have x3 := hx5.cell 3 (.slice A3 M.length c3) rfl
                      have HPX := Lib.hid (HPN5.out.below HBX.out)
                      have HMX := Lib.hid (HM5.out.below HBX.out (Nat.le_refl _))
                      have HNX := Lib.hid (show nm' = nm ∧ k' = k1r ∧ u' = u1r ∧ nR ((R p).val) = some ⟨nm, k1r, u1r, M⟩ by
                        rcases HNN.out with ⟨h1, _⟩ | ⟨_, h2, h3, h4, h5⟩
                        · rw [HST0.out.1] at h1; cases h1
                        · exact ⟨h2, h3, h4, h5⟩)
                      clear hx5
                      go_wp2_with (first
                        | (at_builtin
                           refine app_ruleE (base := B + 4) (l := l2) (r := ⟨nm', k', u', A3, M.length, c3, fun i => M[i]!⟩) rfl _ _ rfl rfl (HPX.out.row2.alloc _) rfl (RowC.new _ _ _ _ rfl) ((HMX.out.below ((Below.refl _ _).alloc (Nat.le_refl _) _) (Nat.le_refl _)).ru (by rw [HNX.out.1]; exact HWF.out.1) (by rw [HNX.out.2.1]; exact HWF.out.2.1) (by rw [HNX.out.2.2.1]; exact HWF.out.2.2)) (by omega) (by have := HPX.out.don.lt; simp; omega) ?_
                           intro g c9 w9 hrow9 hg9 hgg9 hk9 hb9
                           have HQ9 := Lib.hid (And.intro hrow9 (And.intro hg9 (And.intro hgg9 (And.intro hk9 hb9))))
                           clear hrow9 hg9 hgg9 hk9 hb9))
                      obtain ⟨hrow9, hg9, hgg9, hk9, hb9⟩ := HQ9.out
                      have hPA := HPX.out.below ((Below.refl wr.heap.size wr).alloc (Nat.le_refl _) (.cells #[.string nm', .int .i64 k', .int .i64 u', .slice A3 M.length c3] 47))
                      refine ⟨⟨p + 1, some ⟨g, 0, none⟩, l2 ++ [⟨nm', k', u', A3, M.length, c3, fun i => M[i]!⟩], c9, by omega, by simp, by go_num, Lib.hid (hPA.app HKEY.out (by rw [val_srt, HNX.out.1, HNX.out.2.1, HNX.out.2.2.1]; exact HNX.out.2.2.2) (by rw [val_srt]; exact HST0.out.2) hrow9 hg9 hgg9 hk9 hb9)⟩, by simp [intOf]; omega⟩
            · obtain rfl : p = n := by omega
              have k1 : ¬ (p : Int) < (p : Int) := by omega
              obtain ⟨wz, rfl⟩ : ∃ z, z = wr := ⟨_, rfl⟩
              have hl5 : l2.length ≤ 500 := by have := HM.out.len2; omega
              have HLE2 := Lib.hid HM.out.row2.le
              have hle2 := HM.out.row2.le.1
              clear a0
              go_wp2
              go_loopw [8] (fun sv wx => ∃ m : Nat, m ≤ l2.length ∧ sv = .slice A2 m c2 ∧ Hid ((∃ q, wx = wz.drewN q) ∧ utl k u ((l2.take m).map RL.val) = utl k u (l2.map RL.val))) (fun sv _ => match sv with | .slice _ m _ => m | _ => 0)
              case atStart => exact ⟨l2.length, Nat.le_refl _, rfl, Lib.hid ⟨⟨0, rfl⟩, by rw [List.take_of_length_le (Nat.le_refl _)]⟩⟩
              case round => as_aux_lemma =>
                obtain ⟨m, hm, rfl, HI⟩ := hrel
                have HBX : Hid (Below wz.heap.size wz wr) := Lib.hid (by obtain ⟨q, e⟩ := HI.out.1; rw [e]; exact bdn (Below.refl _ _) q)
                by_cases hm0 : m = 0
                · have HEND := Lib.hid (show (l2.take m).map RL.val = utl k u (l2.map RL.val) by
                    rw [← HI.out.2, hm0]; rfl)
                  have i0 : decide ((m : Int) > 0) = false := by simp; omega
                  have i2 : decide (0 < m) = false := by simp; omega
                  clear hm0
                  go_wp2_with fail
                  go_quiet (fail)
                  go_upto_region 27 with fail
                  have hPM := (HM.out.below HBX.out).below (bdn (Below.refl _ wr) nq)
                  obtain ⟨w9, hw9⟩ : ∃ W, wr.drewN nq = W := ⟨_, rfl⟩
                  rw [hw9] at hPM
                  rw [hw9]
                  clear hw9
                  have hPM : PM W0 B _ u x p a p (fun i => (R i).val) D A' l' c' _ l2 c2 w9 := hPM
                  have HPM := Lib.hid hPM
                  have o3 := hPM.out.cell 3 (.slice A' l'.length c') rfl
                  have hlen1 := HW7.out.len
                  have hcnt1 := HW7.out.cnt
                  have hz2 := HM.out.row2.none_
                  have hbs := hPM.don.lt
                  clear hPM
                  go_wp2_with (first
                    | (at_builtin
                       refine app_rulesE (base := B + 4) (l := l') (l5 := l2.take m) (by rfl) (.tmp 143) (.tmp 144) (by rfl) (by rfl) HPM.out.row (by rw [List.length_take, Nat.min_eq_left hm]; rfl) (HPM.out.row2.rl.take m) (by rw [List.length_take]; omega) (by rw [List.length_take]; omega) hz2 (by omega) ?_
                       intro A3 c3 w10 hrow10 hg10 hk10 hb10
                       have ho10 := rowc_grown' hg10 HPM.out.out (HPM.out.row.ne HPM.out.out (by decide))
                       have z3 := ho10.cell 3 (.slice A' l'.length c') rfl
                       have f3 := ho10.frozen 3
                       have HQ10 := Lib.hid (And.intro hrow10 (And.intro hg10 hb10))
                       clear hrow10 hg10 hk10 hb10 ho10))
                  obtain ⟨hrow10, hg10, hb10⟩ := HQ10.out
                  have hdone := HPM.out.done HW7.out HLE.out HEND.out (by omega) hrow10 hg10 hb10
                  have elen : (l' ++ l2.take m).length = l'.length + m := by rw [List.length_append, List.length_take, Nat.min_eq_left hm]
                  rw [elen] at hdone
                  refine ⟨⟨_, _, _, _, _, Lib.hid hdone⟩, ?_⟩
                  rw [leftW_eq hdone.don, leftW_eq HI0.out.don]
                  exact left_next HLE.out
                · have hlq : m - 1 < l2.length := by omega
                  rcases (HM.out.row2.below HBX.out (Nat.le_refl _)).rl.1 with h0 | ⟨bb2, o2, rfl, hbl2, hcs⟩
                  · rw [h0] at hlq; exact absurd hlq (Nat.not_lt_zero _)
                  obtain ⟨_, q1, q2, _⟩ := hcs (m - 1) hlq
                  obtain ⟨r, hr⟩ : ∃ r, l2[m - 1]! = r := ⟨_, rfl⟩
                  rw [hr] at q1 q2
                  have HSN := Lib.hid (show (l2.take m).map RL.val = (l2.take (m - 1)).map RL.val ++ [r.val] by
                    have e : m = m - 1 + 1 := by omega
                    rw [e, List.take_add_one, List.getElem?_eq_getElem hlq, List.map_append, ← hr, getElem!_pos l2 (m - 1) hlq]
                    simp)
                  have hP := (HP0.out.below HM.out.low (by omega)).below HBX.out (by have := HM.out.out.lt; omega)
                  have p0 := hP.cell 0 (.int .i64 k) rfl
                  have p1 := hP.cell 1 (.int .i64 u) rfl
                  have hac := act_cases r.k r.u k u
                  obtain ⟨r0, rk, ru, r3, r4, r5, r6⟩ := r
                  have i1 : (0 : Int) < (m : Int) := by omega
                  have i0 : decide ((m : Int) > 0) = true := decide_eq_true i1
                  have i2 : decide (0 < m) = true := decide_eq_true (by omega)
                  have i3 : (0 : Int) ≤ (m : Int) - 1 := by omega
                  have i4 : (m : Int) - 1 < (m : Int) := by omega
                  have i5 : m - 1 ≤ c2 := by omega
                  have i6 : m ≤ 500 := by omega
                  clear hcs hr hlq hP
                  simp only at q1 q2 hac
                  rcases hac with ⟨h1, h2⟩ | h | ⟨h1, h⟩
                  · subst h1 h2
                    go_wp2_with fail
                    go_quiet (fail)
                    go_wp2
                    exact ⟨⟨m - 1, by omega, by first | rfl | go_num, Lib.hid ⟨dn_more HI.out.1 nq, by rw [← HI.out.2, HSN.out, utl_snoc, if_pos (by simp [isAct, RL.val])]⟩⟩, by simp; omega⟩
                  · have HN := Lib.hid h
                    have HEND := Lib.hid (show (l2.take m).map RL.val = utl k u (l2.map RL.val) by
                      rw [← HI.out.2, HSN.out, utl_snoc, if_neg (by rw [isAct_no (fun ⟨e, _⟩ => by have := HN.out; simp [RL.val] at e; simp [e] at this)]; simp)])
                    go_wp2_with fail
                    go_quiet (fail)
                    go_upto_region 27 with fail
                    have hPM := (HM.out.below HBX.out).below (bdn (Below.refl _ wr) nq)
                    obtain ⟨w9, hw9⟩ : ∃ W, wr.drewN nq = W := ⟨_, rfl⟩
                    rw [hw9] at hPM
                    rw [hw9]
                    clear hw9
                    have hPM : PM W0 B _ u x p a p (fun i => (R i).val) D A' l' c' _ l2 c2 w9 := hPM
                    have HPM := Lib.hid hPM
                    have o3 := hPM.out.cell 3 (.slice A' l'.length c') rfl
                    have hlen1 := HW7.out.len
                    have hcnt1 := HW7.out.cnt
                    have hz2 := HM.out.row2.none_
                    have hbs := hPM.don.lt
                    clear hPM
                    go_wp2_with (first
                      | (at_builtin
                         refine app_rulesE (base := B + 4) (l := l') (l5 := l2.take m) (by rfl) (.tmp 143) (.tmp 144) (by rfl) (by rfl) HPM.out.row (by rw [List.length_take, Nat.min_eq_left hm]; rfl) (HPM.out.row2.rl.take m) (by rw [List.length_take]; omega) (by rw [List.length_take]; omega) hz2 (by omega) ?_
                         intro A3 c3 w10 hrow10 hg10 hk10 hb10
                         have ho10 := rowc_grown' hg10 HPM.out.out (HPM.out.row.ne HPM.out.out (by decide))
                         have z3 := ho10.cell 3 (.slice A' l'.length c') rfl
                         have f3 := ho10.frozen 3
                         have HQ10 := Lib.hid (And.intro hrow10 (And.intro hg10 hb10))
                         clear hrow10 hg10 hk10 hb10 ho10))
                    obtain ⟨hrow10, hg10, hb10⟩ := HQ10.out
                    have hdone := HPM.out.done HW7.out HLE.out HEND.out (by omega) hrow10 hg10 hb10
                    have elen : (l' ++ l2.take m).length = l'.length + m := by rw [List.length_append, List.length_take, Nat.min_eq_left hm]
                    rw [elen] at hdone
                    refine ⟨⟨_, _, _, _, _, Lib.hid hdone⟩, ?_⟩
                    rw [leftW_eq hdone.don, leftW_eq HI0.out.don]
                    exact left_next HLE.out
                  · subst h1
                    have HN := Lib.hid h
                    have HEND := Lib.hid (show (l2.take m).map RL.val = utl rk u (l2.map RL.val) by
                      rw [← HI.out.2, HSN.out, utl_snoc, if_neg (by rw [isAct_no (fun ⟨_, e⟩ => by have := HN.out; simp [RL.val] at e; simp [e] at this)]; simp)])
                    go_wp2_with fail
                    go_quiet (fail)
                    go_upto_region 27 with fail
                    have hPM := (HM.out.below HBX.out).below (bdn (Below.refl _ wr) nq)
                    obtain ⟨w9, hw9⟩ : ∃ W, wr.drewN nq = W := ⟨_, rfl⟩
                    rw [hw9] at hPM
                    rw [hw9]
                    clear hw9
                    have hPM : PM W0 B _ u x p a p (fun i => (R i).val) D A' l' c' _ l2 c2 w9 := hPM
                    have HPM := Lib.hid hPM
                    have o3 := hPM.out.cell 3 (.slice A' l'.length c') rfl
                    have hlen1 := HW7.out.len
                    have hcnt1 := HW7.out.cnt
                    have hz2 := HM.out.row2.none_
                    have hbs := hPM.don.lt
                    clear hPM
                    go_wp2_with (first
                      | (at_builtin
                         refine app_rulesE (base := B + 4) (l := l') (l5 := l2.take m) (by rfl) (.tmp 143) (.tmp 144) (by rfl) (by rfl) HPM.out.row (by rw [List.length_take, Nat.min_eq_left hm]; rfl) (HPM.out.row2.rl.take m) (by rw [List.length_take]; omega) (by rw [List.length_take]; omega) hz2 (by omega) ?_
                         intro A3 c3 w10 hrow10 hg10 hk10 hb10
                         have ho10 := rowc_grown' hg10 HPM.out.out (HPM.out.row.ne HPM.out.out (by decide))
                         have z3 := ho10.cell 3 (.slice A' l'.length c') rfl
                         have f3 := ho10.frozen 3
                         have HQ10 := Lib.hid (And.intro hrow10 (And.intro hg10 hb10))
                         clear hrow10 hg10 hk10 hb10 ho10))
                    obtain ⟨hrow10, hg10, hb10⟩ := HQ10.out
                    have hdone := HPM.out.done HW7.out HLE.out HEND.out (by omega) hrow10 hg10 hb10
                    have elen : (l' ++ l2.take m).length = l'.length + m := by rw [List.length_append, List.length_take, Nat.min_eq_left hm]
                    rw [elen] at hdone
                    refine ⟨⟨_, _, _, _, _, Lib.hid hdone⟩, ?_⟩
                    rw [leftW_eq hdone.don, leftW_eq HI0.out.don]
                    exact left_next HLE.out
end Go.Proofs.YtcembcicpmhpkaaGreatDoor
