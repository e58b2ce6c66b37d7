/-
  The law NormOrders holds for every input: the order of rules of different names, and of a rule's conditions, does not matter for the normal form. No condition.
-/
import Derived.Test.YtfaaclppkhkmpaaGreatDoorRows
import Derived.Test.YtfaaclppkhkmpaaGreatDoorCards
import Derived.Test.YtfaaclppkhkmpaaGreatDoorTie
import Derived.Test.YtfaaclppkhkmpaaGreatDoorRn
import Derived.Test.YtfaaclppkhkmpaaGreatDoorZd
import Derived.Lay
import Derived.MakeChecks
import Derived.WalkKit
import Derived.ProofKit
import Derived.OpenShut
import Derived.ShutString
import Derived.ChangeOld
import Derived.Below
import Derived.Lib.SmallJoins
import Derived.SevenTiedAt
import Derived.LaidMore
import Derived.Stop.Joined
import Derived.RegionTactic
import Derived.Deep.Cut
import Derived.Deep.CutRange
namespace Go.Proofs.YtfaaclppkhkmpaaGreatDoor
open Go.RowKit Go.Shelf
set_option linter.unusedVariables false

def selV (fr : ByteArray) (t : Nat) (r : RV) : Bool := if t = 0 then r.key == fr.data.toList else !(r.key == fr.data.toList)
/-- The rules of the turns so far. -/
def doneV (fr : ByteArray) (pre : List RV) (t : Nat) : List RV := (List.range t).flatMap fun t => (pre.filter (selV fr t)).map revR
theorem doneV_succ (fr : ByteArray) (pre : List RV) (t : Nat) : doneV fr pre (t + 1) = doneV fr pre t ++ (pre.filter (selV fr t)).map revR := by
  unfold doneV
  rw [List.range_succ, List.flatMap_append]
  simp
theorem doneV_two (fr : ByteArray) (pre : List RV) : doneV fr pre 2 = ((pre.filter fun r => r.key == fr.data.toList) ++ (pre.filter fun r => !(r.key == fr.data.toList))).map revR := by
  rw [List.map_append]
  show (([0, 1] : List Nat).flatMap _) = _
  simp only [List.flatMap_cons, List.flatMap_nil, List.append_nil]
  rfl
theorem mayV_rev (r : RV) : mayV (revR r) = mayV r := by
  unfold mayV revR
  simp only [List.length_reverse, List.all_reverse]
theorem rightV_turn (k u : Int) (pre : List RV) (fr : ByteArray) : rightV k u (doneV fr pre 2) = rightV k u pre := by
  rw [doneV_two]
  unfold rightV
  have h1 : (((pre.filter fun r => r.key == fr.data.toList) ++ (pre.filter fun r => !(r.key == fr.data.toList))).map revR).length = pre.length := by
    rw [List.length_map, List.length_append]
    exact filter_two fr.data.toList pre
  have h2 : (((pre.filter fun r => r.key == fr.data.toList) ++ (pre.filter fun r => !(r.key == fr.data.toList))).map revR).all mayV = pre.all mayV := by
    rw [List.all_map, show (mayV ∘ revR) = mayV from funext mayV_rev]
    rw [Bool.eq_iff_iff, List.all_eq_true, List.all_eq_true]
    constructor
    · intro h r hr
      refine h r (List.mem_append.2 ?_)
      rcases hb : (r.key == fr.data.toList) with _ | _
      · exact .inr (List.mem_filter.2 ⟨hr, by rw [hb]; rfl⟩)
      · exact .inl (List.mem_filter.2 ⟨hr, hb⟩)
    · intro h r hr
      rcases List.mem_append.1 hr with hr | hr
      · exact h r (List.mem_filter.1 hr).1
      · exact h r (List.mem_filter.1 hr).1
  rw [h1, h2]
/-- The state of the law's loops. -/
structure QInv (w1 w : World) (B qb : Nat) (k u : Int) (x : Bool) (A : Option Addr) (n c : Nat) (acc : List RV) (A' : Option Addr) (c' : Nat) (ls : List RL) : Prop where
  row : RowE w (qb + 1) A' ls c'
  val : ls.map RL.val = acc
  q : RowC w qb (polA k u x A' ls.length c') 26
  p : RowC w B (polA k u x A n c) 26
  below : Below qb w1 w
  size : qb + 1 ≤ w.heap.size
theorem QInv.on {w1 w w' : World} {B qb : Nat} {k u : Int} {x : Bool} {A : Option Addr} {n c : Nat} {acc : List RV} {A' : Option Addr} {c' : Nat} {ls : List RL} (h : QInv w1 w B qb k u x A n c acc A' c' ls) (hb : Below w.heap.size w w') (hB : B < qb) : QInv w1 w' B qb k u x A n c acc A' c' ls where
  row := h.row.below hb (Nat.le_refl _)
  val := h.val
  q := h.q.below hb h.q.lt
  p := h.p.below hb h.p.lt
  below := h.below.trans (hb.mono (by have := h.size; omega))
  size := Nat.le_trans h.size hb.size
set_option maxRecDepth 100000 in
set_option maxHeartbeats 16000000 in
theorem walk_NormOrders {w0 : World} (k u : Int) (x : Bool) (A : Option Addr) (n c : Nat) (R : Nat → RL) (wk : (Lit.int .i64 k).wf = true) (wu : (Lit.int .i64 u).wf = true) (hnc : n ≤ c) (hcm : c ≤ maxLen) (hR : RlA w0 A n R) (fr : ByteArray) (hfr : fr.size ≤ maxLen) (_ : True) :
    Calls Tryz.prog 5 #[.agg (polA k u x A n c), .string fr] w0 fun e w' => e = .returned (.bool true) ∧ Below w0.heap.size w0 w' := by
  obtain ⟨W0, hW0⟩ : ∃ W, w0.alloc (.cells (polA k u x A n c) 26) = W := ⟨_, rfl⟩
  obtain ⟨B, hBs⟩ : ∃ B, w0.heap.size = B := ⟨_, rfl⟩
  have hB0 : Below B w0 W0 := by rw [← hW0, ← hBs]; exact (Below.refl _ _).alloc (Nat.le_refl _) _
  have hP0 : RowC W0 B (polA k u x A n c) 26 := by rw [← hW0, ← hBs]; exact RowC.new _ _ _ _ rfl
  have hR0 := hR.below hB0 (by rw [hBs]; exact Nat.le_refl _)
  have HL := Lib.hid (light_any k u x A n c R W0 hnc hcm hR0)
  have HAW := Lib.hid fun X => awake16_any X
  have HB0 := Lib.hid hB0
  have HP0 := Lib.hid hP0
  have HR0 := Lib.hid hR0
  have HW := Lib.hid hW0
  have HBS := Lib.hid hBs
  have HWF := Lib.hid (And.intro wk (And.intro wu hfr))
  have p0 := hP0.cell 0 (.int .i64 k) rfl
  have p1 := hP0.cell 1 (.int .i64 u) rfl
  have p2 := hP0.cell 2 (.bool x) rfl
  have p3 := hP0.cell 3 (.slice A n c) rfl
  clear hW0 hBs hB0 hP0 hR hR0 wk wu
  go_enter Tryz.func5, Tryz.ntmps5
  go_upto_region 1 with fail
  rw [HW.out, HBS.out]
  go_wp2_with fail
  refine HL.out.mono ?_
  rintro e w1 ⟨⟨b, rfl, hlight⟩, hB1⟩
  have hP1 := HP0.out.below hB1 HP0.out.lt
  have HP1 := Lib.hid hP1
  have HB1 := Lib.hid hB1
  have HB01 := Lib.hid (HB0.out.trans (hB1.mono (by rw [← HBS.out]; have := HB0.out.size; rw [HBS.out]; rw [HBS.out] at this; exact this)))
  have q0 := hP1.cell 0 (.int .i64 k) rfl
  have q1 := hP1.cell 1 (.int .i64 u) rfl
  have q2 := hP1.cell 2 (.bool x) rfl
  have q3 := hP1.cell 3 (.slice A n c) rfl
  clear hP1 hB1 p0 p1 p2 p3
  cases b with
  | false =>
    go_wp2
    go_ret
    exact ⟨rfl, by rw [HBS.out]; exact HB01.out⟩
  | true =>
    have hl := hlight rfl
    have HLP := Lib.hid hl
    have hn40 := hl.1
    clear hlight hl
    by_cases h60 : 60 < fr.size
    · have g2 : (fr.size : Int) > 60 := by omega
      go_wp2
      go_ret
      exact ⟨rfl, by rw [HBS.out]; exact HB01.out⟩
    · have g2 : ¬ (fr.size : Int) > 60 := by omega
      obtain ⟨pre, hpre⟩ : ∃ pre, (List.range n).map (fun i => (R i).val) = pre := ⟨_, rfl⟩
      have HPRE := Lib.hid hpre
      obtain ⟨qb, hqb⟩ : ∃ qb, w1.heap.size = qb := ⟨_, rfl⟩
      obtain ⟨W2, hW2⟩ : ∃ W, w1.alloc (.cells (polA k u x none 0 0) 26) = W := ⟨_, rfl⟩
      have hBq : B < qb := by rw [← hqb]; exact HP1.out.lt
      have hB12 : Below qb w1 W2 := by rw [← hW2, ← hqb]; exact (Below.refl _ _).alloc (Nat.le_refl _) _
      have HI0 : Hid (QInv w1 W2 B qb k u x A n c [] none 0 []) := Lib.hid {
        row := RowE.nil_ _ _
        val := rfl
        q := by rw [← hW2, ← hqb]; exact RowC.new _ _ _ _ rfl
        p := HP1.out.below hB12 hBq
        below := hB12
        size := by rw [← hW2, ← hqb]; simp }
      have HR1 := Lib.hid (HR0.out.below HB1.out (Nat.le_refl _))
      have HW2 := Lib.hid hW2
      have HQB := Lib.hid hqb
      clear hpre hqb hW2 hB12
      go_wp2_with fail
      rw [HW2.out, HQB.out]
      go_loopw [6] (fun i wr => ∃ (t : Nat) (A' : Option Addr) (c' : Nat) (ls : List RL), t ≤ 2 ∧ i = .int .i64 t ∧ Hid (QInv w1 wr B qb k u x A n c (doneV fr pre t) A' c' ls)) (fun i _ => 2 - (intOf i).toNat)
      case atStart => exact ⟨0, none, 0, [], by omega, rfl, HI0⟩
      case round =>
        obtain ⟨t, A', c', ls, ht, rfl, HI⟩ := hrel
        by_cases ht2 : t < 2
        · have it : (t : Int) < 2 := by omega
          go_wp2
          go_loopw [7] (fun i wr => ∃ (q : Nat) (A' : Option Addr) (c' : Nat) (ls : List RL), q ≤ n ∧ i = .int .i64 q ∧ Hid (QInv w1 wr B qb k u x A n c (doneV fr pre t ++ ((pre.take q).filter (selV fr t)).map revR) A' c' ls)) (fun i _ => n - (intOf i).toNat)
          case atStart => exact ⟨0, A', c', ls, Nat.zero_le _, rfl, Lib.hid (by simpa using HI.out)⟩
          case round =>
            obtain ⟨q, A2, c2, l2, hq, rfl, HJ⟩ := hrel
            have pc := HJ.out.p.cell 3 (.slice A n c) rfl
            by_cases hlt : q < n
            · have hRr := HR1.out.below HJ.out.below (by rw [HQB.out]; exact Nat.le_refl _)
              rcases HR0.out with h0 | ⟨bb, o, rfl, hbl0, _⟩
              · omega
              rcases hRr with h0 | ⟨bb', o', he, hbl, hcs⟩
              · omega
              obtain ⟨rfl, rfl⟩ : bb = bb' ∧ o = o' := by simpa using he
              obtain ⟨q0, q1, q2, q3, v1, v2, v3, v4, v5, v6⟩ := hcs q hlt
              obtain ⟨r, hr⟩ : ∃ r, R q = r := ⟨_, rfl⟩
              have h12 : r.n ≤ 12 := by rw [← hr]; exact (HLP.out.2 q hlt).2
              have HTK := Lib.hid (show pre.take (q + 1) = pre.take q ++ [r.val] by
                rw [← HPRE.out, ← hr, List.take_add_one, List.getElem?_map, List.getElem?_range hlt]
                rfl)
              rw [hr] at q0 q1 q2 q3 v1 v2 v3 v4 v5 v6
              rw [Nat.add_zero] at q0
              have HV := Lib.hid (And.intro v1 (And.intro v2 (And.intro v3 v6)))
              have i1 : (0 : Int) ≤ (q : Int) := by omega
              have i2 : (q : Int) < (n : Int) := by omega
              obtain ⟨nb, hnb⟩ : ∃ nb, (r.nm.toList == fr.toList) = nb := ⟨_, rfl⟩
              obtain ⟨tb, htb⟩ : ∃ tb, ((t : Int) == 0) = tb := ⟨_, rfl⟩
              have hsel : selV fr t r.val = (nb == tb) := by
                have e : (r.val.key == fr.data.toList) = nb := by rw [← hnb, ByteArray.toList_eq, ByteArray.toList_eq]; rfl
                unfold selV
                rw [e]
                by_cases h0 : t = 0
                · have : tb = true := by rw [← htb, h0]; rfl
                  rw [if_pos h0, this]; simp
                · have : tb = false := by rw [← htb]; exact beq_eq_false_iff_ne.2 (by omega)
                  rw [if_neg h0, this]; simp
              have HSEL := Lib.hid hsel
              have HJZ := HJ.out.size
              clear hcs he hr v1 v2 v3 v6 hsel
              by_cases hs : nb = tb
              · have hx1 : (nb != tb) = false := by simp [hs]
                have hx2 : (nb == tb) = true := by simp [hs]
                have HX := Lib.hid (And.intro hx1 hx2)
                have pca := fun ob => ((HJ.out.p.alloc ob).cell 3 (.slice (some ⟨bb, o, none⟩) n c) rfl)
                have q0a := fun ob => (Lib.cell?_alloc_some ob q0)
                have q1a := fun ob => (Lib.cell?_alloc_some ob q1)
                have q2a := fun ob => (Lib.cell?_alloc_some ob q2)
                have HSX : Hid (∀ X, Below wr.heap.size wr X → X.cell? ⟨B, 3, none⟩ = some (.slice (some ⟨bb, o, none⟩) n c) ∧ X.cell? ⟨bb, o + q * 4, none⟩ = some (.string r.nm) ∧ X.cell? ⟨bb, o + q * 4 + 1, none⟩ = some (.int .i64 r.k) ∧ X.cell? ⟨bb, o + q * 4 + 2, none⟩ = some (.int .i64 r.u)) :=
                  Lib.hid fun X hX => ⟨(HJ.out.p.below hX HJ.out.p.lt).cell 3 _ rfl, (hX.cell (p := ⟨bb, o + q * 4, none⟩) hbl).trans q0, (hX.cell (p := ⟨bb, o + q * 4 + 1, none⟩) hbl).trans q1, (hX.cell (p := ⟨bb, o + q * 4 + 2, none⟩) hbl).trans q2⟩
                clear hs
                go_wp2_with fail
                go_cut [8] from 49 to 61 (fun s wx => ∃ rb, s = .pointer (some ⟨rb, 0, none⟩) ∧ RowC wx rb (rulA r.nm r.k r.u none 0 0) 46 ∧ Below wr.heap.size wr wx ∧ wr.heap.size ≤ rb)
                case first =>
                  rename_i J1 K1 hJ1 hK1
                  go_region_held3 (fun w' => w'.cell? ⟨B, 3, none⟩ = some (.slice (some ⟨bb, o, none⟩) n c) ∧ w'.cell? ⟨bb, o + q * 4, none⟩ = some (.string r.nm) ∧ w'.cell? ⟨bb, o + q * 4 + 1, none⟩ = some (.int .i64 r.k) ∧ w'.cell? ⟨bb, o + q * 4 + 2, none⟩ = some (.int .i64 r.u))
                    (exact HSX.out _ (by repeat (first | exact Below.refl _ _ | refine Below.drew ?_ | refine Below.alloc ?_ (by simp) _ | refine Below.setCell ?_ (by simp) _)))
                    (fail)
                  all_goals
                    refine hK1 _ _ (Met.intro (hJ1 _ _ ?_))
                    repeat apply Exists.intro
                    refine ⟨?_, rfl⟩
                    exact ⟨wr.heap.size, rfl, RowC.new wr (rulA r.nm r.k r.u none 0 0) _ _ rfl, ((Below.refl _ wr).alloc (Nat.le_refl _) _).drew, Nat.le_refl _⟩
                case rest =>
                  obtain ⟨rb, rfl, hRb, hBc, hrb⟩ := hcut
                  have HRB := Lib.hid hRb
                  have HBC := Lib.hid hBc
                  have hrl := hRb.lt
                  have HQ := Lib.hid (HJ.out.on hBc hBq)
                  have pcc := HQ.out.p.cell 3 (.slice (some ⟨bb, o, none⟩) n c) rfl
                  have q3c := (hBc.cell (p := ⟨bb, o + q * 4 + 3, none⟩) hbl).trans q3
                  have HSY : Hid (∀ X, Below wr.heap.size wr X → X.cell? ⟨B, 3, none⟩ = some (.slice (some ⟨bb, o, none⟩) n c) ∧ X.cell? ⟨bb, o + q * 4 + 3, none⟩ = some (.slice r.A r.n r.c)) :=
                    Lib.hid fun X hX => ⟨(HJ.out.p.below hX HJ.out.p.lt).cell 3 _ rfl, (hX.cell (p := ⟨bb, o + q * 4 + 3, none⟩) hbl).trans q3⟩
                  clear hRb pca q0a q1a q2a q0 q1 q2 q3 pc
                  go_wp2
                  go_loopw [9] (fun i wr9 => ∃ (j : Nat) (A9 : Option Addr) (c9 : Nat) (M : List CD), j ≤ r.n ∧ i = .int .i64 ((j : Int) - 1) ∧ Hid (RowF wr9 (rb + 1) A9 M c9 ∧ M = (r.cs.drop j).reverse ∧ RowC wr9 rb (rulA r.nm r.k r.u A9 M.length c9) 46 ∧ Below wr.heap.size wr wr9 ∧ rb + 1 ≤ wr9.heap.size)) (fun i _ => (intOf i + 1).toNat)
                  case atStart =>
                    refine ⟨r.n, none, 0, [], Nat.le_refl _, rfl, Lib.hid ⟨RowF.nil_ _ _, ?_, HRB.out, HBC.out, hrl⟩⟩
                    rw [List.drop_eq_nil_of_le (by unfold RL.cs; simp)]
                    rfl
                  case round =>
                    obtain ⟨j, A9, c9, M, hj, rfl, HK⟩ := hrel
                    by_cases hj0 : j = 0
                    · subst hj0
                      have HQ9 := Lib.hid (HJ.out.on HK.out.2.2.2.1 hBq)
                      have hM : M = r.cs.reverse := HK.out.2.1
                      have hbd : ∀ y ∈ M, y.m ≤ 18446744073709551615 ∧ y.v ≤ 18446744073709551615 := fun y hy => by
                        rw [hM, List.mem_reverse] at hy
                        obtain ⟨i9, hi9, rfl⟩ := List.mem_map.1 hy
                        rcases HV.out.2.2.2 with h0 | ⟨b9, o9, _, _, hc9⟩
                        · rw [h0] at hi9; simp at hi9
                        · exact ⟨(hc9 i9 (List.mem_range.1 hi9)).2.2.2.2.1, (hc9 i9 (List.mem_range.1 hi9)).2.2.2.2.2⟩
                      have hce := HK.out.1.conE hbd
                      have HRE := Lib.hid (show RuE wr ⟨r.nm, r.k, r.u, A9, M.length, c9, fun i => M[i]!⟩ from ⟨HV.out.1, HV.out.2.1, HV.out.2.2.1, hce.2.1, hce.2.2, hce.1⟩)
                      have hval : (RL.val ⟨r.nm, r.k, r.u, A9, M.length, c9, fun i => M[i]!⟩) = revR r.val := by
                        unfold RL.val revR
                        simp only [RV.mk.injEq, true_and]
                        rw [range_get, hM]
                        rfl
                      have HVAL := Lib.hid hval
                      obtain ⟨ml, hml⟩ : ∃ ml, M.length = ml := ⟨_, rfl⟩
                      have hrc := HK.out.2.2.1
                      rw [hml] at hrc
                      have e0 := hrc.cell 0 (.string r.nm) rfl
                      have e1 := hrc.cell 1 (.int .i64 r.k) rfl
                      have e2 := hrc.cell 2 (.int .i64 r.u) rfl
                      have e3 := hrc.cell 3 (.slice A9 ml c9) rfl
                      have s3 := HQ9.out.q.cell 3 (.slice A2 l2.length c2) rfl
                      have hl9 : l2.length ≤ 100 := by
                        have h1 := congrArg List.length HJ.out.val
                        rw [List.length_map, List.length_append, List.length_map] at h1
                        have h2 := List.length_filter_le (selV fr t) (pre.take q)
                        rw [List.length_take] at h2
                        have h3 : (doneV fr pre t).length ≤ 40 := by
                          have ht01 : t = 0 ∨ t = 1 := by omega
                          rcases ht01 with rfl | rfl
                          · simp [doneV]
                          · rw [doneV_succ]
                            have h4 := List.length_filter_le (selV fr 0) pre
                            have h5 : pre.length = n := by rw [← HPRE.out, List.length_map, List.length_range]
                            simp [doneV]
                            omega
                        omega
                      have hz9 := HQ9.out.size
                      rw [hml] at HRE HVAL
                      have HX3 := HX.out.2
                      clear hM hbd hce hval hrc hml
                      go_wp2_with (refine app_ruleE rfl _ _ rfl (by rfl) (HQ9.out.row.alloc _) (r := ⟨r.nm, r.k, r.u, A9, ml, c9, fun i => M[i]!⟩) (by rfl) (RowC.new _ _ _ _ (by rfl)) (HRE.out.keep ((KeepD.refl _).alloc _)) (by omega) (by simp; omega) ?_; intro g2 c3 w3 hown3 hgr3 hl3 hkd3 hB3; have hq3 := (HQ9.out.q.alloc _).below hB3 (by omega); have hp3 := (HQ9.out.p.alloc _).below hB3 (by omega); have x3 := hq3.cell 3 (.slice A2 l2.length c2) rfl; have y3 := hq3.frozen 3)
                      have hq3 : RowC w3 qb (polA k u x A2 l2.length c2) 26 := (HQ9.out.q.alloc _).below hB3 (by omega)
                      have hp3 : RowC w3 B (polA k u x (some ⟨bb, o, none⟩) n c) 26 := (HQ9.out.p.alloc _).below hB3 (by omega)
                      have hset := hq3.set 3 (.slice (some ⟨g2, 0, none⟩) (l2.length + 1) c3)
                      refine ⟨⟨q + 1, some ⟨g2, 0, none⟩, c3, l2 ++ [⟨r.nm, r.k, r.u, A9, ml, c9, fun i => M[i]!⟩], by omega, by go_num, Lib.hid {
                        row := hown3.setLow hq3.ty (by decide) (by decide) _ _
                        val := by
                          rw [List.map_append, HJ.out.val, HTK.out, List.filter_append, List.map_append, List.append_assoc]
                          congr 1
                          congr 1
                          rw [List.filter_cons, HSEL.out, HX3]
                          simp only [if_true, List.filter_nil, List.map_cons, List.map_nil, HVAL.out]
                        q := by rw [List.length_append]; exact hset
                        p := hp3.setOther 3 _ (by omega)
                        below := ((HQ9.out.below.alloc (by omega) _).trans (hB3.mono (by omega))).setCell (Nat.le_refl _) _
                        size := by have := hB3.size; simp at this ⊢; omega }⟩, by simp [intOf]; omega⟩
                    · obtain ⟨kk, rfl⟩ : ∃ kk, j = kk + 1 := ⟨j - 1, by omega⟩
                      have hkn : kk < r.n := by omega
                      obtain ⟨y, hy⟩ : ∃ y, r.C kk = y := ⟨_, rfl⟩
                      obtain ⟨cb, co, hA, c0, c1, c2', c3⟩ := (HV.out.2.2.2.below HK.out.2.2.2.1 (Nat.le_refl _)).four hkn hy
                      obtain ⟨pB, f3⟩ := HSY.out wr HK.out.2.2.2.1
                      rw [hA] at f3
                      have hml : M.length ≤ 12 := by
                        rw [HK.out.2.1, List.length_reverse, List.length_drop]
                        unfold RL.cs
                        simp
                        omega
                      have hdrop : M ++ [y] = (r.cs.drop kk).reverse := by
                        rw [HK.out.2.1, ← hy]
                        have hlen : kk < r.cs.length := by unfold RL.cs; simpa using hkn
                        have hget : r.cs[kk]'hlen = r.C kk := by simp only [RL.cs, List.getElem_map, List.getElem_range]
                        rw [List.drop_eq_getElem_cons hlen, List.reverse_cons, hget]
                      have HDR := Lib.hid hdrop
                      obtain ⟨ml, hmm⟩ : ∃ ml, M.length = ml := ⟨_, rfl⟩
                      have hrc := HK.out.2.2.1
                      rw [hmm] at hrc hml
                      have x3 := hrc.cell 3 (.slice A9 ml c9) rfl
                      have x3a := fun ob => (hrc.alloc ob).cell 3 (.slice A9 ml c9) rfl
                      have HRC := Lib.hid hrc
                      have HMM := Lib.hid hmm
                      have e9 : ((kk + 1 : Nat) : Int) - 1 = (kk : Int) := by omega
                      have i9 : (0 : Int) ≤ (kk : Int) := by omega
                      have i10 : (kk : Int) < (r.n : Int) := by omega
                      have hsz := HK.out.2.2.2.2
                      rw [e9]
                      clear hdrop hmm hrc e9 hy hA hj0
                      go_wp2_with fail
                      go_region_law
                        (first
                          | (refine step_condE (by rfl) _ _ (by rfl) (M := M) (by rw [HMM.out]; rfl) (by first | exact HK.out.1.alloc _ | exact (HK.out.1.alloc _).below (B := (wr.alloc _).heap.size) (Below.refl _ (wr.alloc _)).drew (Nat.le_refl _) | exact (HK.out.1.below (B := wr.heap.size) (Below.refl _ wr).drew (Nat.le_refl _)).alloc _) (r := y) (by rfl) (RowC.new _ _ _ _ (by rfl)) (by rw [HMM.out]; omega) (by simp; omega) ?_
                             rintro A8 c8 w8 hown8 hB8
                             have hk8 : Below (rb + 1) wr w8 := by
                               first
                               | exact ((Below.refl (rb + 1) wr).alloc hsz _).trans hB8
                               | exact (((Below.refl (rb + 1) wr).alloc hsz _).drew).trans hB8
                               | exact (((Below.refl (rb + 1) wr).drew).alloc hsz _).trans hB8
                             have hrc8 := HRC.out.below hk8 (by omega)
                             have x8 := hrc8.cell 3 (.slice A9 ml c9) rfl
                             have y8 := hrc8.frozen 3
                             skip))
                      all_goals go_wp2
                      all_goals
                        have hs8 := hk8.size
                        exact ⟨⟨kk, A8, c8, M ++ [y], by omega, by first | rfl | go_num, Lib.hid ⟨hown8.setLow hrc8.ty (by decide) 3 _, HDR.out, by rw [List.length_append]; exact hrc8.set 3 (.slice A8 (M.length + 1) c8), (HK.out.2.2.2.1.trans (hk8.mono (by omega))).setCell hrb _, by simp; omega⟩⟩, by simp [intOf] <;> omega⟩
              · have hx1 : (nb != tb) = true := by simp [hs]
                have hx2 : (nb == tb) = false := by simp [hs]
                have HX2 := Lib.hid hx2
                clear hs
                go_wp2
                exact ⟨⟨q + 1, A2, c2, l2, by omega, by go_num, Lib.hid (by rw [HTK.out, List.filter_append]; simpa [HSEL.out, HX2.out] using HJ.out)⟩, by simp [intOf]; omega⟩
            · obtain rfl : q = n := by omega
              have htk : pre.take q = pre := List.take_of_length_le (by rw [← HPRE.out, List.length_map, List.length_range]; exact Nat.le_refl _)
              have HTK := Lib.hid htk
              clear htk
              go_wp2
              exact ⟨⟨t + 1, A2, c2, l2, by omega, by go_num, Lib.hid (by have := HJ.out; rw [HTK.out, ← doneV_succ] at this; exact this)⟩, by simp [intOf]; omega⟩
        · obtain rfl : t = 2 := by omega
          have hpl : pre.length = n := by rw [← HPRE.out, List.length_map, List.length_range]
          have hll : ls.length = n := by
            have h1 := congrArg List.length HI.out.val
            rw [List.length_map, doneV_two, List.length_map, List.length_append, filter_two, hpl] at h1
            exact h1
          have hpm : ∀ v ∈ pre, v.L.length ≤ 12 := fun v hv => by
            rw [← HPRE.out] at hv
            obtain ⟨i, hi, rfl⟩ := List.mem_map.1 hv
            have := (HLP.out.2 i (List.mem_range.1 hi)).2
            simpa [RL.val] using this
          have hlm : ∀ i, i < ls.length → ls[i]!.n ≤ 12 := fun i hi => by
            have h1 : ls[i]!.val ∈ doneV fr pre 2 := by
              rw [← HI.out.val]
              exact List.mem_map.2 ⟨_, by rw [getElem!_pos ls i hi]; exact List.getElem_mem hi, rfl⟩
            rw [doneV_two] at h1
            obtain ⟨v, hv, he⟩ := List.mem_map.1 h1
            have h2 : v ∈ pre := by
              rcases List.mem_append.1 hv with h | h
              · exact (List.mem_filter.1 h).1
              · exact (List.mem_filter.1 h).1
            have h3 := hpm v h2
            have h4 : ls[i]!.val.L.length = ls[i]!.n := by simp [RL.val]
            have h5 : (revR v).L.length = v.L.length := by simp [revR]
            rw [← he, h5] at h4
            omega
          have HOF := Lib.hid (of16_any k u x A n c R wr hn40 (fun i hi => (HLP.out.2 i hi).2) (HR1.out.below HI.out.below (by rw [HQB.out]; exact Nat.le_refl _)))
          have p0 := HI.out.p.cell 0 (.int .i64 k) rfl
          have p1 := HI.out.p.cell 1 (.int .i64 u) rfl
          have p2 := HI.out.p.cell 2 (.bool x) rfl
          have p3 := HI.out.p.cell 3 (.slice A n c) rfl
          have HLL := Lib.hid (And.intro hll (And.intro hpm hlm))
          clear hpl hll hpm hlm
          go_wp2_with fail
          refine HOF.out.mono ?_
          rintro e w2 ⟨A1, c1, l1, rfl, hl1, hrow1, hval1, hB2⟩
          rw [HPRE.out] at hval1
          have hS1 : ∀ e ∈ l1, e.n ≤ 100000 := fun e he => by
            have h1 : e.val ∈ pre := by rw [← hval1]; exact List.mem_map.2 ⟨e, he, rfl⟩
            have h2 := HLL.out.2.1 _ h1
            have h3 : e.val.L.length = e.n := by simp [RL.val]
            omega
          have HPX := Lib.hid (policyN_any k u x A1 l1 c1 w2 hrow1.rl (by rw [hl1]; omega) hS1)
          rw [hval1, hl1] at HPX
          have HB2 := Lib.hid hB2
          clear hrow1 hval1 hB2 hS1 hl1 p0 p1 p2 p3
          go_wp2_with fail
          refine HPX.out.mono ?_
          rintro e w3 ⟨Aa, ca, lsa, ka, ua, xa, era, rfl, hrowa, hB3, hlna, hsma, hora⟩
          obtain ⟨W3, hW3⟩ : ∃ W, w3.alloc (.cells (polA ka ua xa Aa lsa.length ca) 31) = W := ⟨_, rfl⟩
          have hB33 : Below w3.heap.size w3 W3 := by rw [← hW3]; exact (Below.refl _ _).alloc (Nat.le_refl _) _
          have hA3 : RowC W3 w3.heap.size (polA ka ua xa Aa lsa.length ca) 31 := by rw [← hW3]; exact RowC.new _ _ _ _ rfl
          have hBw : Below wr.heap.size wr W3 := HB2.out.trans ((hB3.trans (hB33.mono hB3.size)).mono HB2.out.size)
          have hQ3 := HI.out.on hBw hBq
          have hrla := hrowa.rl.below hB33 (Nat.le_refl _)
          have HOF2 := Lib.hid (of16_any k u x A' ls.length c' (fun i => ls[i]!) W3 (by rw [HLL.out.1]; exact hn40) HLL.out.2.2 hQ3.row.rl.rla)
          have q0 := hQ3.q.cell 0 (.int .i64 k) rfl
          have q1 := hQ3.q.cell 1 (.int .i64 u) rfl
          have q2 := hQ3.q.cell 2 (.bool x) rfl
          have q3 := hQ3.q.cell 3 (.slice A' ls.length c') rfl
          have HA3 := Lib.hid hA3
          have HRLA := Lib.hid hrla
          have HQ3 := Lib.hid hQ3
          have HW3 := Lib.hid hW3
          have HORA := Lib.hid hora
          have HSMA := Lib.hid (And.intro hlna hsma)
          clear hrowa hB3 hB33 hA3 hBw hQ3 hrla hW3 hora hlna hsma
          go_upto_region 18 with fail
          rw [HW3.out]
          go_wp2_with fail
          refine HOF2.out.mono ?_
          rintro e w4 ⟨A4, c4, l4, rfl, hl4, hrow4, hval4, hB4⟩
          have hval4' : l4.map RL.val = doneV fr pre 2 := by
            have h1 : (List.range ls.length).map (fun i => (ls[i]!).val) = ((List.range ls.length).map (fun i => ls[i]!)).map RL.val := by rw [List.map_map]; rfl
            rw [range_get] at h1
            rw [hval4, ← HI.out.val]
            exact h1
          have hS4 : ∀ e ∈ l4, e.n ≤ 100000 := fun e he => by
            have h1 : e.val ∈ l4.map RL.val := List.mem_map.2 ⟨e, he, rfl⟩
            rw [hval4] at h1
            obtain ⟨i, hi, hv⟩ := List.mem_map.1 h1
            have h2 := HLL.out.2.2 i (List.mem_range.1 hi)
            have h3 : e.val.L.length = e.n := by simp [RL.val]
            have h4 : ls[i]!.val.L.length = ls[i]!.n := by simp [RL.val]
            rw [hv] at h4
            omega
          have HPY := Lib.hid (policyN_any k u x A4 l4 c4 w4 hrow4.rl (by rw [hl4, HLL.out.1]; omega) hS4)
          rw [hval4', hl4] at HPY
          have HB4 := Lib.hid hB4
          clear hrow4 hval4 hval4' hB4 hS4 hl4 q0 q1 q2 q3
          go_wp2_with fail
          refine HPY.out.mono ?_
          rintro e w5 ⟨Ab, cb, lsb, kb, ub, xb, erb, rfl, hrowb, hB5, hlnb, hsmb, horb⟩
          have hg : era = erb ∧ ka = kb ∧ ua = ub ∧ xa = xb ∧ lsa.map RL.val = lsb.map RL.val := by
            have hrt := rightV_turn k u pre fr
            rcases HORA.out with ⟨h1, h2, h3, h4, h5, h6⟩ | ⟨h1, h2, h3, h4, h5, h6⟩
            · rcases horb with ⟨f1, f2, f3, f4, f5, f6⟩ | ⟨f1, _⟩
              · refine ⟨h2.trans f2.symm, h3.trans f3.symm, h4.trans f4.symm, h5.trans f5.symm, ?_⟩
                rw [h6, f6, doneV_two]
                exact (nP_orders k u pre fr.data.toList).symm
              · rw [hrt, h1] at f1; cases f1
            · rcases horb with ⟨f1, _⟩ | ⟨f1, f2, f3, f4, f5, f6⟩
              · rw [hrt, h1] at f1; cases f1
              · exact ⟨h2.trans f2.symm, h3.trans f3.symm, h4.trans f4.symm, h5.trans f5.symm, by rw [h6, f6]⟩
          obtain ⟨g1, g2, g3, g4, g5⟩ := hg
          subst g1 g2 g3 g4
          obtain ⟨W5, hW5⟩ : ∃ W, w5.alloc (.cells (polA ka ua xa Ab lsb.length cb) 31) = W := ⟨_, rfl⟩
          have hB55 : Below w5.heap.size w5 W5 := by rw [← hW5]; exact (Below.refl _ _).alloc (Nat.le_refl _) _
          have hB45 : Below W3.heap.size W3 W5 := HB4.out.trans ((hB5.trans (hB55.mono hB5.size)).mono HB4.out.size)
          have hA5 := HA3.out.below hB45 HA3.out.lt
          have hY5 : RowC W5 w5.heap.size (polA ka ua xa Ab lsb.length cb) 31 := by rw [← hW5]; exact RowC.new _ _ _ _ rfl
          have HSAME := Lib.hid (same_any ka ua ka ua xa xa Aa Ab lsa lsb ca cb W5 (HRLA.out.below hB45 (Nat.le_refl _)) (hrowb.rl.below hB55 (Nat.le_refl _)) HSMA.out.1 (fun e he => by have := HSMA.out.2 e he; omega))
          have a0 := hA5.cell 0 (.int .i64 ka) rfl
          have a1 := hA5.cell 1 (.int .i64 ua) rfl
          have a2 := hA5.cell 2 (.bool xa) rfl
          have a3 := hA5.cell 3 (.slice Aa lsa.length ca) rfl
          have b0 := hY5.cell 0 (.int .i64 ka) rfl
          have b1 := hY5.cell 1 (.int .i64 ua) rfl
          have b2 := hY5.cell 2 (.bool xa) rfl
          have b3 := hY5.cell 3 (.slice Ab lsb.length cb) rfl
          have HG := Lib.hid g5
          have HW5 := Lib.hid hW5
          have HBE := Lib.hid (show Below B w0 W5 from (HB01.out.trans ((HQ3.out.below.trans (hB45.mono (by have := HQ3.out.size; omega))).mono (by omega))))
          clear hW5 hB55 hB45 hA5 hY5 hrowb hB5 hlnb hsmb horb g5
          go_upto_region 19 with fail
          rw [HW5.out]
          go_wp2_with fail
          refine HSAME.out.mono ?_
          rintro e w6 ⟨⟨b6, rfl, hb6⟩, hB6⟩
          obtain rfl : b6 = true := hb6.2 ⟨by first | rfl | trivial, by first | rfl | trivial, by first | rfl | trivial, HG.out⟩
          have HB6 := Lib.hid (HBE.out.trans (hB6.mono (by have h1 := HBE.out.size; rw [HBS.out] at h1; exact h1)))
          clear hb6 hB6 a0 a1 a2 a3 b0 b1 b2 b3
          go_wp2_with fail
          refine (HAW.out _).mono ?_
          rintro e w7 ⟨rfl, hB7⟩
          go_wp2
          go_ret
          exact ⟨rfl, by rw [HBS.out]; exact HB6.out.trans (hB7.mono (by have h1 := HB6.out.size; rw [HBS.out] at h1; exact h1))⟩
theorem of_laid {W : World} (h : laidMetH Tryz.prog Rows.normOrdersRow.laid W) : True := trivial

namespace normOrdersRow
open Go.ChangeShapes Go.WideShapes Go.ChangeAt Go.RowKit Go.Joins
open Go.ChangeMaps (open_string shut_string)
set_option linter.unusedVariables false
theorem own : ownKnob Tryz.prog.godebug = none := by kernel_rfl
theorem laidOut : laidOutB Tryz.prog = true := by kernel_rfl
set_option maxRecDepth 100000 in
theorem lifted (os : Os) (started : os.Started) (H : Type) (enc : TypeId × Value → H) :
    ReturnsInHanded {} Tryz.checked os 5 .any (fun w args => (Rows.normOrdersSpec.pre enc Tryz.prog Tryz.f5 [] false w args ∧ laidMetH Tryz.prog Rows.normOrdersRow.laid w) ∧ sizedMet enc Tryz.prog Tryz.f5 (OpenSpec.ofChange Rows.normOrdersSpec) false w args) (Rows.normOrdersSpec.post enc Tryz.prog Tryz.f5 false true false false) := by
  refine returnsInHanded_of_change_and (C := Tryz.checked) (X := fun w _ => laidMetH Tryz.prog Rows.normOrdersRow.laid w) (fun _ _ _ hh h => h.of_heap hh) own started (by kernel_rfl) Tryz.func5
    (ChangeSpec.witness_shaped (enc := enc) (C := Tryz.checked) (os := os) (X := fun w _ => laidMetH Tryz.prog Rows.normOrdersRow.laid w) false (World.laidAll Tryz.prog os Rows.normOrdersRow.laid) #[.agg #[.int .i64 0, .int .i64 0, .bool false, .slice none 0 0], .string ⟨#[]⟩] 8 (World.laidAll_os _ _ _) (World.shaped_of_ZipB (by kernel_rfl) (by kernel_rfl)) (by kernel_rfl) (by kernel_rfl) (by kernel_rfl) (by rw [MakeChecks.laidMetH_plain _ _ _ (by kernel_rfl)]; exact laidMet_laidAll _ (by kernel_rfl) (by kernel_rfl))) ?_
  intro W base args ds gs before hval0 hW _ _ hL _
  have hval : ∀ (j : Nat) t v, Tryz.f5.params[j]? = some t → args[j]? = some v → Value.okWide Tryz.prog W .any base t v := hval0
  have hW' := hW
  obtain ⟨p, q, hA0, hV, rfl, hfz, hnd⟩ := hW
  have hA : DataW.TrodAll enc Tryz.prog W 0 (fun _ => true) true Tryz.f5.params.toList args.toList ds p := hA0
  rw [Tryz.params5] at hA hval
  obtain ⟨v0, vs0, d0, ds0, p0, q0, hargs, rfl, rfl, h0, r0⟩ := trodAll_cons hA
  obtain ⟨v1, vs1, d1, ds1, p1, q1, rfl, rfl, rfl, h1, r1⟩ := trodAll_cons r0
  obtain ⟨rfl, rfl, rfl⟩ := trodAll_nil r1
  obtain rfl : args = #[v0, v1] := by cases args; simp_all
  obtain ⟨rfl, rfl⟩ := trodVars_none hV
  have k0 := h0
  have lt0 : ∀ x ∈ p0, x.block < W.heap.size := by obtain ⟨m, hm⟩ := k0; exact DataW.trod_lt m _ _ _ hm
  have k1 := h1
  have lt1 : ∀ x ∈ p1, x.block < W.heap.size := by obtain ⟨m, hm⟩ := k1; exact DataW.trod_lt m _ _ _ hm
  obtain ⟨pk0, pu0, px0, pA0, pn0, pc0, pR0, rfl, pa0, pb0, pl0, pm0, pt0⟩ := open_policy (hval 0 26 v0 rfl rfl) h0
  obtain ⟨s1, rfl, rfl, rfl, w1⟩ := open_string Tryz.underlying9 (hval 1 9 v1 rfl rfl) h1
  clear hA0 hval0
  refine (walk_NormOrders (w0 := W) pk0 pu0 px0 pA0 pn0 pc0 pR0 pa0 pb0 pl0 pm0 pt0 s1 w1 (of_laid hL)).mono fun e W' ⟨he, bel⟩ => ?_
  subst he
  exact ⟨_, rfl, _, _, _, [], _, [], hW', trodAll_mk1 (shut_bool Tryz.underlying4 _), (trodAll_cons_mk (Below.trod laidOut (by kernel_rfl) (of_decide_eq_true (by kernel_rfl)) k0 bel lt0) (trodAll_cons_mk (Below.trod laidOut (by kernel_rfl) (of_decide_eq_true (by kernel_rfl)) k1 bel lt1) trodAll_mk0)), rfl, bel.frame _, fun h => by cases h⟩

theorem over : Rows.normOrdersRow.holds Tryz.pinned (OpenSpec.ofChange Rows.normOrdersSpec) :=
  OpenClaim.holds_of_wide 5 Tryz.f5 rfl rfl rfl rfl rfl rfl rfl ⟨rfl, rfl, rfl, rfl, rfl⟩ rfl rfl rfl rfl rfl (by kernel_rfl) Tryz.func5 (by kernel_rfl)
    (of_decide_eq_true (by kernel_rfl)) (by unfold Func.isWrapper; first | (rw [if_pos (by decide +kernel)]; kernel_rfl) | (rw [if_neg (by decide +kernel)]; exact ⟨rfl, rfl⟩))
    (fun os started H enc _ => lifted os started H enc)
end normOrdersRow

theorem normOrders_proved : Rows.NormOrdersCardSaid :=
  Claim7.holds_tied_plain_at .later [] [.data, .pinned] true Rows.normOrdersCard.stood.harness false
    normOrdersRow.over (fun _ h => by cases h) (by kernel_rfl) (fun _ h => by cases h) normOrders_row_tie rfl ⟨rfl, rfl⟩ (by kernel_rfl) rfl
    (fun f fn hf hfn => by
      obtain rfl : f = 5 := Option.some.inj ((show Tryz.prog.funcNamed "strainer/strainerlaw16.NormOrders" = some 5 by kernel_rfl).symm.trans hf) |>.symm
      obtain rfl : fn = Tryz.f5 := (Option.some.inj (Tryz.func5.symm.trans hfn)).symm
      exact ⟨by kernel_rfl, fun j t ht => by
        rw [Tryz.params5] at ht
        have hall : ∀ t ∈ [26, 9], Tryz.prog.wantsStandIn t = false := by
          intro t ht
          simp only [List.mem_cons, List.not_mem_nil, or_false] at ht
          rcases ht with rfl | rfl <;> kernel_rfl
        exact hall t (by simpa using Array.mem_of_getElem? ht)⟩)
    (by kernel_rfl)
#print axioms normOrders_proved
end Go.Proofs.YtfaaclppkhkmpaaGreatDoor
