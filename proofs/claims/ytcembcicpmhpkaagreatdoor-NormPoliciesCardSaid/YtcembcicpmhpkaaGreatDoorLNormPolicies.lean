/-
  The law NormPolicies holds for every input: the normal form of any policy, as the document has it. No condition.
-/
import Derived.Test.YtcembcicpmhpkaaGreatDoorRows
import Derived.Test.YtcembcicpmhpkaaGreatDoorCards
import Derived.Test.YtcembcicpmhpkaaGreatDoorTie
import Derived.Test.YtcembcicpmhpkaaGreatDoorMk
import Derived.Test.YtcembcicpmhpkaaGreatDoorRy
import Derived.Test.YtcembcicpmhpkaaGreatDoorMt
import Derived.Deep.RegionHeld3
import Derived.Lay
import Derived.MakeChecks
import Derived.WalkKit
import Derived.ProofKit
import Derived.OpenShut
import Derived.ShutString
import Derived.ChangeOld
import Derived.Below
import Derived.Lib.SmallJoins
import Derived.SevenTiedAt
import Derived.LaidMore
import Derived.Stop.Joined
import Derived.RegionTactic
import Derived.Deep.Cut
import Derived.Deep.CutRange
namespace Go.Proofs.YtcembcicpmhpkaaGreatDoor
open Go.RowKit Go.Shelf
set_option linter.unusedVariables false

theorem rowc_drew {w : World} {b : Nat} {cs : Array Value} {T : TypeId} (h : RowC w b cs T) : RowC w.drew b cs T := h
theorem bAl2 {w w' : World} (h : Below w.heap.size w w') (o : Obj) : Below w.heap.size w (w'.alloc o) := h.alloc h.size o
theorem bTr2 {w w' w'' : World} (h : Below w.heap.size w w') (h' : Below w'.heap.size w' w'') : Below w.heap.size w w'' := h.trans (h'.mono h.size)
theorem RowC.across {w w' : World} {cs : Array Value} {T : TypeId} {o : Obj} (h : Below (w.alloc (.cells cs T)).drew.heap.size (w.alloc (.cells cs T)).drew w') : RowC (w'.alloc o) w.heap.size cs T :=
  ((rowc_drew (RowC.new w cs T _ rfl)).below h (by show _ < (World.alloc _ _).heap.size; simp)).alloc _
theorem RowC.second {w : World} {cs : Array Value} {T : TypeId} {o : Obj} : RowC ((w.alloc o).alloc (.cells cs T)) (w.heap.size + 1) cs T := RowC.new _ _ _ _ (by simp)
theorem RlL.nil_ (w : World) : RlL w none [] := ⟨.inl rfl, fun _ h => by cases h⟩
theorem RlL.one {w : World} {g : Nat} {r : RL} (h : RowC w g (rulA r.nm r.k r.u r.A r.n r.c) 52) (hr : RuT w r) : RlL w (some ⟨g, 0, none⟩) [r] := by
  refine ⟨.inr ⟨g, 0, rfl, h.lt, fun i hi => ?_⟩, fun q hq => ?_⟩
  · obtain rfl : i = 0 := by simpa using hi
    exact ⟨h.cell 0 _ rfl, h.cell 1 _ rfl, h.cell 2 _ rfl, h.cell 3 _ rfl⟩
  · rw [List.mem_singleton] at hq; subst hq; exact hr
/-- Two policies of one rule each. -/
theorem same_two (w : World) (nm : ByteArray) (k u : Int) (M : List CD) (A1 A2 : Option Addr) (c1 c2 g1 g2 : Nat) (h1 : RowC w g1 (rulA nm k u A1 M.length c1) 52) (h2 : RowC w g2 (rulA nm k u A2 M.length c2) 52)
    (hn : nm.size ≤ maxLen) (hk : (Lit.int .i64 k).wf = true) (hu : (Lit.int .i64 u).wf = true) (hM : M.length ≤ 100000) (e1 : M.length ≤ c1 ∧ c1 ≤ maxLen) (e2 : M.length ≤ c2 ∧ c2 ≤ maxLen) (t1 : ConT w A1 M.length fun i => M[i]!) (t2 : ConT w A2 M.length fun i => M[i]!) :
    Calls Tryz.prog 11 #[.agg (polA 0 0 false (some ⟨g1, 0, none⟩) 1 1), .agg (polA 0 0 false (some ⟨g2, 0, none⟩) 1 1)] w fun e w' => e = .returned (.bool true) ∧ Below w.heap.size w w' := by
  have r1 : RuT w (⟨nm, k, u, A1, M.length, c1, fun i => M[i]!⟩ : RL) := ⟨hn, hk, hu, e1.1, e1.2, t1⟩
  have r2 : RuT w (⟨nm, k, u, A2, M.length, c2, fun i => M[i]!⟩ : RL) := ⟨hn, hk, hu, e2.1, e2.2, t2⟩
  have h := same_any 0 0 0 0 false false (some ⟨g1, 0, none⟩) (some ⟨g2, 0, none⟩) [⟨nm, k, u, A1, M.length, c1, fun i => M[i]!⟩] [⟨nm, k, u, A2, M.length, c2, fun i => M[i]!⟩] 1 1 w (RlL.one h1 r1) (RlL.one h2 r2) (by simp) (fun e he => by rw [List.mem_singleton] at he; subst he; exact hM)
  refine h.mono ?_
  rintro e w' ⟨⟨b, rfl, hb⟩, hB⟩
  obtain rfl : b = true := hb.2 ⟨rfl, rfl, rfl, by rfl⟩
  exact ⟨rfl, hB⟩
/-- The normal form of one rule, the program's and the document's. -/
def OneR (w : World) (r : RL) (e : Ending) (st : Bool) (nm : ByteArray) (k u : Int) (M : List CD) (A : Option Addr) (c : Nat) : Prop :=
  e = .returned (.tuple #[.agg (rulA nm k u A M.length c), .bool st]) ∧ M.length ≤ c ∧ c ≤ maxLen ∧ M.length ≤ 6 ∧ ((st = false ∧ askL r.cs = none ∧ nm = ⟨#[]⟩ ∧ k = 0 ∧ u = 0 ∧ M = []) ∨ (st = true ∧ nm = r.nm ∧ k = r.k ∧ u = r.u ∧ ∃ L, askL r.cs = some L ∧ M = srt L))
theorem ruleN_one (r : RL) (w : World) (hr : RiR r) (hC : ConA w r.A r.n r.C) (hcap : r.n ≤ r.c) :
    Calls Tryz.prog 22 #[.agg (rulA r.nm r.k r.u r.A r.n r.c)] w fun e w' => Below w.heap.size w w' ∧ ∃ st nm k u M A c, OneR w r e st nm k u M A c ∧ ConT w' A M.length fun i => M[i]! :=
  (ruleN_any r w hr hC hcap).mono fun e w' ⟨hB, h⟩ => by
    refine ⟨hB, ?_⟩
    rcases h with ⟨h1, h2⟩ | ⟨L, A, c, h1, h2, h3, h4, h5⟩
    · exact ⟨false, ⟨#[]⟩, 0, 0, [], none, 0, ⟨h2, Nat.le_refl _, by simp [maxLen], by simp, .inl ⟨rfl, h1, rfl, rfl, rfl, rfl⟩⟩, .inl rfl⟩
    · refine ⟨true, r.nm, r.k, r.u, srt L, A, c, ⟨h2, h3, h4, ?_, .inr ⟨rfl, rfl, rfl, rfl, L, h1, rfl⟩⟩, h5⟩
      have g1 := srt_len L
      have g2 := askL_len _ _ h1
      have g3 : r.cs.length = r.n := by simp [RL.cs]
      have g4 := hr.1
      omega
theorem refRule_one (r : RL) (w : World) (hr : RiR r) (hC : ConA w r.A r.n r.C) :
    Calls Tryz.prog 24 #[.agg (rulA r.nm r.k r.u r.A r.n r.c)] w fun e w' => Below w.heap.size w w' ∧ ∃ st nm k u M A c, OneR w r e st nm k u M A c ∧ RdF w' A M c :=
  (refRule_any r.nm r.k r.u r.A r.n r.c r.C w hr.1 hr.2 hC).mono fun e w' ⟨hB, h⟩ => by
    refine ⟨hB, ?_⟩
    rcases h with ⟨h1, h2⟩ | ⟨L, A, c, h1, h2, h3⟩
    · exact ⟨false, ⟨#[]⟩, 0, 0, [], none, 0, ⟨h2, Nat.le_refl _, by simp [maxLen], by simp, .inl ⟨rfl, h1, rfl, rfl, rfl, rfl⟩⟩, RdF.nil_ _⟩
    · refine ⟨true, r.nm, r.k, r.u, srt L, A, c, ⟨h2, h3.2.1, h3.2.2.1, ?_, .inr ⟨rfl, rfl, rfl, rfl, L, h1, rfl⟩⟩, h3⟩
      have g1 := srt_len L
      have g2 := askL_len _ _ h1
      have g3 : ((List.range r.n).map r.C).length = r.n := by simp
      have g4 := hr.1
      omega
theorem OneR.same {w w2 : World} {r r2 : RL} {e e2 : Ending} {st st2 : Bool} {nm nm2 : ByteArray} {k k2 u u2 : Int} {M M2 : List CD} {A A2 : Option Addr} {c c2 : Nat} (h : OneR w r e st nm k u M A c) (h2 : OneR w2 r2 e2 st2 nm2 k2 u2 M2 A2 c2) (hr : r.nm = r2.nm ∧ r.k = r2.k ∧ r.u = r2.u ∧ r.cs = r2.cs) : st2 = st ∧ nm2 = nm ∧ k2 = k ∧ u2 = u ∧ M2 = M := by
  obtain ⟨_, _, _, _, h⟩ := h
  obtain ⟨_, _, _, _, h2⟩ := h2
  obtain ⟨g1, g2, g3, g4⟩ := hr
  rcases h with ⟨a1, a2, a3, a4, a5, a6⟩ | ⟨a1, a2, a3, a4, L, a5, a6⟩ <;> rcases h2 with ⟨b1, b2, b3, b4, b5, b6⟩ | ⟨b1, b2, b3, b4, L2, b5, b6⟩
  · exact ⟨by rw [a1, b1], by rw [a3, b3], by rw [a4, b4], by rw [a5, b5], by rw [a6, b6]⟩
  · rw [← g4, a2] at b5; cases b5
  · rw [← g4, a5] at b2; cases b2
  · rw [← g4, a5] at b5
    cases b5
    exact ⟨by rw [a1, b1], by rw [a2, b2, g1], by rw [a3, b3, g2], by rw [a4, b4, g3], by rw [a6, b6]⟩

set_option maxRecDepth 100000 in
set_option maxHeartbeats 16000000 in
theorem walk_NormPolicies {w0 : World} (k u : Int) (x : Bool) (A : Option Addr) (n c : Nat) (R : Nat → RL) (wk : (Lit.int .i64 k).wf = true) (wu : (Lit.int .i64 u).wf = true) (hnc : n ≤ c) (hcm : c ≤ maxLen) (hR : RlA w0 A n R) (_ : True) :
    Calls Tryz.prog 8 #[.agg (polA k u x A n c)] w0 fun e w' => e = .returned (.bool true) ∧ Below w0.heap.size w0 w' := by
  obtain ⟨W0, hW0⟩ : ∃ W, w0.alloc (.cells (polA k u x A n c) 26) = W := ⟨_, rfl⟩
  obtain ⟨B, hBs⟩ : ∃ B, w0.heap.size = B := ⟨_, rfl⟩
  have hB0 : Below B w0 W0 := by rw [← hW0, ← hBs]; exact (Below.refl _ _).alloc (Nat.le_refl _) _
  have hP0 : RowC W0 B (polA k u x A n c) 26 := by rw [← hW0, ← hBs]; exact RowC.new _ _ _ _ rfl
  have hR0 := hR.below hB0 (by rw [hBs]; exact Nat.le_refl _)
  have HL := Lib.hid (light_any k u x A n c R W0 hnc hcm hR0)
  have HAW := Lib.hid fun X => awake16_any X
  have HB0 := Lib.hid hB0
  have HP0 := Lib.hid hP0
  have HR0 := Lib.hid hR0
  have HW := Lib.hid hW0
  have HBS := Lib.hid hBs
  have HWF := Lib.hid (And.intro wk wu)
  have p0 := hP0.cell 0 (.int .i64 k) rfl
  have p1 := hP0.cell 1 (.int .i64 u) rfl
  have p2 := hP0.cell 2 (.bool x) rfl
  have p3 := hP0.cell 3 (.slice A n c) rfl
  clear hW0 hBs hB0 hP0 hR hR0 wk wu
  go_enter Tryz.func8, Tryz.ntmps8
  go_upto_region 1 with fail
  rw [HW.out, HBS.out]
  go_wp2_with fail
  refine HL.out.mono ?_
  rintro e w1 ⟨⟨b, rfl, hlight⟩, hB1⟩
  have hP1 := HP0.out.below hB1 HP0.out.lt
  have HP1 := Lib.hid hP1
  have HB1 := Lib.hid hB1
  have HB01 := Lib.hid (HB0.out.trans (hB1.mono (by rw [← HBS.out]; have := HB0.out.size; rw [HBS.out]; rw [HBS.out] at this; exact this)))
  have q0 := hP1.cell 0 (.int .i64 k) rfl
  have q1 := hP1.cell 1 (.int .i64 u) rfl
  have q2 := hP1.cell 2 (.bool x) rfl
  have q3 := hP1.cell 3 (.slice A n c) rfl
  clear hP1 hB1 p0 p1 p2 p3
  cases b with
  | false =>
    go_wp2
    go_ret
    exact ⟨rfl, by rw [HBS.out]; exact HB01.out⟩
  | true =>
    have hl := hlight rfl
    have HLP := Lib.hid hl
    have hn40 := hl.1
    clear hlight hl
    have HOF := Lib.hid (of16_any k u x A n c R w1 hn40 (fun i hi => (HLP.out.2 i hi).2) (HR0.out.below HB1.out (Nat.le_refl _)))
    go_wp2_with fail
    refine HOF.out.mono ?_
    rintro e w2 ⟨A1, c1, l1, rfl, hl1, hrow1, hval1, hB2⟩
    have HR2' := Lib.hid ((HR0.out.below HB1.out (Nat.le_refl _)).below hB2 (Nat.le_refl _))
    have hS1 : ∀ e ∈ l1, e.n ≤ 100000 := fun e he => by
      have h1 : e.val ∈ (List.range n).map (fun i => (R i).val) := by rw [← hval1]; exact List.mem_map.2 ⟨e, he, rfl⟩
      obtain ⟨i, hi, hv⟩ := List.mem_map.1 h1
      have h2 := (HLP.out.2 i (List.mem_range.1 hi)).2
      have h3 : e.val.L.length = e.n := by simp [RL.val]
      have h4 : (R i).val.L.length = (R i).n := by simp [RL.val]
      rw [hv] at h4
      omega
    have HPX := Lib.hid (policyN_any k u x A1 l1 c1 w2 hrow1.rl (by rw [hl1]; omega) hS1)
    have hw1 : B ≤ w1.heap.size := by have h1 := HB01.out.size; rw [HBS.out] at h1; exact h1
    have hP2 := HP1.out.below (hB2.mono (Nat.le_refl _)) HP1.out.lt
    have HP2 := Lib.hid hP2
    have HB02 := Lib.hid (HB01.out.trans (hB2.mono hw1))
    have HL1 := Lib.hid hl1
    have HV1 := Lib.hid hval1
    rw [hl1] at HPX
    clear hrow1 hval1 hB2 hP2 hS1 hl1 q0 q1 q2 q3 hw1
    go_wp2_with fail
    refine HPX.out.mono ?_
    rintro e w3 ⟨A2, c2, ls2, k2, u2, xx2, er2, rfl, hrow2, hB3, hln2, hsm2, hor2⟩
    have HR3' := Lib.hid (HR2'.out.below hB3 (Nat.le_refl _))
    rw [HV1.out] at hor2
    have hw2 : B ≤ w2.heap.size := by have h1 := HB02.out.size; rw [HBS.out] at h1; exact h1
    have HB03 := Lib.hid (HB02.out.trans (hB3.mono hw2))
    have hP3 := HP2.out.below hB3 HP2.out.lt
    have HP3 := Lib.hid hP3
    have hw3 : B ≤ w3.heap.size := by have h1 := HB03.out.size; rw [HBS.out] at h1; exact h1
    clear hB3 hP3 hw2
    obtain ⟨W3, hW3⟩ : ∃ W, w3.alloc (.cells (polA k2 u2 xx2 A2 ls2.length c2) 31) = W := ⟨_, rfl⟩
    obtain ⟨X, hX⟩ : ∃ X, w3.heap.size = X := ⟨_, rfl⟩
    have hB33 : Below X w3 W3 := by rw [← hW3, ← hX]; exact (Below.refl _ _).alloc (Nat.le_refl _) _
    have hA3 : RowC W3 X (polA k2 u2 xx2 A2 ls2.length c2) 31 := by rw [← hW3, ← hX]; exact RowC.new _ _ _ _ rfl
    have hPW := HP3.out.below hB33 (by rw [← hX]; exact HP3.out.lt)
    have HB033 := Lib.hid (HB03.out.trans (hB33.mono (by omega)))
    have HRL2 := Lib.hid (hrow2.rl.below hB33 (by rw [hX]; exact Nat.le_refl _))
    have HRR := Lib.hid (HR3'.out.below hB33 (by rw [hX]; exact Nat.le_refl _))
    have HRT := Lib.hid (refPolRight_any k u x A n c R W3 (by omega) HRR.out)
    have HA3 := Lib.hid hA3
    have HPW := Lib.hid hPW
    have HX := Lib.hid hX
    have HW3 := Lib.hid hW3
    have H6 := Lib.hid hsm2
    have H100 := Lib.hid (show ∀ e ∈ ls2, e.n ≤ 100000 from fun e he => by have := hsm2 e he; omega)
    have HLN := Lib.hid hln2
    have HOR := Lib.hid hor2
    have p0 := hPW.cell 0 (.int .i64 k) rfl
    have p1 := hPW.cell 1 (.int .i64 u) rfl
    have p2 := hPW.cell 2 (.bool x) rfl
    have p3 := hPW.cell 3 (.slice A n c) rfl
    clear hW3 hB33 hA3 hPW hX hw3 hln2 hsm2 hor2 hrow2
    go_upto_region 4 with fail
    (try rw [HX.out])
    (try rw [HW3.out])
    go_wp2_with fail
    refine HRT.out.mono ?_
    rintro e w4 ⟨rfl, hB4⟩
    have hA4 := HA3.out.below hB4 HA3.out.lt
    have HA4 := Lib.hid hA4
    have HP4 := Lib.hid (HPW.out.below hB4 HPW.out.lt)
    have HR4 := Lib.hid (HRR.out.below hB4 (Nat.le_refl _))
    have HL4 := Lib.hid (HRL2.out.below hB4 (Nat.le_refl _))
    have hw33 : B ≤ W3.heap.size := by have h1 := HB033.out.size; rw [HBS.out] at h1; exact h1
    have HB04 := Lib.hid (HB033.out.trans (hB4.mono hw33))
    have hw4 : B ≤ w4.heap.size := by have h1 := HB04.out.size; rw [HBS.out] at h1; exact h1
    clear hB4 p0 p1 p2 p3 hw33
    rcases hb : rightV k u ((List.range n).map fun i => (R i).val) with _ | _
    · rcases HOR.out with ⟨h1, _⟩ | ⟨_, e1, e2, e3, e4, e5⟩
      · rw [hb] at h1; cases h1
      subst e1 e2 e3 e4 e5
      have HS := Lib.hid (show Calls Tryz.prog 11 #[.agg (polA 0 0 false A2 0 c2), .agg (polA 0 0 false none 0 0)] w4 fun e w' => e = .returned (.bool true) ∧ Below w4.heap.size w4 w' from
        (same_any 0 0 0 0 false false A2 none [] [] c2 0 w4 HL4.out (RlL.nil_ _) (by simp) (fun e he => by cases he)).mono fun e w' ⟨⟨b, he, hb⟩, hB⟩ => ⟨by rw [he, hb.2 ⟨rfl, rfl, rfl, rfl⟩], hB⟩)
      have a0 := hA4.cell 0 (.int .i64 0) rfl
      have a1 := hA4.cell 1 (.int .i64 0) rfl
      have a2 := hA4.cell 2 (.bool false) rfl
      have a3 := hA4.cell 3 (.slice A2 0 c2) rfl
      clear hA4 hb
      go_wp2_with fail
      refine HS.out.mono ?_
      rintro e w5 ⟨rfl, hB5⟩
      go_wp2_with fail
      refine (HAW.out _).mono ?_
      rintro e w7 ⟨rfl, hB7⟩
      go_wp2
      go_ret
      have s5 := hB5.size
      exact ⟨rfl, by rw [HBS.out]; exact (HB04.out.trans (hB5.mono hw4)).trans (hB7.mono (by omega))⟩
    · rcases HOR.out with ⟨_, e1, e2, e3, e4, hv2⟩ | ⟨h1, _⟩
      case inr => rw [hb] at h1; cases h1
      have e2 := e2.symm
      have e3 := e3.symm
      have e4 := e4.symm
      subst e1 e2 e3 e4
      have HV2 := Lib.hid hv2
      have HMAY := Lib.hid (show ∀ i, i < n → RiR (R i) from fun i hi => mayV_ri (by
        unfold rightV at hb
        simp only [Bool.and_eq_true, List.all_eq_true] at hb
        exact hb.2.2 _ (List.mem_map.2 ⟨i, List.mem_range.2 hi, rfl⟩)))
      clear hA4 hb hv2
      go_wp2
      go_loopw [5] (fun iv wr => ∃ q : Nat, q ≤ n ∧ iv = .int .i64 q ∧ Hid (Below w4.heap.size w4 wr)) (fun iv _ => n - (intOf iv).toNat)
      case atStart => exact ⟨0, Nat.zero_le _, rfl, Lib.hid (Below.refl _ _)⟩
      case round =>
        obtain ⟨q, hq, rfl, HI⟩ := hrel
        have hPq := HP4.out.below HI.out HP4.out.lt
        have g3 := hPq.cell 3 (.slice A n c) rfl
        have hsz := HI.out.size
        by_cases hlt : q < n
        · rcases HR4.out.below HI.out (Nat.le_refl _) with h0 | ⟨bb, o, rfl, hbl, hcs⟩
          · omega
          obtain ⟨r0, r1, r2, r3, f1, f2, f3, f4, f5, fC⟩ := hcs q hlt
          rw [Nat.add_zero] at r0
          have hri := HMAY.out q hlt
          obtain ⟨rq, hrq⟩ : ∃ r, R q = r := ⟨_, rfl⟩
          rw [hrq] at r0 r1 r2 r3 f1 f2 f3 f4 f5 fC hri
          have HRQ := Lib.hid hrq
          obtain ⟨nm, kk, uu, AA, nn, cc, CC⟩ := rq
          simp only at r0 r1 r2 r3 f1 f2 f3 f4 f5 fC
          have hn6 : nn ≤ 6 := hri.1
          have hbd : ∀ i, i < nn → (CC i).m ≤ 18446744073709551615 ∧ (CC i).v ≤ 18446744073709551615 := fun i hi => by
            rcases fC with h0 | ⟨_, _, _, _, h⟩
            · omega
            · exact ⟨(h i hi).2.2.2.2.1, (h i hi).2.2.2.2.2⟩
          have K1 := Lib.hid (rule16_any nm kk uu AA nn cc CC wr (by omega) fC)
          have HFF := Lib.hid (And.intro f1 (And.intro f2 f3))
          have HRI := Lib.hid hri
          have HBD := Lib.hid hbd
          have HPQ := Lib.hid hPq
          have HCS := Lib.hid fC
          have i0 : (0 : Int) ≤ (q : Int) := by omega
          have i1 : (q : Int) < (n : Int) := by omega
          clear hcs hrq hri hbd hPq fC f1 f2 f3 f4 f5
          go_wp2_with fail
          refine K1.out.mono ?_
          rintro e w5 ⟨A5, c5, rfl, hown5, hB5⟩
          have hct5 := ConT.of_own hown5 HBD.out
          have K2 := Lib.hid (ruleN_one ⟨nm, kk, uu, A5, nn, c5, CC⟩ w5 HRI.out hct5.1.conA hct5.2.1)
          have HB5 := Lib.hid hB5
          clear hown5 hct5 hB5 K1
          go_wp2_with fail
          refine K2.out.mono ?_
          rintro e w6 ⟨hB6, st, nm1, k1, u1, M1, A6, c6, hone, ht6⟩
          obtain ⟨rfl, hone'⟩ : e = .returned (.tuple #[.agg (rulA nm1 k1 u1 A6 M1.length c6), .bool st]) ∧ OneR w5 ⟨nm, kk, uu, A5, nn, c5, CC⟩ e st nm1 k1 u1 M1 A6 c6 := ⟨hone.1, hone⟩
          obtain ⟨Y, hY⟩ : ∃ Y, w6.heap.size = Y := ⟨_, rfl⟩
          obtain ⟨W6, hW6⟩ : ∃ W, w6.alloc (.cells (rulA nm1 k1 u1 A6 M1.length c6) 52) = W := ⟨_, rfl⟩
          have hB66 : Below Y w6 W6 := by rw [← hW6, ← hY]; exact (Below.refl _ _).alloc (Nat.le_refl _) _
          have hb6 : Below wr.heap.size wr W6 := by
            have h5 := HB5.out.size
            have h6 := hB6.size
            exact (HB5.out.trans (hB6.mono h5)).trans (hB66.mono (by omega))
          have HY6 := Lib.hid (show RowC W6 Y (rulA nm1 k1 u1 A6 M1.length c6) 52 by rw [← hW6, ← hY]; exact RowC.new _ _ _ _ rfl)
          have HT6 := Lib.hid (show ConT W6 A6 M1.length (fun i => M1[i]!) from ht6.keep (KeepC.of_below hB66 (by rw [hY]; exact Nat.le_refl _)))
          have HONE := Lib.hid hone'
          have HYY := Lib.hid hY
          have HW6 := Lib.hid hW6
          have HB6 := Lib.hid hb6
          have hP6 := HPQ.out.below hb6 HPQ.out.lt
          have HP6 := Lib.hid hP6
          have g6 := hP6.cell 3 (.slice (some ⟨bb, o, none⟩) n c) rfl
          have s0 := (hb6.cell (p := ⟨bb, o + q * 4, none⟩) hbl).trans r0
          have s1 := (hb6.cell (p := ⟨bb, o + q * 4 + 1, none⟩) hbl).trans r1
          have s2 := (hb6.cell (p := ⟨bb, o + q * 4 + 2, none⟩) hbl).trans r2
          have s3 := (hb6.cell (p := ⟨bb, o + q * 4 + 3, none⟩) hbl).trans r3
          have K3 := Lib.hid (refRule_one ⟨nm, kk, uu, AA, nn, cc, CC⟩ W6 HRI.out (HCS.out.below hb6 (Nat.le_refl _)))
          clear hone hone' ht6 hB6 hB66 hW6 hb6 hP6 K2 r0 r1 r2 r3 g3
          go_upto_region 10 with fail
          (try rw [hY])
          (try rw [HW6.out])
          clear hY
          go_wp2_with fail
          refine K3.out.mono ?_
          rintro e w7 ⟨hB7, st2, nm2, k2, u2, M2, A7, c7, hone2, hrd7⟩
          obtain ⟨e1, e2, e3, e4, e5⟩ := HONE.out.same hone2 ⟨rfl, rfl, rfl, rfl⟩
          subst e1 e2 e3 e4 e5
          have he7 := hone2.1
          subst he7
          obtain ⟨Z, hZ⟩ : ∃ Z, w7.heap.size = Z := ⟨_, rfl⟩
          obtain ⟨W7, hW7⟩ : ∃ W, w7.alloc (.cells (rulA nm2 k2 u2 A7 M2.length c7) 47) = W := ⟨_, rfl⟩
          have hB77 : Below Z w7 W7 := by rw [← hW7, ← hZ]; exact (Below.refl _ _).alloc (Nat.le_refl _) _
          have hb7 : Below W6.heap.size W6 W7 := hB7.trans (hB77.mono (by have := hB7.size; omega))
          have hy7 := HY6.out.below hb7 HY6.out.lt
          have hz7 : RowC W7 Z (rulA nm2 k2 u2 A7 M2.length c7) 47 := by rw [← hW7, ← hZ]; exact RowC.new _ _ _ _ rfl
          have HY7 := Lib.hid hy7
          have HZ7 := Lib.hid hz7
          have HT7 := Lib.hid (HT6.out.keep (KeepC.of_below hb7 (Nat.le_refl _)))
          have HD7 := Lib.hid (hrd7.below hB77 (by rw [hZ]; exact Nat.le_refl _))
          have hM6 : M2.length ≤ 6 := hone2.2.2.2.1
          have HC7 := Lib.hid (And.intro HONE.out.2.1 (And.intro HONE.out.2.2.1 (And.intro hone2.2.1 hone2.2.2.1)))
          have HNM := Lib.hid (show nm2.size ≤ maxLen ∧ (Lit.int .i64 k2).wf = true ∧ (Lit.int .i64 u2).wf = true by
            rcases hone2.2.2.2.2 with ⟨_, _, e1, e2, e3, _⟩ | ⟨_, e1, e2, e3, _⟩
            · rw [e1, e2, e3]; exact ⟨by show (0 : Nat) ≤ maxLen; exact Nat.zero_le _, by decide, by decide⟩
            · rw [e1, e2, e3]; exact HFF.out)
          have HB7 := Lib.hid (HB6.out.trans (hb7.mono HB6.out.size))
          have HP7 := Lib.hid (HP6.out.below hb7 HP6.out.lt)
          have HZZ := Lib.hid hZ
          have HW7 := Lib.hid hW7
          have y0 := hy7.cell 0 (.string nm2) rfl
          have y1 := hy7.cell 1 (.int .i64 k2) rfl
          have y2 := hy7.cell 2 (.int .i64 u2) rfl
          have y3 := hy7.cell 3 (.slice A6 M2.length c6) rfl
          have z0 := hz7.cell 0 (.string nm2) rfl
          have z1 := hz7.cell 1 (.int .i64 k2) rfl
          have z2 := hz7.cell 2 (.int .i64 u2) rfl
          have z3 := hz7.cell 3 (.slice A7 M2.length c7) rfl
          have hst : (st2 != st2) = false := by simp
          clear hone2 hrd7 hB7 hB77 hW7 hb7 hy7 hz7 K3 s0 s1 s2 s3 g6
          go_upto_region 11 with fail
          (try rw [hZ])
          (try rw [HW7.out])
          clear hZ
          have HS8 := Lib.hid (fun (W : World) (hW : Below W7.heap.size W7 W) => And.intro ((HY7.out.below hW HY7.out.lt).cell 0 (.string nm2) rfl) (And.intro ((HY7.out.below hW HY7.out.lt).cell 1 (.int .i64 k2) rfl) (And.intro ((HY7.out.below hW HY7.out.lt).cell 2 (.int .i64 u2) rfl) (And.intro ((HY7.out.below hW HY7.out.lt).cell 3 (.slice A6 M2.length c6) rfl)
            (And.intro ((HZ7.out.below hW HZ7.out.lt).cell 0 (.string nm2) rfl) (And.intro ((HZ7.out.below hW HZ7.out.lt).cell 1 (.int .i64 k2) rfl) (And.intro ((HZ7.out.below hW HZ7.out.lt).cell 2 (.int .i64 u2) rfl) ((HZ7.out.below hW HZ7.out.lt).cell 3 (.slice A7 M2.length c7) rfl))))))))
          have KR : Hid (∀ W, Below W7.heap.size W7 W → Calls Tryz.prog 23 #[.agg (rulA nm2 k2 u2 A7 M2.length c7)] W fun e w' => ∃ A9 c9, e = .returned (.agg (rulA nm2 k2 u2 A9 M2.length c9)) ∧ (M2.length ≤ c9 ∧ c9 ≤ maxLen ∧ ConT w' A9 M2.length fun i => M2[i]!) ∧ Below W.heap.size W w') := Lib.hid fun W hW => by
            have hrd := HD7.out.below hW (Nat.le_refl _)
            refine (rule16_any nm2 k2 u2 A7 M2.length c7 (fun i => M2[i]!) W (by omega) hrd.1.conA).mono ?_
            rintro e w' ⟨A9, c9, rfl, hown, hB⟩
            have h := ConT.of_own hown (fun i hi => hrd.bd _ (by rw [getElem!_pos M2 i hi]; exact List.getElem_mem hi))
            exact ⟨A9, c9, rfl, ⟨h.2.1, h.2.2, h.1⟩, hB⟩
          have KS : Hid (∀ (W : World) (g1 g2 : Nat) (A9 : Option Addr) (c9 : Nat), RowC W g1 (rulA nm2 k2 u2 A6 M2.length c6) 52 → RowC W g2 (rulA nm2 k2 u2 A9 M2.length c9) 52 → Below W7.heap.size W7 W → (M2.length ≤ c9 ∧ c9 ≤ maxLen) → (ConT W A9 M2.length fun i => M2[i]!) →
              Calls Tryz.prog 11 #[.agg (polA 0 0 false (some ⟨g1, 0, none⟩) 1 1), .agg (polA 0 0 false (some ⟨g2, 0, none⟩) 1 1)] W fun e w' => e = .returned (.bool true) ∧ Below W.heap.size W w') := Lib.hid fun W g1 g2 A9 c9 h1 h2 hW hc ht =>
            same_two W nm2 k2 u2 M2 A6 A9 c6 c9 g1 g2 h1 h2 HNM.out.1 HNM.out.2.1 HNM.out.2.2 (by omega) ⟨HC7.out.1, HC7.out.2.1⟩ hc (HT7.out.keep (KeepC.of_below hW (Nat.le_refl _))) ht
          have hM5 : M2.length ≤ 6 := hM6
          obtain ⟨ml, hml⟩ : ∃ ml, M2.length = ml := ⟨_, rfl⟩
          rw [hml] at y3 z3 HS8 KR KS
          (try rw [hml])
          clear hM6 hM5 hml
          go_region_held3 (fun w' => w'.cell? ⟨Y, 0, none⟩ = some (.string nm2) ∧ w'.cell? ⟨Y, 1, none⟩ = some (.int .i64 k2) ∧ w'.cell? ⟨Y, 2, none⟩ = some (.int .i64 u2) ∧ w'.cell? ⟨Y, 3, none⟩ = some (.slice A6 ml c6) ∧ w'.cell? ⟨Z, 0, none⟩ = some (.string nm2) ∧ w'.cell? ⟨Z, 1, none⟩ = some (.int .i64 k2) ∧ w'.cell? ⟨Z, 2, none⟩ = some (.int .i64 u2) ∧ w'.cell? ⟨Z, 3, none⟩ = some (.slice A7 ml c7))
            (first | (with_reducible exact ⟨y0, y1, y2, y3, z0, z1, z2, z3⟩) | (with_reducible exact HS8.out _ (by repeat (first | assumption | exact Below.refl _ _ | apply Below.drew | apply bAl2))))
            (first
              | (go_at_call 23
                 (with_reducible refine (KR.out _ (by repeat (first | assumption | exact Below.refl _ _ | apply Below.drew | apply bAl2))).mono ?_)
                 rintro e w9 ⟨A9, c9, rfl, hq9, hB9⟩
                 have hb9 : Below W7.heap.size W7 w9 := bTr2 (by repeat (first | assumption | exact Below.refl _ _ | apply Below.drew | apply bAl2)) hB9
                 have HQ9 := Lib.hid hq9
                 clear hq9)
              | (go_at_call 11
                 (with_reducible refine (KS.out _ _ _ A9 c9 (by first | exact RowC.across hB9 | exact (RowC.new _ _ _ _ rfl).alloc _ | exact RowC.second) (by first | exact RowC.new _ _ _ _ rfl | exact (RowC.new _ _ _ _ rfl).alloc _ | exact RowC.second) (by repeat (first | assumption | exact Below.refl _ _ | apply Below.drew | apply bAl2)) ⟨HQ9.out.1, HQ9.out.2.1⟩ (by first | exact HQ9.out.2.2.keep ((KeepC.refl _).alloc _) | exact HQ9.out.2.2.keep (((KeepC.refl _).alloc _).alloc _))).mono ?_)
                 rintro e w10 ⟨rfl, hB10⟩
                 have hb10 : Below W7.heap.size W7 w10 := bTr2 (by repeat (first | assumption | exact Below.refl _ _ | apply Below.drew | apply bAl2)) hB10
                 clear hB10))
          all_goals
            go_wp2
            refine ⟨⟨q + 1, by omega, by go_num, Lib.hid (HI.out.trans ((HB7.out.trans (hb10.mono HB7.out.size)).mono hsz))⟩, by simp [intOf]; omega⟩
        · obtain rfl : q = n := by omega
          have i1 : ¬ (q : Int) < (q : Int) := by omega
          have hAq := HA4.out.below HI.out HA4.out.lt
          have a0 := hAq.cell 0 (.int .i64 k) rfl
          have a1 := hAq.cell 1 (.int .i64 u) rfl
          have a2 := hAq.cell 2 (.bool x) rfl
          have a3 := hAq.cell 3 (.slice A2 ls2.length c2) rfl
          have b0 := hPq.cell 0 (.int .i64 k) rfl
          have b1 := hPq.cell 1 (.int .i64 u) rfl
          have b2 := hPq.cell 2 (.bool x) rfl
          have HAQ := Lib.hid hAq
          have HPQ := Lib.hid hPq
          have HRQ := Lib.hid (HR4.out.below HI.out (Nat.le_refl _))
          have HLQ := Lib.hid (HL4.out.below HI.out (Nat.le_refl _))
          have HS8 := Lib.hid (fun (W : World) (hW : Below wr.heap.size wr W) => And.intro ((HAQ.out.below hW HAQ.out.lt).cell 0 (.int .i64 k) rfl) (And.intro ((HAQ.out.below hW HAQ.out.lt).cell 1 (.int .i64 u) rfl) (And.intro ((HAQ.out.below hW HAQ.out.lt).cell 2 (.bool x) rfl) (And.intro ((HAQ.out.below hW HAQ.out.lt).cell 3 (.slice A2 ls2.length c2) rfl)
            (And.intro ((HPQ.out.below hW HPQ.out.lt).cell 0 (.int .i64 k) rfl) (And.intro ((HPQ.out.below hW HPQ.out.lt).cell 1 (.int .i64 u) rfl) (And.intro ((HPQ.out.below hW HPQ.out.lt).cell 2 (.bool x) rfl) ((HPQ.out.below hW HPQ.out.lt).cell 3 (.slice A q c) rfl))))))))
          have KP := Lib.hid (fun (W : World) (hW : Below wr.heap.size wr W) => refPolicy_any k u x A q c R W (by omega) HMAY.out (HRQ.out.below hW (Nat.le_refl _)))
          have hbr : Below wr.heap.size wr wr.drew := (Below.refl _ _).drew
          clear hAq hPq
          obtain ⟨m2, hm2⟩ : ∃ m2, ls2.length = m2 := ⟨_, rfl⟩
          rw [hm2] at a3 HS8
          (try rw [hm2])
          have HM2 := Lib.hid hm2
          clear hm2
          go_wp2_with fail
          go_region_held3 (fun w' => w'.cell? ⟨X, 0, none⟩ = some (.int .i64 k) ∧ w'.cell? ⟨X, 1, none⟩ = some (.int .i64 u) ∧ w'.cell? ⟨X, 2, none⟩ = some (.bool x) ∧ w'.cell? ⟨X, 3, none⟩ = some (.slice A2 m2 c2) ∧ w'.cell? ⟨B, 0, none⟩ = some (.int .i64 k) ∧ w'.cell? ⟨B, 1, none⟩ = some (.int .i64 u) ∧ w'.cell? ⟨B, 2, none⟩ = some (.bool x) ∧ w'.cell? ⟨B, 3, none⟩ = some (.slice A q c))
            (first | (with_reducible exact HS8.out _ hb9) | (with_reducible exact HS8.out _ hb8) | (with_reducible exact HS8.out _ hb7) | (with_reducible exact HS8.out _ hb6) | (with_reducible exact ⟨a0, a1, a2, a3, b0, b1, b2, g3⟩) | (with_reducible exact HS8.out _ hbr))
            (first
              | (go_at_call 25
                 (with_reducible refine (KP.out _ hbr).mono ?_)
                 rintro e w6 ⟨A6, c6, l6, rfl, hrl6, hv6, hB6⟩
                 have hb6 : Below wr.heap.size wr w6 := hbr.trans hB6
                 have HV6 := Lib.hid hv6
                 have HRL6 := Lib.hid hrl6
                 clear hv6 hrl6 hB6)
              | (go_at_call 19
                 have hle6 : l6.length ≤ 40 := by
                   have h1 := nP_len k u ((List.range q).map fun i => (R i).val)
                   rw [← HV6.out, List.length_map, List.length_map, List.length_range] at h1
                   omega
                 have hs6 : ∀ i, i < l6.length → (l6[i]!).n ≤ 12 := fun i hi => by
                   have h1 : (l6[i]!).val ∈ ls2.map RL.val := by rw [HV2.out, ← HV6.out, getElem!_pos l6 i hi]; exact List.mem_map.2 ⟨_, List.getElem_mem hi, rfl⟩
                   obtain ⟨y, hy, hyv⟩ := List.mem_map.1 h1
                   have h2 := H6.out y hy
                   have h3 : y.val.L.length = y.n := by simp [RL.val]
                   have h4 : (l6[i]!).val.L.length = (l6[i]!).n := by simp [RL.val]
                   rw [hyv] at h3
                   omega
                 (with_reducible refine (of16_any k u x A6 l6.length c6 (fun i => l6[i]!) _ hle6 hs6 HRL6.out.rla).mono ?_)
                 clear hle6 hs6
                 rintro e w7 ⟨A7, c7, l7, rfl, hl7, hrow7, hv7, hB7⟩
                 have hb7 : Below wr.heap.size wr w7 := hb6.trans (hB7.mono hb6.size)
                 have HQ7 := Lib.hid (And.intro hl7 (And.intro hrow7.rl hv7))
                 clear hl7 hrow7 hv7 hB7)
              | (go_at_call 11
                 have hv8 : l7.map RL.val = ls2.map RL.val := by
                   rw [HQ7.out.2.2, HV2.out, ← HV6.out]
                   have e := congrArg (List.map RL.val) (range_get l6)
                   rw [List.map_map] at e
                   exact e
                 have hsm := same_any k u k u x x A2 A7 ls2 l7 c2 c7 w7 (HLQ.out.below hb7 (Nat.le_refl _)) HQ7.out.2.1 HLN.out H100.out
                 rw [HM2.out, HQ7.out.1] at hsm
                 (with_reducible refine hsm.mono ?_)
                 rintro e w8 ⟨⟨b8, rfl, hb8'⟩, hB8⟩
                 obtain rfl : b8 = true := hb8'.2 ⟨rfl, rfl, rfl, hv8.symm⟩
                 have hb8 : Below wr.heap.size wr w8 := hb7.trans (hB8.mono hb7.size)
                 clear hsm hv8 hb8' hB8)
              | (go_at_call 21
                 (with_reducible refine (HAW.out _).mono ?_)
                 rintro e w9 ⟨rfl, hB9⟩
                 have hb9 : Below wr.heap.size wr w9 := hb8.trans (hB9.mono hb8.size)))
          go_wp2
          go_ret
          exact ⟨rfl, by rw [HBS.out]; exact HB04.out.trans ((HI.out.trans (hb9.mono HI.out.size)).mono hw4)⟩
theorem of_laid {W : World} (h : laidMetH Tryz.prog Rows.normPoliciesRow.laid W) : True := trivial

namespace normPoliciesRow
open Go.ChangeShapes Go.WideShapes Go.ChangeAt Go.RowKit Go.Joins
open Go.ChangeMaps (open_string shut_string)
set_option linter.unusedVariables false
theorem own : ownKnob Tryz.prog.godebug = none := by kernel_rfl
theorem laidOut : laidOutB Tryz.prog = true := by kernel_rfl
set_option maxRecDepth 100000 in
theorem lifted (os : Os) (started : os.Started) (H : Type) (enc : TypeId × Value → H) :
    ReturnsInHanded {} Tryz.checked os 8 .any (fun w args => (Rows.normPoliciesSpec.pre enc Tryz.prog Tryz.f8 [] false w args ∧ laidMetH Tryz.prog Rows.normPoliciesRow.laid w) ∧ sizedMet enc Tryz.prog Tryz.f8 (OpenSpec.ofChange Rows.normPoliciesSpec) false w args) (Rows.normPoliciesSpec.post enc Tryz.prog Tryz.f8 false true false false) := by
  refine returnsInHanded_of_change_and (C := Tryz.checked) (X := fun w _ => laidMetH Tryz.prog Rows.normPoliciesRow.laid w) (fun _ _ _ hh h => h.of_heap hh) own started (by kernel_rfl) Tryz.func8
    (ChangeSpec.witness_shaped (enc := enc) (C := Tryz.checked) (os := os) (X := fun w _ => laidMetH Tryz.prog Rows.normPoliciesRow.laid w) false (World.laidAll Tryz.prog os Rows.normPoliciesRow.laid) #[.agg #[.int .i64 0, .int .i64 0, .bool false, .slice none 0 0]] 8 (World.laidAll_os _ _ _) (World.shaped_of_ZipB (by kernel_rfl) (by kernel_rfl)) (by kernel_rfl) (by kernel_rfl) (by kernel_rfl) (by rw [MakeChecks.laidMetH_plain _ _ _ (by kernel_rfl)]; exact laidMet_laidAll _ (by kernel_rfl) (by kernel_rfl))) ?_
  intro W base args ds gs before hval0 hW _ _ hL _
  have hval : ∀ (j : Nat) t v, Tryz.f8.params[j]? = some t → args[j]? = some v → Value.okWide Tryz.prog W .any base t v := hval0
  have hW' := hW
  obtain ⟨p, q, hA0, hV, rfl, hfz, hnd⟩ := hW
  have hA : DataW.TrodAll enc Tryz.prog W 0 (fun _ => true) true Tryz.f8.params.toList args.toList ds p := hA0
  rw [Tryz.params8] at hA hval
  obtain ⟨v0, vs0, d0, ds0, p0, q0, hargs, rfl, rfl, h0, r0⟩ := trodAll_cons hA
  obtain ⟨rfl, rfl, rfl⟩ := trodAll_nil r0
  obtain rfl : args = #[v0] := by cases args; simp_all
  obtain ⟨rfl, rfl⟩ := trodVars_none hV
  have k0 := h0
  have lt0 : ∀ x ∈ p0, x.block < W.heap.size := by obtain ⟨m, hm⟩ := k0; exact DataW.trod_lt m _ _ _ hm
  obtain ⟨pk0, pu0, px0, pA0, pn0, pc0, pR0, rfl, pa0, pb0, pl0, pm0, pt0⟩ := open_policy (hval 0 26 v0 rfl rfl) h0
  clear hA0 hval0
  refine (walk_NormPolicies (w0 := W) pk0 pu0 px0 pA0 pn0 pc0 pR0 pa0 pb0 pl0 pm0 pt0 (of_laid hL)).mono fun e W' ⟨he, bel⟩ => ?_
  subst he
  exact ⟨_, rfl, _, _, _, [], _, [], hW', trodAll_mk1 (shut_bool Tryz.underlying4 _), (trodAll_cons_mk (Below.trod laidOut (by kernel_rfl) (of_decide_eq_true (by kernel_rfl)) k0 bel lt0) trodAll_mk0), rfl, bel.frame _, fun h => by cases h⟩

theorem over : Rows.normPoliciesRow.holds Tryz.pinned (OpenSpec.ofChange Rows.normPoliciesSpec) :=
  OpenClaim.holds_of_wide 8 Tryz.f8 rfl rfl rfl rfl rfl rfl rfl ⟨rfl, rfl, rfl, rfl, rfl⟩ rfl rfl rfl rfl rfl (by kernel_rfl) Tryz.func8 (by kernel_rfl)
    (of_decide_eq_true (by kernel_rfl)) (by unfold Func.isWrapper; first | (rw [if_pos (by decide +kernel)]; kernel_rfl) | (rw [if_neg (by decide +kernel)]; exact ⟨rfl, rfl⟩))
    (fun os started H enc _ => lifted os started H enc)
end normPoliciesRow

theorem normPolicies_proved : Rows.NormPoliciesCardSaid :=
  Claim7.holds_tied_plain_at .later [] [.data, .pinned] true Rows.normPoliciesCard.stood.harness true
    normPoliciesRow.over (fun _ h => by cases h) (by kernel_rfl) (fun _ h => by cases h) normPolicies_row_tie rfl ⟨rfl, rfl⟩ (by kernel_rfl) rfl
    (fun f fn hf hfn => by
      obtain rfl : f = 8 := Option.some.inj ((show Tryz.prog.funcNamed "strainer/strainerlaw16.NormPolicies" = some 8 by kernel_rfl).symm.trans hf) |>.symm
      obtain rfl : fn = Tryz.f8 := (Option.some.inj (Tryz.func8.symm.trans hfn)).symm
      exact ⟨by kernel_rfl, fun j t ht => by
        rw [Tryz.params8] at ht
        have hall : ∀ t ∈ [26], Tryz.prog.wantsStandIn t = false := by
          intro t ht
          simp only [List.mem_cons, List.not_mem_nil, or_false] at ht
          rcases ht with rfl <;> kernel_rfl
        exact hall t (by simpa using Array.mem_of_getElem? ht)⟩)
    (by kernel_rfl)
#print axioms normPolicies_proved
end Go.Proofs.YtcembcicpmhpkaaGreatDoor
