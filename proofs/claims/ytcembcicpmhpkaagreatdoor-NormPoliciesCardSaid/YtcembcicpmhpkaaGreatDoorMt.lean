/-
  Layer 16: the reference's Cond is what a right condition becomes; the reference's Right.
-/
import Derived.Test.YtcembcicpmhpkaaGreatDoorOe
import Derived.Laws.BitsAllLaws
import Derived.Test.YtcembcicpmhpkaaGreatDoorMo
import Derived.Deep.LoopGhost
import Derived.Test.YtcembcicpmhpkaaGreatDoorMk
import Derived.Test.YtcembcicpmhpkaaGreatDoorSk
import Derived.BigQuiet
import Derived.Deep.RegionHeld3
import Derived.RegionTactic
namespace Go.Proofs.YtcembcicpmhpkaaGreatDoor
open Go.RowKit Go.Shelf
set_option linter.unusedVariables false

theorem or_beside (v m : Nat) (hv : v ≤ 18446744073709551615) (hm : m ≤ 18446744073709551615) : v ||| m = m ↔ v &&& (18446744073709551615 - m) = 0 := by
  constructor
  · intro h
    apply Nat.eq_of_testBit_eq
    intro i
    have hi := congrArg (fun z => Nat.testBit z i) h
    simp only [Nat.testBit_or] at hi
    rw [show (18446744073709551615 : Nat) - m = 2 ^ 64 - (m + 1) by omega, Nat.testBit_and, Nat.testBit_two_pow_sub_succ (by omega), Nat.zero_testBit]
    revert hi
    cases v.testBit i <;> cases m.testBit i <;> simp
  · intro h
    apply Nat.eq_of_testBit_eq
    intro i
    have hi := congrArg (fun z => Nat.testBit z i) h
    rw [show (18446744073709551615 : Nat) - m = 2 ^ 64 - (m + 1) by omega] at hi
    simp only [Nat.testBit_and, Nat.zero_testBit] at hi
    rw [Nat.testBit_two_pow_sub_succ (by omega)] at hi
    rw [Nat.testBit_or]
    by_cases h6 : i < 64
    · rw [decide_eq_true h6] at hi
      revert hi
      cases v.testBit i <;> cases m.testBit i <;> simp
    · have hv0 : v.testBit i = false := Nat.testBit_lt_two_pow (Nat.lt_of_lt_of_le (show v < 2 ^ 64 by omega) (Nat.pow_le_pow_right (by decide) (by omega)))
      rw [hv0]; simp
theorem ref16_ok (a o : Int) (m v j : Nat) (hr : RightO a o m j) (hm : m ≤ 18446744073709551615) (hv : v ≤ 18446744073709551615) (w : World) :
    Calls Tryz.prog 47 #[.agg (condA a o m v)] w fun e w' => e = .returned (.tuple #[.agg (nF j a m v).1, .int .i64 (nF j a m v).2]) ∧ Below w.heap.size w w' := by
  obtain ⟨h1, h2, h3, rfl, h5⟩ := hr
  match j, h3, h5 with
  | 0, h3, h5 =>
    obtain rfl : m = 0 := by simpa [mkO] using h5
    exact r1 a v w
  | 1, h3, h5 =>
    obtain rfl : m = 0 := by simpa [mkO] using h5
    exact r2 a v w
  | 2, h3, h5 =>
    obtain rfl : m = 0 := by simpa [mkO] using h5
    show Calls _ _ #[.agg (condA a 3 0 v)] w fun e w' => e = .returned (.tuple #[.agg (belF a 3 0 v).1, .int .i64 (belF a 3 0 v).2]) ∧ _
    by_cases q0 : v = 0
    · subst q0; exact r3a a w
    · by_cases q1 : v = 1
      · subst q1; exact r3b a w
      · rw [show belF a 3 0 v = (condA a 3 0 v, 0) by unfold belF; rw [if_neg q0, if_neg q1]]
        exact r3c a v (beq_eq_false_iff_ne.2 (by omega)) (beq_eq_false_iff_ne.2 (by omega)) w
  | 3, h3, h5 =>
    obtain rfl : m = 0 := by simpa [mkO] using h5
    show Calls _ _ #[.agg (condA a 4 0 v)] w fun e w' => e = .returned (.tuple #[.agg (atmF a v).1, .int .i64 (atmF a v).2]) ∧ _
    by_cases q0 : v = 18446744073709551615
    · subst q0; exact r4a a w
    · by_cases q1 : v = 0
      · subst q1; exact r4b a w
      · rw [show atmF a v = (condA a 3 0 (v + 1 : Nat), 0) by unfold atmF belF; rw [if_neg q0, if_neg (by omega), if_neg (by omega)]]
        exact r4c a v (beq_eq_false_iff_ne.2 (by omega)) (IntWalk.u64_in _ (by omega)) (beq_eq_false_iff_ne.2 (by omega)) (beq_eq_false_iff_ne.2 (by omega)) w
  | 4, h3, h5 =>
    obtain rfl : m = 0 := by simpa [mkO] using h5
    show Calls _ _ #[.agg (condA a 5 0 v)] w fun e w' => e = .returned (.tuple #[.agg (aboF a v).1, .int .i64 (aboF a v).2]) ∧ _
    by_cases q0 : v = 18446744073709551615
    · subst q0; exact r5a a w
    · by_cases q1 : v = 18446744073709551614
      · subst q1; exact r5b a w
      · rw [show aboF a v = (condA a 6 0 (v + 1 : Nat), 0) by unfold aboF atlF; rw [if_neg q0, if_neg (by omega), if_neg (by omega)]]
        exact r5c a v (beq_eq_false_iff_ne.2 (by omega)) (IntWalk.u64_in _ (by omega)) (beq_eq_false_iff_ne.2 (by omega)) (beq_eq_false_iff_ne.2 (by omega)) w
  | 5, h3, h5 =>
    obtain rfl : m = 0 := by simpa [mkO] using h5
    show Calls _ _ #[.agg (condA a 6 0 v)] w fun e w' => e = .returned (.tuple #[.agg (atlF a 6 0 v).1, .int .i64 (atlF a 6 0 v).2]) ∧ _
    by_cases q0 : v = 0
    · subst q0; exact r6a a w
    · by_cases q1 : v = 18446744073709551615
      · subst q1; exact r6b a w
      · rw [show atlF a 6 0 v = (condA a 6 0 v, 0) by unfold atlF; rw [if_neg q0, if_neg q1]]
        exact r6c a v (beq_eq_false_iff_ne.2 (by omega)) (beq_eq_false_iff_ne.2 (by omega)) w
  | 6, h3, h5 =>
    show Calls _ _ #[.agg (condA a 7 m v)] w fun e w' => e = .returned (.tuple #[.agg (mskF a 7 m v).1, .int .i64 (mskF a 7 m v).2]) ∧ _
    have hb := u64_or_nat v m (by omega) (by omega)
    by_cases q0 : v &&& (18446744073709551615 - m) ≠ 0
    · rw [show mskF a 7 m v = (zN, 2) by unfold mskF; rw [if_pos q0]]
      have hn : v ||| m ≠ m := fun h => q0 ((or_beside v m hv hm).1 h)
      exact r7a a m v (by rw [hb]; exact bne_iff_ne.2 (by omega)) w
    · have hy : v ||| m = m := (or_beside v m hv hm).2 (Decidable.not_not.1 q0)
      have hB : (bits BinOp.or IntKind.u64 (v : Int) (m : Int) != (m : Int)) = false := by rw [hb, hy]; exact bne_self_eq_false _
      by_cases q1 : m = 0
      · rw [show mskF a 7 m v = (zN, 1) by unfold mskF; rw [if_neg q0, if_pos q1]]
        exact r7b a m v hB (beq_iff_eq.2 (by omega)) w
      · by_cases q2 : m = 18446744073709551615
        · rw [show mskF a 7 m v = (condA a 1 0 v, 0) by unfold mskF; rw [if_neg q0, if_neg q1, if_pos q2]]
          exact r7c a m v hB (beq_eq_false_iff_ne.2 (by omega)) (beq_iff_eq.2 (by omega)) w
        · rw [show mskF a 7 m v = (condA a 7 m v, 0) by unfold mskF; rw [if_neg q0, if_neg q1, if_neg q2]]
          exact r7d a m v hB (beq_eq_false_iff_ne.2 (by omega)) (beq_eq_false_iff_ne.2 (by omega)) w
/-- What the reference's Right answers, by what is asked there. -/
def rightB (a o : Int) (m : Nat) : Bool := decide (a ≥ 0) && decide (a ≤ 5) && decide (o ≥ 1) && decide (o ≤ 7) && (((m : Int) == 0) || (o == 7))
set_option maxRecDepth 100000 in
set_option maxHeartbeats 8000000 in
theorem refRight_any (a o : Int) (m v : Nat) (w : World) : Calls Tryz.prog 41 #[.agg (condA a o m v)] w fun e w' => e = .returned (.bool (rightB a o m)) ∧ Below w.heap.size w w' := by
  have HB := Lib.hid (show Below w.heap.size w (w.alloc (.cells (condA a o m v) 61)) from (Below.refl _ _).alloc (Nat.le_refl _) _)
  unfold rightB
  obtain ⟨b0, q0⟩ : ∃ b, decide (a ≥ 0) = b := ⟨_, rfl⟩
  obtain ⟨b1, q1⟩ : ∃ b, decide (a ≤ 5) = b := ⟨_, rfl⟩
  obtain ⟨b2, q2⟩ : ∃ b, decide (o ≥ 1) = b := ⟨_, rfl⟩
  obtain ⟨b3, q3⟩ : ∃ b, decide (o ≤ 7) = b := ⟨_, rfl⟩
  obtain ⟨b4, q4⟩ : ∃ b, ((m : Int) == 0) = b := ⟨_, rfl⟩
  obtain ⟨b5, q5⟩ : ∃ b, (o == 7) = b := ⟨_, rfl⟩
  rw [q0, q1, q2, q3, q4, q5]
  cases b0
  · go_enter Tryz.func41, Tryz.ntmps41
    go_wp2
    go_ret
    exact ⟨rfl, HB.out⟩
  cases b1
  · go_enter Tryz.func41, Tryz.ntmps41
    go_wp2
    go_ret
    exact ⟨rfl, HB.out⟩
  cases b2
  · go_enter Tryz.func41, Tryz.ntmps41
    go_wp2
    go_ret
    exact ⟨rfl, HB.out⟩
  cases b3
  · go_enter Tryz.func41, Tryz.ntmps41
    go_wp2
    go_ret
    exact ⟨rfl, HB.out⟩
  cases b4
  · cases b5
    · go_enter Tryz.func41, Tryz.ntmps41
      go_wp2
      go_ret
      exact ⟨rfl, HB.out⟩
    · go_enter Tryz.func41, Tryz.ntmps41
      go_wp2
      go_ret
      exact ⟨rfl, HB.out⟩
  · go_enter Tryz.func41, Tryz.ntmps41
    go_wp2
    go_ret
    exact ⟨by cases b5 <;> rfl, HB.out⟩
theorem rightB_ok {a o : Int} {m j : Nat} (hr : RightO a o m j) : rightB a o m = true := by
  obtain ⟨h1, h2, h3, rfl, h5⟩ := hr
  have h : m = 0 ∨ j = 6 := by
    rcases Bool.or_eq_true _ _ ▸ h5 with h | h
    · exact .inr (by simpa [mkO] using h)
    · exact .inl (by simpa using h)
  simp [rightB]
  omega
theorem rightB_no {a o : Int} {m : Nat} (hno : a < 0 ∨ 6 ≤ a ∨ ∀ j, j < 7 → isO o m j = false) : rightB a o m = false := by
  cases h : rightB a o m
  · rfl
  · exfalso
    simp [rightB] at h
    obtain ⟨⟨⟨⟨h0, h1⟩, h2⟩, h3⟩, h4⟩ := h
    rcases hno with hn | hn | hn
    · omega
    · omega
    · obtain ⟨j, rfl⟩ : ∃ j : Nat, o = (j : Int) + 1 := ⟨(o - 1).toNat, by omega⟩
      have := hn j (by omega)
      simp [isO, mkO] at this
      omega
end Go.Proofs.YtcembcicpmhpkaaGreatDoor

/-
  Layer 16: the document's normal form of a rule.
-/
namespace Go.Proofs.YtcembcicpmhpkaaGreatDoor
open Go.RowKit Go.Shelf Go.Maps
set_option linter.unusedVariables false

theorem refD (c : CD) (hr : RiC c) (hm : c.m ≤ 18446744073709551615) (hv : c.v ≤ 18446744073709551615) (w : World) :
    Calls Tryz.prog 47 #[.agg (condA c.a c.o c.m c.v)] w fun e w' => e = .returned (.tuple #[.agg (condA (nC c).1.a (nC c).1.o (nC c).1.m (nC c).1.v), .int .i64 (nC c).2]) ∧ Below w.heap.size w w' := by
  obtain ⟨j, hj⟩ := hr.right
  have := ref16_ok c.a c.o c.m c.v j hj hm hv w
  rw [nF_nC c j hj] at this
  exact this
theorem infoR14 : (Tryz.prog.info? 47).map (·.size) = some 4 := by kernel_rfl
theorem RdF.keep {w w' : World} {A : Option Addr} {M : List CD} {c : Nat} (h : RdF w A M c) (hk : KeepD w w') : RdF w' A M c := ⟨h.1.keep hk, h.2⟩
theorem insD_len (c : CD) : ∀ l : List CD, (insD c l).length ≤ l.length + 1
  | [] => by simp [insD]
  | e :: s => by
    have ih := insD_len c s
    unfold insD
    split
    · simp
    · split
      · simp
      · simp; exact ih
set_option maxRecDepth 100000 in
set_option maxHeartbeats 8000000 in
theorem refRule_any (nm : ByteArray) (k u : Int) (A : Option Addr) (n c : Nat) (C : Nat → CD) (w : World) (hn6 : n ≤ 6) (hri : ∀ i, i < n → RiC (C i)) (hC : ConA w A n C) :
    Calls Tryz.prog 24 #[.agg (rulA nm k u A n c)] w fun e w' => Below w.heap.size w w' ∧
      ((askL ((List.range n).map C) = none ∧ e = .returned (.tuple #[.agg zRu, .bool false])) ∨
       ∃ M A' c', askL ((List.range n).map C) = some M ∧ e = .returned (.tuple #[.agg (rulA nm k u A' (srt M).length c'), .bool true]) ∧ RdF w' A' (srt M) c') := by
  have HRI := Lib.hid hri
  have HC := Lib.hid hC
  obtain ⟨B, hBs⟩ : ∃ B, w.heap.size = B := ⟨_, rfl⟩
  obtain ⟨W0, hW0⟩ : ∃ W, (w.alloc (.cells (rulA nm k u A n c) 47)).alloc (.cells zRu 47) = W := ⟨_, rfl⟩
  have hs0 : W0.heap.size = B + 2 := by rw [← hW0, ← hBs]; simp
  have HB0 := Lib.hid (show Below B w W0 by rw [← hW0, ← hBs]; exact ((Below.refl _ _).alloc (Nat.le_refl _) _).alloc (by simp) _)
  have HP0 := Lib.hid (show RowC W0 B (rulA nm k u A n c) 47 by rw [← hW0, ← hBs]; exact (RowC.new _ _ _ _ rfl).alloc _)
  have HR0 := Lib.hid (show RowC W0 (B + 1) zRu 47 by rw [← hW0, ← hBs]; exact RowC.new _ _ _ _ (by simp))
  have HO0 := Lib.hid (show RowC (W0.alloc (.cells (rulA nm k u none 0 0) 47)) (B + 2) (rulA nm k u none 0 0) 47 from RowC.new _ _ _ _ hs0.symm)
  have HW := Lib.hid hW0
  have HBS := Lib.hid hBs
  have HS := Lib.hid hs0
  have p0 := HP0.out.cell 0 (.string nm) rfl
  have p1 := HP0.out.cell 1 (.int .i64 k) rfl
  have p2 := HP0.out.cell 2 (.int .i64 u) rfl
  clear hW0 hri hC hBs hs0
  go_enter Tryz.func24, Tryz.ntmps24
  go_upto_region 1 with fail
  rw [HW.out, HBS.out]
  go_wp2
  rw [HS.out]
  clear p0 p1 p2
  go_loopw [5] (fun i wr => ∃ (q : Nat) (A' : Option Addr) (c' : Nat) (L M : List CD), q ≤ n ∧ i = .int .i64 q ∧ Hid (askL ((List.range q).map C) = some L ∧ M = fputs [] L ∧ RdF wr A' M c' ∧ RowC wr (B + 2) (rulA nm k u A' M.length c') 47 ∧ Below (B + 2) W0 wr ∧ M.length ≤ q))
    (fun i _ => n - (intOf i).toNat)
  case atStart => exact ⟨0, none, 0, [], [], Nat.zero_le _, rfl, Lib.hid ⟨rfl, rfl, RdF.nil_ _, HO0.out, (Below.refl _ _).alloc (by rw [HS.out]; exact Nat.le_refl _) _, Nat.le_refl _⟩⟩
  case round =>
    obtain ⟨q, A', c', L, M, hq, rfl, HI⟩ := hrel
    have hws : B + 2 < wr.heap.size := HI.out.2.2.2.1.lt
    have hP := HP0.out.below HI.out.2.2.2.2.1 (by omega)
    have p3 := hP.cell 3 (.slice A n c) rfl
    by_cases hlt : q < n
    · have hcb := HC.out.below (HB0.out.trans (HI.out.2.2.2.2.1.mono (by omega))) (by rw [HBS.out]; exact Nat.le_refl _)
      rcases hcb with h0 | ⟨bb, o, rfl, hbl, hcs⟩
      · omega
      obtain ⟨q0, q1, q2, q3, hbm, hbv⟩ := hcs q hlt
      obtain ⟨x, hx⟩ : ∃ x, C q = x := ⟨_, rfl⟩
      have HNX := Lib.hid fun X => refD (C q) (HRI.out q hlt) hbm hbv X
      have hst := nC_st (C q)
      have HSN := Lib.hid (askL_snoc ((List.range q).map C) (C q) L HI.out.1)
      have HBD := Lib.hid (nC_bound (C q) hbm hbv)
      have HRT := Lib.hid (range_take C q n hlt)
      have HX := Lib.hid hx
      rw [hx] at q0 q1 q2 q3 hst HSN HBD HNX
      rw [Nat.add_zero] at q0
      obtain ⟨d, hd⟩ : ∃ d, (nC x).1 = d := ⟨_, rfl⟩
      obtain ⟨st, hs⟩ : ∃ st, (nC x).2 = st := ⟨_, rfl⟩
      rw [hd, hs] at HNX HSN
      rw [hd] at HBD
      rw [hs] at hst
      have i1 : (0 : Int) ≤ (q : Int) := by omega
      have i2 : (q : Int) < (n : Int) := by omega
      have HP := Lib.hid hP
      clear hcs hbm hbv hx hd hs hP
      go_wp2_with fail
      refine (HNX.out _).mono ?_
      rintro e w2 ⟨rfl, hB2⟩
      have HB2 := Lib.hid hB2
      have hs2 := hB2.size
      clear hB2
      rcases hst with rfl | rfl | rfl
      · have hO2 := HI.out.2.2.2.1.below HB2.out hws
        have HO2 := Lib.hid hO2
        have r3 := fun ob => (hO2.alloc ob).cell 3 (.slice A' M.length c') rfl
        have HPT := Lib.hid (put_any A' c' M d (w2.alloc (.cells (condA d.a d.o d.m d.v) 61)) (HI.out.2.2.1.below (HB2.out.alloc hs2 _) (Nat.le_refl _)) (by have := HI.out.2.2.2.2.2; omega) HBD.out)
        clear hO2
        go_wp2_with fail
        refine HPT.out.mono ?_
        rintro e w3 ⟨A2, c2, rfl, hrd, hB3⟩
        have hO3 := (HO2.out.alloc (.cells (condA d.a d.o d.m d.v) 61)).below hB3 (by have := HO2.out.lt; simp; omega)
        have HO3 := Lib.hid hO3
        have r4 := hO3.frozen 3
        have r5 := hO3.cell 3 (.slice A' M.length c') rfl
        clear hO3 r3
        go_wp2
        have hB4 : Below (B + 2) wr w3 := (((HB2.out.mono (by omega)).alloc (by omega) _)).trans (hB3.mono (by simp; omega))
        exact ⟨⟨q + 1, A2, c2, L ++ [d], insD d M, by omega, by go_num, Lib.hid ⟨by rw [List.range_succ, List.map_append]; simpa [HX.out] using HSN.out, by rw [fputs_snoc, HI.out.2.1], hrd.keep ((KeepD.refl _).set HO3.out.ty (by decide) _ _), HO3.out.set 3 (.slice A2 (insD d M).length c2), (HI.out.2.2.2.2.1.trans hB4).setCell (Nat.le_refl _) _, by have := insD_len d M; have := HI.out.2.2.2.2.2; omega⟩⟩, by simp [intOf]; omega⟩
      · go_wp2
        exact ⟨⟨q + 1, A', c', L, M, by omega, by go_num, Lib.hid ⟨by rw [List.range_succ, List.map_append]; simpa [HX.out] using HSN.out, HI.out.2.1, HI.out.2.2.1.below (HB2.out.alloc hs2 _) (Nat.le_refl _), (HI.out.2.2.2.1.below HB2.out hws).alloc _, HI.out.2.2.2.2.1.trans ((HB2.out.mono (by omega)).alloc (by omega) _), by have := HI.out.2.2.2.2.2; omega⟩⟩, by simp [intOf]; omega⟩
      · have hR2 := HR0.out.below (HI.out.2.2.2.2.1.trans (HB2.out.mono (by omega))) (by omega)
        have HR2 := Lib.hid hR2
        have hnn : askL ((List.range n).map C) = none := by rw [HRT.out]; exact askL_none _ _ (by simpa [HX.out] using HSN.out)
        have z0 := fun ob => (hR2.alloc ob).cell 0 (.string ⟨#[]⟩) rfl
        have z1 := fun ob => (hR2.alloc ob).cell 1 (.int .i64 0) rfl
        have z2 := fun ob => (hR2.alloc ob).cell 2 (.int .i64 0) rfl
        have z3 := fun ob => (hR2.alloc ob).cell 3 (.slice none 0 0) rfl
        have y0 := fun ob => (hR2.alloc ob).frozen 0
        have y1 := fun ob => (hR2.alloc ob).frozen 1
        have y2 := fun ob => (hR2.alloc ob).frozen 2
        have y3 := fun ob => (hR2.alloc ob).frozen 3
        have HNN := Lib.hid hnn
        clear hR2 hnn
        go_wp2
        (try simp only [Exit.inBlock, Exit.then])
        refine bodyPost_ret (results_ctO Tryz.results24 _ _ (B + 1) _ zRu (0, 0) _ (.bool false) (by rfl) (by rfl) (show RowC _ (B + 1) zRu 47 from ((((HR2.out.alloc _).set 0 (.string ⟨#[]⟩)).set 1 (.int .i64 0)).set 2 (.int .i64 0)).set 3 (.slice none 0 0)) Tryz.underlying47 (by rfl) infoR14) rfl ?_
        exact ⟨by rw [HBS.out]; exact (((((HB0.out.trans ((HI.out.2.2.2.2.1.trans (HB2.out.mono (by omega))).mono (by omega))).alloc (by omega) _).setCell (Nat.le_succ _) _).setCell (Nat.le_succ _) _).setCell (Nat.le_succ _) _).setCell (Nat.le_succ _) _, .inl ⟨HNN.out, rfl⟩⟩
    · obtain rfl : q = n := by omega
      have hO := HI.out.2.2.2.1
      have hR := HR0.out.below HI.out.2.2.2.2.1 (by omega)
      have HO := Lib.hid hO
      have HR := Lib.hid hR
      have HE := Lib.hid (show M = srt L by rw [HI.out.2.1, fputs_srt])
      have o0 := hO.cell 0 (.string nm) rfl
      have o1 := hO.cell 1 (.int .i64 k) rfl
      have o2 := hO.cell 2 (.int .i64 u) rfl
      have o3 := hO.cell 3 (.slice A' M.length c') rfl
      have z0 := hR.cell 0 (.string ⟨#[]⟩) rfl
      have z1 := hR.cell 1 (.int .i64 0) rfl
      have z2 := hR.cell 2 (.int .i64 0) rfl
      have z3 := hR.cell 3 (.slice none 0 0) rfl
      have y0 := hR.frozen 0
      have y1 := hR.frozen 1
      have y2 := hR.frozen 2
      have y3 := hR.frozen 3
      clear hO hR hP
      go_wp2
      have q0 := HR.out.set 0 (.string nm)
      have q1 := q0.set 1 (.int .i64 k)
      have q2 := q1.set 2 (.int .i64 u)
      have q3 := q2.set 3 (.slice A' M.length c')
      have hK : KeepD wr ((((wr.setCell ⟨B + 1, 0, none⟩ (.string nm)).setCell ⟨B + 1, 1, none⟩ (.int .i64 k)).setCell ⟨B + 1, 2, none⟩ (.int .i64 u)).setCell ⟨B + 1, 3, none⟩ (.slice A' M.length c')) :=
        ((((KeepD.refl wr).set HR.out.ty (by decide) _ _).set q0.ty (by decide) _ _).set q1.ty (by decide) _ _).set q2.ty (by decide) _ _
      exact bodyPost_ret (results_ctO Tryz.results24 _ _ (B + 1) _ (rulA nm k u A' M.length c') (0, 0) _ (.bool true) (by rfl) (by rfl) (show RowC _ (B + 1) (rulA nm k u A' M.length c') 47 from q3) Tryz.underlying47 (by rfl) infoR14) rfl
        ⟨by rw [HBS.out]; exact ((((HB0.out.trans (HI.out.2.2.2.2.1.mono (by omega))).setCell (Nat.le_succ _) _).setCell (Nat.le_succ _) _).setCell (Nat.le_succ _) _).setCell (Nat.le_succ _) _, .inr ⟨L, A', c', HI.out.1, by rw [← HE.out], by rw [← HE.out]; exact HI.out.2.2.1.keep hK⟩⟩
end Go.Proofs.YtcembcicpmhpkaaGreatDoor

/-
  The document's own Right of an action, of a name, of a policy (layers 9, 11, 14), as the program's.
-/
namespace Go.Proofs.YtcembcicpmhpkaaGreatDoor
open Go.RowKit Go.Shelf
set_option linter.unusedVariables false

set_option maxRecDepth 100000 in
set_option maxHeartbeats 4000000 in
theorem most_at (j : Nat) (w : World) : Calls Tryz.prog 68 #[.int .i64 ((j : Int) + 1)] w fun e w' => e = .returned (.int .i64 (mostA j)) ∧ w = w' := by
  by_cases h3 : j = 3
  · subst h3
    show Calls Tryz.prog 68 #[.int .i64 4] w fun e w' => e = .returned (.int .i64 4095) ∧ w = w'
    go_enter Tryz.func68, Tryz.ntmps68
    go_wp2
    go_ret
    exact ⟨rfl, rfl⟩
  by_cases h5 : j = 5
  · subst h5
    show Calls Tryz.prog 68 #[.int .i64 6] w fun e w' => e = .returned (.int .i64 65535) ∧ w = w'
    go_enter Tryz.func68, Tryz.ntmps68
    go_wp2
    go_ret
    exact ⟨rfl, rfl⟩
  have e : mostA j = 0 := by unfold mostA; rw [if_neg h3, if_neg h5]
  rw [e]
  have a3 : ((j : Int) + 1 == 4) = false := by simp; omega
  have a5 : ((j : Int) + 1 == 6) = false := by simp; omega
  have b3 : ¬ (j : Int) + 1 = 4 := by omega
  have b5 : ¬ (j : Int) + 1 = 6 := by omega
  generalize (j : Int) + 1 = k at *
  clear e h3 h5
  go_enter Tryz.func68, Tryz.ntmps68
  go_wp2
  go_ret
  exact ⟨rfl, rfl⟩
set_option maxRecDepth 100000 in
set_option maxHeartbeats 4000000 in
theorem right9_ok (j : Nat) (hj : j < 8) (n : Int) (hm : mayA j n = true) (w : World) : Calls Tryz.prog 39 #[.agg #[.int .i64 ((j : Int) + 1), .int .i64 n]] w fun e w' => e = .returned (.bool true) ∧ Below w.heap.size w w' := by
  have hr : RowC (w.alloc (.cells #[.int .i64 ((j : Int) + 1), .int .i64 n] 23)) w.heap.size #[.int .i64 ((j : Int) + 1), .int .i64 n] 23 := RowC.new _ _ _ _ rfl
  have hb : Below w.heap.size w (w.alloc (.cells #[.int .i64 ((j : Int) + 1), .int .i64 n] 23)) := (Below.refl _ _).alloc (Nat.le_refl _) _
  unfold mayA at hm
  simp only [Bool.and_eq_true, decide_eq_true_eq] at hm
  have g1 : decide ((1 : Int) ≤ (j : Int) + 1) = true := decide_eq_true (by omega)
  have g2 : decide ((j : Int) + 1 ≤ 8) = true := decide_eq_true (by omega)
  have g3 : decide ((0 : Int) ≤ n) = true := decide_eq_true (by omega)
  have g4 : decide (n ≤ mostA j) = true := decide_eq_true (by omega)
  have g1' : (1 : Int) ≤ (j : Int) + 1 := by omega
  have g2' : (j : Int) + 1 ≤ 8 := by omega
  have g3' : (0 : Int) ≤ n := by omega
  have g4' : n ≤ mostA j := by omega
  have HC := Lib.hid fun W => most_at j W
  have HB := Lib.hid hb
  clear hj hb hm
  go_enter Tryz.func39, Tryz.ntmps39
  go_wp2_with fail
  generalize w.alloc (.cells #[.int .i64 ((j : Int) + 1), .int .i64 n] 23) = W1 at *
  have hS : Hid (W1.drew.cell? ⟨w.heap.size, 0, none⟩ = some (.int .i64 ((j : Int) + 1)) ∧ W1.drew.cell? ⟨w.heap.size, 1, none⟩ = some (.int .i64 n)) := Lib.hid ⟨hr.cell 0 _ rfl, hr.cell 1 _ rfl⟩
  generalize (j : Int) + 1 = P1 at *
  generalize mostA j = M at *
  clear hr
  go_region_held3 (fun w' => w'.cell? ⟨w.heap.size, 0, none⟩ = some (.int .i64 P1) ∧ w'.cell? ⟨w.heap.size, 1, none⟩ = some (.int .i64 n))
    (first | exact hS.out | assumption | go_keep)
    (first
      | (go_at_call 68
         (with_reducible refine (HC.out _).mono ?_)
         rintro e w2 ⟨rfl, rfl⟩))
  all_goals go_wp2
  all_goals go_ret
  all_goals exact ⟨rfl, HB.out.drew⟩
set_option maxRecDepth 100000 in
set_option maxHeartbeats 4000000 in
theorem right9_no (kd n : Int) (hno : ∀ j : Nat, j < 8 → kd = (j : Int) + 1 → mayA j n = false) (w : World) : Calls Tryz.prog 39 #[.agg #[.int .i64 kd, .int .i64 n]] w fun e w' => e = .returned (.bool false) ∧ Below w.heap.size w w' := by
  have hr : RowC (w.alloc (.cells #[.int .i64 kd, .int .i64 n] 23)) w.heap.size #[.int .i64 kd, .int .i64 n] 23 := RowC.new _ _ _ _ rfl
  have hb : Below w.heap.size w (w.alloc (.cells #[.int .i64 kd, .int .i64 n] 23)) := (Below.refl _ _).alloc (Nat.le_refl _) _
  have HB := Lib.hid hb
  have HNO := Lib.hid hno
  clear hb hno
  go_enter Tryz.func39, Tryz.ntmps39
  go_wp2_with fail
  generalize w.alloc (.cells #[.int .i64 kd, .int .i64 n] 23) = W1 at *
  have hS : Hid (W1.drew.cell? ⟨w.heap.size, 0, none⟩ = some (.int .i64 kd) ∧ W1.drew.cell? ⟨w.heap.size, 1, none⟩ = some (.int .i64 n)) := Lib.hid ⟨hr.cell 0 _ rfl, hr.cell 1 _ rfl⟩
  clear hr
  by_cases c1 : 1 ≤ kd
  · have g1 : decide ((1 : Int) ≤ kd) = true := decide_eq_true c1
    by_cases c2 : kd ≤ 8
    · have g2 : decide (kd ≤ 8) = true := decide_eq_true c2
      by_cases c3 : 0 ≤ n
      · have g3 : decide ((0 : Int) ≤ n) = true := decide_eq_true c3
        obtain ⟨j, hj⟩ : ∃ j : Nat, kd - 1 = j := Int.eq_ofNat_of_zero_le (by omega)
        have hk : kd = (j : Int) + 1 := by omega
        have hM := HNO.out j (by omega) hk
        unfold mayA at hM
        rw [decide_eq_true c3, Bool.true_and] at hM
        have c4 : ¬ n ≤ mostA j := by simpa using hM
        have HC := Lib.hid fun W => most_at j W
        rw [← hk] at HC
        generalize mostA j = M at *
        clear hk hj HNO
        go_region_held3 (fun w' => w'.cell? ⟨w.heap.size, 0, none⟩ = some (.int .i64 kd) ∧ w'.cell? ⟨w.heap.size, 1, none⟩ = some (.int .i64 n))
          (first | exact hS.out | assumption | go_keep)
          (first
            | (go_at_call 68
               (with_reducible refine (HC.out _).mono ?_)
               rintro e w2 ⟨rfl, rfl⟩))
        all_goals go_wp2
        all_goals go_ret
        all_goals exact ⟨rfl, HB.out.drew⟩
      · have g3 : decide ((0 : Int) ≤ n) = false := decide_eq_false c3
        have x0 : W1.cell? ⟨w.heap.size, 0, none⟩ = some (.int .i64 kd) := hS.out.1
        have x1 : W1.cell? ⟨w.heap.size, 1, none⟩ = some (.int .i64 n) := hS.out.2
        go_quiet (fail)
        all_goals go_wp2
        all_goals go_ret
        all_goals exact ⟨rfl, bdn HB.out _⟩
    · have g2 : decide (kd ≤ 8) = false := decide_eq_false c2
      have x0 : W1.cell? ⟨w.heap.size, 0, none⟩ = some (.int .i64 kd) := hS.out.1
      have x1 : W1.cell? ⟨w.heap.size, 1, none⟩ = some (.int .i64 n) := hS.out.2
      go_quiet (fail)
      all_goals go_wp2
      all_goals go_ret
      all_goals exact ⟨rfl, bdn HB.out _⟩
  · have g1 : decide ((1 : Int) ≤ kd) = false := decide_eq_false c1
    have x0 : W1.cell? ⟨w.heap.size, 0, none⟩ = some (.int .i64 kd) := hS.out.1
    have x1 : W1.cell? ⟨w.heap.size, 1, none⟩ = some (.int .i64 n) := hS.out.2
    go_quiet (fail)
    all_goals go_wp2
    all_goals go_ret
    all_goals exact ⟨rfl, bdn HB.out _⟩

theorem right9_any (k u : Int) (w : World) : Calls Tryz.prog 39 #[.agg #[.int .i64 k, .int .i64 u]] w fun e w' => e = .returned (.bool (actB k u)) ∧ Below w.heap.size w w' := by
  rcases ha : actB k u with _ | _
  · exact right9_no k u (actB_no ha) w
  · obtain ⟨j, hj, rfl, hm⟩ := actB_ok ha
    exact right9_ok j hj u hm w
theorem nameB_eq (nm : ByteArray) : (NmP nm ∧ nameB nm = true) ∨ (¬ NmP nm ∧ nameB nm = false) := by
  by_cases h : NmP nm
  · refine .inl ⟨h, decide_eq_true ?_⟩
    have hrng : RngP ((fun _ : Nat => nmRow nm) 0) := fun a ha => by
      match a, ha with
      | 0, _ => exact ⟨by show (-1 : Int) ≤ 0; decide, by show (0 : Int) ≤ 1073741823; decide⟩
      | 1, _ => exact ⟨by show (-1 : Int) ≤ 0; decide, by show (0 : Int) ≤ 1073741823; decide⟩
      | 2, _ => exact ⟨by show (-1 : Int) ≤ 0; decide, by show (0 : Int) ≤ 1073741823; decide⟩
      | 3, _ => exact ⟨by show (-1 : Int) ≤ 0; decide, by show (0 : Int) ≤ 1073741823; decide⟩
      | 4, _ => exact ⟨by show (-1 : Int) ≤ 0; decide, by show (0 : Int) ≤ 1073741823; decide⟩
    unfold rowF
    rw [if_pos (show NmP ((fun _ : Nat => nmRow nm) 0).nm from h), if_pos (show RiseP (fun _ : Nat => nmRow nm) 0 from fun h0 => absurd h0 (Nat.lt_irrefl 0)), if_pos ⟨hrng, .inl ⟨rfl, rfl⟩⟩, if_neg (by simp), if_neg (fun ⟨k, hk, _⟩ => absurd hk (Nat.not_lt_zero _))]
  · refine .inr ⟨h, decide_eq_false ?_⟩
    rw [row13 (T := fun _ : Nat => nmRow nm) (i := 0) h]
    decide
set_option maxRecDepth 100000 in
set_option maxHeartbeats 4000000 in
theorem name14_any (nm : ByteArray) (w : World) : Calls Tryz.prog 40 #[.string nm] w fun e w' => e = .returned (.bool (nameB nm)) ∧ Below w.heap.size w w' := by
  have HR := Lib.hid (refName_any nm w)
  have HE := Lib.hid (nameB_eq nm)
  obtain ⟨nb, hnb⟩ : ∃ nb, nameB nm = nb := ⟨_, rfl⟩
  rw [hnb] at HE ⊢
  clear hnb
  go_enter Tryz.func40, Tryz.ntmps40
  go_wp2_with fail
  refine HR.out.mono ?_
  rintro e w2 ⟨h, rfl⟩
  have hd : e = .returned (.bool nb) := by
    rcases h with ⟨h1, rfl⟩ | ⟨h1, rfl⟩
    · rcases HE.out with ⟨_, rfl⟩ | ⟨h2, _⟩
      · rfl
      · exact absurd h1 h2
    · rcases HE.out with ⟨h2, _⟩ | ⟨_, rfl⟩
      · exact absurd h2 h1
      · rfl
  subst hd
  go_wp2
  go_ret
  exact ⟨rfl, Below.refl _ _⟩
theorem refRight_dec (c : CD) (w : World) : Calls Tryz.prog 41 #[.agg (condA c.a c.o c.m c.v)] w fun e w' => e = .returned (.bool (decide (RiC c))) ∧ Below w.heap.size w w' := by
  by_cases h : RiC c
  · obtain ⟨j, hj⟩ := h.right
    rw [decide_eq_true h, ← rightB_ok hj]
    exact refRight_any c.a c.o c.m c.v w
  · rw [decide_eq_false h, ← rightB_no (ric_not h)]
    exact refRight_any c.a c.o c.m c.v w
end Go.Proofs.YtcembcicpmhpkaaGreatDoor

/-
  Layer 14: the document's Right of a policy is the program's.
-/
namespace Go.Proofs.YtcembcicpmhpkaaGreatDoor
open Go.RowKit Go.Shelf
set_option linter.unusedVariables false

theorem allR_snoc (R : Nat → RL) (q : Nat) : ((List.range (q + 1)).map fun i => (R i).val).all mayV = (((List.range q).map fun i => (R i).val).all mayV && mayV (R q).val) := by
  rw [List.range_succ, List.map_append, List.all_append]
  simp
theorem allR_no (R : Nat → RL) (q n : Nat) (hq : q < n) (h : mayV (R q).val = false) : ((List.range n).map fun i => (R i).val).all mayV = false := by
  rw [List.all_eq_false]
  exact ⟨(R q).val, List.mem_map.2 ⟨q, List.mem_range.2 hq, rfl⟩, by rw [h]; simp⟩
theorem mayV_val (r : RL) : mayV r.val = (nameB r.nm && (actB r.k r.u && (decide (r.n ≤ 6) && ((List.range r.n).map r.C).all fun c => decide (RiC c)))) := by
  unfold mayV RL.val; simp only [List.length_map, List.length_range]
set_option maxRecDepth 100000 in
set_option maxHeartbeats 16000000 in
theorem refPolRight_any (k u : Int) (x : Bool) (A : Option Addr) (n c : Nat) (R : Nat → RL) (w : World) (hn : n ≤ 500) (hR : RlA w A n R) :
    Calls Tryz.prog 20 #[.agg (polA k u x A n c)] w fun e w' => e = .returned (.bool (rightV k u ((List.range n).map fun i => (R i).val))) ∧ Below w.heap.size w w' := by
  obtain ⟨W0, hW0⟩ : ∃ W, w.alloc (.cells (polA k u x A n c) 26) = W := ⟨_, rfl⟩
  have hB0 : Below w.heap.size w W0 := by rw [← hW0]; exact (Below.refl _ _).alloc (Nat.le_refl _) _
  have hP0 : RowC W0 w.heap.size (polA k u x A n c) 26 := by rw [← hW0]; exact RowC.new _ _ _ _ rfl
  have hs0 : W0.heap.size = w.heap.size + 1 := by rw [← hW0]; simp
  have HV : Hid (rightV k u ((List.range n).map fun i => (R i).val) = (actB k u && ((List.range n).map fun i => (R i).val).all mayV)) := Lib.hid (by unfold rightV; rw [List.length_map, List.length_range, decide_eq_true hn]; simp)
  obtain ⟨rv, hrv⟩ : ∃ rv, rightV k u ((List.range n).map fun i => (R i).val) = rv := ⟨_, rfl⟩
  rw [hrv] at HV ⊢
  have HR := Lib.hid (hR.below hB0 (Nat.le_refl _))
  have HP0 := Lib.hid hP0
  have HB0 := Lib.hid hB0
  have HW := Lib.hid hW0
  have HS := Lib.hid hs0
  have p0 := hP0.cell 0 (.int .i64 k) rfl
  have p1 := hP0.cell 1 (.int .i64 u) rfl
  have HA := Lib.hid (right9_any k u W0)
  clear hW0 hB0 hP0 hrv hR hs0
  rcases ha : actB k u with _ | _
  · rw [ha] at HV HA
    go_enter Tryz.func20, Tryz.ntmps20
    go_upto_region 1 with fail
    rw [HW.out]
    go_wp2_with fail
    refine HA.out.mono ?_
    rintro e w1 ⟨rfl, hB1⟩
    go_wp2
    go_ret
    exact ⟨by rw [HV.out]; rfl, HB0.out.trans (hB1.mono HB0.out.size)⟩
  · rw [ha] at HV HA
    have g6 : ¬ (n : Int) > 500 := by omega
    have g7 : ¬ 500 < n := by omega
    go_enter Tryz.func20, Tryz.ntmps20
    go_upto_region 1 with fail
    rw [HW.out]
    go_wp2_with fail
    refine HA.out.mono ?_
    rintro e w1 ⟨rfl, hB1⟩
    have hP1 := HP0.out.below hB1 HP0.out.lt
    have a3 := hP1.cell 3 (.slice A n c) rfl
    have HB1 := Lib.hid hB1
    have HP1 := Lib.hid hP1
    clear hP1 hB1 p0 p1
    go_wp2
    go_loopw [3] (fun i wr => ∃ q : Nat, q ≤ n ∧ i = .int .i64 q ∧ Hid (Below W0.heap.size W0 wr ∧ ((List.range q).map fun i => (R i).val).all mayV = true)) (fun i _ => n - (intOf i).toNat)
    case atStart => exact ⟨0, Nat.zero_le _, rfl, Lib.hid ⟨HB1.out, rfl⟩⟩
    case round =>
      obtain ⟨q, hq, rfl, HI⟩ := hrel
      have hPr := HP0.out.below HI.out.1 HP0.out.lt
      have b3 := hPr.cell 3 (.slice A n c) rfl
      have HPr := Lib.hid hPr
      clear hPr a3
      by_cases hlt : q < n
      · have hLr := HR.out.below HI.out.1 (Nat.le_refl _)
        rcases hLr with h0 | ⟨bb, o, rfl, hbl, hcs⟩
        · omega
        obtain ⟨q0, q1, q2, q3, _, _, _, _, _, hru⟩ := hcs q hlt
        have HSN := Lib.hid (allR_snoc R q)
        have HNO := Lib.hid (allR_no R q n hlt)
        obtain ⟨r, hr⟩ : ∃ r, R q = r := ⟨_, rfl⟩
        rw [hr] at q0 q1 q2 q3 hru HSN HNO
        rw [Nat.add_zero] at q0
        rw [mayV_val] at HSN HNO
        obtain ⟨nm, k1, u1, A1, n1, c1, C1⟩ := r
        simp only at q0 q1 q2 q3 hru HSN HNO
        have HC := Lib.hid hru
        have i1 : (0 : Int) ≤ (q : Int) := by omega
        have i2 : (q : Int) < (n : Int) := by omega
        obtain ⟨X, hX⟩ : ∃ X, wr.alloc (.cells (rulA nm k1 u1 A1 n1 c1) 47) = X := ⟨_, rfl⟩
        obtain ⟨bx, hbx⟩ : ∃ bx, wr.heap.size = bx := ⟨_, rfl⟩
        have HXP := Lib.hid (show RowC X bx (rulA nm k1 u1 A1 n1 c1) 47 by rw [← hX, ← hbx]; exact RowC.new _ _ _ _ rfl)
        have HXB := Lib.hid (show Below bx wr X by rw [← hX, ← hbx]; exact (Below.refl _ _).alloc (Nat.le_refl _) _)
        have HXW := Lib.hid hX
        have HBX := Lib.hid hbx
        have HNM := Lib.hid (name14_any nm X)
        have HQB := Lib.hid (HI.out.1.trans (HXB.out.mono (by have := HI.out.1.size; omega)))
        have x0 := HXP.out.cell 0 (.string nm) rfl
        clear hcs hr hru hbl hX hbx
        rcases hb : nameB nm with _ | _
        · rw [hb] at HNM HNO
          go_upto_region 7 with fail
          rw [HXW.out, HBX.out]
          go_wp2_with fail
          refine HNM.out.mono ?_
          rintro e w3 ⟨rfl, hB3⟩
          go_wp2
          go_ret
          exact ⟨by rw [HV.out, HNO.out rfl]; rfl, HB0.out.trans ((HQB.out.trans (hB3.mono HQB.out.size)).mono HB0.out.size)⟩
        · rw [hb] at HNM HNO HSN
          rcases ha1 : actB k1 u1 with _ | _
          · rw [ha1] at HNO
            go_upto_region 7 with fail
            rw [HXW.out, HBX.out]
            go_wp2_with fail
            refine HNM.out.mono ?_
            rintro e w3 ⟨rfl, hB3⟩
            have HX3 := Lib.hid (HXP.out.below hB3 HXP.out.lt)
            have y1 := HX3.out.cell 1 (.int .i64 k1) rfl
            have y2 := HX3.out.cell 2 (.int .i64 u1) rfl
            have HA1 := Lib.hid (right9_any k1 u1 w3)
            rw [ha1] at HA1
            have HQ3 := Lib.hid (HQB.out.trans (hB3.mono HQB.out.size))
            clear hB3
            go_wp2_with fail
            refine HA1.out.mono ?_
            rintro e w4 ⟨rfl, hB4⟩
            go_wp2
            go_ret
            exact ⟨by rw [HV.out, HNO.out rfl]; rfl, HB0.out.trans ((HQ3.out.trans (hB4.mono HQ3.out.size)).mono HB0.out.size)⟩
          · rw [ha1] at HNO HSN
            go_upto_region 7 with fail
            rw [HXW.out, HBX.out]
            go_wp2_with fail
            refine HNM.out.mono ?_
            rintro e w3 ⟨rfl, hB3⟩
            have HX3 := Lib.hid (HXP.out.below hB3 HXP.out.lt)
            have y1 := HX3.out.cell 1 (.int .i64 k1) rfl
            have y2 := HX3.out.cell 2 (.int .i64 u1) rfl
            have HA1 := Lib.hid (right9_any k1 u1 w3)
            rw [ha1] at HA1
            have HQ3 := Lib.hid (HQB.out.trans (hB3.mono HQB.out.size))
            have HX3B := Lib.hid hB3
            clear hB3
            go_wp2_with fail
            refine HA1.out.mono ?_
            rintro e w4 ⟨rfl, hB4⟩
            have HX4 := Lib.hid (HX3.out.below hB4 HX3.out.lt)
            have y3 := HX4.out.cell 3 (.slice A1 n1 c1) rfl
            have HQ4 := Lib.hid (HQ3.out.trans (hB4.mono HQ3.out.size))
            have HC4 := Lib.hid (HC.out.below (HXB.out.trans ((HX3B.out.trans (hB4.mono HX3B.out.size)).mono (by have := HXB.out.size; rw [HBX.out] at this; exact this))) (by rw [HBX.out]; exact Nat.le_refl _))
            clear hB4 x0 y1 y2
            by_cases h6 : n1 ≤ 6
            · have h6' : ¬ (n1 : Int) > 6 := by omega
              have h6'' : ¬ 6 < n1 := by omega
              rw [decide_eq_true h6] at HSN HNO
              go_wp2
              go_loopw [5] (fun i2 wq => ∃ q2 : Nat, q2 ≤ n1 ∧ i2 = .int .i64 q2 ∧ Hid (Below W0.heap.size W0 wq ∧ RowC wq bx (rulA nm k1 u1 A1 n1 c1) 47 ∧ ConA wq A1 n1 C1 ∧ ((List.range q2).map C1).all (fun c => decide (RiC c)) = true)) (fun i2 _ => n1 - (intOf i2).toNat)
              case atStart => exact ⟨0, Nat.zero_le _, rfl, Lib.hid ⟨HQ4.out, HX4.out, HC4.out, rfl⟩⟩
              case round =>
                rename_i wr
                obtain ⟨q2, hq2, rfl, HJ⟩ := hrel
                have y3 := HJ.out.2.1.cell 3 (.slice A1 n1 c1) rfl
                by_cases hlt2 : q2 < n1
                · obtain ⟨x9, hx9⟩ : ∃ x9, C1 q2 = x9 := ⟨_, rfl⟩
                  obtain ⟨b9, o9, rfl, d0, d1, d2, d3⟩ := HJ.out.2.2.1.four hlt2 hx9
                  have HX9 := Lib.hid hx9
                  have HCR := Lib.hid fun X => refRight_dec x9 X
                  obtain ⟨cv, hcv⟩ : ∃ cv, decide (RiC x9) = cv := ⟨_, rfl⟩
                  rw [hcv] at HCR
                  have HCV := Lib.hid hcv
                  have j1 : (0 : Int) ≤ (q2 : Int) := by omega
                  have j2 : (q2 : Int) < (n1 : Int) := by omega
                  clear hx9 hcv
                  go_wp2_with fail
                  refine (HCR.out _).mono ?_
                  rintro e w5 ⟨rfl, hB5⟩
                  cases cv with
                  | true =>
                    go_wp2
                    exact ⟨⟨q2 + 1, by omega, by go_num, Lib.hid ⟨HJ.out.1.trans (hB5.mono HJ.out.1.size), HJ.out.2.1.below hB5 HJ.out.2.1.lt, HJ.out.2.2.1.below hB5 (Nat.le_refl _), by rw [List.range_succ, List.map_append, List.all_append, HJ.out.2.2.2]; simp [HX9.out, HCV.out]⟩⟩, by simp [intOf]; omega⟩
                  | false =>
                    go_wp2
                    go_ret
                    refine ⟨?_, HB0.out.trans ((HJ.out.1.trans (hB5.mono HJ.out.1.size)).mono HB0.out.size)⟩
                    have hf : ((List.range n1).map C1).all (fun c => decide (RiC c)) = false := by
                      rw [range_take C1 q2 n1 hlt2, List.all_append, List.all_append]
                      simp [HX9.out, HCV.out]
                    rw [HV.out, HNO.out (by rw [hf]; rfl)]
                    rfl
                · obtain rfl : q2 = n1 := by omega
                  go_wp2
                  exact ⟨⟨q + 1, by omega, by go_num, Lib.hid ⟨HJ.out.1, by rw [HSN.out, HI.out.2, HJ.out.2.2.2]; rfl⟩⟩, by simp [intOf]; omega⟩
            · have h6' : (n1 : Int) > 6 := by omega
              have h6'' : 6 < n1 := by omega
              rw [decide_eq_false h6] at HNO
              go_wp2
              go_ret
              exact ⟨by rw [HV.out, HNO.out rfl]; rfl, HB0.out.trans (HQ4.out.mono HB0.out.size)⟩
      · obtain rfl : q = n := by omega
        go_wp2
        go_ret
        exact ⟨by rw [HV.out, HI.out.2]; rfl, HB0.out.trans (HI.out.1.mono HB0.out.size)⟩
end Go.Proofs.YtcembcicpmhpkaaGreatDoor
