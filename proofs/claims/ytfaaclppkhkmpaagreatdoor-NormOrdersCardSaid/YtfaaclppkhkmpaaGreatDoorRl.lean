/-
  policy.Same.
-/
import Derived.Test.YtfaaclppkhkmpaaGreatDoorRh
import Derived.Test.YtfaaclppkhkmpaaGreatDoorRi
namespace Go.Proofs.YtfaaclppkhkmpaaGreatDoor
open Go.RowKit Go.Shelf
set_option linter.unusedVariables false

theorem bytes_ext {a b : ByteArray} (h : (a.toList == b.toList) = true) : a = b := by
  have h' : a.toList = b.toList := by simpa using h
  rw [ByteArray.toList_eq, ByteArray.toList_eq] at h'
  obtain ⟨⟨x⟩⟩ := a
  obtain ⟨⟨y⟩⟩ := b
  exact congrArg (fun l => ByteArray.mk ⟨l⟩) h'
def sameV (x y : RV) : Bool := (x.nm.toList == y.nm.toList) && ((x.k == y.k) && (x.u == y.u)) && decide (x.L = y.L)
theorem sameV_iff (x y : RV) : sameV x y = true ↔ x = y := by
  unfold sameV
  constructor
  · intro h
    simp only [Bool.and_eq_true, beq_iff_eq, decide_eq_true_eq] at h
    obtain ⟨⟨h1, h2, h3⟩, h4⟩ := h
    obtain ⟨a, b, c, d⟩ := x
    obtain ⟨a', b', c', d'⟩ := y
    simp only at h1 h2 h3 h4
    obtain rfl := bytes_ext (by simpa using h1)
    subst h2 h3 h4
    rfl
  · rintro rfl
    simp
set_option maxRecDepth 100000 in
set_option maxHeartbeats 8000000 in
theorem sameRule_any (a b : RL) (w : World) (hn : a.n ≤ 100000) (ha : ConA w a.A a.n a.C) (hb : ConA w b.A b.n b.C) :
    Calls Tryz.prog 27 #[.agg (rulA a.nm a.k a.u a.A a.n a.c), .agg (rulA b.nm b.k b.u b.A b.n b.c)] w fun e w' => e = .returned (.bool (sameV a.val b.val)) ∧ Below w.heap.size w w' := by
  obtain ⟨W0, hW0⟩ : ∃ W, (w.alloc (.cells (rulA a.nm a.k a.u a.A a.n a.c) 40)).alloc (.cells (rulA b.nm b.k b.u b.A b.n b.c) 40) = W := ⟨_, rfl⟩
  have hB0 : Below w.heap.size w W0 := by rw [← hW0]; exact ((Below.refl _ _).alloc (Nat.le_refl _) _).alloc (by simp) _
  have hP0 : RowC W0 w.heap.size (rulA a.nm a.k a.u a.A a.n a.c) 40 := by rw [← hW0]; exact (RowC.new _ _ _ _ rfl).alloc _
  have hQ0 : RowC W0 (w.heap.size + 1) (rulA b.nm b.k b.u b.A b.n b.c) 40 := by rw [← hW0]; exact RowC.new _ _ _ _ (by simp)
  have HEQ := Lib.hid (eqConds_any a.A b.A a.n a.c b.n b.c a.C b.C W0 hn (ha.below hB0 (Nat.le_refl _)) (hb.below hB0 (Nat.le_refl _)))
  have HV := Lib.hid (show sameV a.val b.val = ((a.nm.toList == b.nm.toList) && ((a.k == b.k) && (a.u == b.u)) && decide ((List.range a.n).map a.C = (List.range b.n).map b.C)) from rfl)
  obtain ⟨sv, hsv⟩ : ∃ sv, sameV a.val b.val = sv := ⟨_, rfl⟩
  rw [hsv] at HV ⊢
  have p0 := hP0.cell 0 (.string a.nm) rfl
  have p1 := hP0.cell 1 (.int .i64 a.k) rfl
  have p2 := hP0.cell 2 (.int .i64 a.u) rfl
  have p3 := hP0.cell 3 (.slice a.A a.n a.c) rfl
  have r0 := hQ0.cell 0 (.string b.nm) rfl
  have r1 := hQ0.cell 1 (.int .i64 b.k) rfl
  have r2 := hQ0.cell 2 (.int .i64 b.u) rfl
  have r3 := hQ0.cell 3 (.slice b.A b.n b.c) rfl
  have HB0 := Lib.hid hB0
  have HW := Lib.hid hW0
  clear ha hb hW0 hB0 hP0 hQ0 hsv
  obtain ⟨an, ak, au, aA, aN, aC, aF⟩ := a
  obtain ⟨bn, bk, bu, bA, bN, bC, bF⟩ := b
  simp only at HEQ HV p0 p1 p2 p3 r0 r1 r2 r3 HW
  rcases hnm : (an.toList == bn.toList) with _ | _
  · rw [hnm] at HV
    go_enter Tryz.func27, Tryz.ntmps27
    go_upto_region 1 with fail
    rw [HW.out]
    go_wp2
    go_ret
    exact ⟨by rw [HV.out]; rfl, HB0.out⟩
  · rw [hnm] at HV
    rcases act_cases ak au bk bu with ⟨h1, h2⟩ | h | ⟨h1, h⟩
    · subst h1 h2
      have HV := Lib.hid (HV.out.trans (by simp : _ = decide ((List.range aN).map aF = (List.range bN).map bF)))
      go_enter Tryz.func27, Tryz.ntmps27
      go_upto_region 1 with fail
      rw [HW.out]
      go_wp2_with fail
      refine HEQ.out.mono ?_
      rintro x w2 ⟨rfl, hB2⟩
      go_wp2
      go_ret
      exact ⟨by rw [HV.out]; rfl, HB0.out.trans (hB2.mono HB0.out.size)⟩
    · rw [h] at HV
      go_enter Tryz.func27, Tryz.ntmps27
      go_upto_region 1 with fail
      rw [HW.out]
      go_wp2
      go_ret
      exact ⟨by rw [HV.out]; rfl, HB0.out⟩
    · subst h1
      rw [h] at HV
      have HV := Lib.hid (HV.out.trans (by simp : _ = false))
      go_enter Tryz.func27, Tryz.ntmps27
      go_upto_region 1 with fail
      rw [HW.out]
      go_wp2
      go_ret
      exact ⟨by rw [HV.out]; rfl, HB0.out⟩
set_option maxRecDepth 100000 in
set_option maxHeartbeats 8000000 in
theorem equalRules_any (A A' : Option Addr) (l l' : List RL) (c c' : Nat) (w : World) (hl : RlL w A l) (hl' : RlL w A' l') (hn : l.length ≤ 1000000) (h12 : ∀ e ∈ l, e.n ≤ 100000) :
    Calls Tryz.prog 26 #[.slice A l.length c, .slice A' l'.length c', .func (.func 27) #[] #[]] w fun e w' => (∃ b, e = .returned (.bool b) ∧ (b = true ↔ l.map RL.val = l'.map RL.val)) ∧ Below w.heap.size w w' := by
  obtain ⟨n, hnl⟩ : ∃ n, l.length = n := ⟨_, rfl⟩
  obtain ⟨m, hml⟩ : ∃ m, l'.length = m := ⟨_, rfl⟩
  have HNL := Lib.hid hnl
  have HML := Lib.hid hml
  have HL := Lib.hid hl
  have HL' := Lib.hid hl'
  have H12 := Lib.hid h12
  rw [hnl] at hn ⊢
  rw [hml]
  clear hnl hml hl hl' h12
  by_cases hnm : n = m
  · subst hnm
    go_enter Tryz.func26, Tryz.ntmps26
    go_wp2
    go_loopw [17] (fun i wr => ∃ q : Nat, q ≤ n ∧ i = .int .i64 q ∧ Hid (Below w.heap.size w wr ∧ (l.take q).map RL.val = (l'.take q).map RL.val)) (fun i _ => n - (intOf i).toNat)
    case atStart => exact ⟨0, Nat.zero_le _, rfl, Lib.hid ⟨Below.refl _ _, rfl⟩⟩
    case round =>
      obtain ⟨q, hq, rfl, HI⟩ := hrel
      by_cases hlt : q < n
      · have hlq : q < l.length := by rw [HNL.out]; exact hlt
        have hlq' : q < l'.length := by rw [HML.out]; exact hlt
        have hmem : l[q]! ∈ l := by rw [getElem!_pos l q hlq]; exact List.getElem_mem hlq
        have hmem' : l'[q]! ∈ l' := by rw [getElem!_pos l' q hlq']; exact List.getElem_mem hlq'
        have hLr := HL.out.below HI.out.1 (Nat.le_refl _)
        have hLr' := HL'.out.below HI.out.1 (Nat.le_refl _)
        have hru := hLr.2 _ hmem
        have hru' := hLr'.2 _ hmem'
        have h1000 := H12.out _ hmem
        rcases hLr.1 with h0 | ⟨bb, o, rfl, hbl, hcs⟩
        · rw [h0] at hlq; exact absurd hlq (Nat.not_lt_zero _)
        rcases hLr'.1 with h0 | ⟨bb', o', rfl, hbl', hcs'⟩
        · rw [h0] at hlq'; exact absurd hlq' (Nat.not_lt_zero _)
        obtain ⟨q0, q1, q2, q3⟩ := hcs q hlq
        obtain ⟨k0, k1, k2, k3⟩ := hcs' q hlq'
        obtain ⟨r, hr⟩ : ∃ r, l[q]! = r := ⟨_, rfl⟩
        obtain ⟨s, hs⟩ : ∃ s, l'[q]! = s := ⟨_, rfl⟩
        rw [hr] at q0 q1 q2 q3 hru h1000
        rw [hs] at k0 k1 k2 k3 hru'
        rw [Nat.add_zero] at q0 k0
        have HTK := Lib.hid (show (l.take (q + 1)).map RL.val = (l.take q).map RL.val ++ [r.val] by rw [List.take_add_one, List.getElem?_eq_getElem hlq, List.map_append, ← hr, getElem!_pos l q hlq]; rfl)
        have HTK' := Lib.hid (show (l'.take (q + 1)).map RL.val = (l'.take q).map RL.val ++ [s.val] by rw [List.take_add_one, List.getElem?_eq_getElem hlq', List.map_append, ← hs, getElem!_pos l' q hlq']; rfl)
        have HGT := Lib.hid (show (l.map RL.val)[q]? = some r.val ∧ (l'.map RL.val)[q]? = some s.val by
          rw [List.getElem?_map, List.getElem?_map, List.getElem?_eq_getElem hlq, List.getElem?_eq_getElem hlq', ← hr, ← hs, getElem!_pos l q hlq, getElem!_pos l' q hlq']
          exact ⟨rfl, rfl⟩)
        have HCL := Lib.hid fun X (hX : Below wr.heap.size wr X) => sameRule_any r s X h1000 (hru.2.2.2.2.2.conA.below hX (Nat.le_refl _)) (hru'.2.2.2.2.2.conA.below hX (Nat.le_refl _))
        have HSV := Lib.hid (sameV_iff r.val s.val)
        obtain ⟨sv, hsv⟩ : ∃ sv, sameV r.val s.val = sv := ⟨_, rfl⟩
        rw [hsv] at HCL HSV
        have i1 : (0 : Int) ≤ (q : Int) := by omega
        have i2 : (q : Int) < (n : Int) := by omega
        have h2 : ∀ (X Y : Obj), Below wr.heap.size wr ((wr.alloc X).alloc Y) := fun X Y => ((Below.refl _ _).alloc (Nat.le_refl _) _).alloc (by simp) _
        have HH2 := Lib.hid h2
        obtain ⟨W2, hW2⟩ : ∃ W, (wr.alloc (.cells (rulA r.nm r.k r.u r.A r.n r.c) 40)).alloc (.cells (rulA s.nm s.k s.u s.A s.n s.c) 40) = W := ⟨_, rfl⟩
        have hB2 : Below wr.heap.size wr W2 := by rw [← hW2]; exact h2 _ _
        have HB2 := Lib.hid hB2
        have hb1 : RowC W2 wr.heap.size (rulA r.nm r.k r.u r.A r.n r.c) 40 := by rw [← hW2]; exact (RowC.new _ _ _ _ rfl).alloc _
        have hb2 : RowC W2 (wr.heap.size + 1) (rulA s.nm s.k s.u s.A s.n s.c) 40 := by rw [← hW2]; exact RowC.new _ _ _ _ (by simp)
        have e0 := hb1.cell 0 (.string r.nm) rfl
        have e1 := hb1.cell 1 (.int .i64 r.k) rfl
        have e2 := hb1.cell 2 (.int .i64 r.u) rfl
        have e3 := hb1.cell 3 (.slice r.A r.n r.c) rfl
        have f0 := hb2.cell 0 (.string s.nm) rfl
        have f1 := hb2.cell 1 (.int .i64 s.k) rfl
        have f2 := hb2.cell 2 (.int .i64 s.u) rfl
        have f3 := hb2.cell 3 (.slice s.A s.n s.c) rfl
        have HW2 := Lib.hid hW2
        clear hW2 hb1 hb2
        clear hcs hcs' hr hs hlq hlq' hmem hmem' hru hru' hLr hLr' h1000 hsv h2 hB2
        go_upto_region 7 with fail
        rw [HW2.out]
        go_wp2_with fail
        refine (HCL.out _ HB2.out).mono ?_
        rintro x w3 ⟨rfl, hB3⟩
        have HB3 := Lib.hid (HI.out.1.trans ((HB2.out.trans (hB3.mono HB2.out.size)).mono HI.out.1.size))
        clear hB3
        cases sv with
        | true =>
          go_wp2
          exact ⟨⟨q + 1, by omega, by go_num, Lib.hid ⟨HB3.out, by rw [HTK.out, HTK'.out, HI.out.2, HSV.out.1 (by first | rfl | trivial)]⟩⟩, by simp [intOf]; omega⟩
        | false =>
          go_wp2
          go_ret
          refine ⟨⟨false, rfl, fun h => by (cases h), fun h => ?_⟩, HB3.out⟩
          have := HGT.out.1
          rw [h, HGT.out.2] at this
          exact by simpa using HSV.out.2 (Option.some.inj this).symm
      · obtain rfl : q = n := by omega
        have htk : l.take q = l := List.take_of_length_le (by rw [HNL.out]; exact Nat.le_refl _)
        have htk' : l'.take q = l' := List.take_of_length_le (by rw [HML.out]; exact Nat.le_refl _)
        have HTK := Lib.hid (And.intro htk htk')
        clear htk htk'
        go_wp2
        go_ret
        exact ⟨⟨true, rfl, fun _ => by have := HI.out.2; rw [HTK.out.1, HTK.out.2] at this; exact this, fun _ => rfl⟩, HI.out.1⟩
  · have hne : ¬ (n : Int) = (m : Int) := by omega
    have HD := Lib.hid (show ¬ l.map RL.val = l'.map RL.val from fun e => hnm (by have := congrArg List.length e; rw [List.length_map, List.length_map, HNL.out, HML.out] at this; exact this))
    go_enter Tryz.func26, Tryz.ntmps26
    go_wp2
    go_ret
    exact ⟨⟨false, rfl, fun h => by (cases h), fun h => absurd h HD.out⟩, Below.refl _ _⟩
set_option maxRecDepth 100000 in
set_option maxHeartbeats 8000000 in
theorem same_any (k u k' u' : Int) (x x' : Bool) (A A' : Option Addr) (l l' : List RL) (c c' : Nat) (w : World) (hl : RlL w A l) (hl' : RlL w A' l') (hn : l.length ≤ 1000000) (h12 : ∀ e ∈ l, e.n ≤ 100000) :
    Calls Tryz.prog 11 #[.agg (polA k u x A l.length c), .agg (polA k' u' x' A' l'.length c')] w fun e w' => (∃ b, e = .returned (.bool b) ∧ (b = true ↔ k = k' ∧ u = u' ∧ x = x' ∧ l.map RL.val = l'.map RL.val)) ∧ Below w.heap.size w w' := by
  obtain ⟨W0, hW0⟩ : ∃ W, (w.alloc (.cells (polA k u x A l.length c) 31)).alloc (.cells (polA k' u' x' A' l'.length c') 31) = W := ⟨_, rfl⟩
  have hB0 : Below w.heap.size w W0 := by rw [← hW0]; exact ((Below.refl _ _).alloc (Nat.le_refl _) _).alloc (by simp) _
  have hP0 : RowC W0 w.heap.size (polA k u x A l.length c) 31 := by rw [← hW0]; exact (RowC.new _ _ _ _ rfl).alloc _
  have hQ0 : RowC W0 (w.heap.size + 1) (polA k' u' x' A' l'.length c') 31 := by rw [← hW0]; exact RowC.new _ _ _ _ (by simp)
  have HEQ := Lib.hid (equalRules_any A A' l l' c c' W0 (hl.below hB0 (Nat.le_refl _)) (hl'.below hB0 (Nat.le_refl _)) hn h12)
  have p0 := hP0.cell 0 (.int .i64 k) rfl
  have p1 := hP0.cell 1 (.int .i64 u) rfl
  have p2 := hP0.cell 2 (.bool x) rfl
  have p3 := hP0.cell 3 (.slice A l.length c) rfl
  have r0 := hQ0.cell 0 (.int .i64 k') rfl
  have r1 := hQ0.cell 1 (.int .i64 u') rfl
  have r2 := hQ0.cell 2 (.bool x') rfl
  have r3 := hQ0.cell 3 (.slice A' l'.length c') rfl
  have HB0 := Lib.hid hB0
  have HW := Lib.hid hW0
  clear hl hl' hW0 hB0 hP0 hQ0 hn h12
  rcases act_cases k u k' u' with ⟨h1, h2⟩ | h | ⟨h1, h⟩
  · subst h1 h2
    rcases hx : (x == x') with _ | _
    · have HX := Lib.hid hx
      go_enter Tryz.func11, Tryz.ntmps11
      go_upto_region 1 with fail
      rw [HW.out]
      go_wp2
      go_ret
      exact ⟨⟨false, rfl, fun h => by (cases h), fun h => by have := HX.out; rw [h.2.2.1] at this; simp at this⟩, HB0.out⟩
    · have HX := Lib.hid hx
      go_enter Tryz.func11, Tryz.ntmps11
      go_upto_region 1 with fail
      rw [HW.out]
      go_wp2_with fail
      refine HEQ.out.mono ?_
      rintro e w2 ⟨⟨b, rfl, hb⟩, hB2⟩
      go_wp2
      go_ret
      exact ⟨⟨b, rfl, fun h => ⟨by first | rfl | trivial, by first | rfl | trivial, by simpa using HX.out, hb.1 h⟩, fun h => hb.2 h.2.2.2⟩, HB0.out.trans (hB2.mono HB0.out.size)⟩
  · have HX := Lib.hid h
    go_enter Tryz.func11, Tryz.ntmps11
    go_upto_region 1 with fail
    rw [HW.out]
    go_wp2
    go_ret
    exact ⟨⟨false, rfl, fun h => by (cases h), fun h => by have := HX.out; rw [h.1] at this; simp at this⟩, HB0.out⟩
  · subst h1
    have HX := Lib.hid h
    go_enter Tryz.func11, Tryz.ntmps11
    go_upto_region 1 with fail
    rw [HW.out]
    go_wp2
    go_ret
    exact ⟨⟨false, rfl, fun h => by (cases h), fun h => by have := HX.out; rw [h.2.1] at this; simp at this⟩, HB0.out⟩
end Go.Proofs.YtfaaclppkhkmpaaGreatDoor
