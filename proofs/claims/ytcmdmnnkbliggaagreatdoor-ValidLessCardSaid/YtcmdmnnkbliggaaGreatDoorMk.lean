/-
  Layer 16: norm.Rule at any right rule.
-/
import Derived.Test.YtcmdmnnkbliggaaGreatDoorZck
import Derived.Deep.LoopGhost
import Derived.Test.YtcmdmnnkbliggaaGreatDoorRdk
import Derived.Deep.RegionHeld3
namespace Go.Proofs.YtcmdmnnkbliggaaGreatDoor
open Go.RowKit Go.Shelf Go.Lib Go.Sort
set_option linter.unusedVariables false

def RL.cs (r : RL) : List CD := (List.range r.n).map r.C
theorem RL.val_L (r : RL) : r.val.L = r.cs := rfl
theorem normD (c : CD) (hr : RiC c) (hm : c.m ≤ 18446744073709551615) (hv : c.v ≤ 18446744073709551615) (w : World) :
    Calls Tryz.prog 156 #[.agg (condA c.a c.o c.m c.v)] w fun e w' => e = .returned (.tuple #[.agg (condA (nC c).1.a (nC c).1.o (nC c).1.m (nC c).1.v), .int .i64 (nC c).2]) ∧ Below w.heap.size w w' := by
  obtain ⟨j, hj⟩ := hr.right
  have := normC_ok c.a c.o c.m c.v j hj hm hv w
  rw [nF_nC c j hj] at this
  exact this
theorem nC_bound (c : CD) (hm : c.m ≤ 18446744073709551615) (hv : c.v ≤ 18446744073709551615) : (nC c).1.m ≤ 18446744073709551615 ∧ (nC c).1.v ≤ 18446744073709551615 := by
  unfold nC bel atl
  repeat' split
  all_goals simp_all
  all_goals omega
theorem askL_snoc (l : List CD) (c : CD) (M : List CD) (h : askL l = some M) : askL (l ++ [c]) = if (nC c).2 = 2 then none else some (if (nC c).2 = 0 then M ++ [(nC c).1] else M) := by
  rw [askL_append, h]
  show (askL [c]).map _ = _
  rw [askL_cons]
  by_cases h2 : (nC c).2 = 2
  · rw [if_pos h2, if_pos h2]; rfl
  · rw [if_neg h2, if_neg h2]
    by_cases h0 : (nC c).2 = 0
    · simp [askL, h0]
    · simp [askL, h0]
theorem askL_none (l m : List CD) (h : askL l = none) : askL (l ++ m) = none := by rw [askL_append, h]; rfl
theorem askL_len : ∀ (l M : List CD), askL l = some M → M.length ≤ l.length
  | [], M, h => by cases h; simp
  | c :: t, M, h => by
    rw [askL_cons] at h
    by_cases h2 : (nC c).2 = 2
    · rw [if_pos h2] at h; cases h
    · rw [if_neg h2] at h
      rcases ht : askL t with _ | x
      · rw [ht] at h; cases h
      · rw [ht] at h
        have := askL_len t x ht
        by_cases h0 : (nC c).2 = 0
        · simp [h0] at h; subst h; simp; omega
        · simp [h0] at h; subst h; simp; omega
/-- What is asked of a rule of the program. -/
def RiR (r : RL) : Prop := r.n ≤ 6 ∧ ∀ i, i < r.n → RiC (r.C i)
theorem range_take (C : Nat → CD) (q n : Nat) (h : q < n) : (List.range n).map C = ((List.range q).map C ++ [C q]) ++ ((List.range (n - q - 1)).map fun i => C (q + 1 + i)) := by
  have e : n = q + 1 + (n - q - 1) := by omega
  rw [e, List.range_add, List.map_append, List.range_succ, List.map_append, List.map_map]
  congr 1
  have : q + 1 + (n - q - 1) - q - 1 = n - q - 1 := by omega
  rw [this]
  rfl
theorem conds_heads {w : World} {g : Nat} {M : List CD} (ht : TyAt w g 61) (h : Heads w g 0 ((srt M).map cvOf)) (hb : ∀ c ∈ M, c.m ≤ 18446744073709551615 ∧ c.v ≤ 18446744073709551615) : ConT w (some ⟨g, 0, none⟩) (srt M).length (fun i => (srt M)[i]!) := by
  refine ConT.of_cells ht (fun i hi => ?_) fun i hi => ?_
  · have := h i (by simpa using hi)
    have e : ((srt M).map cvOf)[i]! = cvOf (srt M)[i]! := by
      rw [getElem!_pos ((srt M).map cvOf) i (by simpa using hi), getElem!_pos (srt M) i hi]
      simp
    rw [e] at this
    exact this
  · refine hb _ ((mem_srt _ M).1 ?_)
    rw [getElem!_pos (srt M) i hi]
    exact List.getElem_mem hi
theorem range_get {α : Type} [Inhabited α] (l : List α) : (List.range l.length).map (fun i => l[i]!) = l := by
  apply List.ext_getElem
  · simp
  · intro i h1 h2
    simp [List.getElem?_eq_getElem h2]
set_option maxRecDepth 100000 in
set_option maxHeartbeats 8000000 in
theorem ruleN_any (r : RL) (w : World) (hr : RiR r) (hC : ConA w r.A r.n r.C) (hcap : r.n ≤ r.c) :
    Calls Tryz.prog 118 #[.agg (rulA r.nm r.k r.u r.A r.n r.c)] w fun e w' => Below w.heap.size w w' ∧
      ((askL r.cs = none ∧ e = .returned (.tuple #[.agg zRu, .bool false])) ∨
       ∃ M A' c', askL r.cs = some M ∧ e = .returned (.tuple #[.agg (rulA r.nm r.k r.u A' (srt M).length c'), .bool true]) ∧ (srt M).length ≤ c' ∧ c' ≤ maxLen ∧ ConT w' A' (srt M).length fun i => (srt M)[i]!) := by
  obtain ⟨nm, k, u, A, n, c, C⟩ := r
  simp only [RL.cs] at *
  obtain ⟨hn6, hri⟩ := hr
  simp only at hn6 hri hcap
  have HRI := Lib.hid hri
  have HC := Lib.hid hC
  obtain ⟨B, hBs⟩ : ∃ B, w.heap.size = B := ⟨_, rfl⟩
  obtain ⟨W0, hW0⟩ : ∃ W, (w.alloc (.cells (rulA nm k u A n c) 57)).alloc (.cells zRu 57) = W := ⟨_, rfl⟩
  have HB0 := Lib.hid (show Below B w W0 by rw [← hW0, ← hBs]; exact ((Below.refl _ _).alloc (Nat.le_refl _) _).alloc (by simp) _)
  have HP0 := Lib.hid (show RowC W0 B (rulA nm k u A n c) 57 by rw [← hW0, ← hBs]; exact (RowC.new _ _ _ _ rfl).alloc _)
  have HR0 := Lib.hid (show RowC W0 (B + 1) zRu 57 by rw [← hW0, ← hBs]; exact RowC.new _ _ _ _ (by simp))
  have HW := Lib.hid hW0
  have HBS := Lib.hid hBs
  have HS := Lib.hid (show W0.heap.size = B + 2 by rw [← hW0, ← hBs]; simp)
  clear hW0 hri hC hBs
  have k3 := HP0.out.cell 3 (.slice A n c) rfl
  go_enter Tryz.func118, Tryz.ntmps118
  go_upto_region 1 with fail
  rw [HW.out, HBS.out]
  clear HW
  go_wp2
  go_loopw [4, 12] (fun l i wr => ∃ (q : Nat) (A' : Option Addr) (c' : Nat) (M : List CD), q ≤ n ∧ l = .slice A' M.length c' ∧ i = .int .i64 q ∧ Hid (askL ((List.range q).map C) = some M ∧ RowK wr (B + 2) A' M c' ∧ Below (B + 2) W0 wr ∧ (∀ c ∈ M, c.m ≤ 18446744073709551615 ∧ c.v ≤ 18446744073709551615)))
    (fun _ i _ => n - (intOf i).toNat)
  case atStart => exact ⟨0, none, 0, [], Nat.zero_le _, rfl, rfl, Lib.hid ⟨rfl, RowK.nil_ _ _, Below.refl _ _, fun _ h => by cases h⟩⟩
  case round =>
    obtain ⟨q, A', c', M, hq, rfl, rfl, HI⟩ := hrel
    have hws : B + 2 ≤ wr.heap.size := by rw [← HS.out]; exact HI.out.2.2.1.size
    by_cases hlt : q < n
    · have hcb := HC.out.below (HB0.out.trans (HI.out.2.2.1.mono (by omega))) (by rw [HBS.out]; exact Nat.le_refl _)
      rcases hcb with h0 | ⟨bb, o, rfl, hbl, hcs⟩
      · omega
      obtain ⟨q0, q1, q2, q3, hbm, hbv⟩ := hcs q hlt
      obtain ⟨x, hx⟩ : ∃ x, C q = x := ⟨_, rfl⟩
      have HNX := Lib.hid fun X => normD (C q) (HRI.out q hlt) hbm hbv X
      have hst := nC_st (C q)
      have HSN := Lib.hid (askL_snoc ((List.range q).map C) (C q) M HI.out.1)
      have HBD := Lib.hid (nC_bound (C q) hbm hbv)
      have HRT := Lib.hid (range_take C q n hlt)
      have HX := Lib.hid hx
      rw [hx] at q0 q1 q2 q3 hst HSN HBD HNX
      rw [Nat.add_zero] at q0
      obtain ⟨d, hd⟩ : ∃ d, (nC x).1 = d := ⟨_, rfl⟩
      obtain ⟨st, hs⟩ : ∃ st, (nC x).2 = st := ⟨_, rfl⟩
      rw [hd, hs] at HNX HSN
      rw [hd] at HBD
      rw [hs] at hst
      have i1 : (0 : Int) ≤ (q : Int) := by omega
      have i2 : (q : Int) < (n : Int) := by omega
      clear hcs hbm hbv hx hd hs
      go_wp2_with fail
      refine (HNX.out _).mono ?_
      rintro e w2 ⟨rfl, hB2⟩
      have HB2 := Lib.hid (((Below.refl wr.heap.size wr).alloc (Nat.le_refl _) _).trans (hB2.mono (by simp)))
      have hs2 := HB2.out.size
      clear hB2
      rcases hst with rfl | rfl | rfl
      · go_wp2_with (refine app_cond rfl _ _ rfl (by rfl) (((HI.out.2.1.below HB2.out (Nat.le_refl _)).alloc _).alloc _) (by rfl) (RowC.new _ (crow d).toArray _ _ (by simp)) (by have := askL_len _ _ HI.out.1; simp at this; omega) (by simp; omega) ?_; intro A2 c2 w3 hown3 hB3)
        have hB4 : Below (B + 2) wr w3 := ((((HB2.out.mono hws).alloc (by omega) _).alloc (by simp; omega) _)).trans hB3
        exact ⟨⟨q + 1, A2, c2, M ++ [d], by omega, by simp, by go_num, Lib.hid ⟨by rw [List.range_succ, List.map_append]; simpa [HX.out] using HSN.out, hown3, HI.out.2.2.1.trans hB4, fun c hc => by
          rcases List.mem_append.1 hc with h | h
          · exact HI.out.2.2.2 c h
          · rw [List.mem_singleton] at h; subst h; exact HBD.out⟩⟩, by simp [intOf]; omega⟩
      · go_wp2
        exact ⟨⟨q + 1, A', c', M, by omega, rfl, by go_num, Lib.hid ⟨by rw [List.range_succ, List.map_append]; simpa [HX.out] using HSN.out, (HI.out.2.1.below HB2.out (Nat.le_refl _)).alloc _, HI.out.2.2.1.trans ((HB2.out.mono hws).alloc (by omega) _), HI.out.2.2.2⟩⟩, by simp [intOf]; omega⟩
      · have hR2 := HR0.out.below (HI.out.2.2.1.trans (HB2.out.mono hws)) (by omega)
        have HR2 := Lib.hid hR2
        have hnn : askL ((List.range n).map C) = none := by rw [HRT.out]; exact askL_none _ _ (by simpa [HX.out] using HSN.out)
        have z0 := fun ob => (hR2.alloc ob).cell 0 (.string ⟨#[]⟩) rfl
        have z1 := fun ob => (hR2.alloc ob).cell 1 (.int .i64 0) rfl
        have z2 := fun ob => (hR2.alloc ob).cell 2 (.int .i64 0) rfl
        have z3 := fun ob => (hR2.alloc ob).cell 3 (.slice none 0 0) rfl
        have y0 := fun ob => (hR2.alloc ob).frozen 0
        have y1 := fun ob => (hR2.alloc ob).frozen 1
        have y2 := fun ob => (hR2.alloc ob).frozen 2
        have y3 := fun ob => (hR2.alloc ob).frozen 3
        have HNN := Lib.hid hnn
        clear hR2 hnn
        go_wp2
        (try simp only [Exit.inBlock, Exit.then])
        refine bodyPost_ret (results_ctO Tryz.results118 _ _ (B + 1) _ zRu (0, 0) _ (.bool false) (by rfl) (by rfl) (show RowC _ (B + 1) zRu 57 from ((((HR2.out.alloc _).set 0 (.string ⟨#[]⟩)).set 1 (.int .i64 0)).set 2 (.int .i64 0)).set 3 (.slice none 0 0)) Tryz.underlying57 (by rfl) infoRu) rfl ?_
        exact ⟨by rw [HBS.out]; exact (((((HB0.out.trans ((HI.out.2.2.1.trans (HB2.out.mono hws)).mono (by omega))).alloc (by have := HB2.out.size; omega) _).setCell (Nat.le_succ _) _).setCell (Nat.le_succ _) _).setCell (Nat.le_succ _) _).setCell (Nat.le_succ _) _, .inl ⟨HNN.out, rfl⟩⟩
    · obtain rfl : q = n := by omega
      have hP := HP0.out.below HI.out.2.2.1 (by omega)
      have hR := HR0.out.below HI.out.2.2.1 (by omega)
      have HP := Lib.hid hP
      have HR := Lib.hid hR
      have hl6 : M.length ≤ 6 := by have := askL_len _ _ HI.out.1; simp at this; omega
      by_cases hM : M = []
      · obtain ⟨rfl, rfl⟩ := HI.out.2.1.2 hM
        have HM := Lib.hid hM
        have HMl := Lib.hid (show M.length = 0 by rw [hM]; rfl)
        rw [HMl.out]
        have p0 := hP.cell 0 (.string nm) rfl
        have p1 := hP.cell 1 (.int .i64 k) rfl
        have p2 := hP.cell 2 (.int .i64 u) rfl
        have p3 := hP.cell 3 (.slice A q c) rfl
        have f3 := hP.frozen 3
        have z0 := hR.cell 0 (.string ⟨#[]⟩) rfl
        have z1 := hR.cell 1 (.int .i64 0) rfl
        have z2 := hR.cell 2 (.int .i64 0) rfl
        have z3 := hR.cell 3 (.slice none 0 0) rfl
        have y0 := hR.frozen 0
        have y1 := hR.frozen 1
        have y2 := hR.frozen 2
        have y3 := hR.frozen 3
        clear hP hR hM hl6
        go_wp2_with fail
        refine (sort_nil _ _).mono ?_
        rintro e w2 ⟨rfl, rfl⟩
        go_wp2_with fail
        refine (compact_nil _).mono ?_
        rintro e w3 ⟨rfl, rfl⟩
        go_wp2
        exact bodyPost_ret (results_ctO Tryz.results118 _ _ (B + 1) _ (rulA nm k u none 0 0) (0, 0) _ (.bool true) (by rfl) (by rfl) (show RowC _ (B + 1) (rulA nm k u none 0 0) 57 from ((((HR.out.setOther 3 (.slice none 0 0) (by omega)).set 0 (.string nm)).set 1 (.int .i64 k)).set 2 (.int .i64 u)).set 3 (.slice none 0 0)) Tryz.underlying57 (by rfl) infoRu) rfl
          ⟨by rw [HBS.out]; exact (((((HB0.out.trans (HI.out.2.2.1.mono (by omega))).setCell (Nat.le_refl _) _).setCell (Nat.le_succ _) _).setCell (Nat.le_succ _) _).setCell (Nat.le_succ _) _).setCell (Nat.le_succ _) _, .inr ⟨M, none, 0, HI.out.1, by rw [HM.out]; rfl, by rw [HM.out]; exact Nat.le_refl _, by simp [maxLen], .inl (by rw [HM.out]; rfl)⟩⟩
      · obtain ⟨g, rfl, hg1, hg2, hgt, hlc, hcm, hH⟩ := HI.out.2.1.holds hM
        clear hP hR
        have hsz : (M.map cvOf).toArray.size = M.length := by simp
        have HSRT := Lib.hid (sortC_any g 0 c' (M.map cvOf).toArray wr hH hg2 (by rw [hsz]; omega))
        rw [hsz] at HSRT
        have HX := Lib.hid (And.intro hgt (And.intro hg1 (And.intro hg2 hH)))
        clear hH hgt hM
        go_wp2_with fail
        refine HSRT.out.mono ?_
        rintro e w2 ⟨rfl, d', n', os, hperm, hsort, hw2⟩
        have hds : d'.size = M.length := hperm.1.trans hsz
        have HY := Lib.hid (show PermIn 0 d'.size (M.map cvOf).toArray d' ∧ SortedIn (ltOf cfC) 0 d'.size d' from by rw [hds]; exact ⟨hperm, hsort⟩)
        have hH2 : HoldsK encC 4 w2 g 0 d' := by rw [hw2]; exact holdsK_sortWorldK_c encC 4 wr g 0 _ d' n' os HX.out.2.2.2 HX.out.2.2.1 (by rw [hds, hsz])
        have hB2 : Below g wr w2 := by rw [hw2]; exact below_sorted wr g 0 n' d' os HX.out.2.2.1
        have hT2 : TyAt w2 g 61 := by rw [hw2]; exact HX.out.1.sorted 0 n' d' os
        have HCMP := Lib.hid (compactC_any g 0 c' d' w2 hH2 hT2.lt (by omega) (by omega) hcm _ hT2)
        have hcs := compact_srt M d' HY.out.1 HY.out.2
        have hbe : B ≤ B + 1 := by omega
        rw [hcs, hds] at HCMP
        rw [List.length_map] at HCMP
        have HB2 := Lib.hid (hB2.mono hg1)
        have HDS := Lib.hid hds
        clear hperm hsort hw2 hH2 hB2 hT2 hcs hds hg2
        have hP2 := HP.out.below HB2.out (by omega)
        have hR2 := HR.out.below HB2.out (by omega)
        go_wp2_with fail
        refine HCMP.out.mono ?_
        rintro e w3 ⟨rfl, hB3, hT3, hHd⟩
        have HB3 := Lib.hid (HB2.out.trans (hB3.mono hg1))
        have hP3 := HP.out.below HB3.out (by omega)
        have hR3 := HR.out.below HB3.out (by omega)
        have HR3 := Lib.hid hR3
        have HP3 := Lib.hid hP3
        have HE := Lib.hid (And.intro hT3 hHd)
        clear hB3 hT3 hHd hP2 hR2
        have p0 := hP3.cell 0 (.string nm) rfl
        have p1 := hP3.cell 1 (.int .i64 k) rfl
        have p2 := hP3.cell 2 (.int .i64 u) rfl
        have p3 := hP3.cell 3 (.slice A q c) rfl
        have f3 := hP3.frozen 3
        have z0 := hR3.cell 0 (.string ⟨#[]⟩) rfl
        have z1 := hR3.cell 1 (.int .i64 0) rfl
        have z2 := hR3.cell 2 (.int .i64 0) rfl
        have z3 := hR3.cell 3 (.slice none 0 0) rfl
        have y0 := hR3.frozen 0
        have y1 := hR3.frozen 1
        have y2 := hR3.frozen 2
        have y3 := hR3.frozen 3
        clear hP3 hR3
        go_wp2
        have hT : ConT w3 (some ⟨g, 0, none⟩) (srt M).length (fun i => (srt M)[i]!) := conds_heads HE.out.1 HE.out.2 HI.out.2.2.2
        have hK : KeepC w3 (((((w3.setCell ⟨B, 3, none⟩ (.slice (some ⟨g, 0, none⟩) (srt M).length c')).setCell ⟨B + 1, 0, none⟩ (.string nm)).setCell ⟨B + 1, 1, none⟩ (.int .i64 k)).setCell ⟨B + 1, 2, none⟩ (.int .i64 u)).setCell ⟨B + 1, 3, none⟩ (.slice (some ⟨g, 0, none⟩) (srt M).length c')) :=
          have q0 := HR3.out.setOther 3 (.slice (some ⟨g, 0, none⟩) (srt M).length c') (show B + 1 ≠ B by omega)
          have q1 := q0.set 0 (.string nm)
          have q2 := q1.set 1 (.int .i64 k)
          have q3 := q2.set 2 (.int .i64 u)
          (((((KeepC.refl w3).set HP3.out.ty (by decide) _ _).set q0.ty (by decide) _ _).set q1.ty (by decide) _ _).set q2.ty (by decide) _ _).set q3.ty (by decide) _ _
        exact bodyPost_ret (results_ctO Tryz.results118 _ _ (B + 1) _ (rulA nm k u (some ⟨g, 0, none⟩) (srt M).length c') (0, 0) _ (.bool true) (by rfl) (by rfl) (show RowC _ (B + 1) (rulA nm k u (some ⟨g, 0, none⟩) (srt M).length c') 57 from ((((HR3.out.setOther 3 (.slice (some ⟨g, 0, none⟩) (srt M).length c') (by omega)).set 0 (.string nm)).set 1 (.int .i64 k)).set 2 (.int .i64 u)).set 3 (.slice (some ⟨g, 0, none⟩) (srt M).length c')) Tryz.underlying57 (by rfl) infoRu) rfl
          ⟨by rw [HBS.out]; exact (((((HB0.out.trans ((HI.out.2.2.1.trans HB3.out).mono (by omega))).setCell (Nat.le_refl _) _).setCell hbe _).setCell hbe _).setCell hbe _).setCell hbe _, .inr ⟨M, some ⟨g, 0, none⟩, c', HI.out.1, rfl, by have := srt_len M; omega, hcm, hT.keep hK⟩⟩
end Go.Proofs.YtcmdmnnkbliggaaGreatDoor

/-
  Layer 16: the laws' own of: a document's policy as the program's.
-/
namespace Go.Proofs.YtcmdmnnkbliggaaGreatDoor
open Go.RowKit Go.Shelf
set_option linter.unusedVariables false

theorem RowL.alloc {w : World} {base : Nat} {A : Option Addr} {l : List RL} {c : Nat} (h : RowL w base A l c) (o : Obj) : RowL (w.alloc o) base A l c := h.below ((Below.refl w.heap.size w).alloc (Nat.le_refl _) o) (Nat.le_refl _)
theorem RowL.drew {w : World} {base : Nat} {A : Option Addr} {l : List RL} {c : Nat} (h : RowL w base A l c) : RowL w.drew base A l c := h.below (B := w.heap.size) (Below.refl _ w).drew (Nat.le_refl _)
/-- A rule appended, as a step of a region that draws its order. -/
theorem step_rule {w : World} {ops : Array Oper} {o : Oper} {a : Act} {K : Act → World → Prop} {Q : Exit → Act → World → Prop} {R : Prop} (hgd : o.guard = none) (s x : Operand)
    (ho : o.op = .call { callee := .builtin .append, args := #[s, x], argTypes := #[24, 24] })
    {base c d g1 : Nat} {A : Option Addr} {l : List RL} (hs : a.eval s = .slice A l.length c) (hown : RowL w base A l c) {r : RL} (hx : a.eval x = .slice (some ⟨g1, 0, none⟩) 1 d) (hg1 : RowC w g1 (rrow r).toArray 57) (hr : RuT w r)
    (hn : l.length ≤ 100000) (hbase : base ≤ w.heap.size)
    (h : ∀ g c' w', RowL w' base (some ⟨g, 0, none⟩) (l ++ [r]) c' → w.grownBy w' (Value.slice A l.length c).ownBlock → ((Value.slice A l.length c).ownBlock = some g ∨ g = w.heap.size) → KeepC w w' → Below base w w' → K (a.put o.dst (.slice (some ⟨g, 0, none⟩) (l.length + 1) c')) w') :
    if Region.wanted o (yielded ops a.tmps) = true then Oper.wp Tryz.prog o a w K Q else R := by
  obtain ⟨i, hi, hz, hsz, hby⟩ := info_parts infoRu2
  refine step_append_lies w hgd s x 24 ho base 57 i _ 4 56 Tryz.underlying24 hi hz hsz hby (by rfl) (by decide) _ l.length _ hs hown.1 ⟨g1, 0, none⟩ 1 d (rrow r) hx (by rfl) (World.news_of_block hg1) (rrow_one r) (by decide) (by unfold maxLen; omega) (by omega) hbase _ rfl ?_
  intro g cap w' h1 h2 h3 h4
  have hk : KeepC w w' := KeepC.grown h2 fun b hb => ⟨_, hown.ty b hb, by decide⟩
  have hB : Below base w w' := (Below.refl _ _).grown h2 hbase (fun k hk => (hown.1.lt k hk).1)
  refine h g cap w' ⟨?_, fun q hq => ?_⟩ h2 h3 hk hB
  · rw [flat_snoc] at h1
    simpa using h1
  · rcases List.mem_append.1 hq with hq | hq
    · exact (hown.2 q hq).keep hk
    · rw [List.mem_singleton] at hq
      subst hq
      exact hr.keep hk
abbrev zPol : Array Value := polA 0 0 false none 0 0
theorem infoPol : (Tryz.prog.info? 26).map (·.size) = some 4 := by kernel_rfl
end Go.Proofs.YtcmdmnnkbliggaaGreatDoor
