/-
  Layer 15: the three demands, and their array.
-/
import Derived.Test.YtccklmleaffgiaaGreatDoorCfp
import Derived.Test.YtccklmleaffgiaaGreatDoorP9
namespace Go.Proofs.YtccklmleaffgiaaGreatDoor
open Go.RowKit Go.Shelf Go.Lib Go.Sort
set_option linter.unusedVariables false

set_option maxRecDepth 100000 in
set_option maxHeartbeats 4000000 in
/-- The first demand: the table has the name. -/
theorem demN_any (nm : ByteArray) (k u : Int) (A : Option Addr) (n c : Nat) (LB : Nat) (TA : Option Addr) (tn tcap : Nat) (T : Nat → SR) (w : World) (hc : w.cell? ⟨LB, 0, none⟩ = some (.slice TA tn tcap)) (htn : tn ≤ 1000000) (ht : TbA w TA tn T) :
    Calls Tryz.prog 44 #[.agg #[.string nm, .int .i64 k, .int .i64 u, .slice A n c], .pointer (some ⟨LB, 0, none⟩)] w fun e w' => e = .returned (.bool ((List.range tn).any (isN T nm))) ∧ Below w.heap.size w w' := by
  have l := World.block_lt_of_cell? _ _ hc
  obtain ⟨W0, hW0⟩ : ∃ W, w.alloc (.cells #[.string nm, .int .i64 k, .int .i64 u, .slice A n c] 50) = W := ⟨_, rfl⟩
  have hb0 : Below w.heap.size w W0 := by rw [← hW0]; exact (Below.refl _ _).alloc (Nat.le_refl _) _
  have hr0 : RowC W0 w.heap.size #[.string nm, .int .i64 k, .int .i64 u, .slice A n c] 50 := by rw [← hW0]; exact RowC.new _ _ _ _ rfl
  have c0 := (hb0.cell (p := ⟨LB, 0, none⟩) l).trans hc
  have HF := Lib.hid (Find_any TA tn tcap T nm W0 htn (ht.below hb0 (Nat.le_refl _)))
  have HB0 := Lib.hid hb0
  have HW0 := Lib.hid hW0
  have p0 := hr0.cell 0 (.string nm) rfl
  clear hb0 hr0 l hc ht
  go_enter Tryz.func44, Tryz.ntmps44
  go_upto_region 1 with fail
  (try rw [HW0.out])
  clear hW0
  go_wp2_with fail
  refine HF.out.mono ?_
  rintro e w1 ⟨h, hB1⟩
  have HB1 := Lib.hid (bTr HB0.out hB1)
  have hz : RowC (w1.alloc (.cells sr0 73)) w1.heap.size sr0 73 := RowC.new _ _ _ _ rfl
  have HZ := Lib.hid hz
  have HE : ∀ (r : Array Value), Below w.heap.size w ((w1.alloc (.cells sr0 73)).setRow w1.heap.size r) := fun r => below_setRow (HB1.out.alloc HB1.out.size _) HB1.out.size _
  have HEE := Lib.hid HE
  clear hB1 p0 c0 hz HE
  rcases h with ⟨j, hj, hp, hf, rfl⟩ | ⟨hno, rfl⟩
  · obtain ⟨r, hr⟩ : ∃ r, T j = r := ⟨_, rfl⟩
    have hq : (List.range tn).any (isN T nm) = true := List.any_eq_true.2 ⟨j, List.mem_range.2 hj, hp⟩
    have HQ := Lib.hid hq
    rw [hr]
    clear hj hp hf hr hq
    go_wp2_with (refine wpList_store_row (by rfl) 73 _ _ (by rfl) w1.heap.size #[.string r.nm, .int .i64 r.n0, .int .i64 r.n1, .int .i64 r.n2, .int .i64 r.n3, .int .i64 r.n4, .int .i64 r.mx, .int .i64 r.sb] (by rfl) (by rfl) _ _ HZ.out (show _ = some 8 from infoSR) (by rfl) (by simp [Value.oneCell']) ?_)
    go_ret
    exact ⟨by rw [HQ.out]; rfl, HEE.out _⟩
  · have hq : (List.range tn).any (isN T nm) = false := by
      rw [List.any_eq_false]
      intro j hj
      rw [hno j (List.mem_range.1 hj)]
      simp
    have HQ := Lib.hid hq
    clear hno hq
    go_wp2_with (refine wpList_store_row (by rfl) 73 _ _ (by rfl) w1.heap.size sr0 (by rfl) (by rfl) _ _ HZ.out (show _ = some sr0.size from infoSR) (by rfl) (by simp [Value.oneCell']) ?_)
    go_ret
    exact ⟨by rw [HQ.out]; rfl, HEE.out _⟩
set_option maxRecDepth 100000 in
set_option maxHeartbeats 4000000 in
/-- The third demand: meet. -/
theorem demM_any (nm : ByteArray) (k u : Int) (A : Option Addr) (n c : Nat) (C : Nat → CD) (MB b : Nat) (S : List Value) (w : World) (h6 : n ≤ 6) (hnc : n ≤ c) (hC : ConA w A n C) (hnm : nm.size ≤ maxLen) (hwf : ∀ i, i < n → WfC (cvOf (C i))) (hs : IsReq w b S) (hmb : w.cell? ⟨MB, 0, none⟩ = some (.map (some b))) (g : Nat → CV) (hg : padC (srt ((List.range n).map C)) = g) :
    Calls Tryz.prog 49 #[.agg #[.string nm, .int .i64 k, .int .i64 u, .slice A n c], .pointer (some ⟨MB, 0, none⟩)] w fun e w' => But1 b w w' ∧
      (((.agg (reqN nm) ∈ S ∨ .agg (reqA nm g) ∈ S) ∧ e = .returned (.bool false) ∧ IsReq w' b S) ∨ ((.agg (reqN nm) ∉ S ∧ .agg (reqA nm g) ∉ S) ∧ e = .returned (.bool true) ∧ IsReq w' b (S ++ [.agg (reqA nm g)]))) := by
  have l := World.block_lt_of_cell? _ _ hmb
  obtain ⟨W0, hW0⟩ : ∃ W, w.alloc (.cells #[.string nm, .int .i64 k, .int .i64 u, .slice A n c] 50) = W := ⟨_, rfl⟩
  have hb0 : Below w.heap.size w W0 := by rw [← hW0]; exact (Below.refl _ _).alloc (Nat.le_refl _) _
  have hr0 : RowC W0 w.heap.size #[.string nm, .int .i64 k, .int .i64 u, .slice A n c] 50 := by rw [← hW0]; exact RowC.new _ _ _ _ rfl
  have c0 := (hb0.cell (p := ⟨MB, 0, none⟩) l).trans hmb
  have HM := Lib.hid (meetQ_any nm k u A n c C b S W0 h6 hnc (hC.below hb0 (Nat.le_refl _)) hnm hwf (hs.below hb0 hs.lt) g hg)
  have HB0 := Lib.hid (But1.of (b := b) hb0 (Nat.le_refl _))
  have HW0 := Lib.hid hW0
  have p0 := hr0.cell 0 (.string nm) rfl
  have p1 := hr0.cell 1 (.int .i64 k) rfl
  have p2 := hr0.cell 2 (.int .i64 u) rfl
  have p3 := hr0.cell 3 (.slice A n c) rfl
  clear hb0 hr0 l hmb hC hs hg hwf hnm
  go_enter Tryz.func49, Tryz.ntmps49
  go_upto_region 1 with fail
  (try rw [HW0.out])
  clear hW0
  go_wp2_with fail
  refine HM.out.mono ?_
  rintro e w1 ⟨hb1, ⟨hin, rfl, hs1⟩ | ⟨hin, rfl, hs1⟩⟩
  · have HH := Lib.hid (And.intro (But1.trans HB0.out hb1) (And.intro hin hs1))
    clear hb1 hin hs1
    go_wp2
    go_ret
    exact ⟨HH.out.1, .inl ⟨HH.out.2.1, rfl, HH.out.2.2⟩⟩
  · have HH := Lib.hid (And.intro (But1.trans HB0.out hb1) (And.intro hin hs1))
    clear hb1 hin hs1
    go_wp2
    go_ret
    exact ⟨HH.out.1, .inr ⟨HH.out.2.1, rfl, HH.out.2.2⟩⟩
/-- What is asked, one behind the other. -/
def demA (LB MB : Nat) : Array Value := #[.func (.func 44) #[] #[.pointer (some ⟨LB, 0, none⟩)], .int .i64 14, .func (.func 46) #[] #[], .int .i64 16, .func (.func 49) #[] #[.pointer (some ⟨MB, 0, none⟩)], .int .i64 15]
set_option maxRecDepth 100000 in
set_option maxHeartbeats 4000000 in
theorem demands_any (TA : Option Addr) (tn tcap : Nat) (w : World) :
    Calls Tryz.prog 28 #[.slice TA tn tcap] w fun e w' => ∃ LB MB b, e = .returned (.agg (demA LB MB)) ∧ w'.cell? ⟨LB, 0, none⟩ = some (.slice TA tn tcap) ∧ w'.cell? ⟨MB, 0, none⟩ = some (.map (some b)) ∧ IsReq w' b [] ∧ LB ≠ b ∧ MB ≠ b ∧ w.heap.size ≤ b ∧ LB < w'.heap.size ∧ MB < w'.heap.size ∧ Below w.heap.size w w' := by
  obtain ⟨H, hH⟩ : ∃ H, w.heap.size = H := ⟨_, rfl⟩
  obtain ⟨W0, hW0⟩ : ∃ W, (w.alloc (.cells #[.slice TA tn tcap] 46)).alloc (.cells #[.nilFunc, .int .i64 0, .nilFunc, .int .i64 0, .nilFunc, .int .i64 0] 77) = W := ⟨_, rfl⟩
  have hs0 : W0.heap.size = H + 2 := by rw [← hW0, ← hH]; simp
  have hb0 : Below H w W0 := by rw [← hW0, ← hH]; exact ((Below.refl _ _).alloc (Nat.le_refl _) _).alloc (by simp) _
  have hl0 : RowC W0 H #[.slice TA tn tcap] 46 := by rw [← hW0, ← hH]; exact (RowC.new _ _ _ _ rfl).alloc _
  have hd0 : RowC W0 (H + 1) #[.nilFunc, .int .i64 0, .nilFunc, .int .i64 0, .nilFunc, .int .i64 0] 77 := by rw [← hW0, ← hH]; exact RowC.new _ _ _ _ (by simp)
  obtain ⟨W1, hW1⟩ : ∃ W, (W0.alloc (.map #[] 0)).alloc (.cells #[.map (some (H + 2))] 114) = W := ⟨_, rfl⟩
  have hs1 : W1.heap.size = H + 4 := by rw [← hW1]; simp [hs0]
  have hb1 : Below (H + 2) W0 W1 := by rw [← hW1]; exact ((Below.refl _ _).alloc (by omega) _).alloc (by simp [hs0]) _
  have hm1 : RowC W1 (H + 3) #[.map (some (H + 2))] 114 := by rw [← hW1]; exact RowC.new _ _ _ _ (by simp [hs0])
  have hq1 : IsReq W1 (H + 2) [] := by
    have h := IsReq.new W0
    rw [hs0] at h
    rw [← hW1]
    exact h.of_block ((Below.refl _ (W0.alloc (.map #[] 0))).alloc (Nat.le_refl _) _ |>.block _ h.lt)
  have HD1 := Lib.hid (hd0.below hb1 (by omega))
  have HL1 := Lib.hid (hl0.below hb1 (by omega))
  have HB1 := Lib.hid (hb0.trans (hb1.mono (by omega)))
  have HM1 := Lib.hid hm1
  have HQ1 := Lib.hid hq1
  have HS1 := Lib.hid hs1
  have HH := Lib.hid hH
  have HW0 := Lib.hid hW0
  have HW1 := Lib.hid hW1
  clear hb0 hl0 hd0 hs1 hb1 hm1 hq1
  have hmm := @run_makeMap Tryz.prog
  go_enter Tryz.func28, Tryz.ntmps28
  go_upto_region 1 with fail
  (try rw [hW0])
  clear hW0
  go_upto_region 2 with fail
  (try rw [hW1])
  clear hW1 hmm
  go_wp2_with (refine wpList_store_row (by rfl) 77 _ _ (by rfl) (H + 1) (demA H (H + 3)) (by rfl) (by rfl) _ _ HD1.out (show _ = some 6 from by kernel_rfl) (by rfl) (by simp [demA, Value.oneCell']) ?_)
  refine bodyPost_ret (results_cell_row Tryz.results28 _ _ (H + 1) _ _ (0, 0) _ (by rfl) (setRow_heap _ _ _ _ _ _ HD1.out) Tryz.underlying77 (by rfl) (show _ = some 6 from by kernel_rfl)) rfl ?_
  have hx : ∀ i, i ≠ H + 1 → (W1.setRow (H + 1) (demA H (H + 3))).heap[i]? = W1.heap[i]? := fun i hi => setRow_other W1 (H + 1) i _ hi
  refine ⟨H, H + 3, H + 2, rfl, (HL1.out.setRow _ (by omega)).cell 0 _ rfl, (HM1.out.setRow _ (by omega)).cell 0 _ rfl, HQ1.out.of_block (hx _ (by omega)), by omega, by omega, by rw [HH.out]; omega, ?_, ?_, by rw [HH.out]; exact below_setRow HB1.out (Nat.le_succ _) _⟩
  · have := HS1.out; simp [World.setRow]; omega
  · have := HS1.out; simp [World.setRow]; omega
end Go.Proofs.YtccklmleaffgiaaGreatDoor
