/-
  act.Read at right words, at any place.
-/
import Derived.Test.YtccklmleaffgiaaGreatDoorQ15
import Derived.RegionTactic
import Derived.Deep.Cut
namespace Go.Proofs.YtccklmleaffgiaaGreatDoor
open Go.Shelf Go.RowKit
set_option linter.unusedVariables false

set_option maxRecDepth 100000 in
set_option maxHeartbeats 4000000 in
theorem read91_off (n : Int) (b1 b2 k len cap b o : Nat) (hlen : 1 ≤ len) (s : ByteArray) (CB : Nat) (w : World) (h1 : w.cell? ⟨CB, 0, none⟩ = some (.slice (some ⟨b, o, none⟩) len cap)) (h2 : w.cell? ⟨b, o, none⟩ = some (.string s)) :
    Calls Tryz.prog 120 #[.int .i64 n, .agg (kindA b1 b2 k), .pointer (some ⟨CB, 0, none⟩)] w fun e w' => e = .returned (.bool ((kwA k).toList == s.toList)) ∧ Below w.heap.size w w' := by
  obtain ⟨F, cap', hkm⟩ := kmA_func b1 b2 k
  simp only [kindA, hkm]
  have hB : Below w.heap.size w (w.alloc (.cells #[.string (kwA k), .int .u32 (kcA k), .bool (knA k), .func (.func F) #[] cap'] 108)) := (Below.refl _ _).alloc (Nat.le_refl _) _
  have l1 := World.block_lt_of_cell? _ _ h1
  have l2 := World.block_lt_of_cell? _ _ h2
  have k1 := (hB.cell (p := ⟨CB, 0, none⟩) l1).trans h1
  have k2 := (hB.cell (p := ⟨b, o, none⟩) l2).trans h2
  have c0 := (RowC.new w #[.string (kwA k), .int .u32 (kcA k), .bool (knA k), .func (.func F) #[] cap'] 108 _ rfl).cell 0 (.string (kwA k)) rfl
  have HB := Lib.hid hB
  have i1 : (0 : Int) < (len : Int) := by omega
  clear hB l1 l2 h1 h2 hkm
  go_enter Tryz.func120, Tryz.ntmps120
  go_wp2_with fail
  generalize w.alloc (.cells #[.string (kwA k), .int .u32 (kcA k), .bool (knA k), .func (.func F) #[] cap'] 108) = W at *
  go_region
  all_goals go_wp2
  all_goals go_ret
  all_goals exact ⟨rfl, HB.out.drew⟩
set_option maxRecDepth 100000 in
set_option maxHeartbeats 8000000 in
theorem find_word9o (len cp b o : Nat) (hlen : 1 ≤ len) (s : ByteArray) (AB : Nat) (w : World) (ha : w.cell? ⟨AB, 0, none⟩ = some (.slice (some ⟨b, o, none⟩) len cp)) (hb : w.cell? ⟨b, o, none⟩ = some (.string s)) :
    Calls Tryz.prog 65 #[.func (.func 120) #[] #[.pointer (some ⟨AB, 0, none⟩)]] w (FindR (fun j => (kwA j).toList == s.toList) w) := by
  have lA := World.block_lt_of_cell? _ _ ha
  have lB := World.block_lt_of_cell? _ _ hb
  have HA := Lib.hid (⟨ha, hb⟩ : w.cell? ⟨AB, 0, none⟩ = some (.slice (some ⟨b, o, none⟩) len cp) ∧ w.cell? ⟨b, o, none⟩ = some (.string s))
  obtain ⟨P, hP⟩ : ∃ P : Nat → Bool, (fun j : Nat => (kwA j).toList == s.toList) = P := ⟨_, rfl⟩
  rw [hP]
  have HP := Lib.hid hP
  clear ha hb hP
  have HK := Lib.hid (kinds_any (w.alloc (.cells kind0 108)))
  go_enter Tryz.func65, Tryz.ntmps65
  go_wp2_with (go_at_call 83; refine HK.out.mono ?_; rintro e w1 ⟨rfl, hr1, hr2, hB1⟩)
  have ez : (w.alloc (.cells kind0 108)).heap.size = w.heap.size + 1 := by simp
  rw [ez] at hr1 hr2 hB1
  have hb0 : Below w.heap.size w w1 := ((Below.refl _ _).alloc (Nat.le_refl _) _).trans (hB1.mono (by omega))
  have hr0 : RowC w1 w.heap.size kind0 108 := (RowC.new w kind0 108 _ rfl).below hB1 (by omega)
  obtain ⟨b1, hb1⟩ : ∃ b, w.heap.size + 1 + 1 = b := ⟨_, rfl⟩
  obtain ⟨b2, hb2⟩ : ∃ b, w.heap.size + 1 + 1 + 1 = b := ⟨_, rfl⟩
  rw [hb1] at hr1
  rw [hb2] at hr2
  have HB1 := Lib.hid hb1
  have HB2 := Lib.hid hb2
  rw [hb2, hb1]
  clear hb1 hb2 hB1 ez
  go_loopw [9] (fun i wr => ∃ k : Nat, k ≤ 8 ∧ i = .int .i64 k ∧ (∀ i, i < k → P i = false) ∧ (RowC wr b1 #[.int .i64 4095] 3 ∧ RowC wr b2 #[.int .i64 65535] 3 ∧ RowC wr w.heap.size kind0 108) ∧ Below w.heap.size w wr)
    (fun i _ => 8 - (intOf i).toNat)
  case atStart => exact ⟨0, by omega, rfl, fun i h => by omega, ⟨hr1, hr2, hr0⟩, hb0⟩
  case round =>
    obtain ⟨k, hk, rfl, hno, ⟨g1, g2, g0⟩, hB⟩ := hrel
    have HNO := Lib.hid hno
    clear hno
    by_cases hlt : k < 8
    · have hix := ixK b1 b2 k hlt
      obtain ⟨F, cap, hkm⟩ := kmA_func b1 b2 k
      have i1 : (0 : Int) ≤ (k : Int) := by omega
      have i2 : (k : Int) < 8 := by omega
      have hs := hB.size
      have hcl : Calls Tryz.prog 120 #[.int .i64 ((k : Int) + 1), .agg (kindA b1 b2 k), .pointer (some ⟨AB, 0, none⟩)] (wr.alloc (.cells (kindA b1 b2 k) 108)) fun e w' => e = .returned (.bool (P k)) ∧ Below (wr.alloc (.cells (kindA b1 b2 k) 108)).heap.size (wr.alloc (.cells (kindA b1 b2 k) 108)) w' := by
        have hBa : Below w.heap.size w (wr.alloc (.cells (kindA b1 b2 k) 108)) := hB.alloc hs _
        have := read91_off ((k : Int) + 1) b1 b2 k len cp b o hlen s AB _ ((hBa.cell (p := ⟨AB, 0, none⟩) lA).trans HA.out.1) ((hBa.cell (p := ⟨b, o, none⟩) lB).trans HA.out.2)
        rw [show ((kwA k).toList == s.toList) = P k from congrFun HP.out k] at this
        exact this
      have hg0 := g0.alloc (.cells (kindA b1 b2 k) 108)
      have hg1 := g1.alloc (.cells (kindA b1 b2 k) 108)
      have hg2 := g2.alloc (.cells (kindA b1 b2 k) 108)
      have hFin : Hid (kindA b1 b2 k = #[.string (kwA k), .int .u32 (kcA k), .bool (knA k), .func (.func F) #[] cap]) := Lib.hid (by unfold kindA; rw [hkm])
      simp only [kindA, hkm] at hix hcl hg0 hg1 hg2
      have HCL := Lib.hid hcl
      have HG0 := Lib.hid hg0
      have HG1 := Lib.hid hg1
      have HG2 := Lib.hid hg2
      have HBW := Lib.hid hB
      clear hcl g1 g2 g0 hB hkm hg0 hg1 hg2
      cases hp : P k
      · rw [hp] at HCL
        have HPK := Lib.hid hp
        clear hp
        go_wp2_with (go_at_call 120; refine HCL.out.mono ?_; rintro e w5 ⟨rfl, hB5⟩)
        have q0 := HG0.out
        have q1 := HG1.out
        have q2 := HG2.out
        exact ⟨⟨k + 1, by omega, by go_num, fun i hi => by
          by_cases h : i = k
          · subst h; exact HPK.out
          · exact HNO.out i (by omega), ⟨q1.below hB5 q1.lt, q2.below hB5 q2.lt, q0.below hB5 q0.lt⟩, (HBW.out.alloc hs _).trans (hB5.mono (by simp; omega))⟩, by simp [intOf]; omega⟩
      · rw [hp] at HCL
        have HPK := Lib.hid hp
        clear hp
        go_wp2_with (go_at_call 120; refine HCL.out.mono ?_; rintro e w5 ⟨rfl, hB5⟩)
        have q0 := HG0.out
        have q1 := HG1.out
        have q2 := HG2.out
        have s1 := q1.below hB5 q1.lt
        have s2 := q2.below hB5 q2.lt
        have r3 := q0.below hB5 q0.lt
        have r6 : RowC w5 wr.heap.size #[.string (kwA k), .int .u32 (kcA k), .bool (knA k), .func (.func F) #[] cap] 108 := (RowC.new wr _ 108 _ rfl).below hB5 (by simp)
        have hB6 : Below w.heap.size w w5 := (HBW.out.alloc hs _).trans (hB5.mono (by simp; omega))
        have c0 := r6.cell 0 _ rfl
        have c1 := r6.cell 1 _ rfl
        have c2 := r6.cell 2 _ rfl
        have c3 := r6.cell 3 _ rfl
        have R1 := Lib.hid s1
        have R2 := Lib.hid s2
        have R3 := Lib.hid r3
        have HB6 := Lib.hid hB6
        clear q1 q2 q0 s1 s2 r6 hB6 hB5
        have d0 := R3.out.cell 0 _ rfl
        have d1 := R3.out.cell 1 _ rfl
        have d2 := R3.out.cell 2 _ rfl
        have d3 := R3.out.cell 3 _ rfl
        have f0 := R3.out.frozen 0
        have f1 := R3.out.frozen 1
        have f2 := R3.out.frozen 2
        have f3 := R3.out.frozen 3
        clear r3
        go_region
        all_goals go_wp2
        have hrow : RowC ((((w5.setCell ⟨w.heap.size, 0, none⟩ (.string (kwA k))).setCell ⟨w.heap.size, 1, none⟩ (.int .u32 (kcA k))).setCell ⟨w.heap.size, 2, none⟩ (.bool (knA k))).setCell ⟨w.heap.size, 3, none⟩ (.func (.func F) #[] cap)).drew w.heap.size #[.string (kwA k), .int .u32 (kcA k), .bool (knA k), .func (.func F) #[] cap] 108 := (((R3.out.set 0 (.string (kwA k))).set 1 (.int .u32 (kcA k))).set 2 (.bool (knA k))).set 3 (.func (.func F) #[] cap)
        have n1 : b1 ≠ w.heap.size := by have := HB1.out; omega
        have n2 : b2 ≠ w.heap.size := by have := HB2.out; omega
        have hr1 : RowC ((((w5.setCell ⟨w.heap.size, 0, none⟩ (.string (kwA k))).setCell ⟨w.heap.size, 1, none⟩ (.int .u32 (kcA k))).setCell ⟨w.heap.size, 2, none⟩ (.bool (knA k))).setCell ⟨w.heap.size, 3, none⟩ (.func (.func F) #[] cap)).drew b1 #[.int .i64 4095] 3 := (((R1.out.setOther 0 _ n1).setOther 1 _ n1).setOther 2 _ n1).setOther 3 _ n1
        have hr2 : RowC ((((w5.setCell ⟨w.heap.size, 0, none⟩ (.string (kwA k))).setCell ⟨w.heap.size, 1, none⟩ (.int .u32 (kcA k))).setCell ⟨w.heap.size, 2, none⟩ (.bool (knA k))).setCell ⟨w.heap.size, 3, none⟩ (.func (.func F) #[] cap)).drew b2 #[.int .i64 65535] 3 := (((R2.out.setOther 0 _ n2).setOther 1 _ n2).setOther 2 _ n2).setOther 3 _ n2
        have hbe : Below w.heap.size w ((((w5.setCell ⟨w.heap.size, 0, none⟩ (.string (kwA k))).setCell ⟨w.heap.size, 1, none⟩ (.int .u32 (kcA k))).setCell ⟨w.heap.size, 2, none⟩ (.bool (knA k))).setCell ⟨w.heap.size, 3, none⟩ (.func (.func F) #[] cap)).drew := ((((HB6.out.setCell (by simp) _).setCell (by simp) _).setCell (by simp) _).setCell (by simp) _).drew
        all_goals
          refine bodyPost_ret (results_tct Tryz.results65 _ _ w.heap.size _ _ (0, 0) _ (.int .i64 ((k : Int) + 1)) (.bool true) (by rfl) (by rfl) (by rfl) hrow Tryz.underlying108 (by rfl) (show _ = some 4 from infoK)) rfl ?_
          refine ⟨.inl ⟨k, hlt, HPK.out, HNO.out, ?_⟩, ?_, hbe⟩
          · rw [HB2.out, HB1.out, hFin.out]
          · rw [HB2.out, HB1.out]; exact ⟨hr1, hr2⟩
    · obtain rfl : k = 8 := by omega
      have G0 := Lib.hid g0
      have G1 := Lib.hid g1
      have G2 := Lib.hid g2
      have HBW := Lib.hid hB
      clear g0 g1 g2 hB
      go_wp2_with (refine wpList_store_row (by rfl) 108 _ _ (by rfl) w.heap.size kind0 (by rfl) (by rfl) _ _ G0.out (show _ = some kind0.size from infoK) (by rfl) (by simp [Value.oneCell']) ?_)
      refine bodyPost_ret (results_tct Tryz.results65 _ _ w.heap.size _ kind0 (0, 0) _ (.int .i64 0) (.bool false) (by rfl) (by rfl) (by rfl) (setRow_heap _ _ _ _ _ _ G0.out) Tryz.underlying108 (by rfl) (show _ = some kind0.size from infoK)) rfl ?_
      refine ⟨.inr ⟨HNO.out, rfl⟩, ?_, below_setRow HBW.out (Nat.le_refl _) _⟩
      rw [HB2.out, HB1.out]
      exact ⟨G1.out.setRow _ (by have := HB1.out; omega), G2.out.setRow _ (by have := HB2.out; omega)⟩



theorem find_own_o (len cap b o : Nat) (hlen : 1 ≤ len) (j : Nat) (hj : j < 8) (AB : Nat) (w : World) (ha : w.cell? ⟨AB, 0, none⟩ = some (.slice (some ⟨b, o, none⟩) len cap)) (hb : w.cell? ⟨b, o, none⟩ = some (.string (kwA j))) :
    Calls Tryz.prog 65 #[.func (.func 120) #[] #[.pointer (some ⟨AB, 0, none⟩)]] w fun e w' => (∃ b1 b2, e = .returned (.tuple #[.int .i64 ((j : Int) + 1), .agg (kindA b1 b2 j), .bool true]) ∧ RowC w' b1 #[.int .i64 4095] 3 ∧ RowC w' b2 #[.int .i64 65535] 3) ∧ Below w.heap.size w w' := by
  refine (find_word9o len cap b o hlen (kwA j) AB w ha hb).mono ?_
  rintro e w' ⟨h | h, ⟨hr1, hr2⟩, hB⟩
  · obtain ⟨i, hi8, hi, _, he⟩ := h
    simp only [kwA_inj hj hi8] at hi
    obtain rfl : i = j := by simpa using hi
    exact ⟨⟨_, _, he, hr1, hr2⟩, hB⟩
  · have := h.1 j hj
    simp only [kwA_inj hj hj] at this
    simp at this
set_option maxRecDepth 100000 in
set_option maxHeartbeats 8000000 in
theorem readA_plain_o (j : Nat) (hj : j < 8) (hk : knA j = false) (b o len cap : Nat) (hlen : 1 ≤ len) (w : World) (c0 : w.cell? ⟨b, o, none⟩ = some (.string (kwA j))) :
    Calls Tryz.prog 93 #[.slice (some ⟨b, o, none⟩) len cap] w fun e w' => e = .returned (.tuple #[.agg #[.int .i64 ((j : Int) + 1), .int .i64 0], .int .i64 1, .int .i64 0]) ∧ Below w.heap.size w w' := by
  have lb : b < w.heap.size := World.block_lt_of_cell? _ _ c0
  obtain ⟨W0, hW0⟩ : ∃ W, (w.alloc (.cells #[.slice (some ⟨b, o, none⟩) len cap] 83)).alloc (.cells zA 23) = W := ⟨_, rfl⟩
  have hb0 : Below w.heap.size w W0 := by rw [← hW0]; exact ((Below.refl _ _).alloc (Nat.le_refl _) _).alloc (by simp) _
  have rb : RowC W0 w.heap.size #[.slice (some ⟨b, o, none⟩) len cap] 83 := by rw [← hW0]; exact (RowC.new _ _ _ _ rfl).alloc _
  have r2 : RowC W0 (w.heap.size + 1) zA 23 := by rw [← hW0]; exact RowC.new _ _ _ _ (by simp)
  have kb := rb.cell 0 (.slice (some ⟨b, o, none⟩) len cap) rfl
  have HB0 := Lib.hid hb0
  have RB := Lib.hid rb
  have R2 := Lib.hid r2
  have HW0 := Lib.hid hW0
  have KB := Lib.hid kb
  have kb' := kb
  rw [← hW0] at kb'
  have k0 := (hb0.cell (p := ⟨b, o, none⟩) lb).trans c0
  have LB := Lib.hid (Nat.lt_of_lt_of_le lb hb0.size)
  have ie : ((len : Int) == 0) = false := beq_eq_false_iff_ne.2 (by omega)
  have HFW := Lib.hid (find_own_o len cap b o hlen j hj w.heap.size W0 kb k0)
  clear kb k0 hb0 rb r2 hW0 c0 lb
  go_enter Tryz.func93, Tryz.ntmps93
  go_upto_region 3 with fail
  rw [HW0.out]
  clear kb'
  go_wp2_with fail
  refine HFW.out.mono ?_
  rintro e w2 ⟨⟨b1, b2, rfl, hr1, hr2⟩, hB2⟩
  obtain ⟨F, cap', hkm⟩ := kmA_func b1 b2 j
  have HKM := Lib.hid hkm
  simp only [kindA, hkm]
  rw [hk]
  have hs2 := hB2.size
  obtain ⟨V, hV⟩ : ∃ V, w2.alloc (.cells #[.string (kwA j), .int .u32 (kcA j), .bool false, .func (.func F) #[] cap'] 108) = V := ⟨_, rfl⟩
  have r6 : RowC V w2.heap.size #[.string (kwA j), .int .u32 (kcA j), .bool false, .func (.func F) #[] cap'] 108 := by rw [← hV]; exact RowC.new _ _ _ _ rfl
  have h02 : Below W0.heap.size W0 V := by rw [← hV]; exact hB2.alloc (by omega) _
  have R6 := Lib.hid r6
  have H02 := Lib.hid h02
  have HV := Lib.hid hV
  have q2 := R2.out.below h02 R2.out.lt
  have z0 := q2.cell 0 (.int .i64 0) rfl
  have z1 := q2.cell 1 (.int .i64 0) rfl
  have g0 := q2.frozen 0
  have g1 := q2.frozen 1
  have m2 := r6.cell 2 (.bool false) rfl
  have Q2 := Lib.hid q2
  have HBQ := HB0.out.trans (h02.mono HB0.out.size)
  clear r6 h02 hB2 hs2 q2 hkm hV
  go_upto_region 4 with fail
  rw [HV.out]
  go_wp2
  exact bodyPost_ret (results_ctt9 Tryz.results93 _ _ (w.heap.size + 1) _ _ (0, 0) _ (.int .i64 1) (.int .i64 0) (by rfl) (by rfl) (by rfl) (show RowC _ (w.heap.size + 1) #[.int .i64 ((j : Int) + 1), .int .i64 0] 23 from (Q2.out.set 0 (.int .i64 ((j : Int) + 1))).set 1 (.int .i64 0)) Tryz.underlying23 (by rfl) (show _ = some 2 from infoAct)) rfl
    ⟨rfl, (HBQ.setCell (Nat.le_succ _) _).setCell (Nat.le_succ _) _⟩

set_option maxRecDepth 100000 in
set_option maxHeartbeats 8000000 in
theorem readA_num_o (j : Nat) (hj : j < 8) (hk : knA j = true) (u : Nat) (hu : u < 1000000000) (hmay : mayA j (u : Int) = true) (b o len cap : Nat) (hlen : 1 ≤ len) (w : World) (hl2 : 2 ≤ len) (ht : TabP w) (c0 : w.cell? ⟨b, o, none⟩ = some (.string (kwA j))) (c1 : w.cell? ⟨b, o + 1, none⟩ = some (.string (dec u))) :
    Calls Tryz.prog 93 #[.slice (some ⟨b, o, none⟩) len cap] w fun e w' => e = .returned (.tuple #[.agg #[.int .i64 ((j : Int) + 1), .int .i64 u], .int .i64 2, .int .i64 0]) ∧ Below w.heap.size w w' := by
  have lb : b < w.heap.size := World.block_lt_of_cell? _ _ c0
  obtain ⟨W0, hW0⟩ : ∃ W, (w.alloc (.cells #[.slice (some ⟨b, o, none⟩) len cap] 83)).alloc (.cells zA 23) = W := ⟨_, rfl⟩
  have hb0 : Below w.heap.size w W0 := by rw [← hW0]; exact ((Below.refl _ _).alloc (Nat.le_refl _) _).alloc (by simp) _
  have rb : RowC W0 w.heap.size #[.slice (some ⟨b, o, none⟩) len cap] 83 := by rw [← hW0]; exact (RowC.new _ _ _ _ rfl).alloc _
  have r2 : RowC W0 (w.heap.size + 1) zA 23 := by rw [← hW0]; exact RowC.new _ _ _ _ (by simp)
  have kb := rb.cell 0 (.slice (some ⟨b, o, none⟩) len cap) rfl
  have HB0 := Lib.hid hb0
  have RB := Lib.hid rb
  have R2 := Lib.hid r2
  have HW0 := Lib.hid hW0
  have KB := Lib.hid kb
  have kb' := kb
  rw [← hW0] at kb'
  have k0 := (hb0.cell (p := ⟨b, o, none⟩) lb).trans c0
  have LB := Lib.hid (Nat.lt_of_lt_of_le lb hb0.size)
  have ie : ((len : Int) == 0) = false := beq_eq_false_iff_ne.2 (by omega)
  have HFW := Lib.hid (find_own_o len cap b o hlen j hj w.heap.size W0 kb k0)
  have K1 := Lib.hid ((hb0.cell (p := ⟨b, o + 1, none⟩) lb).trans c1)
  have HT0 := Lib.hid (tab_on ht hb0 (Nat.le_refl _))
  have il : decide ((len : Int) < 2) = false := by simp; omega
  have il2 : ¬ (len : Int) < 2 := by omega
  have i1 : (1 : Int) < (len : Int) := by omega
  clear c1 ht
  clear kb k0 hb0 rb r2 hW0 c0 lb
  go_enter Tryz.func93, Tryz.ntmps93
  go_upto_region 3 with fail
  rw [HW0.out]
  clear kb'
  go_wp2_with fail
  refine HFW.out.mono ?_
  rintro e w2 ⟨⟨b1, b2, rfl, hr1, hr2⟩, hB2⟩
  obtain ⟨F, cap', hkm⟩ := kmA_func b1 b2 j
  have HKM := Lib.hid hkm
  simp only [kindA, hkm]
  rw [hk]
  have hs2 := hB2.size
  obtain ⟨V, hV⟩ : ∃ V, w2.alloc (.cells #[.string (kwA j), .int .u32 (kcA j), .bool true, .func (.func F) #[] cap'] 108) = V := ⟨_, rfl⟩
  have r6 : RowC V w2.heap.size #[.string (kwA j), .int .u32 (kcA j), .bool true, .func (.func F) #[] cap'] 108 := by rw [← hV]; exact RowC.new _ _ _ _ rfl
  have h02 : Below W0.heap.size W0 V := by rw [← hV]; exact hB2.alloc (by omega) _
  have R6 := Lib.hid r6
  have H02 := Lib.hid h02
  have HV := Lib.hid hV
  have q2 := R2.out.below h02 R2.out.lt
  have z0 := q2.cell 0 (.int .i64 0) rfl
  have z1 := q2.cell 1 (.int .i64 0) rfl
  have g0 := q2.frozen 0
  have g1 := q2.frozen 1
  have m2 := r6.cell 2 (.bool true) rfl
  have Q2 := Lib.hid q2
  have HBQ := HB0.out.trans (h02.mono HB0.out.size)
  have kb := (h02.cell (p := ⟨w.heap.size, 0, none⟩) RB.out.lt).trans KB.out
  have k1 := (h02.cell (p := ⟨b, o + 1, none⟩) LB.out).trans K1.out
  have HPL := Lib.hid (plain_yes u hu V (tab_on HT0.out h02 (Nat.le_refl _)))
  have hr1' : RowC V b1 #[.int .i64 4095] 3 := by rw [← hV]; exact hr1.alloc _
  have hr2' : RowC V b2 #[.int .i64 65535] 3 := by rw [← hV]; exact hr2.alloc _
  have RR1 := Lib.hid hr1'
  have RR2 := Lib.hid hr2'
  have m3 := r6.cell 3 (.func (.func F) #[] cap') rfl
  clear hr1 hr2 hr1' hr2'
  clear r6 h02 hB2 hs2 q2 hkm hV
  go_upto_region 4 with fail
  rw [HV.out]
  clear HBQ
  go_wp2_with fail
  refine HPL.out.mono ?_
  rintro e w3 ⟨rfl, hB3⟩
  have r6 := R6.out.below hB3 R6.out.lt
  have q2 := Q2.out.below hB3 Q2.out.lt
  have x1 := RR1.out.below hB3 RR1.out.lt
  have x2 := RR2.out.below hB3 RR2.out.lt
  have HBQ' := Lib.hid ((HB0.out.trans (H02.out.mono HB0.out.size)).trans (hB3.mono (by have := HB0.out.size; have := H02.out.size; omega)))
  have mm3 := r6.cell 3 (.func (.func F) #[] cap') rfl
  have zz0 := q2.cell 0 (.int .i64 0) rfl
  have zz1 := q2.cell 1 (.int .i64 0) rfl
  have gg0 := q2.frozen 0
  have gg1 := q2.frozen 1
  have QQ := Lib.hid q2
  clear z0 z1 g0 g1 m2 m3 kb k1 hB3 q2 r6
  have hj35 : j = 3 ∨ j = 5 := by
    unfold knA at hk
    simp at hk
    omega
  rcases hj35 with rfl | rfl
  · have hkm : Value.func (.func 101) #[] #[.pointer (some ⟨b1, 0, none⟩)] = .func (.func F) #[] cap' := HKM.out
    injection hkm with e1 _ e3
    injection e1 with e1
    subst e1 e3
    have HM := Lib.hid (may3_any (u : Int) b1 w3 (x1.cell 0 _ rfl))
    rw [hmay] at HM
    clear x1 x2
    go_wp2_with (go_at_call 101; refine HM.out.mono ?_; rintro e w4 ⟨rfl, rfl⟩)
    have HBQ := HBQ'.out
    exact bodyPost_ret (results_ctt9 Tryz.results93 _ _ (w.heap.size + 1) _ _ (0, 0) _ (.int .i64 2) (.int .i64 0) (by rfl) (by rfl) (by rfl) (show RowC _ (w.heap.size + 1) #[.int .i64 4, .int .i64 u] 23 from (QQ.out.set 0 (.int .i64 4)).set 1 (.int .i64 u)) Tryz.underlying23 (by rfl) (show _ = some 2 from infoAct)) rfl
      ⟨rfl, (HBQ.setCell (Nat.le_succ _) _).setCell (Nat.le_succ _) _⟩
  · have hkm : Value.func (.func 101) #[] #[.pointer (some ⟨b2, 0, none⟩)] = .func (.func F) #[] cap' := HKM.out
    injection hkm with e1 _ e3
    injection e1 with e1
    subst e1 e3
    have HM := Lib.hid (may5_any (u : Int) b2 w3 (x2.cell 0 _ rfl))
    rw [hmay] at HM
    clear x1 x2
    go_wp2_with (go_at_call 101; refine HM.out.mono ?_; rintro e w4 ⟨rfl, rfl⟩)
    have HBQ := HBQ'.out
    exact bodyPost_ret (results_ctt9 Tryz.results93 _ _ (w.heap.size + 1) _ _ (0, 0) _ (.int .i64 2) (.int .i64 0) (by rfl) (by rfl) (by rfl) (show RowC _ (w.heap.size + 1) #[.int .i64 6, .int .i64 u] 23 from (QQ.out.set 0 (.int .i64 6)).set 1 (.int .i64 u)) Tryz.underlying23 (by rfl) (show _ = some 2 from infoAct)) rfl
      ⟨rfl, (HBQ.setCell (Nat.le_succ _) _).setCell (Nat.le_succ _) _⟩

end Go.Proofs.YtccklmleaffgiaaGreatDoor
