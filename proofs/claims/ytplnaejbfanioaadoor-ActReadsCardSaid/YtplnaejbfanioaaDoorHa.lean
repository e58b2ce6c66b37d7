/-
  The contract of act.find at the question of act.Read.
-/
import Derived.Test.YtplnaejbfanioaaDoorBb
import Derived.RegionTactic
namespace Go.Proofs.YtplnaejbfanioaaDoor
open Go.RowKit
set_option linter.unusedVariables false

set_option maxRecDepth 100000 in
set_option maxHeartbeats 4000000 in
theorem read91_any (n : Int) (b1 b2 k len cap b : Nat) (hlen : 1 ≤ len) (s : ByteArray) (CB : Nat) (w : World) (h1 : w.cell? ⟨CB, 0, none⟩ = some (.slice (some ⟨b, 0, none⟩) len cap)) (h2 : w.cell? ⟨b, 0, none⟩ = some (.string s)) :
    Calls Tryd.prog 40 #[.int .i64 n, .agg (kindA b1 b2 k), .pointer (some ⟨CB, 0, none⟩)] w fun e w' => e = .returned (.bool ((kwA k).toList == s.toList)) ∧ Below w.heap.size w w' := by
  obtain ⟨F, cap', hkm⟩ := kmA_func b1 b2 k
  simp only [kindA, hkm]
  have hB : Below w.heap.size w (w.alloc (.cells #[.string (kwA k), .int .u32 (kcA k), .bool (knA k), .func (.func F) #[] cap'] 85)) := (Below.refl _ _).alloc (Nat.le_refl _) _
  have l1 := World.block_lt_of_cell? _ _ h1
  have l2 := World.block_lt_of_cell? _ _ h2
  have k1 := (hB.cell (p := ⟨CB, 0, none⟩) l1).trans h1
  have k2 := (hB.cell (p := ⟨b, 0, none⟩) l2).trans h2
  have c0 := (RowC.new w #[.string (kwA k), .int .u32 (kcA k), .bool (knA k), .func (.func F) #[] cap'] 85 _ rfl).cell 0 (.string (kwA k)) rfl
  have HB := Lib.hid hB
  have i1 : (0 : Int) < (len : Int) := by omega
  clear hB l1 l2 h1 h2 hkm
  go_enter Tryd.func40, Tryd.ntmps40
  go_wp2_with fail
  generalize w.alloc (.cells #[.string (kwA k), .int .u32 (kcA k), .bool (knA k), .func (.func F) #[] cap'] 85) = W at *
  go_region
  all_goals go_wp2
  all_goals go_ret
  all_goals exact ⟨rfl, HB.out.drew⟩
set_option maxRecDepth 100000 in
set_option maxHeartbeats 8000000 in
theorem find_word9 (len cp b : Nat) (hlen : 1 ≤ len) (s : ByteArray) (AB : Nat) (w : World) (ha : w.cell? ⟨AB, 0, none⟩ = some (.slice (some ⟨b, 0, none⟩) len cp)) (hb : w.cell? ⟨b, 0, none⟩ = some (.string s)) :
    Calls Tryd.prog 39 #[.func (.func 40) #[] #[.pointer (some ⟨AB, 0, none⟩)]] w (FindR (fun j => (kwA j).toList == s.toList) w) := by
  have lA := World.block_lt_of_cell? _ _ ha
  have lB := World.block_lt_of_cell? _ _ hb
  have HA := Lib.hid (⟨ha, hb⟩ : w.cell? ⟨AB, 0, none⟩ = some (.slice (some ⟨b, 0, none⟩) len cp) ∧ w.cell? ⟨b, 0, none⟩ = some (.string s))
  obtain ⟨P, hP⟩ : ∃ P : Nat → Bool, (fun j : Nat => (kwA j).toList == s.toList) = P := ⟨_, rfl⟩
  rw [hP]
  have HP := Lib.hid hP
  clear ha hb hP
  have HK := Lib.hid (kinds_any (w.alloc (.cells kind0 85)))
  go_enter Tryd.func39, Tryd.ntmps39
  go_wp2_with (go_at_call 55; refine HK.out.mono ?_; rintro e w1 ⟨rfl, hr1, hr2, hB1⟩)
  have ez : (w.alloc (.cells kind0 85)).heap.size = w.heap.size + 1 := by simp
  rw [ez] at hr1 hr2 hB1
  have hb0 : Below w.heap.size w w1 := ((Below.refl _ _).alloc (Nat.le_refl _) _).trans (hB1.mono (by omega))
  have hr0 : RowC w1 w.heap.size kind0 85 := (RowC.new w kind0 85 _ rfl).below hB1 (by omega)
  obtain ⟨b1, hb1⟩ : ∃ b, w.heap.size + 1 + 1 = b := ⟨_, rfl⟩
  obtain ⟨b2, hb2⟩ : ∃ b, w.heap.size + 1 + 1 + 1 = b := ⟨_, rfl⟩
  rw [hb1] at hr1
  rw [hb2] at hr2
  have HB1 := Lib.hid hb1
  have HB2 := Lib.hid hb2
  rw [hb2, hb1]
  clear hb1 hb2 hB1 ez
  go_loopw [9] (fun i wr => ∃ k : Nat, k ≤ 8 ∧ i = .int .i64 k ∧ (∀ i, i < k → P i = false) ∧ (RowC wr b1 #[.int .i64 4095] 3 ∧ RowC wr b2 #[.int .i64 65535] 3 ∧ RowC wr w.heap.size kind0 85) ∧ Below w.heap.size w wr)
    (fun i _ => 8 - (intOf i).toNat)
  case atStart => exact ⟨0, by omega, rfl, fun i h => by omega, ⟨hr1, hr2, hr0⟩, hb0⟩
  case round =>
    obtain ⟨k, hk, rfl, hno, ⟨g1, g2, g0⟩, hB⟩ := hrel
    have HNO := Lib.hid hno
    clear hno
    by_cases hlt : k < 8
    · have hix := ixK b1 b2 k hlt
      obtain ⟨F, cap, hkm⟩ := kmA_func b1 b2 k
      have i1 : (0 : Int) ≤ (k : Int) := by omega
      have i2 : (k : Int) < 8 := by omega
      have hs := hB.size
      have hcl : Calls Tryd.prog 40 #[.int .i64 ((k : Int) + 1), .agg (kindA b1 b2 k), .pointer (some ⟨AB, 0, none⟩)] (wr.alloc (.cells (kindA b1 b2 k) 85)) fun e w' => e = .returned (.bool (P k)) ∧ Below (wr.alloc (.cells (kindA b1 b2 k) 85)).heap.size (wr.alloc (.cells (kindA b1 b2 k) 85)) w' := by
        have hBa : Below w.heap.size w (wr.alloc (.cells (kindA b1 b2 k) 85)) := hB.alloc hs _
        have := read91_any ((k : Int) + 1) b1 b2 k len cp b hlen s AB _ ((hBa.cell (p := ⟨AB, 0, none⟩) lA).trans HA.out.1) ((hBa.cell (p := ⟨b, 0, none⟩) lB).trans HA.out.2)
        rw [show ((kwA k).toList == s.toList) = P k from congrFun HP.out k] at this
        exact this
      have hg0 := g0.alloc (.cells (kindA b1 b2 k) 85)
      have hg1 := g1.alloc (.cells (kindA b1 b2 k) 85)
      have hg2 := g2.alloc (.cells (kindA b1 b2 k) 85)
      have hFin : Hid (kindA b1 b2 k = #[.string (kwA k), .int .u32 (kcA k), .bool (knA k), .func (.func F) #[] cap]) := Lib.hid (by unfold kindA; rw [hkm])
      simp only [kindA, hkm] at hix hcl hg0 hg1 hg2
      have HCL := Lib.hid hcl
      have HG0 := Lib.hid hg0
      have HG1 := Lib.hid hg1
      have HG2 := Lib.hid hg2
      have HBW := Lib.hid hB
      clear hcl g1 g2 g0 hB hkm hg0 hg1 hg2
      cases hp : P k
      · rw [hp] at HCL
        have HPK := Lib.hid hp
        clear hp
        go_wp2_with (go_at_call 40; refine HCL.out.mono ?_; rintro e w5 ⟨rfl, hB5⟩)
        have q0 := HG0.out
        have q1 := HG1.out
        have q2 := HG2.out
        exact ⟨⟨k + 1, by omega, by go_num, fun i hi => by
          by_cases h : i = k
          · subst h; exact HPK.out
          · exact HNO.out i (by omega), ⟨q1.below hB5 q1.lt, q2.below hB5 q2.lt, q0.below hB5 q0.lt⟩, (HBW.out.alloc hs _).trans (hB5.mono (by simp; omega))⟩, by simp [intOf]; omega⟩
      · rw [hp] at HCL
        have HPK := Lib.hid hp
        clear hp
        go_wp2_with (go_at_call 40; refine HCL.out.mono ?_; rintro e w5 ⟨rfl, hB5⟩)
        have q0 := HG0.out
        have q1 := HG1.out
        have q2 := HG2.out
        have s1 := q1.below hB5 q1.lt
        have s2 := q2.below hB5 q2.lt
        have r3 := q0.below hB5 q0.lt
        have r6 : RowC w5 wr.heap.size #[.string (kwA k), .int .u32 (kcA k), .bool (knA k), .func (.func F) #[] cap] 85 := (RowC.new wr _ 85 _ rfl).below hB5 (by simp)
        have hB6 : Below w.heap.size w w5 := (HBW.out.alloc hs _).trans (hB5.mono (by simp; omega))
        have c0 := r6.cell 0 _ rfl
        have c1 := r6.cell 1 _ rfl
        have c2 := r6.cell 2 _ rfl
        have c3 := r6.cell 3 _ rfl
        have R1 := Lib.hid s1
        have R2 := Lib.hid s2
        have R3 := Lib.hid r3
        have HB6 := Lib.hid hB6
        clear q1 q2 q0 s1 s2 r6 hB6 hB5
        have d0 := R3.out.cell 0 _ rfl
        have d1 := R3.out.cell 1 _ rfl
        have d2 := R3.out.cell 2 _ rfl
        have d3 := R3.out.cell 3 _ rfl
        have f0 := R3.out.frozen 0
        have f1 := R3.out.frozen 1
        have f2 := R3.out.frozen 2
        have f3 := R3.out.frozen 3
        clear r3
        go_region
        all_goals go_wp2
        have hrow : RowC ((((w5.setCell ⟨w.heap.size, 0, none⟩ (.string (kwA k))).setCell ⟨w.heap.size, 1, none⟩ (.int .u32 (kcA k))).setCell ⟨w.heap.size, 2, none⟩ (.bool (knA k))).setCell ⟨w.heap.size, 3, none⟩ (.func (.func F) #[] cap)).drew w.heap.size #[.string (kwA k), .int .u32 (kcA k), .bool (knA k), .func (.func F) #[] cap] 85 := (((R3.out.set 0 (.string (kwA k))).set 1 (.int .u32 (kcA k))).set 2 (.bool (knA k))).set 3 (.func (.func F) #[] cap)
        have n1 : b1 ≠ w.heap.size := by have := HB1.out; omega
        have n2 : b2 ≠ w.heap.size := by have := HB2.out; omega
        have hr1 : RowC ((((w5.setCell ⟨w.heap.size, 0, none⟩ (.string (kwA k))).setCell ⟨w.heap.size, 1, none⟩ (.int .u32 (kcA k))).setCell ⟨w.heap.size, 2, none⟩ (.bool (knA k))).setCell ⟨w.heap.size, 3, none⟩ (.func (.func F) #[] cap)).drew b1 #[.int .i64 4095] 3 := (((R1.out.setOther 0 _ n1).setOther 1 _ n1).setOther 2 _ n1).setOther 3 _ n1
        have hr2 : RowC ((((w5.setCell ⟨w.heap.size, 0, none⟩ (.string (kwA k))).setCell ⟨w.heap.size, 1, none⟩ (.int .u32 (kcA k))).setCell ⟨w.heap.size, 2, none⟩ (.bool (knA k))).setCell ⟨w.heap.size, 3, none⟩ (.func (.func F) #[] cap)).drew b2 #[.int .i64 65535] 3 := (((R2.out.setOther 0 _ n2).setOther 1 _ n2).setOther 2 _ n2).setOther 3 _ n2
        have hbe : Below w.heap.size w ((((w5.setCell ⟨w.heap.size, 0, none⟩ (.string (kwA k))).setCell ⟨w.heap.size, 1, none⟩ (.int .u32 (kcA k))).setCell ⟨w.heap.size, 2, none⟩ (.bool (knA k))).setCell ⟨w.heap.size, 3, none⟩ (.func (.func F) #[] cap)).drew := ((((HB6.out.setCell (by simp) _).setCell (by simp) _).setCell (by simp) _).setCell (by simp) _).drew
        all_goals
          refine bodyPost_ret (results_tct Tryd.results39 _ _ w.heap.size _ _ (0, 0) _ (.int .i64 ((k : Int) + 1)) (.bool true) (by rfl) (by rfl) (by rfl) hrow Tryd.underlying85 (by rfl) (show _ = some 4 from infoK)) rfl ?_
          refine ⟨.inl ⟨k, hlt, HPK.out, HNO.out, ?_⟩, ?_, hbe⟩
          · rw [HB2.out, HB1.out, hFin.out]
          · rw [HB2.out, HB1.out]; exact ⟨hr1, hr2⟩
    · obtain rfl : k = 8 := by omega
      have G0 := Lib.hid g0
      have G1 := Lib.hid g1
      have G2 := Lib.hid g2
      have HBW := Lib.hid hB
      clear g0 g1 g2 hB
      go_wp2_with (refine wpList_store_row (by rfl) 85 _ _ (by rfl) w.heap.size kind0 (by rfl) (by rfl) _ _ G0.out (show _ = some kind0.size from infoK) (by rfl) (by simp [Value.oneCell']) ?_)
      refine bodyPost_ret (results_tct Tryd.results39 _ _ w.heap.size _ kind0 (0, 0) _ (.int .i64 0) (.bool false) (by rfl) (by rfl) (by rfl) (setRow_heap _ _ _ _ _ _ G0.out) Tryd.underlying85 (by rfl) (show _ = some kind0.size from infoK)) rfl ?_
      refine ⟨.inr ⟨HNO.out, rfl⟩, ?_, below_setRow HBW.out (Nat.le_refl _) _⟩
      rw [HB2.out, HB1.out]
      exact ⟨G1.out.setRow _ (by have := HB1.out; omega), G2.out.setRow _ (by have := HB2.out; omega)⟩


theorem kwA_inj {j k : Nat} (hj : j < 8) (hk : k < 8) : ((kwA k).toList == (kwA j).toList) = (k == j) := by
  have h1 : j = 0 ∨ j = 1 ∨ j = 2 ∨ j = 3 ∨ j = 4 ∨ j = 5 ∨ j = 6 ∨ j = 7 := by omega
  have h2 : k = 0 ∨ k = 1 ∨ k = 2 ∨ k = 3 ∨ k = 4 ∨ k = 5 ∨ k = 6 ∨ k = 7 := by omega
  rcases h1 with rfl | rfl | rfl | rfl | rfl | rfl | rfl | rfl <;> rcases h2 with rfl | rfl | rfl | rfl | rfl | rfl | rfl | rfl <;> decide +kernel
/-- The look for a kind's own word. -/
theorem find_own (len cap b : Nat) (hlen : 1 ≤ len) (j : Nat) (hj : j < 8) (AB : Nat) (w : World) (ha : w.cell? ⟨AB, 0, none⟩ = some (.slice (some ⟨b, 0, none⟩) len cap)) (hb : w.cell? ⟨b, 0, none⟩ = some (.string (kwA j))) :
    Calls Tryd.prog 39 #[.func (.func 40) #[] #[.pointer (some ⟨AB, 0, none⟩)]] w fun e w' => (∃ b1 b2, e = .returned (.tuple #[.int .i64 ((j : Int) + 1), .agg (kindA b1 b2 j), .bool true]) ∧ RowC w' b1 #[.int .i64 4095] 3 ∧ RowC w' b2 #[.int .i64 65535] 3) ∧ Below w.heap.size w w' := by
  refine (find_word9 len cap b hlen (kwA j) AB w ha hb).mono ?_
  rintro e w' ⟨h | h, ⟨hr1, hr2⟩, hB⟩
  · obtain ⟨i, hi8, hi, _, he⟩ := h
    simp only [kwA_inj hj hi8] at hi
    obtain rfl : i = j := by simpa using hi
    exact ⟨⟨_, _, he, hr1, hr2⟩, hB⟩
  · have := h.1 j hj
    simp only [kwA_inj hj hj] at this
    simp at this
end Go.Proofs.YtplnaejbfanioaaDoor
