/-
  The contract of act.find at the question of act.Read.
-/
import Derived.Test.YtlpcallgkciklaaGreatDoorBb
import Derived.RegionTactic
import Derived.Test.YtlpcallgkciklaaGreatDoorBc
import Derived.Test.YtlpcallgkciklaaGreatDoorGf
import Derived.Test.YtlpcallgkciklaaGreatDoorShb
import Derived.Lib.AppendIntMem
import Derived.Lib.SmallJoins
import Derived.Test.YtlpcallgkciklaaGreatDoorGg
import Derived.Deep.Cut
import Derived.WalkSmall
import Derived.Shelf.Pu.ErrVarParseUint
namespace Go.Proofs.YtlpcallgkciklaaGreatDoor
open Go.RowKit
set_option linter.unusedVariables false

set_option maxRecDepth 100000 in
set_option maxHeartbeats 4000000 in
theorem read91_any (n : Int) (b1 b2 k len cap b : Nat) (hlen : 1 ≤ len) (s : ByteArray) (CB : Nat) (w : World) (h1 : w.cell? ⟨CB, 0, none⟩ = some (.slice (some ⟨b, 0, none⟩) len cap)) (h2 : w.cell? ⟨b, 0, none⟩ = some (.string s)) :
    Calls Tryz.prog 141 #[.int .i64 n, .agg (kindA b1 b2 k), .pointer (some ⟨CB, 0, none⟩)] w fun e w' => e = .returned (.bool ((kwA k).toList == s.toList)) ∧ Below w.heap.size w w' := by
  obtain ⟨F, cap', hkm⟩ := kmA_func b1 b2 k
  simp only [kindA, hkm]
  have hB : Below w.heap.size w (w.alloc (.cells #[.string (kwA k), .int .u32 (kcA k), .bool (knA k), .func (.func F) #[] cap'] 131)) := (Below.refl _ _).alloc (Nat.le_refl _) _
  have l1 := World.block_lt_of_cell? _ _ h1
  have l2 := World.block_lt_of_cell? _ _ h2
  have k1 := (hB.cell (p := ⟨CB, 0, none⟩) l1).trans h1
  have k2 := (hB.cell (p := ⟨b, 0, none⟩) l2).trans h2
  have c0 := (RowC.new w #[.string (kwA k), .int .u32 (kcA k), .bool (knA k), .func (.func F) #[] cap'] 131 _ rfl).cell 0 (.string (kwA k)) rfl
  have HB := Lib.hid hB
  have i1 : (0 : Int) < (len : Int) := by omega
  clear hB l1 l2 h1 h2 hkm
  go_enter Tryz.func141, Tryz.ntmps141
  go_wp2_with fail
  generalize w.alloc (.cells #[.string (kwA k), .int .u32 (kcA k), .bool (knA k), .func (.func F) #[] cap'] 131) = W at *
  go_region
  all_goals go_wp2
  all_goals go_ret
  all_goals exact ⟨rfl, HB.out.drew⟩
set_option maxRecDepth 100000 in
set_option maxHeartbeats 8000000 in
theorem find_word9 (len cp b : Nat) (hlen : 1 ≤ len) (s : ByteArray) (AB : Nat) (w : World) (ha : w.cell? ⟨AB, 0, none⟩ = some (.slice (some ⟨b, 0, none⟩) len cp)) (hb : w.cell? ⟨b, 0, none⟩ = some (.string s)) :
    Calls Tryz.prog 89 #[.func (.func 141) #[] #[.pointer (some ⟨AB, 0, none⟩)]] w (FindR (fun j => (kwA j).toList == s.toList) w) := by
  have lA := World.block_lt_of_cell? _ _ ha
  have lB := World.block_lt_of_cell? _ _ hb
  have HA := Lib.hid (⟨ha, hb⟩ : w.cell? ⟨AB, 0, none⟩ = some (.slice (some ⟨b, 0, none⟩) len cp) ∧ w.cell? ⟨b, 0, none⟩ = some (.string s))
  obtain ⟨P, hP⟩ : ∃ P : Nat → Bool, (fun j : Nat => (kwA j).toList == s.toList) = P := ⟨_, rfl⟩
  rw [hP]
  have HP := Lib.hid hP
  clear ha hb hP
  have HK := Lib.hid (kinds_any (w.alloc (.cells kind0 131)))
  go_enter Tryz.func89, Tryz.ntmps89
  go_wp2_with (go_at_call 105; refine HK.out.mono ?_; rintro e w1 ⟨rfl, hr1, hr2, hB1⟩)
  have ez : (w.alloc (.cells kind0 131)).heap.size = w.heap.size + 1 := by simp
  rw [ez] at hr1 hr2 hB1
  have hb0 : Below w.heap.size w w1 := ((Below.refl _ _).alloc (Nat.le_refl _) _).trans (hB1.mono (by omega))
  have hr0 : RowC w1 w.heap.size kind0 131 := (RowC.new w kind0 131 _ rfl).below hB1 (by omega)
  obtain ⟨b1, hb1⟩ : ∃ b, w.heap.size + 1 + 1 = b := ⟨_, rfl⟩
  obtain ⟨b2, hb2⟩ : ∃ b, w.heap.size + 1 + 1 + 1 = b := ⟨_, rfl⟩
  rw [hb1] at hr1
  rw [hb2] at hr2
  have HB1 := Lib.hid hb1
  have HB2 := Lib.hid hb2
  rw [hb2, hb1]
  clear hb1 hb2 hB1 ez
  go_loopw [9] (fun i wr => ∃ k : Nat, k ≤ 8 ∧ i = .int .i64 k ∧ (∀ i, i < k → P i = false) ∧ (RowC wr b1 #[.int .i64 4095] 3 ∧ RowC wr b2 #[.int .i64 65535] 3 ∧ RowC wr w.heap.size kind0 131) ∧ Below w.heap.size w wr)
    (fun i _ => 8 - (intOf i).toNat)
  case atStart => exact ⟨0, by omega, rfl, fun i h => by omega, ⟨hr1, hr2, hr0⟩, hb0⟩
  case round =>
    obtain ⟨k, hk, rfl, hno, ⟨g1, g2, g0⟩, hB⟩ := hrel
    have HNO := Lib.hid hno
    clear hno
    by_cases hlt : k < 8
    · have hix := ixK b1 b2 k hlt
      obtain ⟨F, cap, hkm⟩ := kmA_func b1 b2 k
      have i1 : (0 : Int) ≤ (k : Int) := by omega
      have i2 : (k : Int) < 8 := by omega
      have hs := hB.size
      have hcl : Calls Tryz.prog 141 #[.int .i64 ((k : Int) + 1), .agg (kindA b1 b2 k), .pointer (some ⟨AB, 0, none⟩)] (wr.alloc (.cells (kindA b1 b2 k) 131)) fun e w' => e = .returned (.bool (P k)) ∧ Below (wr.alloc (.cells (kindA b1 b2 k) 131)).heap.size (wr.alloc (.cells (kindA b1 b2 k) 131)) w' := by
        have hBa : Below w.heap.size w (wr.alloc (.cells (kindA b1 b2 k) 131)) := hB.alloc hs _
        have := read91_any ((k : Int) + 1) b1 b2 k len cp b hlen s AB _ ((hBa.cell (p := ⟨AB, 0, none⟩) lA).trans HA.out.1) ((hBa.cell (p := ⟨b, 0, none⟩) lB).trans HA.out.2)
        rw [show ((kwA k).toList == s.toList) = P k from congrFun HP.out k] at this
        exact this
      have hg0 := g0.alloc (.cells (kindA b1 b2 k) 131)
      have hg1 := g1.alloc (.cells (kindA b1 b2 k) 131)
      have hg2 := g2.alloc (.cells (kindA b1 b2 k) 131)
      have hFin : Hid (kindA b1 b2 k = #[.string (kwA k), .int .u32 (kcA k), .bool (knA k), .func (.func F) #[] cap]) := Lib.hid (by unfold kindA; rw [hkm])
      simp only [kindA, hkm] at hix hcl hg0 hg1 hg2
      have HCL := Lib.hid hcl
      have HG0 := Lib.hid hg0
      have HG1 := Lib.hid hg1
      have HG2 := Lib.hid hg2
      have HBW := Lib.hid hB
      clear hcl g1 g2 g0 hB hkm hg0 hg1 hg2
      cases hp : P k
      · rw [hp] at HCL
        have HPK := Lib.hid hp
        clear hp
        go_wp2_with (go_at_call 141; refine HCL.out.mono ?_; rintro e w5 ⟨rfl, hB5⟩)
        have q0 := HG0.out
        have q1 := HG1.out
        have q2 := HG2.out
        exact ⟨⟨k + 1, by omega, by go_num, fun i hi => by
          by_cases h : i = k
          · subst h; exact HPK.out
          · exact HNO.out i (by omega), ⟨q1.below hB5 q1.lt, q2.below hB5 q2.lt, q0.below hB5 q0.lt⟩, (HBW.out.alloc hs _).trans (hB5.mono (by simp; omega))⟩, by simp [intOf]; omega⟩
      · rw [hp] at HCL
        have HPK := Lib.hid hp
        clear hp
        go_wp2_with (go_at_call 141; refine HCL.out.mono ?_; rintro e w5 ⟨rfl, hB5⟩)
        have q0 := HG0.out
        have q1 := HG1.out
        have q2 := HG2.out
        have s1 := q1.below hB5 q1.lt
        have s2 := q2.below hB5 q2.lt
        have r3 := q0.below hB5 q0.lt
        have r6 : RowC w5 wr.heap.size #[.string (kwA k), .int .u32 (kcA k), .bool (knA k), .func (.func F) #[] cap] 131 := (RowC.new wr _ 131 _ rfl).below hB5 (by simp)
        have hB6 : Below w.heap.size w w5 := (HBW.out.alloc hs _).trans (hB5.mono (by simp; omega))
        have c0 := r6.cell 0 _ rfl
        have c1 := r6.cell 1 _ rfl
        have c2 := r6.cell 2 _ rfl
        have c3 := r6.cell 3 _ rfl
        have R1 := Lib.hid s1
        have R2 := Lib.hid s2
        have R3 := Lib.hid r3
        have HB6 := Lib.hid hB6
        clear q1 q2 q0 s1 s2 r6 hB6 hB5
        have d0 := R3.out.cell 0 _ rfl
        have d1 := R3.out.cell 1 _ rfl
        have d2 := R3.out.cell 2 _ rfl
        have d3 := R3.out.cell 3 _ rfl
        have f0 := R3.out.frozen 0
        have f1 := R3.out.frozen 1
        have f2 := R3.out.frozen 2
        have f3 := R3.out.frozen 3
        clear r3
        go_region
        all_goals go_wp2
        have hrow : RowC ((((w5.setCell ⟨w.heap.size, 0, none⟩ (.string (kwA k))).setCell ⟨w.heap.size, 1, none⟩ (.int .u32 (kcA k))).setCell ⟨w.heap.size, 2, none⟩ (.bool (knA k))).setCell ⟨w.heap.size, 3, none⟩ (.func (.func F) #[] cap)).drew w.heap.size #[.string (kwA k), .int .u32 (kcA k), .bool (knA k), .func (.func F) #[] cap] 131 := (((R3.out.set 0 (.string (kwA k))).set 1 (.int .u32 (kcA k))).set 2 (.bool (knA k))).set 3 (.func (.func F) #[] cap)
        have n1 : b1 ≠ w.heap.size := by have := HB1.out; omega
        have n2 : b2 ≠ w.heap.size := by have := HB2.out; omega
        have hr1 : RowC ((((w5.setCell ⟨w.heap.size, 0, none⟩ (.string (kwA k))).setCell ⟨w.heap.size, 1, none⟩ (.int .u32 (kcA k))).setCell ⟨w.heap.size, 2, none⟩ (.bool (knA k))).setCell ⟨w.heap.size, 3, none⟩ (.func (.func F) #[] cap)).drew b1 #[.int .i64 4095] 3 := (((R1.out.setOther 0 _ n1).setOther 1 _ n1).setOther 2 _ n1).setOther 3 _ n1
        have hr2 : RowC ((((w5.setCell ⟨w.heap.size, 0, none⟩ (.string (kwA k))).setCell ⟨w.heap.size, 1, none⟩ (.int .u32 (kcA k))).setCell ⟨w.heap.size, 2, none⟩ (.bool (knA k))).setCell ⟨w.heap.size, 3, none⟩ (.func (.func F) #[] cap)).drew b2 #[.int .i64 65535] 3 := (((R2.out.setOther 0 _ n2).setOther 1 _ n2).setOther 2 _ n2).setOther 3 _ n2
        have hbe : Below w.heap.size w ((((w5.setCell ⟨w.heap.size, 0, none⟩ (.string (kwA k))).setCell ⟨w.heap.size, 1, none⟩ (.int .u32 (kcA k))).setCell ⟨w.heap.size, 2, none⟩ (.bool (knA k))).setCell ⟨w.heap.size, 3, none⟩ (.func (.func F) #[] cap)).drew := ((((HB6.out.setCell (by simp) _).setCell (by simp) _).setCell (by simp) _).setCell (by simp) _).drew
        all_goals
          refine bodyPost_ret (results_tct Tryz.results89 _ _ w.heap.size _ _ (0, 0) _ (.int .i64 ((k : Int) + 1)) (.bool true) (by rfl) (by rfl) (by rfl) hrow Tryz.underlying131 (by rfl) (show _ = some 4 from infoK)) rfl ?_
          refine ⟨.inl ⟨k, hlt, HPK.out, HNO.out, ?_⟩, ?_, hbe⟩
          · rw [HB2.out, HB1.out, hFin.out]
          · rw [HB2.out, HB1.out]; exact ⟨hr1, hr2⟩
    · obtain rfl : k = 8 := by omega
      have G0 := Lib.hid g0
      have G1 := Lib.hid g1
      have G2 := Lib.hid g2
      have HBW := Lib.hid hB
      clear g0 g1 g2 hB
      go_wp2_with (refine wpList_store_row (by rfl) 131 _ _ (by rfl) w.heap.size kind0 (by rfl) (by rfl) _ _ G0.out (show _ = some kind0.size from infoK) (by rfl) (by simp [Value.oneCell']) ?_)
      refine bodyPost_ret (results_tct Tryz.results89 _ _ w.heap.size _ kind0 (0, 0) _ (.int .i64 0) (.bool false) (by rfl) (by rfl) (by rfl) (setRow_heap _ _ _ _ _ _ G0.out) Tryz.underlying131 (by rfl) (show _ = some kind0.size from infoK)) rfl ?_
      refine ⟨.inr ⟨HNO.out, rfl⟩, ?_, below_setRow HBW.out (Nat.le_refl _) _⟩
      rw [HB2.out, HB1.out]
      exact ⟨G1.out.setRow _ (by have := HB1.out; omega), G2.out.setRow _ (by have := HB2.out; omega)⟩


theorem kwA_inj {j k : Nat} (hj : j < 8) (hk : k < 8) : ((kwA k).toList == (kwA j).toList) = (k == j) := by
  have h1 : j = 0 ∨ j = 1 ∨ j = 2 ∨ j = 3 ∨ j = 4 ∨ j = 5 ∨ j = 6 ∨ j = 7 := by omega
  have h2 : k = 0 ∨ k = 1 ∨ k = 2 ∨ k = 3 ∨ k = 4 ∨ k = 5 ∨ k = 6 ∨ k = 7 := by omega
  rcases h1 with rfl | rfl | rfl | rfl | rfl | rfl | rfl | rfl <;> rcases h2 with rfl | rfl | rfl | rfl | rfl | rfl | rfl | rfl <;> decide +kernel
/-- The look for a kind's own word. -/
theorem find_own (len cap b : Nat) (hlen : 1 ≤ len) (j : Nat) (hj : j < 8) (AB : Nat) (w : World) (ha : w.cell? ⟨AB, 0, none⟩ = some (.slice (some ⟨b, 0, none⟩) len cap)) (hb : w.cell? ⟨b, 0, none⟩ = some (.string (kwA j))) :
    Calls Tryz.prog 89 #[.func (.func 141) #[] #[.pointer (some ⟨AB, 0, none⟩)]] w fun e w' => (∃ b1 b2, e = .returned (.tuple #[.int .i64 ((j : Int) + 1), .agg (kindA b1 b2 j), .bool true]) ∧ RowC w' b1 #[.int .i64 4095] 3 ∧ RowC w' b2 #[.int .i64 65535] 3) ∧ Below w.heap.size w w' := by
  refine (find_word9 len cap b hlen (kwA j) AB w ha hb).mono ?_
  rintro e w' ⟨h | h, ⟨hr1, hr2⟩, hB⟩
  · obtain ⟨i, hi8, hi, _, he⟩ := h
    simp only [kwA_inj hj hi8] at hi
    obtain rfl : i = j := by simpa using hi
    exact ⟨⟨_, _, he, hr1, hr2⟩, hB⟩
  · have := h.1 j hj
    simp only [kwA_inj hj hj] at this
    simp at this
end Go.Proofs.YtlpcallgkciklaaGreatDoor

/-
  The contracts of act.Right, act.Text and of strainerlaw09's 'of' (a seat that holds strconv.Itoa's contract: its Shelf text).
-/
namespace Go.Proofs.YtlpcallgkciklaaGreatDoor
open Go.RowKit

set_option maxRecDepth 100000 in
set_option maxHeartbeats 4000000 in
theorem rightA_ok (j : Nat) (hj : j < 8) (nm : Int) (hm : mayA j nm = true) (w : World) :
    Calls Tryz.prog 40 #[.agg #[.int .i64 ((j : Int) + 1), .int .i64 nm]] w fun e w' => e = .returned (.bool true) ∧ Below w.heap.size w w' := by
  have HF := Lib.hid (kindOf_ok j hj nm hm (w.alloc (.cells #[.int .i64 ((j : Int) + 1), .int .i64 nm] 28)))
  have hb : Below w.heap.size w (w.alloc (.cells #[.int .i64 ((j : Int) + 1), .int .i64 nm] 28)) := (Below.refl _ _).alloc (Nat.le_refl _) _
  have HB := Lib.hid hb
  clear hb hm
  go_enter Tryz.func40, Tryz.ntmps40
  go_wp2_with fail
  refine HF.out.mono ?_
  rintro e w1 ⟨⟨F, cap, rfl⟩, hB1⟩
  have HBE := Lib.hid ((HB.out.trans (hB1.mono HB.out.size)).alloc (by have := HB.out.size; have := hB1.size; omega) (.cells #[.string (kwA j), .int .u32 (kcA j), .bool (knA j), .func (.func F) #[] cap] 131))
  clear hB1
  go_wp2
  go_ret
  exact ⟨rfl, HBE.out⟩
set_option maxRecDepth 100000 in
set_option maxHeartbeats 4000000 in
theorem rightA_no (kd nm : Int) (hno : ∀ j : Nat, j < 8 → kd = (j : Int) + 1 → mayA j nm = false) (w : World) :
    Calls Tryz.prog 40 #[.agg #[.int .i64 kd, .int .i64 nm]] w fun e w' => e = .returned (.bool false) ∧ Below w.heap.size w w' := by
  have HF := Lib.hid (kindOf_no kd nm hno (w.alloc (.cells #[.int .i64 kd, .int .i64 nm] 28)))
  have hb : Below w.heap.size w (w.alloc (.cells #[.int .i64 kd, .int .i64 nm] 28)) := (Below.refl _ _).alloc (Nat.le_refl _) _
  have HB := Lib.hid hb
  clear hb hno
  go_enter Tryz.func40, Tryz.ntmps40
  go_wp2_with fail
  refine HF.out.mono ?_
  rintro e w1 ⟨rfl, hB1⟩
  have hz := hB1.size
  have HBE := Lib.hid ((HB.out.trans (hB1.mono HB.out.size)).alloc (by have := HB.out.size; omega) (.cells kind0 131))
  clear hB1
  go_wp2
  go_ret
  exact ⟨rfl, HBE.out⟩

/-- An action's text. -/
def txtA (j : Nat) (nm : Int) : ByteArray := if knA j = true then (kwA j ++ ⟨#[32]⟩) ++ ⟨(Lib.itoa nm).toArray⟩ else kwA j
theorem itoa_size {nm : Int} (h0 : 0 ≤ nm) (h1 : nm ≤ 65535) : (Lib.itoa nm).length ≤ 5 := by
  obtain ⟨u, rfl⟩ := Int.eq_ofNat_of_zero_le h0
  rw [Lib.itoa_nonneg, Lib.decDigits_length]
  have h : ∀ k, k < 65536 → Lib.nDigits k ≤ 5 := by
    intro k hk
    by_cases a1 : k < 10
    · rw [Lib.nDigits_small a1]; omega
    by_cases a2 : k < 100
    · rw [Lib.nDigits_unique 1 k (by omega) (by omega)]; omega
    by_cases a3 : k < 1000
    · rw [Lib.nDigits_unique 2 k (by omega) (by omega)]; omega
    by_cases a4 : k < 10000
    · rw [Lib.nDigits_unique 3 k (by omega) (by omega)]; omega
    · rw [Lib.nDigits_unique 4 k (by omega) (by omega)]; omega
  exact h u (by omega)
theorem kw_size (j : Nat) : (kwA j).size ≤ 11 := by unfold kwA; split <;> decide

set_option maxRecDepth 100000 in
set_option maxHeartbeats 4000000 in
theorem text_plain (j : Nat) (hj : j < 8) (nm : Int) (hm : mayA j nm = true) (hk : knA j = false) (w : World) :
    Calls Tryz.prog 45 #[.agg #[.int .i64 ((j : Int) + 1), .int .i64 nm]] w fun e w' => e = .returned (.string (kwA j)) ∧ Below w.heap.size w w' := by
  have HF := Lib.hid (kindOf_ok j hj nm hm (w.alloc (.cells #[.int .i64 ((j : Int) + 1), .int .i64 nm] 28)))
  have hb : Below w.heap.size w (w.alloc (.cells #[.int .i64 ((j : Int) + 1), .int .i64 nm] 28)) := (Below.refl _ _).alloc (Nat.le_refl _) _
  have HB := Lib.hid hb
  clear hb hm
  go_enter Tryz.func45, Tryz.ntmps45
  go_wp2_with fail
  refine HF.out.mono ?_
  rintro e w1 ⟨⟨F, cap, rfl⟩, hB1⟩
  rw [hk]
  have HBE := Lib.hid ((HB.out.trans (hB1.mono HB.out.size)).alloc (by have := HB.out.size; have := hB1.size; omega) (.cells #[.string (kwA j), .int .u32 (kcA j), .bool false, .func (.func F) #[] cap] 131))
  have hr := RowC.new w1 #[.string (kwA j), .int .u32 (kcA j), .bool false, .func (.func F) #[] cap] 131 _ rfl
  have c0 := hr.cell 0 _ rfl
  have c2 := hr.cell 2 _ rfl
  clear hB1 hr
  go_wp2
  go_ret
  exact ⟨rfl, HBE.out⟩
set_option maxRecDepth 100000 in
set_option maxHeartbeats 8000000 in
theorem text_num (j : Nat) (hj : j < 8) (nm : Int) (hm : mayA j nm = true) (hk : knA j = true) (w : World) (ht : TabP w) :
    Calls Tryz.prog 45 #[.agg #[.int .i64 ((j : Int) + 1), .int .i64 nm]] w fun e w' => e = .returned (.string ((kwA j ++ ⟨#[32]⟩) ++ ⟨(Lib.itoa nm).toArray⟩)) ∧ Below w.heap.size w w' := by
  have HF := Lib.hid (kindOf_ok j hj nm hm (w.alloc (.cells #[.int .i64 ((j : Int) + 1), .int .i64 nm] 28)))
  have hb : Below w.heap.size w (w.alloc (.cells #[.int .i64 ((j : Int) + 1), .int .i64 nm] 28)) := (Below.refl _ _).alloc (Nat.le_refl _) _
  have hbd := may_bd hm
  have his := itoa_size hbd.1 hbd.2
  have hks := kw_size j
  have r0 : RowC (w.alloc (.cells #[.int .i64 ((j : Int) + 1), .int .i64 nm] 28)) w.heap.size #[.int .i64 ((j : Int) + 1), .int .i64 nm] 28 := RowC.new _ _ _ _ rfl
  have R0 := Lib.hid r0
  have HB := Lib.hid hb
  have HT := Lib.hid ht
  clear hb hm r0 ht
  go_enter Tryz.func45, Tryz.ntmps45
  go_wp2_with fail
  refine HF.out.mono ?_
  rintro e w1 ⟨⟨F, cap, rfl⟩, hB1⟩
  rw [hk]
  have hbe := ((HB.out.trans (hB1.mono HB.out.size)).alloc (by have := HB.out.size; have := hB1.size; omega) (.cells #[.string (kwA j), .int .u32 (kcA j), .bool true, .func (.func F) #[] cap] 131))
  have HBE := Lib.hid hbe
  have hr := RowC.new w1 #[.string (kwA j), .int .u32 (kcA j), .bool true, .func (.func F) #[] cap] 131 _ rfl
  have c0 := hr.cell 0 (.string (kwA j)) rfl
  have c2 := hr.cell 2 (.bool true) rfl
  have a1 := ((R0.out.below hB1 R0.out.lt).alloc (.cells #[.string (kwA j), .int .u32 (kcA j), .bool true, .func (.func F) #[] cap] 131)).cell 1 (.int .i64 nm) rfl
  have HI := Lib.hid fun W h => Tryz.strconv_Itoa nm (by omega) (by omega) W h
  have HD := Lib.hid (tab_on HT.out hbe.drew (Nat.le_refl _))
  have s3 : ¬ 9223372036854775807 < (kwA j).size + 1 := by omega
  have s4 : ¬ 9223372036854775807 < (kwA j).size + 1 + (Lib.itoa nm).length := by omega
  have l0 := World.block_lt_of_cell? _ _ c0
  have l1 := World.block_lt_of_cell? _ _ a1
  have HC0 := Lib.hid (show World.cell? (w1.alloc (.cells #[.string (kwA j), .int .u32 (kcA j), .bool true, .func (.func F) #[] cap] 131)).drew _ = _ from c0)
  have HA1 := Lib.hid (show World.cell? (w1.alloc (.cells #[.string (kwA j), .int .u32 (kcA j), .bool true, .func (.func F) #[] cap] 131)).drew _ = _ from a1)
  have L0 := Lib.hid l0
  have L1 := Lib.hid l1
  clear hB1 hr hbe l0 l1
  go_wp2_with fail
  generalize (w1.alloc (.cells #[.string (kwA j), .int .u32 (kcA j), .bool true, .func (.func F) #[] cap] 131)) = W at *
  generalize w1.heap.size = B at *
  generalize hA : w.heap.size = A at *
  have HA := Lib.hid hA
  clear hA
  have HJ : Hid (Calls Tryz.prog 71 #[.int .i64 nm] W.drew fun e w' => e = .returned (.string ⟨(Lib.itoa nm).toArray⟩) ∧ w'.cell? ⟨B, 0, none⟩ = some (.string (kwA j)) ∧ w'.cell? ⟨A, 1, none⟩ = some (.int .i64 nm) ∧ Below A w w') := Lib.hid ((HI.out _ HD.out).mono (by
    rintro e w2 ⟨rfl, k, os, rfl⟩
    exact ⟨rfl, ((Lib.below_grow _ W.drew (Nat.le_refl _) k os).cell (p := ⟨B, 0, none⟩) L0.out).trans HC0.out, ((Lib.below_grow _ W.drew (Nat.le_refl _) k os).cell (p := ⟨A, 1, none⟩) L1.out).trans HA1.out, HBE.out.drew.trans (Lib.below_grow _ _ (by have := HBE.out.drew.size; rw [HA.out] at this; exact this) _ _)⟩))
  clear HI HD HC0 HA1 L0 L1
  go_region_with (go_at_call 71; refine HJ.out.mono ?_; rintro e w2 ⟨rfl, e0, e1, hb2⟩)
  all_goals go_wp2
  all_goals go_ret
  all_goals exact ⟨rfl, by rw [HA.out]; exact hb2⟩

end Go.Proofs.YtlpcallgkciklaaGreatDoor

/-
  act.plain at a number's decimal text; act.Read at a right action's words.
-/
namespace Go.Proofs.YtlpcallgkciklaaGreatDoor
open Go.Shelf Go.RowKit
set_option linter.unusedVariables false

theorem parse_decM (M : Nat) (hM : M ≤ 18446744073709551615) : ∀ (u : Nat), u ≤ M → ∀ r, Lib.parseUintM M 0 (Lib.decDigits u ++ r) = Lib.parseUintM M u r := by
  intro u
  induction u using Nat.strongRecOn with
  | _ u ih =>
    intro hu r
    by_cases h : u < 10
    · rw [Lib.decDigits_one h, List.singleton_append, Lib.parseUintM, dig_nat h, if_pos (by omega), if_neg (by omega), if_neg (by omega)]
      congr 1
      omega
    · rw [Lib.decDigits, dif_neg h, List.append_assoc, ih (u / 10) (by omega) (by omega), List.singleton_append, Lib.parseUintM, dig_nat (Nat.mod_lt _ (by omega)), if_pos (by omega), if_neg (by omega), if_neg (by omega)]
      congr 1
      omega
theorem parse_ok32 (u : Nat) (hu : u ≤ 4294967295) : Lib.parseUintB 32 (dec u).data.toList = .ok u := by
  show Lib.parseUintB 32 (Lib.decDigits u) = .ok u
  rw [Lib.parseUintB, if_neg (decDigits_ne u)]
  have := parse_decM (2 ^ 32 - 1) (by omega) u (by omega) []
  rw [List.append_nil] at this
  exact this
theorem dec_size (u : Nat) (hu : u ≤ 65535) : (dec u).size ≤ 5 := by
  show (Lib.decDigits u).toArray.size ≤ _
  have h := itoa_size (nm := (u : Int)) (by omega) (by omega)
  rw [Lib.itoa_nonneg] at h
  simpa using h
theorem parseU32_ok (u : Nat) (hu : u ≤ 65535) (w : World) : Calls Tryz.prog 176 #[.string (dec u), .int .i64 10, .int .i64 32] w fun e w' => e = .returned (.tuple #[.int .u64 u, .nilIface]) ∧ Below w.heap.size w w' := by
  refine (Any.strconv_ParseUint_10_at32_ok Tryz.laysPu14 (dec u) (by have := dec_size u hu; omega) u (parse_ok32 u (by omega)) w).mono ?_
  rintro e w' ⟨he, rfl | rfl⟩
  · exact ⟨he, Below.refl _ _⟩
  · exact ⟨he, below_bytes _ _ _⟩
set_option maxRecDepth 100000 in
set_option maxHeartbeats 4000000 in
theorem plain_ok (u : Nat) (hu : u ≤ 65535) (w : World) (ht : TabP w) :
    Calls Tryz.prog 142 #[.string (dec u)] w fun e w' => e = .returned (.tuple #[.int .i64 u, .bool true]) ∧ Below w.heap.size w w' := by
  have HP := Lib.hid (parseU32_ok u hu w)
  have HT := Lib.hid ht
  have HF := Lib.hid fun W hW => fmtU_any u (by omega) W hW
  have hsz := dec_size u hu
  clear ht
  generalize dec u = S at HP HF hsz ⊢
  have e0 : (S.toList != S.toList) = false := by simp
  have e1 : (S.toList == S.toList) = true := by simp
  have q0 : ¬ (S.size : Int) > 9 := by omega
  have q1 : decide ((S.size : Int) > 9) = false := by simpa using q0
  have v0 : IntKind.i64.wrap (u : Int) = u := by rw [IntKind.wrap_i64]; omega
  go_enter Tryz.func142, Tryz.ntmps142
  go_wp2_with fail
  refine HP.out.mono ?_
  rintro e w2 ⟨rfl, hB2⟩
  have HW := Lib.hid (HF.out w2 (tab_on HT.out hB2 (Nat.le_refl _)))
  have HB2 := Lib.hid hB2
  clear hB2
  go_wp2_with (go_at_call 110; refine HW.out.mono ?_; rintro e w3 ⟨rfl, hB3⟩)
  go_ret2
  exact ⟨rfl, HB2.out.trans (hB3.mono HB2.out.size)⟩
theorem results_ctt9 {P : Program} {fn : Func} {p q r : Tmp} {ty : TypeId} (h : fn.results = #[.cell p ty, .tmp q, .tmp r]) (tmps : Array Value) (w : World) (g : Nat) (t : TypeId) (cs : Array Value) (fr : Nat × Nat) (d : TypeDesc) (u v : Value)
    (hp : tmps.getD p undef = .pointer (some ⟨g, 0, none⟩)) (hq : tmps.getD q undef = u) (hr : tmps.getD r undef = v) (hg : w.heap[g]? = some (.cells cs t fr))
    (hu : P.underlying ty = some d) (hd : (match d with | .struct _ | .array _ _ => true | _ => false) = true) (hi : (P.info? ty).map (·.size) = some cs.size) :
    (results fn tmps).run P w = .ok (.tuple #[.agg cs, u, v]) w := by
  have hp' : tmps[p]?.getD undef = .pointer (some ⟨g, 0, none⟩) := by simpa using hp
  have hq' : tmps[q]?.getD undef = u := by simpa using hq
  have hr' : tmps[r]?.getD undef = v := by simpa using hr
  simp [results, h, hp', hq', hr', asAddr, run_loadVar_row w g t ty cs fr d hg hu hd hi, Result.andThen]
theorem infoAct : (Tryz.prog.info? 28).map (·.size) = some 2 := by kernel_rfl
abbrev zA : Array Value := #[.int .i64 0, .int .i64 0]

set_option maxRecDepth 100000 in
set_option maxHeartbeats 8000000 in
theorem readA_plain (j : Nat) (hj : j < 8) (hk : knA j = false) (b len cap : Nat) (hlen : 1 ≤ len) (w : World) (c0 : w.cell? ⟨b, 0, none⟩ = some (.string (kwA j))) :
    Calls Tryz.prog 112 #[.slice (some ⟨b, 0, none⟩) len cap] w fun e w' => e = .returned (.tuple #[.agg #[.int .i64 ((j : Int) + 1), .int .i64 0], .int .i64 1, .int .i64 0]) ∧ Below w.heap.size w w' := by
  have lb : b < w.heap.size := World.block_lt_of_cell? _ _ c0
  obtain ⟨W0, hW0⟩ : ∃ W, (w.alloc (.cells #[.slice (some ⟨b, 0, none⟩) len cap] 95)).alloc (.cells zA 28) = W := ⟨_, rfl⟩
  have hb0 : Below w.heap.size w W0 := by rw [← hW0]; exact ((Below.refl _ _).alloc (Nat.le_refl _) _).alloc (by simp) _
  have rb : RowC W0 w.heap.size #[.slice (some ⟨b, 0, none⟩) len cap] 95 := by rw [← hW0]; exact (RowC.new _ _ _ _ rfl).alloc _
  have r2 : RowC W0 (w.heap.size + 1) zA 28 := by rw [← hW0]; exact RowC.new _ _ _ _ (by simp)
  have kb := rb.cell 0 (.slice (some ⟨b, 0, none⟩) len cap) rfl
  have k0 := (hb0.cell (p := ⟨b, 0, none⟩) lb).trans c0
  have HFW := Lib.hid (find_own len cap b (by omega) j hj w.heap.size W0 kb k0)
  have HB0 := Lib.hid hb0
  have RB := Lib.hid rb
  have R2 := Lib.hid r2
  have HW0 := Lib.hid hW0
  have LB := Lib.hid (Nat.lt_of_lt_of_le lb hb0.size)
  have ie : ((len : Int) == 0) = false := by simp; omega
  have hkb : Hid (W0.cell? ⟨w.heap.size, 0, none⟩ = some (.slice (some ⟨b, 0, none⟩) len cap)) := Lib.hid kb
  have kb' := kb
  rw [← hW0] at kb'
  clear kb k0 hb0 rb r2 hW0 c0 lb
  go_enter Tryz.func112, Tryz.ntmps112
  go_wp2_with fail
  rw [HW0.out]
  clear kb'
  refine HFW.out.mono ?_
  rintro e w2 ⟨⟨b1, b2, rfl, hr1, hr2⟩, hB2⟩
  obtain ⟨F, cap', hkm⟩ := kmA_func b1 b2 j
  have HKM := Lib.hid hkm
  simp only [kindA, hkm]
  rw [hk]
  have hs2 := hB2.size
  obtain ⟨V, hV⟩ : ∃ V, w2.alloc (.cells #[.string (kwA j), .int .u32 (kcA j), .bool false, .func (.func F) #[] cap'] 131) = V := ⟨_, rfl⟩
  have r6 : RowC V w2.heap.size #[.string (kwA j), .int .u32 (kcA j), .bool false, .func (.func F) #[] cap'] 131 := by rw [← hV]; exact RowC.new _ _ _ _ rfl
  have h02 : Below W0.heap.size W0 V := by rw [← hV]; exact hB2.alloc (by omega) _
  have R6 := Lib.hid r6
  have H02 := Lib.hid h02
  have HV := Lib.hid hV
  have q2 := R2.out.below h02 R2.out.lt
  have z0 := q2.cell 0 (.int .i64 0) rfl
  have z1 := q2.cell 1 (.int .i64 0) rfl
  have g0 := q2.frozen 0
  have g1 := q2.frozen 1
  have m2 := r6.cell 2 (.bool false) rfl
  have m3 := r6.cell 3 (.func (.func F) #[] cap') rfl
  have Q2 := Lib.hid q2
  clear r6 h02 hB2 hs2 q2 hkm hV
  go_upto_region 4 with fail
  rw [HV.out]
  have HBQ := HB0.out.trans (H02.out.mono HB0.out.size)
  go_wp2
  exact bodyPost_ret (results_ctt9 Tryz.results112 _ _ (w.heap.size + 1) _ _ (0, 0) _ (.int .i64 1) (.int .i64 0) (by rfl) (by rfl) (by rfl) (show RowC _ (w.heap.size + 1) #[.int .i64 ((j : Int) + 1), .int .i64 0] 28 from (Q2.out.set 0 (.int .i64 ((j : Int) + 1))).set 1 (.int .i64 0)) Tryz.underlying28 (by rfl) (show _ = some 2 from infoAct)) rfl
    ⟨rfl, (HBQ.setCell (Nat.le_succ _) _).setCell (Nat.le_succ _) _⟩

set_option maxRecDepth 100000 in
set_option maxHeartbeats 8000000 in
theorem readA_num (j : Nat) (hj : j < 8) (hk : knA j = true) (u : Nat) (hu : u ≤ 65535) (hmay : mayA j (u : Int) = true) (b len cap : Nat) (hlen : 2 ≤ len) (w : World) (ht : TabP w) (c0 : w.cell? ⟨b, 0, none⟩ = some (.string (kwA j))) (c1 : w.cell? ⟨b, 1, none⟩ = some (.string (dec u))) :
    Calls Tryz.prog 112 #[.slice (some ⟨b, 0, none⟩) len cap] w fun e w' => e = .returned (.tuple #[.agg #[.int .i64 ((j : Int) + 1), .int .i64 u], .int .i64 2, .int .i64 0]) ∧ Below w.heap.size w w' := by
  have lb : b < w.heap.size := World.block_lt_of_cell? _ _ c0
  obtain ⟨W0, hW0⟩ : ∃ W, (w.alloc (.cells #[.slice (some ⟨b, 0, none⟩) len cap] 95)).alloc (.cells zA 28) = W := ⟨_, rfl⟩
  have hb0 : Below w.heap.size w W0 := by rw [← hW0]; exact ((Below.refl _ _).alloc (Nat.le_refl _) _).alloc (by simp) _
  have rb : RowC W0 w.heap.size #[.slice (some ⟨b, 0, none⟩) len cap] 95 := by rw [← hW0]; exact (RowC.new _ _ _ _ rfl).alloc _
  have r2 : RowC W0 (w.heap.size + 1) zA 28 := by rw [← hW0]; exact RowC.new _ _ _ _ (by simp)
  have kb := rb.cell 0 (.slice (some ⟨b, 0, none⟩) len cap) rfl
  have k0 := (hb0.cell (p := ⟨b, 0, none⟩) lb).trans c0
  have HFW := Lib.hid (find_own len cap b (by omega) j hj w.heap.size W0 kb k0)
  have HB0 := Lib.hid hb0
  have RB := Lib.hid rb
  have R2 := Lib.hid r2
  have HW0 := Lib.hid hW0
  have LB := Lib.hid (Nat.lt_of_lt_of_le lb hb0.size)
  have ie : ((len : Int) == 0) = false := by simp; omega
  have hkb : Hid (W0.cell? ⟨w.heap.size, 0, none⟩ = some (.slice (some ⟨b, 0, none⟩) len cap)) := Lib.hid kb
  have kb' := kb
  rw [← hW0] at kb'
  have K1 := Lib.hid ((hb0.cell (p := ⟨b, 1, none⟩) lb).trans c1)
  have HT0 := Lib.hid (tab_on ht hb0 (Nat.le_refl _))
  have il : decide ((len : Int) < 2) = false := by simp; omega
  have il2 : ¬ (len : Int) < 2 := by omega
  have i1 : (1 : Int) < (len : Int) := by omega
  clear c1 ht
  clear kb k0 hb0 rb r2 hW0 c0 lb
  go_enter Tryz.func112, Tryz.ntmps112
  go_wp2_with fail
  rw [HW0.out]
  clear kb'
  refine HFW.out.mono ?_
  rintro e w2 ⟨⟨b1, b2, rfl, hr1, hr2⟩, hB2⟩
  obtain ⟨F, cap', hkm⟩ := kmA_func b1 b2 j
  have HKM := Lib.hid hkm
  simp only [kindA, hkm]
  rw [hk]
  have hs2 := hB2.size
  obtain ⟨V, hV⟩ : ∃ V, w2.alloc (.cells #[.string (kwA j), .int .u32 (kcA j), .bool true, .func (.func F) #[] cap'] 131) = V := ⟨_, rfl⟩
  have r6 : RowC V w2.heap.size #[.string (kwA j), .int .u32 (kcA j), .bool true, .func (.func F) #[] cap'] 131 := by rw [← hV]; exact RowC.new _ _ _ _ rfl
  have h02 : Below W0.heap.size W0 V := by rw [← hV]; exact hB2.alloc (by omega) _
  have R6 := Lib.hid r6
  have H02 := Lib.hid h02
  have HV := Lib.hid hV
  have q2 := R2.out.below h02 R2.out.lt
  have z0 := q2.cell 0 (.int .i64 0) rfl
  have z1 := q2.cell 1 (.int .i64 0) rfl
  have g0 := q2.frozen 0
  have g1 := q2.frozen 1
  have m2 := r6.cell 2 (.bool true) rfl
  have m3 := r6.cell 3 (.func (.func F) #[] cap') rfl
  have Q2 := Lib.hid q2
  have kb := (h02.cell (p := ⟨w.heap.size, 0, none⟩) RB.out.lt).trans hkb.out
  have k1 := (h02.cell (p := ⟨b, 1, none⟩) LB.out).trans K1.out
  have HPL := Lib.hid (plain_ok u hu V (tab_on HT0.out h02 (Nat.le_refl _)))
  have hr1' : RowC V b1 #[.int .i64 4095] 3 := by rw [← hV]; exact hr1.alloc _
  have hr2' : RowC V b2 #[.int .i64 65535] 3 := by rw [← hV]; exact hr2.alloc _
  have RR1 := Lib.hid hr1'
  have RR2 := Lib.hid hr2'
  clear hr1 hr2 hr1' hr2'
  clear r6 h02 hB2 hs2 q2 hkm hV
  go_upto_region 4 with fail
  rw [HV.out]
  go_wp2_with fail
  refine HPL.out.mono ?_
  rintro e w3 ⟨rfl, hB3⟩
  have r6 := R6.out.below hB3 R6.out.lt
  have q2 := Q2.out.below hB3 Q2.out.lt
  have x1 := RR1.out.below hB3 RR1.out.lt
  have x2 := RR2.out.below hB3 RR2.out.lt
  have HBQ' := Lib.hid ((HB0.out.trans (H02.out.mono HB0.out.size)).trans (hB3.mono (by have := HB0.out.size; have := H02.out.size; omega)))
  have mm3 := r6.cell 3 (.func (.func F) #[] cap') rfl
  have zz0 := q2.cell 0 (.int .i64 0) rfl
  have zz1 := q2.cell 1 (.int .i64 0) rfl
  have gg0 := q2.frozen 0
  have gg1 := q2.frozen 1
  have QQ := Lib.hid q2
  clear z0 z1 g0 g1 m2 m3 kb k1 hB3 q2 r6
  have hj35 : j = 3 ∨ j = 5 := by
    unfold knA at hk
    simp at hk
    omega
  rcases hj35 with rfl | rfl
  · have hkm : Value.func (.func 130) #[] #[.pointer (some ⟨b1, 0, none⟩)] = .func (.func F) #[] cap' := HKM.out
    injection hkm with e1 _ e3
    injection e1 with e1
    subst e1 e3
    have HM := Lib.hid (may3_any (u : Int) b1 w3 (x1.cell 0 _ rfl))
    rw [hmay] at HM
    clear x1 x2
    go_wp2_with (go_at_call 130; refine HM.out.mono ?_; rintro e w4 ⟨rfl, rfl⟩)
    have HBQ := HBQ'.out
    exact bodyPost_ret (results_ctt9 Tryz.results112 _ _ (w.heap.size + 1) _ _ (0, 0) _ (.int .i64 2) (.int .i64 0) (by rfl) (by rfl) (by rfl) (show RowC _ (w.heap.size + 1) #[.int .i64 4, .int .i64 u] 28 from (QQ.out.set 0 (.int .i64 4)).set 1 (.int .i64 u)) Tryz.underlying28 (by rfl) (show _ = some 2 from infoAct)) rfl
      ⟨rfl, (HBQ.setCell (Nat.le_succ _) _).setCell (Nat.le_succ _) _⟩
  · have hkm : Value.func (.func 130) #[] #[.pointer (some ⟨b2, 0, none⟩)] = .func (.func F) #[] cap' := HKM.out
    injection hkm with e1 _ e3
    injection e1 with e1
    subst e1 e3
    have HM := Lib.hid (may5_any (u : Int) b2 w3 (x2.cell 0 _ rfl))
    rw [hmay] at HM
    clear x1 x2
    go_wp2_with (go_at_call 130; refine HM.out.mono ?_; rintro e w4 ⟨rfl, rfl⟩)
    have HBQ := HBQ'.out
    exact bodyPost_ret (results_ctt9 Tryz.results112 _ _ (w.heap.size + 1) _ _ (0, 0) _ (.int .i64 2) (.int .i64 0) (by rfl) (by rfl) (by rfl) (show RowC _ (w.heap.size + 1) #[.int .i64 6, .int .i64 u] 28 from (QQ.out.set 0 (.int .i64 6)).set 1 (.int .i64 u)) Tryz.underlying28 (by rfl) (show _ = some 2 from infoAct)) rfl
      ⟨rfl, (HBQ.setCell (Nat.le_succ _) _).setCell (Nat.le_succ _) _⟩
end Go.Proofs.YtlpcallgkciklaaGreatDoor

/-
  Texts of plain digits, and act.plain at every text.
-/
namespace Go.Proofs.YtlpcallgkciklaaGreatDoor
open Go.Shelf Go.RowKit
set_option linter.unusedVariables false

def valD (l : List UInt8) : Nat := l.foldl (fun n c => 10 * n + (c.toNat - 48)) 0
theorem valD_snoc (l : List UInt8) (c : UInt8) : valD (l ++ [c]) = 10 * valD l + (c.toNat - 48) := by simp [valD, List.foldl_append]
def Dig (l : List UInt8) : Prop := ∀ b ∈ l, 48 ≤ b.toNat ∧ b.toNat ≤ 57
/-- What the document tests of a number's text. -/
def Tst (l : List UInt8) : Prop := l ≠ [] ∧ l.length ≤ 9 ∧ (l.head? = some 48 → l.length ≤ 1) ∧ Dig l
theorem dig_back {c : UInt8} (h : 48 ≤ c.toNat ∧ c.toNat ≤ 57) : UInt8.ofNat (48 + (c.toNat - 48)) = c := by
  rw [show 48 + (c.toNat - 48) = c.toNat by omega, UInt8.ofNat_toNat]
theorem dec_valD : ∀ (n : Nat) (l : List UInt8), l.length = n → l ≠ [] → (l.head? = some 48 → l.length ≤ 1) → Dig l → Lib.decDigits (valD l) = l := by
  intro n
  induction n with
  | zero => intro l hl hne; exact absurd (List.eq_nil_of_length_eq_zero hl) hne
  | succ n ih =>
    intro l hl hne hh hd
    rcases List.eq_nil_or_concat l with rfl | ⟨L, c, rfl⟩
    · exact absurd rfl hne
    · simp only [List.concat_eq_append] at hl hne hh hd ⊢
      have hc := hd c (by simp)
      rw [valD_snoc]
      by_cases hL : L = []
      · subst hL
        rw [show 10 * valD [] + (c.toNat - 48) = c.toNat - 48 by simp [valD], Lib.decDigits_one (by omega), dig_back hc]
        rfl
      · have hlen : (L ++ [c]).length ≥ 2 := by
          have : L.length ≠ 0 := fun e => hL (List.eq_nil_of_length_eq_zero e)
          simp; omega
        have hhd : (L ++ [c]).head? = L.head? := by
          cases L with
          | nil => exact absurd rfl hL
          | cons a b => rfl
        have hn48 : L.head? ≠ some 48 := fun e => by have := hh (by rw [hhd]; exact e); omega
        have e := ih L (by simpa using hl) hL (fun e => absurd e hn48) (fun b hb => hd b (by simp [hb]))
        have hpos : 1 ≤ valD L := by
          rcases Nat.eq_zero_or_pos (valD L) with h0 | h0
          · rw [h0, Lib.decDigits_one (by omega)] at e
            exact absurd (by rw [← e]; rfl) hn48
          · exact h0
        rw [Lib.decDigits, dif_neg (by omega), show (10 * valD L + (c.toNat - 48)) / 10 = valD L by omega, show (10 * valD L + (c.toNat - 48)) % 10 = c.toNat - 48 by omega, e, dig_back hc]
theorem valD_dec (u : Nat) : valD (Lib.decDigits u) = u := by
  induction u using Nat.strongRecOn with
  | _ u ih =>
    by_cases h : u < 10
    · rw [Lib.decDigits_one h]
      show 10 * 0 + ((UInt8.ofNat (48 + u)).toNat - 48) = u
      rw [dig_nat h]; omega
    · rw [Lib.decDigits, dif_neg h, valD_snoc, ih (u / 10) (by omega), dig_nat (Nat.mod_lt _ (by omega))]
      omega
theorem dec_len_pow : ∀ (k u : Nat), u < 10 ^ (k + 1) → (Lib.decDigits u).length ≤ k + 1 := by
  intro k
  induction k with
  | zero => intro u h; rw [Lib.decDigits_one (by omega)]; simp
  | succ k ih =>
    intro u h
    by_cases h10 : u < 10
    · rw [Lib.decDigits_one h10]; simp
    · rw [Lib.decDigits, dif_neg h10, List.length_append]
      have := ih (u / 10) (by rw [Nat.pow_succ] at h; omega)
      simp
      omega
theorem dec_head (u : Nat) : (Lib.decDigits u).head? = some 48 → u < 10 := by
  induction u using Nat.strongRecOn with
  | _ u ih =>
    intro h
    by_cases h10 : u < 10
    · exact h10
    · rw [Lib.decDigits, dif_neg h10] at h
      have hne := decDigits_ne (u / 10)
      have hh : (Lib.decDigits (u / 10)).head? = some 48 := by
        cases hl : Lib.decDigits (u / 10) with
        | nil => exact absurd hl hne
        | cons a b => rw [hl] at h; exact h
      have hlt := ih (u / 10) (by omega) hh
      rw [Lib.decDigits_one hlt] at hh
      have e : UInt8.ofNat (48 + u / 10) = 48 := by simpa using hh
      have := congrArg UInt8.toNat e
      rw [dig_nat hlt] at this
      have h48 : (48 : UInt8).toNat = 48 := rfl
      omega
theorem tst_dec (u : Nat) (hu : u < 1000000000) : Tst (Lib.decDigits u) := by
  refine ⟨decDigits_ne u, dec_len_pow 8 u (by omega), fun h => ?_, decDigits_dig u⟩
  rw [Lib.decDigits_one (dec_head u h)]
  simp
theorem dec_tst {l : List UInt8} (h : Tst l) : Lib.decDigits (valD l) = l ∧ valD l < 1000000000 := by
  have e := dec_valD l.length l rfl h.1 h.2.2.1 h.2.2.2
  refine ⟨e, ?_⟩
  by_cases hb : valD l < 1000000000
  · exact hb
  · exfalso
    have hlen : ∀ (k u : Nat), 10 ^ k ≤ u → k + 1 ≤ (Lib.decDigits u).length := by
      intro k
      induction k with
      | zero =>
        intro u _
        have := decDigits_ne u
        have : (Lib.decDigits u).length ≠ 0 := fun e => this (List.eq_nil_of_length_eq_zero e)
        omega
      | succ k ih =>
        intro u h
        have h10 : ¬ u < 10 := by
          have : 10 ^ 1 ≤ 10 ^ (k + 1) := Nat.pow_le_pow_right (by omega) (by omega)
          omega
        rw [Lib.decDigits, dif_neg h10, List.length_append]
        have := ih (u / 10) (by rw [Nat.pow_succ] at h; omega)
        simp
        omega
    have := hlen 9 (valD l) (by omega)
    rw [e] at this
    have := h.2.1
    omega
/-- The number that a text is, if it is one. -/
theorem num_cases (s : ByteArray) : (∃ u, u < 1000000000 ∧ s = dec u ∧ Tst s.data.toList) ∨ ((∀ u, u < 1000000000 → s ≠ dec u) ∧ ¬ Tst s.data.toList) := by
  by_cases h : Tst s.data.toList
  · obtain ⟨e, hb⟩ := dec_tst h
    refine .inl ⟨valD s.data.toList, hb, ?_, h⟩
    apply ByteArray.ext
    show s.data = (Lib.decDigits (valD s.data.toList)).toArray
    rw [e]
  · refine .inr ⟨fun u hu e => h ?_, h⟩
    rw [e]
    exact tst_dec u hu

/-- The two listed errors are there. -/
abbrev ErrP (w : World) : Prop := (∃ tp p, w.var? Tryz.prog "strconv.ErrSyntax" = some #[.iface tp p]) ∧ (∃ tp p, w.var? Tryz.prog "strconv.ErrRange" = some #[.iface tp p])
theorem var_on {n : String} {w w' : World} {B : Nat} {cs : Array Value} (h : w.var? Tryz.prog n = some cs) (hb : Below B w w') (hB : w.heap.size ≤ B) : w'.var? Tryz.prog n = some cs := by
  cases hg : Tryz.prog.globalNamed n with
  | none => simp [World.var?, hg] at h
  | some g =>
    have hlt : g < w.heap.size := by
      unfold World.var? at h
      rw [hg] at h
      simp only [Option.bind_some] at h
      rcases Nat.lt_or_ge g w.heap.size with h' | h'
      · exact h'
      · rw [Array.getElem?_eq_none h'] at h; simp at h
    exact var?_below hb hg (by omega) h
theorem err_on {w w' : World} {B : Nat} (h : ErrP w) (hb : Below B w w') (hB : w.heap.size ≤ B) : ErrP w' := by
  obtain ⟨⟨t1, p1, h1⟩, ⟨t2, p2, h2⟩⟩ := h
  exact ⟨⟨t1, p1, var_on h1 hb hB⟩, ⟨t2, p2, var_on h2 hb hB⟩⟩
theorem parseU32_ok' (s : ByteArray) (hs : s.size ≤ 30) (u : Nat) (h : Lib.parseUintB 32 s.data.toList = .ok u) (w : World) : Calls Tryz.prog 176 #[.string s, .int .i64 10, .int .i64 32] w fun e w' => e = .returned (.tuple #[.int .u64 u, .nilIface]) ∧ Below w.heap.size w w' := by
  refine (Any.strconv_ParseUint_10_at32_ok Tryz.laysPu14 s (by omega) u h w).mono ?_
  rintro e w' ⟨he, rfl | rfl⟩
  · exact ⟨he, Below.refl _ _⟩
  · exact ⟨he, below_bytes _ _ _⟩
theorem parseU32_err (s : ByteArray) (hs : s.size ≤ 30) (h : ∀ u, Lib.parseUintB 32 s.data.toList ≠ .ok u) (w : World) (hv : ErrP w) : Calls Tryz.prog 176 #[.string s, .int .i64 10, .int .i64 32] w fun e w' => (∃ x t p, e = .returned (.tuple #[.int .u64 x, .iface t p])) ∧ Below w.heap.size w w' := by
  obtain ⟨⟨t1, p1, h1⟩, ⟨t2, p2, h2⟩⟩ := hv
  cases hp : Lib.parseUintB 32 s.data.toList with
  | ok u => exact absurd hp (h u)
  | range =>
    refine (Any.strconv_ParseUint_10_at32_range_var Tryz.laysPu14 s (by omega) hp t2 p2 w h2).mono ?_
    rintro e w' ⟨N, he, _, _, hB⟩
    exact ⟨⟨_, _, _, he⟩, hB⟩
  | _ =>
    refine (Any.strconv_ParseUint_10_at32_syntax_var Tryz.laysPu14 s (by omega) hp t1 p1 w h1).mono ?_
    rintro e w' ⟨N, he, _, _, hB⟩
    exact ⟨⟨_, _, _, he⟩, hB⟩
theorem toList_ne {a b : ByteArray} (h : a ≠ b) : (a.toList != b.toList) = true := by
  rw [bne_iff_ne]
  intro e
  rw [Lib.toList_data, Lib.toList_data] at e
  exact h (ByteArray.ext (Array.toList_inj.1 e))
set_option maxRecDepth 100000 in
set_option maxHeartbeats 4000000 in
theorem plain_yes (u : Nat) (hu : u < 1000000000) (w : World) (ht : TabP w) :
    Calls Tryz.prog 142 #[.string (dec u)] w fun e w' => e = .returned (.tuple #[.int .i64 u, .bool true]) ∧ Below w.heap.size w w' := by
  have hsz : (dec u).size ≤ 9 := by
    have h := dec_len_pow 8 u (by omega)
    show (Lib.decDigits u).toArray.size ≤ _
    simpa using h
  have HP := Lib.hid (parseU32_ok' (dec u) (by omega) u (parse_ok32 u (by omega)) w)
  have HT := Lib.hid ht
  have HF := Lib.hid fun W hW => fmtU_any u (by omega) W hW
  clear ht
  generalize dec u = S at HP HF hsz ⊢
  have e0 : (S.toList != S.toList) = false := by simp
  have e1 : (S.toList == S.toList) = true := by simp
  have q0 : ¬ (S.size : Int) > 9 := by omega
  have q1 : decide ((S.size : Int) > 9) = false := by simpa using q0
  have v0 : IntKind.i64.wrap (u : Int) = u := by rw [IntKind.wrap_i64]; omega
  go_enter Tryz.func142, Tryz.ntmps142
  go_wp2_with fail
  refine HP.out.mono ?_
  rintro e w2 ⟨rfl, hB2⟩
  have HW := Lib.hid (HF.out w2 (tab_on HT.out hB2 (Nat.le_refl _)))
  have HB2 := Lib.hid hB2
  clear hB2
  go_wp2_with (go_at_call 110; refine HW.out.mono ?_; rintro e w3 ⟨rfl, hB3⟩)
  go_ret2
  exact ⟨rfl, HB2.out.trans (hB3.mono HB2.out.size)⟩
set_option maxRecDepth 100000 in
set_option maxHeartbeats 4000000 in
theorem plain_no (s : ByteArray) (hs : s.size ≤ 30) (hno : ∀ u, u < 1000000000 → s ≠ dec u) (w : World) (ht : TabP w) (hv : ErrP w) :
    Calls Tryz.prog 142 #[.string s] w fun e w' => e = .returned (.tuple #[.int .i64 0, .bool false]) ∧ Below w.heap.size w w' := by
  by_cases h9 : s.size > 9
  · have HB := Lib.hid (Below.refl w.heap.size w)
    have q0 : (s.size : Int) > 9 := by omega
    have q1 : decide ((s.size : Int) > 9) = true := by simpa using q0
    clear hno
    go_enter Tryz.func142, Tryz.ntmps142
    go_wp2
    go_ret2
    exact ⟨rfl, HB.out⟩
  · have q0 : ¬ (s.size : Int) > 9 := by omega
    have q1 : decide ((s.size : Int) > 9) = false := by simpa using q0
    by_cases hp : ∃ u, Lib.parseUintB 32 s.data.toList = .ok u
    · obtain ⟨u, hp⟩ := hp
      have hle := Lib.parseUintB_le hp
      have hu : u < 18446744073709551616 := by omega
      have hne : dec u ≠ s := by
        intro e
        by_cases hb : u < 1000000000
        · exact hno u hb e.symm
        · have h2 : (dec u).size ≤ 9 := by rw [e]; omega
          have h3 : (Lib.decDigits u).length ≤ 9 := by
            have : (dec u).size = (Lib.decDigits u).length := by show (Lib.decDigits u).toArray.size = _; simp
            omega
          have h4 : Tst (Lib.decDigits u) := ⟨decDigits_ne u, h3, fun h => by rw [Lib.decDigits_one (dec_head u h)]; simp, decDigits_dig u⟩
          have := (dec_tst h4).2
          rw [valD_dec] at this
          omega
      have HP := Lib.hid (parseU32_ok' s hs u hp w)
      have HT := Lib.hid ht
      have HF := Lib.hid fun W hW => fmtU_any u hu W hW
      have e0 := toList_ne hne
      have e1 : ((dec u).toList == s.toList) = false := by simpa using e0
      clear ht hno hp hle hne hv
      generalize dec u = S at HF e0 e1
      go_enter Tryz.func142, Tryz.ntmps142
      go_wp2_with fail
      refine HP.out.mono ?_
      rintro e w2 ⟨rfl, hB2⟩
      have HW := Lib.hid (HF.out w2 (tab_on HT.out hB2 (Nat.le_refl _)))
      have HB2 := Lib.hid hB2
      clear hB2
      go_wp2_with (go_at_call 110; refine HW.out.mono ?_; rintro e w3 ⟨rfl, hB3⟩)
      go_ret2
      exact ⟨rfl, HB2.out.trans (hB3.mono HB2.out.size)⟩
    · have HP := Lib.hid (parseU32_err s hs (fun u e => hp ⟨u, e⟩) w hv)
      clear ht hno hp hv
      go_enter Tryz.func142, Tryz.ntmps142
      go_wp2_with fail
      refine HP.out.mono ?_
      rintro e w2 ⟨⟨x, t, p, rfl⟩, hB2⟩
      go_wp2
      go_ret2
      exact ⟨rfl, hB2⟩
end Go.Proofs.YtlpcallgkciklaaGreatDoor

/-
  act.Read at right words, at any place.
-/
namespace Go.Proofs.YtlpcallgkciklaaGreatDoor
open Go.Shelf Go.RowKit
set_option linter.unusedVariables false

set_option maxRecDepth 100000 in
set_option maxHeartbeats 4000000 in
theorem read91_off (n : Int) (b1 b2 k len cap b o : Nat) (hlen : 1 ≤ len) (s : ByteArray) (CB : Nat) (w : World) (h1 : w.cell? ⟨CB, 0, none⟩ = some (.slice (some ⟨b, o, none⟩) len cap)) (h2 : w.cell? ⟨b, o, none⟩ = some (.string s)) :
    Calls Tryz.prog 141 #[.int .i64 n, .agg (kindA b1 b2 k), .pointer (some ⟨CB, 0, none⟩)] w fun e w' => e = .returned (.bool ((kwA k).toList == s.toList)) ∧ Below w.heap.size w w' := by
  obtain ⟨F, cap', hkm⟩ := kmA_func b1 b2 k
  simp only [kindA, hkm]
  have hB : Below w.heap.size w (w.alloc (.cells #[.string (kwA k), .int .u32 (kcA k), .bool (knA k), .func (.func F) #[] cap'] 131)) := (Below.refl _ _).alloc (Nat.le_refl _) _
  have l1 := World.block_lt_of_cell? _ _ h1
  have l2 := World.block_lt_of_cell? _ _ h2
  have k1 := (hB.cell (p := ⟨CB, 0, none⟩) l1).trans h1
  have k2 := (hB.cell (p := ⟨b, o, none⟩) l2).trans h2
  have c0 := (RowC.new w #[.string (kwA k), .int .u32 (kcA k), .bool (knA k), .func (.func F) #[] cap'] 131 _ rfl).cell 0 (.string (kwA k)) rfl
  have HB := Lib.hid hB
  have i1 : (0 : Int) < (len : Int) := by omega
  clear hB l1 l2 h1 h2 hkm
  go_enter Tryz.func141, Tryz.ntmps141
  go_wp2_with fail
  generalize w.alloc (.cells #[.string (kwA k), .int .u32 (kcA k), .bool (knA k), .func (.func F) #[] cap'] 131) = W at *
  go_region
  all_goals go_wp2
  all_goals go_ret
  all_goals exact ⟨rfl, HB.out.drew⟩
set_option maxRecDepth 100000 in
set_option maxHeartbeats 8000000 in
theorem find_word9o (len cp b o : Nat) (hlen : 1 ≤ len) (s : ByteArray) (AB : Nat) (w : World) (ha : w.cell? ⟨AB, 0, none⟩ = some (.slice (some ⟨b, o, none⟩) len cp)) (hb : w.cell? ⟨b, o, none⟩ = some (.string s)) :
    Calls Tryz.prog 89 #[.func (.func 141) #[] #[.pointer (some ⟨AB, 0, none⟩)]] w (FindR (fun j => (kwA j).toList == s.toList) w) := by
  have lA := World.block_lt_of_cell? _ _ ha
  have lB := World.block_lt_of_cell? _ _ hb
  have HA := Lib.hid (⟨ha, hb⟩ : w.cell? ⟨AB, 0, none⟩ = some (.slice (some ⟨b, o, none⟩) len cp) ∧ w.cell? ⟨b, o, none⟩ = some (.string s))
  obtain ⟨P, hP⟩ : ∃ P : Nat → Bool, (fun j : Nat => (kwA j).toList == s.toList) = P := ⟨_, rfl⟩
  rw [hP]
  have HP := Lib.hid hP
  clear ha hb hP
  have HK := Lib.hid (kinds_any (w.alloc (.cells kind0 131)))
  go_enter Tryz.func89, Tryz.ntmps89
  go_wp2_with (go_at_call 105; refine HK.out.mono ?_; rintro e w1 ⟨rfl, hr1, hr2, hB1⟩)
  have ez : (w.alloc (.cells kind0 131)).heap.size = w.heap.size + 1 := by simp
  rw [ez] at hr1 hr2 hB1
  have hb0 : Below w.heap.size w w1 := ((Below.refl _ _).alloc (Nat.le_refl _) _).trans (hB1.mono (by omega))
  have hr0 : RowC w1 w.heap.size kind0 131 := (RowC.new w kind0 131 _ rfl).below hB1 (by omega)
  obtain ⟨b1, hb1⟩ : ∃ b, w.heap.size + 1 + 1 = b := ⟨_, rfl⟩
  obtain ⟨b2, hb2⟩ : ∃ b, w.heap.size + 1 + 1 + 1 = b := ⟨_, rfl⟩
  rw [hb1] at hr1
  rw [hb2] at hr2
  have HB1 := Lib.hid hb1
  have HB2 := Lib.hid hb2
  rw [hb2, hb1]
  clear hb1 hb2 hB1 ez
  go_loopw [9] (fun i wr => ∃ k : Nat, k ≤ 8 ∧ i = .int .i64 k ∧ (∀ i, i < k → P i = false) ∧ (RowC wr b1 #[.int .i64 4095] 3 ∧ RowC wr b2 #[.int .i64 65535] 3 ∧ RowC wr w.heap.size kind0 131) ∧ Below w.heap.size w wr)
    (fun i _ => 8 - (intOf i).toNat)
  case atStart => exact ⟨0, by omega, rfl, fun i h => by omega, ⟨hr1, hr2, hr0⟩, hb0⟩
  case round =>
    obtain ⟨k, hk, rfl, hno, ⟨g1, g2, g0⟩, hB⟩ := hrel
    have HNO := Lib.hid hno
    clear hno
    by_cases hlt : k < 8
    · have hix := ixK b1 b2 k hlt
      obtain ⟨F, cap, hkm⟩ := kmA_func b1 b2 k
      have i1 : (0 : Int) ≤ (k : Int) := by omega
      have i2 : (k : Int) < 8 := by omega
      have hs := hB.size
      have hcl : Calls Tryz.prog 141 #[.int .i64 ((k : Int) + 1), .agg (kindA b1 b2 k), .pointer (some ⟨AB, 0, none⟩)] (wr.alloc (.cells (kindA b1 b2 k) 131)) fun e w' => e = .returned (.bool (P k)) ∧ Below (wr.alloc (.cells (kindA b1 b2 k) 131)).heap.size (wr.alloc (.cells (kindA b1 b2 k) 131)) w' := by
        have hBa : Below w.heap.size w (wr.alloc (.cells (kindA b1 b2 k) 131)) := hB.alloc hs _
        have := read91_off ((k : Int) + 1) b1 b2 k len cp b o hlen s AB _ ((hBa.cell (p := ⟨AB, 0, none⟩) lA).trans HA.out.1) ((hBa.cell (p := ⟨b, o, none⟩) lB).trans HA.out.2)
        rw [show ((kwA k).toList == s.toList) = P k from congrFun HP.out k] at this
        exact this
      have hg0 := g0.alloc (.cells (kindA b1 b2 k) 131)
      have hg1 := g1.alloc (.cells (kindA b1 b2 k) 131)
      have hg2 := g2.alloc (.cells (kindA b1 b2 k) 131)
      have hFin : Hid (kindA b1 b2 k = #[.string (kwA k), .int .u32 (kcA k), .bool (knA k), .func (.func F) #[] cap]) := Lib.hid (by unfold kindA; rw [hkm])
      simp only [kindA, hkm] at hix hcl hg0 hg1 hg2
      have HCL := Lib.hid hcl
      have HG0 := Lib.hid hg0
      have HG1 := Lib.hid hg1
      have HG2 := Lib.hid hg2
      have HBW := Lib.hid hB
      clear hcl g1 g2 g0 hB hkm hg0 hg1 hg2
      cases hp : P k
      · rw [hp] at HCL
        have HPK := Lib.hid hp
        clear hp
        go_wp2_with (go_at_call 141; refine HCL.out.mono ?_; rintro e w5 ⟨rfl, hB5⟩)
        have q0 := HG0.out
        have q1 := HG1.out
        have q2 := HG2.out
        exact ⟨⟨k + 1, by omega, by go_num, fun i hi => by
          by_cases h : i = k
          · subst h; exact HPK.out
          · exact HNO.out i (by omega), ⟨q1.below hB5 q1.lt, q2.below hB5 q2.lt, q0.below hB5 q0.lt⟩, (HBW.out.alloc hs _).trans (hB5.mono (by simp; omega))⟩, by simp [intOf]; omega⟩
      · rw [hp] at HCL
        have HPK := Lib.hid hp
        clear hp
        go_wp2_with (go_at_call 141; refine HCL.out.mono ?_; rintro e w5 ⟨rfl, hB5⟩)
        have q0 := HG0.out
        have q1 := HG1.out
        have q2 := HG2.out
        have s1 := q1.below hB5 q1.lt
        have s2 := q2.below hB5 q2.lt
        have r3 := q0.below hB5 q0.lt
        have r6 : RowC w5 wr.heap.size #[.string (kwA k), .int .u32 (kcA k), .bool (knA k), .func (.func F) #[] cap] 131 := (RowC.new wr _ 131 _ rfl).below hB5 (by simp)
        have hB6 : Below w.heap.size w w5 := (HBW.out.alloc hs _).trans (hB5.mono (by simp; omega))
        have c0 := r6.cell 0 _ rfl
        have c1 := r6.cell 1 _ rfl
        have c2 := r6.cell 2 _ rfl
        have c3 := r6.cell 3 _ rfl
        have R1 := Lib.hid s1
        have R2 := Lib.hid s2
        have R3 := Lib.hid r3
        have HB6 := Lib.hid hB6
        clear q1 q2 q0 s1 s2 r6 hB6 hB5
        have d0 := R3.out.cell 0 _ rfl
        have d1 := R3.out.cell 1 _ rfl
        have d2 := R3.out.cell 2 _ rfl
        have d3 := R3.out.cell 3 _ rfl
        have f0 := R3.out.frozen 0
        have f1 := R3.out.frozen 1
        have f2 := R3.out.frozen 2
        have f3 := R3.out.frozen 3
        clear r3
        go_region
        all_goals go_wp2
        have hrow : RowC ((((w5.setCell ⟨w.heap.size, 0, none⟩ (.string (kwA k))).setCell ⟨w.heap.size, 1, none⟩ (.int .u32 (kcA k))).setCell ⟨w.heap.size, 2, none⟩ (.bool (knA k))).setCell ⟨w.heap.size, 3, none⟩ (.func (.func F) #[] cap)).drew w.heap.size #[.string (kwA k), .int .u32 (kcA k), .bool (knA k), .func (.func F) #[] cap] 131 := (((R3.out.set 0 (.string (kwA k))).set 1 (.int .u32 (kcA k))).set 2 (.bool (knA k))).set 3 (.func (.func F) #[] cap)
        have n1 : b1 ≠ w.heap.size := by have := HB1.out; omega
        have n2 : b2 ≠ w.heap.size := by have := HB2.out; omega
        have hr1 : RowC ((((w5.setCell ⟨w.heap.size, 0, none⟩ (.string (kwA k))).setCell ⟨w.heap.size, 1, none⟩ (.int .u32 (kcA k))).setCell ⟨w.heap.size, 2, none⟩ (.bool (knA k))).setCell ⟨w.heap.size, 3, none⟩ (.func (.func F) #[] cap)).drew b1 #[.int .i64 4095] 3 := (((R1.out.setOther 0 _ n1).setOther 1 _ n1).setOther 2 _ n1).setOther 3 _ n1
        have hr2 : RowC ((((w5.setCell ⟨w.heap.size, 0, none⟩ (.string (kwA k))).setCell ⟨w.heap.size, 1, none⟩ (.int .u32 (kcA k))).setCell ⟨w.heap.size, 2, none⟩ (.bool (knA k))).setCell ⟨w.heap.size, 3, none⟩ (.func (.func F) #[] cap)).drew b2 #[.int .i64 65535] 3 := (((R2.out.setOther 0 _ n2).setOther 1 _ n2).setOther 2 _ n2).setOther 3 _ n2
        have hbe : Below w.heap.size w ((((w5.setCell ⟨w.heap.size, 0, none⟩ (.string (kwA k))).setCell ⟨w.heap.size, 1, none⟩ (.int .u32 (kcA k))).setCell ⟨w.heap.size, 2, none⟩ (.bool (knA k))).setCell ⟨w.heap.size, 3, none⟩ (.func (.func F) #[] cap)).drew := ((((HB6.out.setCell (by simp) _).setCell (by simp) _).setCell (by simp) _).setCell (by simp) _).drew
        all_goals
          refine bodyPost_ret (results_tct Tryz.results89 _ _ w.heap.size _ _ (0, 0) _ (.int .i64 ((k : Int) + 1)) (.bool true) (by rfl) (by rfl) (by rfl) hrow Tryz.underlying131 (by rfl) (show _ = some 4 from infoK)) rfl ?_
          refine ⟨.inl ⟨k, hlt, HPK.out, HNO.out, ?_⟩, ?_, hbe⟩
          · rw [HB2.out, HB1.out, hFin.out]
          · rw [HB2.out, HB1.out]; exact ⟨hr1, hr2⟩
    · obtain rfl : k = 8 := by omega
      have G0 := Lib.hid g0
      have G1 := Lib.hid g1
      have G2 := Lib.hid g2
      have HBW := Lib.hid hB
      clear g0 g1 g2 hB
      go_wp2_with (refine wpList_store_row (by rfl) 131 _ _ (by rfl) w.heap.size kind0 (by rfl) (by rfl) _ _ G0.out (show _ = some kind0.size from infoK) (by rfl) (by simp [Value.oneCell']) ?_)
      refine bodyPost_ret (results_tct Tryz.results89 _ _ w.heap.size _ kind0 (0, 0) _ (.int .i64 0) (.bool false) (by rfl) (by rfl) (by rfl) (setRow_heap _ _ _ _ _ _ G0.out) Tryz.underlying131 (by rfl) (show _ = some kind0.size from infoK)) rfl ?_
      refine ⟨.inr ⟨HNO.out, rfl⟩, ?_, below_setRow HBW.out (Nat.le_refl _) _⟩
      rw [HB2.out, HB1.out]
      exact ⟨G1.out.setRow _ (by have := HB1.out; omega), G2.out.setRow _ (by have := HB2.out; omega)⟩



theorem find_own_o (len cap b o : Nat) (hlen : 1 ≤ len) (j : Nat) (hj : j < 8) (AB : Nat) (w : World) (ha : w.cell? ⟨AB, 0, none⟩ = some (.slice (some ⟨b, o, none⟩) len cap)) (hb : w.cell? ⟨b, o, none⟩ = some (.string (kwA j))) :
    Calls Tryz.prog 89 #[.func (.func 141) #[] #[.pointer (some ⟨AB, 0, none⟩)]] w fun e w' => (∃ b1 b2, e = .returned (.tuple #[.int .i64 ((j : Int) + 1), .agg (kindA b1 b2 j), .bool true]) ∧ RowC w' b1 #[.int .i64 4095] 3 ∧ RowC w' b2 #[.int .i64 65535] 3) ∧ Below w.heap.size w w' := by
  refine (find_word9o len cap b o hlen (kwA j) AB w ha hb).mono ?_
  rintro e w' ⟨h | h, ⟨hr1, hr2⟩, hB⟩
  · obtain ⟨i, hi8, hi, _, he⟩ := h
    simp only [kwA_inj hj hi8] at hi
    obtain rfl : i = j := by simpa using hi
    exact ⟨⟨_, _, he, hr1, hr2⟩, hB⟩
  · have := h.1 j hj
    simp only [kwA_inj hj hj] at this
    simp at this
set_option maxRecDepth 100000 in
set_option maxHeartbeats 8000000 in
theorem readA_plain_o (j : Nat) (hj : j < 8) (hk : knA j = false) (b o len cap : Nat) (hlen : 1 ≤ len) (w : World) (c0 : w.cell? ⟨b, o, none⟩ = some (.string (kwA j))) :
    Calls Tryz.prog 112 #[.slice (some ⟨b, o, none⟩) len cap] w fun e w' => e = .returned (.tuple #[.agg #[.int .i64 ((j : Int) + 1), .int .i64 0], .int .i64 1, .int .i64 0]) ∧ Below w.heap.size w w' := by
  have lb : b < w.heap.size := World.block_lt_of_cell? _ _ c0
  obtain ⟨W0, hW0⟩ : ∃ W, (w.alloc (.cells #[.slice (some ⟨b, o, none⟩) len cap] 95)).alloc (.cells zA 28) = W := ⟨_, rfl⟩
  have hb0 : Below w.heap.size w W0 := by rw [← hW0]; exact ((Below.refl _ _).alloc (Nat.le_refl _) _).alloc (by simp) _
  have rb : RowC W0 w.heap.size #[.slice (some ⟨b, o, none⟩) len cap] 95 := by rw [← hW0]; exact (RowC.new _ _ _ _ rfl).alloc _
  have r2 : RowC W0 (w.heap.size + 1) zA 28 := by rw [← hW0]; exact RowC.new _ _ _ _ (by simp)
  have kb := rb.cell 0 (.slice (some ⟨b, o, none⟩) len cap) rfl
  have HB0 := Lib.hid hb0
  have RB := Lib.hid rb
  have R2 := Lib.hid r2
  have HW0 := Lib.hid hW0
  have KB := Lib.hid kb
  have kb' := kb
  rw [← hW0] at kb'
  have k0 := (hb0.cell (p := ⟨b, o, none⟩) lb).trans c0
  have LB := Lib.hid (Nat.lt_of_lt_of_le lb hb0.size)
  have ie : ((len : Int) == 0) = false := beq_eq_false_iff_ne.2 (by omega)
  have HFW := Lib.hid (find_own_o len cap b o hlen j hj w.heap.size W0 kb k0)
  clear kb k0 hb0 rb r2 hW0 c0 lb
  go_enter Tryz.func112, Tryz.ntmps112
  go_upto_region 3 with fail
  rw [HW0.out]
  clear kb'
  go_wp2_with fail
  refine HFW.out.mono ?_
  rintro e w2 ⟨⟨b1, b2, rfl, hr1, hr2⟩, hB2⟩
  obtain ⟨F, cap', hkm⟩ := kmA_func b1 b2 j
  have HKM := Lib.hid hkm
  simp only [kindA, hkm]
  rw [hk]
  have hs2 := hB2.size
  obtain ⟨V, hV⟩ : ∃ V, w2.alloc (.cells #[.string (kwA j), .int .u32 (kcA j), .bool false, .func (.func F) #[] cap'] 131) = V := ⟨_, rfl⟩
  have r6 : RowC V w2.heap.size #[.string (kwA j), .int .u32 (kcA j), .bool false, .func (.func F) #[] cap'] 131 := by rw [← hV]; exact RowC.new _ _ _ _ rfl
  have h02 : Below W0.heap.size W0 V := by rw [← hV]; exact hB2.alloc (by omega) _
  have R6 := Lib.hid r6
  have H02 := Lib.hid h02
  have HV := Lib.hid hV
  have q2 := R2.out.below h02 R2.out.lt
  have z0 := q2.cell 0 (.int .i64 0) rfl
  have z1 := q2.cell 1 (.int .i64 0) rfl
  have g0 := q2.frozen 0
  have g1 := q2.frozen 1
  have m2 := r6.cell 2 (.bool false) rfl
  have Q2 := Lib.hid q2
  have HBQ := HB0.out.trans (h02.mono HB0.out.size)
  clear r6 h02 hB2 hs2 q2 hkm hV
  go_upto_region 4 with fail
  rw [HV.out]
  go_wp2
  exact bodyPost_ret (results_ctt9 Tryz.results112 _ _ (w.heap.size + 1) _ _ (0, 0) _ (.int .i64 1) (.int .i64 0) (by rfl) (by rfl) (by rfl) (show RowC _ (w.heap.size + 1) #[.int .i64 ((j : Int) + 1), .int .i64 0] 28 from (Q2.out.set 0 (.int .i64 ((j : Int) + 1))).set 1 (.int .i64 0)) Tryz.underlying28 (by rfl) (show _ = some 2 from infoAct)) rfl
    ⟨rfl, (HBQ.setCell (Nat.le_succ _) _).setCell (Nat.le_succ _) _⟩

set_option maxRecDepth 100000 in
set_option maxHeartbeats 8000000 in
theorem readA_num_o (j : Nat) (hj : j < 8) (hk : knA j = true) (u : Nat) (hu : u < 1000000000) (hmay : mayA j (u : Int) = true) (b o len cap : Nat) (hlen : 1 ≤ len) (w : World) (hl2 : 2 ≤ len) (ht : TabP w) (c0 : w.cell? ⟨b, o, none⟩ = some (.string (kwA j))) (c1 : w.cell? ⟨b, o + 1, none⟩ = some (.string (dec u))) :
    Calls Tryz.prog 112 #[.slice (some ⟨b, o, none⟩) len cap] w fun e w' => e = .returned (.tuple #[.agg #[.int .i64 ((j : Int) + 1), .int .i64 u], .int .i64 2, .int .i64 0]) ∧ Below w.heap.size w w' := by
  have lb : b < w.heap.size := World.block_lt_of_cell? _ _ c0
  obtain ⟨W0, hW0⟩ : ∃ W, (w.alloc (.cells #[.slice (some ⟨b, o, none⟩) len cap] 95)).alloc (.cells zA 28) = W := ⟨_, rfl⟩
  have hb0 : Below w.heap.size w W0 := by rw [← hW0]; exact ((Below.refl _ _).alloc (Nat.le_refl _) _).alloc (by simp) _
  have rb : RowC W0 w.heap.size #[.slice (some ⟨b, o, none⟩) len cap] 95 := by rw [← hW0]; exact (RowC.new _ _ _ _ rfl).alloc _
  have r2 : RowC W0 (w.heap.size + 1) zA 28 := by rw [← hW0]; exact RowC.new _ _ _ _ (by simp)
  have kb := rb.cell 0 (.slice (some ⟨b, o, none⟩) len cap) rfl
  have HB0 := Lib.hid hb0
  have RB := Lib.hid rb
  have R2 := Lib.hid r2
  have HW0 := Lib.hid hW0
  have KB := Lib.hid kb
  have kb' := kb
  rw [← hW0] at kb'
  have k0 := (hb0.cell (p := ⟨b, o, none⟩) lb).trans c0
  have LB := Lib.hid (Nat.lt_of_lt_of_le lb hb0.size)
  have ie : ((len : Int) == 0) = false := beq_eq_false_iff_ne.2 (by omega)
  have HFW := Lib.hid (find_own_o len cap b o hlen j hj w.heap.size W0 kb k0)
  have K1 := Lib.hid ((hb0.cell (p := ⟨b, o + 1, none⟩) lb).trans c1)
  have HT0 := Lib.hid (tab_on ht hb0 (Nat.le_refl _))
  have il : decide ((len : Int) < 2) = false := by simp; omega
  have il2 : ¬ (len : Int) < 2 := by omega
  have i1 : (1 : Int) < (len : Int) := by omega
  clear c1 ht
  clear kb k0 hb0 rb r2 hW0 c0 lb
  go_enter Tryz.func112, Tryz.ntmps112
  go_upto_region 3 with fail
  rw [HW0.out]
  clear kb'
  go_wp2_with fail
  refine HFW.out.mono ?_
  rintro e w2 ⟨⟨b1, b2, rfl, hr1, hr2⟩, hB2⟩
  obtain ⟨F, cap', hkm⟩ := kmA_func b1 b2 j
  have HKM := Lib.hid hkm
  simp only [kindA, hkm]
  rw [hk]
  have hs2 := hB2.size
  obtain ⟨V, hV⟩ : ∃ V, w2.alloc (.cells #[.string (kwA j), .int .u32 (kcA j), .bool true, .func (.func F) #[] cap'] 131) = V := ⟨_, rfl⟩
  have r6 : RowC V w2.heap.size #[.string (kwA j), .int .u32 (kcA j), .bool true, .func (.func F) #[] cap'] 131 := by rw [← hV]; exact RowC.new _ _ _ _ rfl
  have h02 : Below W0.heap.size W0 V := by rw [← hV]; exact hB2.alloc (by omega) _
  have R6 := Lib.hid r6
  have H02 := Lib.hid h02
  have HV := Lib.hid hV
  have q2 := R2.out.below h02 R2.out.lt
  have z0 := q2.cell 0 (.int .i64 0) rfl
  have z1 := q2.cell 1 (.int .i64 0) rfl
  have g0 := q2.frozen 0
  have g1 := q2.frozen 1
  have m2 := r6.cell 2 (.bool true) rfl
  have Q2 := Lib.hid q2
  have HBQ := HB0.out.trans (h02.mono HB0.out.size)
  have kb := (h02.cell (p := ⟨w.heap.size, 0, none⟩) RB.out.lt).trans KB.out
  have k1 := (h02.cell (p := ⟨b, o + 1, none⟩) LB.out).trans K1.out
  have HPL := Lib.hid (plain_yes u hu V (tab_on HT0.out h02 (Nat.le_refl _)))
  have hr1' : RowC V b1 #[.int .i64 4095] 3 := by rw [← hV]; exact hr1.alloc _
  have hr2' : RowC V b2 #[.int .i64 65535] 3 := by rw [← hV]; exact hr2.alloc _
  have RR1 := Lib.hid hr1'
  have RR2 := Lib.hid hr2'
  have m3 := r6.cell 3 (.func (.func F) #[] cap') rfl
  clear hr1 hr2 hr1' hr2'
  clear r6 h02 hB2 hs2 q2 hkm hV
  go_upto_region 4 with fail
  rw [HV.out]
  clear HBQ
  go_wp2_with fail
  refine HPL.out.mono ?_
  rintro e w3 ⟨rfl, hB3⟩
  have r6 := R6.out.below hB3 R6.out.lt
  have q2 := Q2.out.below hB3 Q2.out.lt
  have x1 := RR1.out.below hB3 RR1.out.lt
  have x2 := RR2.out.below hB3 RR2.out.lt
  have HBQ' := Lib.hid ((HB0.out.trans (H02.out.mono HB0.out.size)).trans (hB3.mono (by have := HB0.out.size; have := H02.out.size; omega)))
  have mm3 := r6.cell 3 (.func (.func F) #[] cap') rfl
  have zz0 := q2.cell 0 (.int .i64 0) rfl
  have zz1 := q2.cell 1 (.int .i64 0) rfl
  have gg0 := q2.frozen 0
  have gg1 := q2.frozen 1
  have QQ := Lib.hid q2
  clear z0 z1 g0 g1 m2 m3 kb k1 hB3 q2 r6
  have hj35 : j = 3 ∨ j = 5 := by
    unfold knA at hk
    simp at hk
    omega
  rcases hj35 with rfl | rfl
  · have hkm : Value.func (.func 130) #[] #[.pointer (some ⟨b1, 0, none⟩)] = .func (.func F) #[] cap' := HKM.out
    injection hkm with e1 _ e3
    injection e1 with e1
    subst e1 e3
    have HM := Lib.hid (may3_any (u : Int) b1 w3 (x1.cell 0 _ rfl))
    rw [hmay] at HM
    clear x1 x2
    go_wp2_with (go_at_call 130; refine HM.out.mono ?_; rintro e w4 ⟨rfl, rfl⟩)
    have HBQ := HBQ'.out
    exact bodyPost_ret (results_ctt9 Tryz.results112 _ _ (w.heap.size + 1) _ _ (0, 0) _ (.int .i64 2) (.int .i64 0) (by rfl) (by rfl) (by rfl) (show RowC _ (w.heap.size + 1) #[.int .i64 4, .int .i64 u] 28 from (QQ.out.set 0 (.int .i64 4)).set 1 (.int .i64 u)) Tryz.underlying28 (by rfl) (show _ = some 2 from infoAct)) rfl
      ⟨rfl, (HBQ.setCell (Nat.le_succ _) _).setCell (Nat.le_succ _) _⟩
  · have hkm : Value.func (.func 130) #[] #[.pointer (some ⟨b2, 0, none⟩)] = .func (.func F) #[] cap' := HKM.out
    injection hkm with e1 _ e3
    injection e1 with e1
    subst e1 e3
    have HM := Lib.hid (may5_any (u : Int) b2 w3 (x2.cell 0 _ rfl))
    rw [hmay] at HM
    clear x1 x2
    go_wp2_with (go_at_call 130; refine HM.out.mono ?_; rintro e w4 ⟨rfl, rfl⟩)
    have HBQ := HBQ'.out
    exact bodyPost_ret (results_ctt9 Tryz.results112 _ _ (w.heap.size + 1) _ _ (0, 0) _ (.int .i64 2) (.int .i64 0) (by rfl) (by rfl) (by rfl) (show RowC _ (w.heap.size + 1) #[.int .i64 6, .int .i64 u] 28 from (QQ.out.set 0 (.int .i64 6)).set 1 (.int .i64 u)) Tryz.underlying28 (by rfl) (show _ = some 2 from infoAct)) rfl
      ⟨rfl, (HBQ.setCell (Nat.le_succ _) _).setCell (Nat.le_succ _) _⟩

end Go.Proofs.YtlpcallgkciklaaGreatDoor
