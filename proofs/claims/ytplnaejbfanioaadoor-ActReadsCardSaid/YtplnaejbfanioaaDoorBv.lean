/-
  The contracts of act.Right, act.Text and of strainerlaw09's 'of' (a seat that holds strconv.Itoa's contract: its Shelf text).
-/
import Derived.Test.YtplnaejbfanioaaDoorBc
import Derived.Test.YtplnaejbfanioaaDoorGf
import Derived.Test.YtplnaejbfanioaaDoorShb
import Derived.RegionTactic
import Derived.Lib.AppendIntMem
import Derived.Lib.SmallJoins
namespace Go.Proofs.YtplnaejbfanioaaDoor
open Go.RowKit

/-- An action's text. -/
def txtA (j : Nat) (nm : Int) : ByteArray := if knA j = true then (kwA j ++ ⟨#[32]⟩) ++ ⟨(Lib.itoa nm).toArray⟩ else kwA j
theorem itoa_size {nm : Int} (h0 : 0 ≤ nm) (h1 : nm ≤ 65535) : (Lib.itoa nm).length ≤ 5 := by
  obtain ⟨u, rfl⟩ := Int.eq_ofNat_of_zero_le h0
  rw [Lib.itoa_nonneg, Lib.decDigits_length]
  have h : ∀ k, k < 65536 → Lib.nDigits k ≤ 5 := by
    intro k hk
    by_cases a1 : k < 10
    · rw [Lib.nDigits_small a1]; omega
    by_cases a2 : k < 100
    · rw [Lib.nDigits_unique 1 k (by omega) (by omega)]; omega
    by_cases a3 : k < 1000
    · rw [Lib.nDigits_unique 2 k (by omega) (by omega)]; omega
    by_cases a4 : k < 10000
    · rw [Lib.nDigits_unique 3 k (by omega) (by omega)]; omega
    · rw [Lib.nDigits_unique 4 k (by omega) (by omega)]; omega
  exact h u (by omega)
theorem kw_size (j : Nat) : (kwA j).size ≤ 11 := by unfold kwA; split <;> decide

set_option maxRecDepth 100000 in
set_option maxHeartbeats 4000000 in
theorem text_plain (j : Nat) (hj : j < 8) (nm : Int) (hm : mayA j nm = true) (hk : knA j = false) (w : World) :
    Calls Tryd.prog 26 #[.agg #[.int .i64 ((j : Int) + 1), .int .i64 nm]] w fun e w' => e = .returned (.string (kwA j)) ∧ Below w.heap.size w w' := by
  have HF := Lib.hid (kindOf_ok j hj nm hm (w.alloc (.cells #[.int .i64 ((j : Int) + 1), .int .i64 nm] 51)))
  have hb : Below w.heap.size w (w.alloc (.cells #[.int .i64 ((j : Int) + 1), .int .i64 nm] 51)) := (Below.refl _ _).alloc (Nat.le_refl _) _
  have HB := Lib.hid hb
  clear hb hm
  go_enter Tryd.func26, Tryd.ntmps26
  go_wp2_with fail
  refine HF.out.mono ?_
  rintro e w1 ⟨⟨F, cap, rfl⟩, hB1⟩
  rw [hk]
  have HBE := Lib.hid ((HB.out.trans (hB1.mono HB.out.size)).alloc (by have := HB.out.size; have := hB1.size; omega) (.cells #[.string (kwA j), .int .u32 (kcA j), .bool false, .func (.func F) #[] cap] 85))
  have hr := RowC.new w1 #[.string (kwA j), .int .u32 (kcA j), .bool false, .func (.func F) #[] cap] 85 _ rfl
  have c0 := hr.cell 0 _ rfl
  have c2 := hr.cell 2 _ rfl
  clear hB1 hr
  go_wp2
  go_ret
  exact ⟨rfl, HBE.out⟩
set_option maxRecDepth 100000 in
set_option maxHeartbeats 8000000 in
theorem text_num (j : Nat) (hj : j < 8) (nm : Int) (hm : mayA j nm = true) (hk : knA j = true) (w : World) (ht : TabP w) :
    Calls Tryd.prog 26 #[.agg #[.int .i64 ((j : Int) + 1), .int .i64 nm]] w fun e w' => e = .returned (.string ((kwA j ++ ⟨#[32]⟩) ++ ⟨(Lib.itoa nm).toArray⟩)) ∧ Below w.heap.size w w' := by
  have HF := Lib.hid (kindOf_ok j hj nm hm (w.alloc (.cells #[.int .i64 ((j : Int) + 1), .int .i64 nm] 51)))
  have hb : Below w.heap.size w (w.alloc (.cells #[.int .i64 ((j : Int) + 1), .int .i64 nm] 51)) := (Below.refl _ _).alloc (Nat.le_refl _) _
  have hbd := may_bd hm
  have his := itoa_size hbd.1 hbd.2
  have hks := kw_size j
  have r0 : RowC (w.alloc (.cells #[.int .i64 ((j : Int) + 1), .int .i64 nm] 51)) w.heap.size #[.int .i64 ((j : Int) + 1), .int .i64 nm] 51 := RowC.new _ _ _ _ rfl
  have R0 := Lib.hid r0
  have HB := Lib.hid hb
  have HT := Lib.hid ht
  clear hb hm r0 ht
  go_enter Tryd.func26, Tryd.ntmps26
  go_wp2_with fail
  refine HF.out.mono ?_
  rintro e w1 ⟨⟨F, cap, rfl⟩, hB1⟩
  rw [hk]
  have hbe := ((HB.out.trans (hB1.mono HB.out.size)).alloc (by have := HB.out.size; have := hB1.size; omega) (.cells #[.string (kwA j), .int .u32 (kcA j), .bool true, .func (.func F) #[] cap] 85))
  have HBE := Lib.hid hbe
  have hr := RowC.new w1 #[.string (kwA j), .int .u32 (kcA j), .bool true, .func (.func F) #[] cap] 85 _ rfl
  have c0 := hr.cell 0 (.string (kwA j)) rfl
  have c2 := hr.cell 2 (.bool true) rfl
  have a1 := ((R0.out.below hB1 R0.out.lt).alloc (.cells #[.string (kwA j), .int .u32 (kcA j), .bool true, .func (.func F) #[] cap] 85)).cell 1 (.int .i64 nm) rfl
  have HI := Lib.hid fun W h => Tryd.strconv_Itoa nm (by omega) (by omega) W h
  have HD := Lib.hid (tab_on HT.out hbe.drew (Nat.le_refl _))
  have s3 : ¬ 9223372036854775807 < (kwA j).size + 1 := by omega
  have s4 : ¬ 9223372036854775807 < (kwA j).size + 1 + (Lib.itoa nm).length := by omega
  have l0 := World.block_lt_of_cell? _ _ c0
  have l1 := World.block_lt_of_cell? _ _ a1
  have HC0 := Lib.hid (show World.cell? (w1.alloc (.cells #[.string (kwA j), .int .u32 (kcA j), .bool true, .func (.func F) #[] cap] 85)).drew _ = _ from c0)
  have HA1 := Lib.hid (show World.cell? (w1.alloc (.cells #[.string (kwA j), .int .u32 (kcA j), .bool true, .func (.func F) #[] cap] 85)).drew _ = _ from a1)
  have L0 := Lib.hid l0
  have L1 := Lib.hid l1
  clear hB1 hr hbe l0 l1
  go_wp2_with fail
  generalize (w1.alloc (.cells #[.string (kwA j), .int .u32 (kcA j), .bool true, .func (.func F) #[] cap] 85)) = W at *
  generalize w1.heap.size = B at *
  generalize hA : w.heap.size = A at *
  have HA := Lib.hid hA
  clear hA
  have HJ : Hid (Calls Tryd.prog 37 #[.int .i64 nm] W.drew fun e w' => e = .returned (.string ⟨(Lib.itoa nm).toArray⟩) ∧ w'.cell? ⟨B, 0, none⟩ = some (.string (kwA j)) ∧ w'.cell? ⟨A, 1, none⟩ = some (.int .i64 nm) ∧ Below A w w') := Lib.hid ((HI.out _ HD.out).mono (by
    rintro e w2 ⟨rfl, k, os, rfl⟩
    exact ⟨rfl, ((Lib.below_grow _ W.drew (Nat.le_refl _) k os).cell (p := ⟨B, 0, none⟩) L0.out).trans HC0.out, ((Lib.below_grow _ W.drew (Nat.le_refl _) k os).cell (p := ⟨A, 1, none⟩) L1.out).trans HA1.out, HBE.out.drew.trans (Lib.below_grow _ _ (by have := HBE.out.drew.size; rw [HA.out] at this; exact this) _ _)⟩))
  clear HI HD HC0 HA1 L0 L1
  go_region_with (go_at_call 37; refine HJ.out.mono ?_; rintro e w2 ⟨rfl, e0, e1, hb2⟩)
  all_goals go_wp2
  all_goals go_ret
  all_goals exact ⟨rfl, by rw [HA.out]; exact hb2⟩

set_option maxRecDepth 100000 in
set_option maxHeartbeats 4000000 in
theorem of_any (kd nm : Int) (w : World) :
    Calls Tryd.prog 23 #[.agg #[.int .i64 kd, .int .i64 nm]] w fun e w' => e = .returned (.agg #[.int .i64 kd, .int .i64 nm]) ∧ Below w.heap.size w w' := by
  have hb : Below w.heap.size w ((w.alloc (.cells #[.int .i64 kd, .int .i64 nm] 54)).alloc (.cells #[.int .i64 kd, .int .i64 nm] 51)) := ((Below.refl _ _).alloc (Nat.le_refl _) _).alloc (by simp) _
  have r1 : RowC ((w.alloc (.cells #[.int .i64 kd, .int .i64 nm] 54)).alloc (.cells #[.int .i64 kd, .int .i64 nm] 51)) (w.heap.size + 1) #[.int .i64 kd, .int .i64 nm] 51 := RowC.new _ _ _ _ (by simp)
  have HB := Lib.hid hb
  have R1 := Lib.hid r1
  clear hb r1
  go_enter Tryd.func23, Tryd.ntmps23
  go_wp2
  exact bodyPost_ret (results_cell_row Tryd.results23 _ _ (w.heap.size + 1) _ #[.int .i64 kd, .int .i64 nm] (0, 0) _ (by rfl) R1.out Tryd.underlying51 (by rfl) (by kernel_rfl)) rfl ⟨rfl, HB.out⟩
end Go.Proofs.YtplnaejbfanioaaDoor
