/-
  The contracts of act.kindOf, act.Code, and of the chapter's example.
-/
import Derived.Test.YtnlnddmnbeilfaaBb
namespace Go.Proofs.Ytnlnddmnbeilfaa
open Go.RowKit

theorem results_ct {P : Program} {fn : Func} {p q : Tmp} {ty : TypeId} (h : fn.results = #[.cell p ty, .tmp q]) (tmps : Array Value) (w : World) (g : Nat) (t : TypeId) (cs : Array Value) (fr : Nat × Nat) (d : TypeDesc) (v : Value)
    (hp : tmps.getD p undef = .pointer (some ⟨g, 0, none⟩)) (hq : tmps.getD q undef = v) (hg : w.heap[g]? = some (.cells cs t fr))
    (hu : P.underlying ty = some d) (hd : (match d with | .struct _ | .array _ _ => true | _ => false) = true) (hi : (P.info? ty).map (·.size) = some cs.size) :
    (results fn tmps).run P w = .ok (.tuple #[.agg cs, v]) w := by
  have hp' : tmps[p]?.getD undef = .pointer (some ⟨g, 0, none⟩) := by simpa using hp
  have hq' : tmps[q]?.getD undef = v := by simpa using hq
  simp [results, h, hp', hq', asAddr, run_loadVar_row w g t ty cs fr d hg hu hd hi, Result.andThen]

set_option maxRecDepth 100000 in
set_option maxHeartbeats 4000000 in
theorem kindOf_ok (j : Nat) (hj : j < 8) (nm : Int) (hm : mayA j nm = true) (w : World) :
    Calls Try.prog 26 #[.agg #[.int .i64 ((j : Int) + 1), .int .i64 nm]] w fun e w' => (∃ F cap, e = .returned (.tuple #[.agg #[.string (kwA j), .int .u32 (kcA j), .bool (knA j), .func (.func F) #[] cap], .bool true])) ∧ Below w.heap.size w w' := by
  have r0 : RowC ((w.alloc (.cells #[.int .i64 ((j : Int) + 1), .int .i64 nm] 26)).alloc (.cells kind0 71)) w.heap.size #[.int .i64 ((j : Int) + 1), .int .i64 nm] 26 := (RowC.new _ _ _ _ rfl).alloc _
  have r1 : RowC ((w.alloc (.cells #[.int .i64 ((j : Int) + 1), .int .i64 nm] 26)).alloc (.cells kind0 71)) (w.heap.size + 1) kind0 71 := RowC.new _ _ _ _ (by simp)
  have HF := Lib.hid (find_ok j hj nm hm w.heap.size _ (r0.cell 0 _ rfl) (r0.cell 1 _ rfl))
  have hb : Below w.heap.size w ((w.alloc (.cells #[.int .i64 ((j : Int) + 1), .int .i64 nm] 26)).alloc (.cells kind0 71)) := ((Below.refl _ _).alloc (Nat.le_refl _) _).alloc (by simp) _
  have R1 := Lib.hid r1
  have HB := Lib.hid hb
  clear r0 r1 hb hm
  go_enter Try.func26, Try.ntmps26
  go_wp2_with fail
  refine HF.out.mono ?_
  rintro e w1 ⟨⟨b1, b2, rfl⟩, hB1⟩
  obtain ⟨F, cap, hkm⟩ := kmA_func b1 b2 j
  simp only [kindA, hkm]
  have hr1 := (R1.out.below hB1 R1.out.lt).alloc (.cells #[.string (kwA j), .int .u32 (kcA j), .bool (knA j), .func (.func F) #[] cap] 71)
  have hbe := (HB.out.trans (hB1.mono HB.out.size)).alloc (by have := HB.out.size; have := hB1.size; omega) (.cells #[.string (kwA j), .int .u32 (kcA j), .bool (knA j), .func (.func F) #[] cap] 71)
  have H1 := Lib.hid hr1
  have HBE := Lib.hid hbe
  clear hr1 hbe hB1 hkm
  have d0 := H1.out.cell 0 _ rfl
  have d1 := H1.out.cell 1 _ rfl
  have d2 := H1.out.cell 2 _ rfl
  have d3 := H1.out.cell 3 _ rfl
  have f0 := H1.out.frozen 0
  have f1 := H1.out.frozen 1
  have f2 := H1.out.frozen 2
  have f3 := H1.out.frozen 3
  go_wp2
  exact bodyPost_ret (results_ct Try.results26 _ _ (w.heap.size + 1) _ _ (0, 0) _ (.bool true) (by rfl) (by rfl) (show RowC _ (w.heap.size + 1) #[.string (kwA j), .int .u32 (kcA j), .bool (knA j), .func (.func F) #[] cap] 71 from (((H1.out.set 0 (.string (kwA j))).set 1 (.int .u32 (kcA j))).set 2 (.bool (knA j))).set 3 (.func (.func F) #[] cap)) Try.underlying71 (by rfl) (show _ = some 4 from infoK)) rfl
    ⟨⟨F, cap, rfl⟩, (((HBE.out.setCell (by simp) _).setCell (by simp) _).setCell (by simp) _).setCell (by simp) _⟩
set_option maxRecDepth 100000 in
set_option maxHeartbeats 4000000 in
theorem kindOf_no (kd nm : Int) (hno : ∀ j : Nat, j < 8 → kd = (j : Int) + 1 → mayA j nm = false) (w : World) :
    Calls Try.prog 26 #[.agg #[.int .i64 kd, .int .i64 nm]] w fun e w' => e = .returned (.tuple #[.agg kind0, .bool false]) ∧ Below w.heap.size w w' := by
  have r0 : RowC ((w.alloc (.cells #[.int .i64 kd, .int .i64 nm] 26)).alloc (.cells kind0 71)) w.heap.size #[.int .i64 kd, .int .i64 nm] 26 := (RowC.new _ _ _ _ rfl).alloc _
  have r1 : RowC ((w.alloc (.cells #[.int .i64 kd, .int .i64 nm] 26)).alloc (.cells kind0 71)) (w.heap.size + 1) kind0 71 := RowC.new _ _ _ _ (by simp)
  have HF := Lib.hid (find_no kd nm hno w.heap.size _ (r0.cell 0 _ rfl) (r0.cell 1 _ rfl))
  have hb : Below w.heap.size w ((w.alloc (.cells #[.int .i64 kd, .int .i64 nm] 26)).alloc (.cells kind0 71)) := ((Below.refl _ _).alloc (Nat.le_refl _) _).alloc (by simp) _
  have R1 := Lib.hid r1
  have HB := Lib.hid hb
  clear r0 r1 hb hno
  go_enter Try.func26, Try.ntmps26
  go_wp2_with fail
  refine HF.out.mono ?_
  rintro e w1 ⟨rfl, hB1⟩
  have hr1 := (R1.out.below hB1 R1.out.lt).alloc (.cells kind0 71)
  have hbe := (HB.out.trans (hB1.mono HB.out.size)).alloc (by have := HB.out.size; have := hB1.size; omega) (.cells kind0 71)
  have H1 := Lib.hid hr1
  have HBE := Lib.hid hbe
  clear hr1 hbe hB1
  have d0 := H1.out.cell 0 _ rfl
  have d1 := H1.out.cell 1 _ rfl
  have d2 := H1.out.cell 2 _ rfl
  have d3 := H1.out.cell 3 _ rfl
  have f0 := H1.out.frozen 0
  have f1 := H1.out.frozen 1
  have f2 := H1.out.frozen 2
  have f3 := H1.out.frozen 3
  go_wp2
  exact bodyPost_ret (results_ct Try.results26 _ _ (w.heap.size + 1) _ _ (0, 0) _ (.bool false) (by rfl) (by rfl) (show RowC _ (w.heap.size + 1) kind0 71 from (((H1.out.set 0 (.string ⟨#[]⟩)).set 1 (.int .u32 0)).set 2 (.bool false)).set 3 .nilFunc) Try.underlying71 (by rfl) (show _ = some 4 from infoK)) rfl
    ⟨rfl, (((HBE.out.setCell (by simp) _).setCell (by simp) _).setCell (by simp) _).setCell (by simp) _⟩

theorem most_le (j : Nat) : mostA j ≤ 65535 := by unfold mostA; split <;> (try split) <;> omega
theorem may_bd {j : Nat} {nm : Int} (h : mayA j nm = true) : 0 ≤ nm ∧ nm ≤ 65535 := by
  unfold mayA at h
  simp at h
  have := most_le j
  omega
/-- The code of a right action fits. -/
theorem code_lt {j : Nat} {nm : Int} (h : mayA j nm = true) : (kcA j : Int) + nm < 4294967296 := by
  have h1 := may_bd h
  have : kcA j ≤ 2147483648 := by unfold kcA; split <;> decide
  omega
end Go.Proofs.Ytnlnddmnbeilfaa
