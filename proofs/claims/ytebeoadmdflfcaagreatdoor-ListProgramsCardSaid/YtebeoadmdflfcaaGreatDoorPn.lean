/-
  list.read: what instOf tells, or its panic caught.
-/
import Derived.Test.YtebeoadmdflfcaaGreatDoorPm
namespace Go.Proofs.YtebeoadmdflfcaaGreatDoor
open Go.RowKit Go.Shelf
set_option linter.unusedVariables false

set_option maxRecDepth 100000 in
set_option maxHeartbeats 4000000 in
theorem catchL_panicking (H E : Nat) (w : World) (hH : RowC w H #[.int .u16 0, .int .u8 0, .int .u8 0, .int .u32 0] 25) (hE : RowC w E #[.int .i64 0] 26) (hne : H ≠ E) (older : List PanicEntry) :
    CallsD Tryz.prog 32 #[.pointer (some ⟨H, 0, none⟩), .pointer (some ⟨E, 0, none⟩)] (.panicking ({ v := .iface 26 (.int .i64 13), recovered := false } :: older)) w fun e u' w' =>
      e = .returned (.tuple #[]) ∧ u' = .panicking ({ v := .iface 26 (.int .i64 13), recovered := true } :: older) ∧ RowC w' H #[.int .u16 0, .int .u8 0, .int .u8 0, .int .u32 0] 25 ∧ RowC w' E #[.int .i64 13] 26 ∧ (∀ B, B ≤ H → B ≤ E → Below B w w') := by
  have hta : ∀ w : World, (Instr.typeAssert (.iface 26 (.int .i64 13)) 20 26 true).run Tryz.prog w = .ok (.tuple #[.int .i64 13, .bool true]) w := fun _ => by kernel_rfl
  have z0 := hH.cell 0 _ rfl
  have z1 := hH.cell 1 _ rfl
  have z2 := hH.cell 2 _ rfl
  have z3 := hH.cell 3 _ rfl
  have f0 := hH.frozen 0
  have f1 := hH.frozen 1
  have f2 := hH.frozen 2
  have f3 := hH.frozen 3
  have y0 := hE.cell 0 _ rfl
  have x0 := hE.frozen 0
  have HH := Lib.hid hH
  have HE := Lib.hid hE
  have HN := Lib.hid hne
  clear hH hE
  refine callsD_of_wpS Tryz.func32 rfl fun c₀ cs hu => ?_
  apply wpS_seq
  apply wpS_region
  simp [wpOpsS, go_sem, recoverD, hu, Tryz.ntmps32, Exit.thenS, hta]
  apply wpS_seq
  apply wpS_region
  simp [wpOpsS, go_sem, Exit.thenS, Array.replicate_succ]
  refine wpS_cond (t := true) (by simp [Act.eval]) ?_
  simp only [if_true]
  refine wpS_of_wp ?_
  go_wp2
  have a1 : RowC (((((w.setCell ⟨H, 0, none⟩ (.int .u16 0)).setCell ⟨H, 1, none⟩ (.int .u8 0)).setCell ⟨H, 2, none⟩ (.int .u8 0)).setCell ⟨H, 3, none⟩ (.int .u32 0)).setCell ⟨E, 0, none⟩ (.int .i64 13)) H #[.int .u16 0, .int .u8 0, .int .u8 0, .int .u32 0] 25 := ((((HH.out.set 0 (.int .u16 0)).set 1 (.int .u8 0)).set 2 (.int .u8 0)).set 3 (.int .u32 0)).setOther 0 _ HN.out
  have a2 : RowC (((((w.setCell ⟨H, 0, none⟩ (.int .u16 0)).setCell ⟨H, 1, none⟩ (.int .u8 0)).setCell ⟨H, 2, none⟩ (.int .u8 0)).setCell ⟨H, 3, none⟩ (.int .u32 0)).setCell ⟨E, 0, none⟩ (.int .i64 13)) E #[.int .i64 13] 26 := ((((HE.out.setOther 0 _ HN.out.symm).setOther 1 _ HN.out.symm).setOther 2 _ HN.out.symm).setOther 3 _ HN.out.symm).set 0 (.int .i64 13)
  have a3 : ∀ B, B ≤ H → B ≤ E → Below B w (((((w.setCell ⟨H, 0, none⟩ (.int .u16 0)).setCell ⟨H, 1, none⟩ (.int .u8 0)).setCell ⟨H, 2, none⟩ (.int .u8 0)).setCell ⟨H, 3, none⟩ (.int .u32 0)).setCell ⟨E, 0, none⟩ (.int .i64 13)) := fun B h1 h2 => (((((Below.refl _ _).setCell h1 _).setCell h1 _).setCell h1 _).setCell h1 _).setCell h2 _
  simp [bodyPostS, results, Tryz.results32]
  exact ⟨a1, a2, a3⟩
set_option maxRecDepth 100000 in
set_option maxHeartbeats 4000000 in
theorem catchL_idle (H E : Nat) (w : World) :
    CallsD Tryz.prog 32 #[.pointer (some ⟨H, 0, none⟩), .pointer (some ⟨E, 0, none⟩)] .returning w fun e u' w' =>
      e = .returned (.tuple #[]) ∧ u' = .returning ∧ w' = w := by
  have hta : ∀ w : World, (Instr.typeAssert .nilIface 20 26 true).run Tryz.prog w = .ok (.tuple #[.int .i64 0, .bool false]) w := fun _ => by kernel_rfl
  refine callsD_of_wpS Tryz.func32 rfl fun c₀ cs hu => ?_
  apply wpS_seq
  apply wpS_region
  simp [wpOpsS, go_sem, recoverD, hu, Tryz.ntmps32, Exit.thenS, hta]
  apply wpS_seq
  apply wpS_region
  simp [wpOpsS, go_sem, Exit.thenS, Array.replicate_succ]
  refine wpS_cond (t := false) (by simp [Act.eval]) ?_
  simp only [Bool.false_eq_true, if_false]
  refine wpS_of_wp (wp_skip ?_)
  cases c₀
  simp_all [bodyPostS, results, Tryz.results32]
/-- Two results in blocks: a row, a cell. -/
theorem results_row_cellL {P : Program} {fn : Func} {p q : Tmp} {ty t2 : TypeId} (h : fn.results = #[.cell p ty, .cell q t2]) (tmps : Array Value) (w : World) (g : Nat) (t : TypeId) (cs : Array Value) (fr : Nat × Nat) (d : TypeDesc) (a2 : Addr) (v2 : Value)
    (hp : tmps.getD p undef = .pointer (some ⟨g, 0, none⟩)) (hq : tmps.getD q undef = .pointer (some a2)) (hg : w.heap[g]? = some (.cells cs t fr))
    (hu : P.underlying ty = some d) (hd : (match d with | .struct _ | .array _ _ => true | _ => false) = true) (hi : (P.info? ty).map (·.size) = some cs.size)
    (i2 : (isAgg t2).run P w = .ok false w) (c2 : w.cell? a2 = some v2) :
    (results fn tmps).run P w = .ok (.tuple #[.agg cs, v2]) w := by
  have hp' : tmps[p]?.getD undef = .pointer (some ⟨g, 0, none⟩) := by simpa using hp
  have hq' : tmps[q]?.getD undef = .pointer (some a2) := by simpa using hq
  have hl : (loadVar t2 a2).run P w = .ok v2 w := by simp [loadVar, i2, run_load, c2, Result.andThen]
  simp [results, h, hp', hq', asAddr, run_loadVar_row w g t ty cs fr d hg hu hd hi, hl, Result.andThen]
set_option maxRecDepth 100000 in
set_option maxHeartbeats 8000000 in
theorem readW_bad (sl : Value) (w : World) (hI : ∀ W, Below w.heap.size w W → Calls Tryz.prog 33 #[sl] W fun e w' => e = badE ∧ Below W.heap.size W w') :
    Calls Tryz.prog 15 #[sl] w fun e w' => e = .returned (.tuple #[.agg zI, .int .i64 13]) ∧ Below w.heap.size w w' := by
  have hmf : ∀ (fn : Fn) (first cap : Array Value) (w : World), (Instr.makeFunc fn first cap).run Tryz.prog w = .ok (.func fn first cap) w := fun _ _ _ _ => rfl
  obtain ⟨W0, hW0⟩ : ∃ W, (w.alloc (.cells #[.int .u16 0, .int .u8 0, .int .u8 0, .int .u32 0] 25)).alloc (.cells #[.int .i64 0] 26) = W := ⟨_, rfl⟩
  have hb0 : Below w.heap.size w W0 := by rw [← hW0]; exact ((Below.refl _ _).alloc (Nat.le_refl _) _).alloc (by simp) _
  have r0 : RowC W0 w.heap.size #[.int .u16 0, .int .u8 0, .int .u8 0, .int .u32 0] 25 := by rw [← hW0]; exact (RowC.new _ _ _ _ rfl).alloc _
  have r1 : RowC W0 (w.heap.size + 1) #[.int .i64 0] 26 := by rw [← hW0]; exact RowC.new _ _ _ _ (by simp)
  have HI := Lib.hid (hI W0 hb0)
  have HB := Lib.hid hb0
  have HW := Lib.hid hW0
  have HR0 := Lib.hid r0
  have HR1 := Lib.hid r1
  clear hI hb0 hW0 r0 r1
  go_enter_defers Tryz.func15, Tryz.ntmps15
  go_upto_region 1 with fail
  rw [HW.out]
  go_wp2_with fail
  refine HI.out.mono ?_
  rintro e w1 ⟨rfl, hB1⟩
  have q0 := HR0.out.below hB1 HR0.out.lt
  have q1 := HR1.out.below hB1 HR1.out.lt
  have HB1 := Lib.hid (HB.out.trans (hB1.mono HB.out.size))
  show bodyPostD Tryz.prog Tryz.f15 _ (Exit.panic _) _ _
  refine leaves_cons (f := 32) (args := #[.pointer (some ⟨w.heap.size, 0, none⟩), .pointer (some ⟨w.heap.size + 1, 0, none⟩)]) (by simp) (by simp [go_sem]) ?_
  refine (catchL_panicking w.heap.size (w.heap.size + 1) w1 q0 q1 (by omega) []).mono ?_
  rintro e u' w2 ⟨rfl, rfl, p0, p1, pb⟩
  exact ⟨_, results_row_cellL Tryz.results15 _ _ w.heap.size _ _ (0, 0) _ ⟨w.heap.size + 1, 0, none⟩ (.int .i64 13) (by rfl) (by rfl) p0 Tryz.underlying25 (by rfl) (show _ = some 4 by kernel_rfl) (by kernel_rfl) (p1.cell 0 _ rfl), rfl, HB1.out.trans (pb _ (Nat.le_refl _) (Nat.le_succ _))⟩
set_option maxRecDepth 100000 in
set_option maxHeartbeats 8000000 in
theorem readW_ok (sl : Value) (c t f k : Nat) (w : World) (hI : ∀ W, Below w.heap.size w W → Calls Tryz.prog 33 #[sl] W fun e w' => e = .returned (.agg (instA c t f k)) ∧ Below W.heap.size W w') :
    Calls Tryz.prog 15 #[sl] w fun e w' => e = .returned (.tuple #[.agg (instA c t f k), .int .i64 0]) ∧ Below w.heap.size w w' := by
  have hmf : ∀ (fn : Fn) (first cap : Array Value) (w : World), (Instr.makeFunc fn first cap).run Tryz.prog w = .ok (.func fn first cap) w := fun _ _ _ _ => rfl
  obtain ⟨W0, hW0⟩ : ∃ W, (w.alloc (.cells #[.int .u16 0, .int .u8 0, .int .u8 0, .int .u32 0] 25)).alloc (.cells #[.int .i64 0] 26) = W := ⟨_, rfl⟩
  have hb0 : Below w.heap.size w W0 := by rw [← hW0]; exact ((Below.refl _ _).alloc (Nat.le_refl _) _).alloc (by simp) _
  have r0 : RowC W0 w.heap.size #[.int .u16 0, .int .u8 0, .int .u8 0, .int .u32 0] 25 := by rw [← hW0]; exact (RowC.new _ _ _ _ rfl).alloc _
  have r1 : RowC W0 (w.heap.size + 1) #[.int .i64 0] 26 := by rw [← hW0]; exact RowC.new _ _ _ _ (by simp)
  have HI := Lib.hid (hI W0 hb0)
  have HB := Lib.hid hb0
  have HW := Lib.hid hW0
  have HR0 := Lib.hid r0
  have HR1 := Lib.hid r1
  clear hI hb0 hW0 r0 r1
  go_enter_defers Tryz.func15, Tryz.ntmps15
  go_upto_region 1 with fail
  rw [HW.out]
  go_wp2_with fail
  refine HI.out.mono ?_
  rintro e w1 ⟨rfl, hB1⟩
  have q0 := HR0.out.below hB1 HR0.out.lt
  have q1 := HR1.out.below hB1 HR1.out.lt
  have HB1 := Lib.hid (HB.out.trans (hB1.mono HB.out.size))
  have z0 := q0.cell 0 _ rfl
  have z1 := q0.cell 1 _ rfl
  have z2 := q0.cell 2 _ rfl
  have z3 := q0.cell 3 _ rfl
  have f0 := q0.frozen 0
  have f1 := q0.frozen 1
  have f2 := q0.frozen 2
  have f3 := q0.frozen 3
  have y0 := q1.cell 0 _ rfl
  have x0 := q1.frozen 0
  have HQ0 := Lib.hid q0
  have HQ1 := Lib.hid q1
  have hne : w.heap.size ≠ w.heap.size + 1 := by omega
  clear q0 q1 hB1
  go_wp2
  refine leaves_cons (f := 32) (args := #[.pointer (some ⟨w.heap.size, 0, none⟩), .pointer (some ⟨w.heap.size + 1, 0, none⟩)]) (by simp) (by simp [go_sem]) ?_
  refine (catchL_idle w.heap.size (w.heap.size + 1) _).mono ?_
  rintro e u' w2 ⟨rfl, rfl, rfl⟩
  have p0 : RowC (((((w1.setCell ⟨w.heap.size, 0, none⟩ (.int .u16 c)).setCell ⟨w.heap.size, 1, none⟩ (.int .u8 t)).setCell ⟨w.heap.size, 2, none⟩ (.int .u8 f)).setCell ⟨w.heap.size, 3, none⟩ (.int .u32 k)).setCell ⟨w.heap.size + 1, 0, none⟩ (.int .i64 0)) w.heap.size (instA c t f k) 25 := ((((HQ0.out.set 0 (.int .u16 c)).set 1 (.int .u8 t)).set 2 (.int .u8 f)).set 3 (.int .u32 k)).setOther 0 _ hne
  have p1 : RowC (((((w1.setCell ⟨w.heap.size, 0, none⟩ (.int .u16 c)).setCell ⟨w.heap.size, 1, none⟩ (.int .u8 t)).setCell ⟨w.heap.size, 2, none⟩ (.int .u8 f)).setCell ⟨w.heap.size, 3, none⟩ (.int .u32 k)).setCell ⟨w.heap.size + 1, 0, none⟩ (.int .i64 0)) (w.heap.size + 1) #[.int .i64 0] 26 := ((((HQ1.out.setOther 0 _ hne.symm).setOther 1 _ hne.symm).setOther 2 _ hne.symm).setOther 3 _ hne.symm).set 0 (.int .i64 0)
  exact ⟨_, results_row_cellL Tryz.results15 _ _ w.heap.size _ _ (0, 0) _ ⟨w.heap.size + 1, 0, none⟩ (.int .i64 0) (by rfl) (by rfl) p0 Tryz.underlying25 (by rfl) (show _ = some 4 by kernel_rfl) (by kernel_rfl) (p1.cell 0 _ rfl), rfl, ((((HB1.out.setCell (Nat.le_refl _) _).setCell (Nat.le_refl _) _).setCell (Nat.le_refl _) _).setCell (Nat.le_refl _) _).setCell (Nat.le_succ _) _⟩
end Go.Proofs.YtebeoadmdflfcaaGreatDoor
