/-
  Operators of conditions: what the row of operators holds; the contracts of cond.operators and of its functions.
-/
import Derived.Test.YtccklmleaffgiaaGreatDoorProg
import Derived.Test.YtccklmleaffgiaaGreatDoorQ1
import Derived.WalkKit
import Derived.Deep.WholeRow
import Derived.Laws.EntriesVeiled
import Derived.Laws.CopyOwn
import Derived.Laws.Bits64b
import Derived.Lib.Hide
import Derived.RegionTactic
import Derived.Shelf.Abstract
namespace Go.Proofs.YtccklmleaffgiaaGreatDoor
open Go.RowKit
set_option linter.unusedVariables false

/-- The operators' signs, whether a mask follows, when they hold. -/
def sgO : Nat → ByteArray
  | 0 => ⟨#[61, 61]⟩
  | 1 => ⟨#[33, 61]⟩
  | 2 => ⟨#[60]⟩
  | 3 => ⟨#[60, 61]⟩
  | 4 => ⟨#[62]⟩
  | 5 => ⟨#[62, 61]⟩
  | _ => ⟨#[38]⟩
def mkO (j : Nat) : Bool := j == 6
def fnO : Nat → Value
  | 0 => .func (.func 131) #[] #[]
  | 1 => .func (.func 132) #[] #[]
  | 2 => .func (.func 133) #[] #[]
  | 3 => .func (.func 134) #[] #[]
  | 4 => .func (.func 135) #[] #[]
  | 5 => .func (.func 136) #[] #[]
  | _ => .func (.func 137) #[] #[]
abbrev opA (j : Nat) : Array Value := #[.string (sgO j), .bool (mkO j), fnO j]
abbrev op0 : Array Value := #[.string ⟨#[]⟩, .bool false, .nilFunc]
def opsA : Array Value := #[.string (sgO 0), .bool (mkO 0), fnO 0,
  .string (sgO 1), .bool (mkO 1), fnO 1,
  .string (sgO 2), .bool (mkO 2), fnO 2,
  .string (sgO 3), .bool (mkO 3), fnO 3,
  .string (sgO 4), .bool (mkO 4), fnO 4,
  .string (sgO 5), .bool (mkO 5), fnO 5,
  .string (sgO 6), .bool (mkO 6), fnO 6]
theorem opsA_at (a : Nat) (ha : a < 7) : opsA.extract (a * 3) (a * 3 + 3) = opA a := by
  match a, ha with
  | 0, _ => rfl
  | 1, _ => rfl
  | 2, _ => rfl
  | 3, _ => rfl
  | 4, _ => rfl
  | 5, _ => rfl
  | 6, _ => rfl
theorem fnO_func (j : Nat) : ∃ F, fnO j = .func (.func F) #[] #[] := by unfold fnO; split <;> exact ⟨_, rfl⟩
theorem infoO : (Tryz.prog.info? 137).map (·.size) = some 3 := by kernel_rfl
theorem ixO (a : Nat) (ha : a < 7) (W : World) : (Instr.index 186 (.agg opsA) (.int .i64 a)).run Tryz.prog W = .ok (.agg (opA a)) W := by
  have h1 : (0 ≤ (a : Int) ∧ (a : Int) < 7) := by omega
  have hlt : 137 < Tryz.prog.types.size := of_decide_eq_true (by kernel_rfl)
  have hsz : (Tryz.prog.types[137]'hlt).size = 3 := by kernel_rfl
  rw [← opsA_at a ha]
  simp [Instr.index, run_underlying Tryz.underlying186, asIntOf, h1, ha, go_sem]
theorem ret_bl {a b : Bool} (h : a = b) : Ending.returned (.bool a) = .returned (.bool b) := by rw [h]

def zO : Array Value := #[.string ⟨#[]⟩, .bool false, .nilFunc, .string ⟨#[]⟩, .bool false, .nilFunc, .string ⟨#[]⟩, .bool false, .nilFunc, .string ⟨#[]⟩, .bool false, .nilFunc, .string ⟨#[]⟩, .bool false, .nilFunc, .string ⟨#[]⟩, .bool false, .nilFunc, .string ⟨#[]⟩, .bool false, .nilFunc]
set_option maxRecDepth 100000 in
set_option maxHeartbeats 2000000 in
theorem operators_any (w : World) : Calls Tryz.prog 102 #[] w fun e w' => e = .returned (.agg opsA) ∧ Below w.heap.size w w' := by
  obtain ⟨D, hD⟩ : ∃ D, opsA = D := ⟨_, rfl⟩
  have hi : (Tryz.prog.info? 186).map (·.size) = some D.size := by rw [← hD]; show _ = some 21; kernel_rfl
  have h1c : D.all (·.oneCell') = true := by rw [← hD]; simp [opsA, Value.oneCell', fnO]
  have S1 := Lib.hid hi
  have S2 := Lib.hid h1c
  have HD := Lib.hid hD
  clear hi h1c hD
  have r0 : RowC (w.alloc (.cells zO 186)) w.heap.size zO 186 := RowC.new _ _ _ _ rfl
  have hb : Below w.heap.size w (w.alloc (.cells zO 186)) := (Below.refl _ _).alloc (Nat.le_refl _) _
  have H0 := Lib.hid r0
  have HB := Lib.hid hb
  clear r0 hb
  unfold zO at H0 HB
  go_enter Tryz.func102, Tryz.ntmps102
  go_wp2_with (refine wpList_store_row (by rfl) 186 _ _ (by rfl) w.heap.size D (by rfl) (by rw [← HD.out]; rfl) _ _ H0.out S1.out (by rw [← HD.out]; rfl) S2.out ?_)
  exact bodyPost_ret (results_cell_row Tryz.results102 _ _ w.heap.size _ _ (0, 0) _ (by rfl) (setRow_heap _ _ _ _ _ _ H0.out) Tryz.underlying186 (by rfl) S1.out) rfl ⟨by rw [HD.out], below_setRow HB.out (Nat.le_refl _) _⟩
end Go.Proofs.YtccklmleaffgiaaGreatDoor

/-
  The contract of cond.find at its two questions' functions; of operatorOf and Holds.
-/
namespace Go.Proofs.YtccklmleaffgiaaGreatDoor
open Go.RowKit
set_option linter.unusedVariables false

/-- What a look for an operator gives. -/
def FindO (P : Nat → Bool) (w : World) (e : Ending) (w' : World) : Prop :=
  ((∃ j, j < 7 ∧ P j = true ∧ (∀ i, i < j → P i = false) ∧ e = .returned (.tuple #[.int .i64 ((j : Int) + 1), .agg (opA j), .bool true])) ∨
   ((∀ i, i < 7 → P i = false) ∧ e = .returned (.tuple #[.int .i64 0, .agg op0, .bool false]))) ∧ Below w.heap.size w w'
theorem results_tctO {P : Program} {fn : Func} {p q r : Tmp} {ty : TypeId} (h : fn.results = #[.tmp p, .cell q ty, .tmp r]) (tmps : Array Value) (w : World) (g : Nat) (t : TypeId) (cs : Array Value) (fr : Nat × Nat) (d : TypeDesc) (u v : Value)
    (hp : tmps.getD p undef = u) (hq : tmps.getD q undef = .pointer (some ⟨g, 0, none⟩)) (hr : tmps.getD r undef = v) (hg : w.heap[g]? = some (.cells cs t fr))
    (hu : P.underlying ty = some d) (hd : (match d with | .struct _ | .array _ _ => true | _ => false) = true) (hi : (P.info? ty).map (·.size) = some cs.size) :
    (results fn tmps).run P w = .ok (.tuple #[u, .agg cs, v]) w := by
  have hp' : tmps[p]?.getD undef = u := by simpa using hp
  have hq' : tmps[q]?.getD undef = .pointer (some ⟨g, 0, none⟩) := by simpa using hq
  have hr' : tmps[r]?.getD undef = v := by simpa using hr
  simp [results, h, hp', hq', hr', asAddr, run_loadVar_row w g t ty cs fr d hg hu hd hi, Result.andThen]

theorem results_ctO {P : Program} {fn : Func} {p q : Tmp} {ty : TypeId} (h : fn.results = #[.cell p ty, .tmp q]) (tmps : Array Value) (w : World) (g : Nat) (t : TypeId) (cs : Array Value) (fr : Nat × Nat) (d : TypeDesc) (v : Value)
    (hp : tmps.getD p undef = .pointer (some ⟨g, 0, none⟩)) (hq : tmps.getD q undef = v) (hg : w.heap[g]? = some (.cells cs t fr))
    (hu : P.underlying ty = some d) (hd : (match d with | .struct _ | .array _ _ => true | _ => false) = true) (hi : (P.info? ty).map (·.size) = some cs.size) :
    (results fn tmps).run P w = .ok (.tuple #[.agg cs, v]) w := by
  have hp' : tmps[p]?.getD undef = .pointer (some ⟨g, 0, none⟩) := by simpa using hp
  have hq' : tmps[q]?.getD undef = v := by simpa using hq
  simp [results, h, hp', hq', asAddr, run_loadVar_row w g t ty cs fr d hg hu hd hi, Result.andThen]


set_option maxRecDepth 100000 in
set_option maxHeartbeats 8000000 in
theorem find_of (CB : Nat) (P : Nat → Bool) (w : World) (hcl : ∀ (wr : World), Below w.heap.size w wr → ∀ (k : Nat), k < 7 → Calls Tryz.prog 85 #[.int .i64 ((k : Int) + 1), .agg (opA k), .pointer (some ⟨CB, 0, none⟩)] wr fun e w' => e = .returned (.bool (P k)) ∧ Below wr.heap.size wr w') :
    Calls Tryz.prog 84 #[.func (.func 85) #[] #[.pointer (some ⟨CB, 0, none⟩)]] w (FindO P w) := by
  have HP := Lib.hid hcl
  clear hcl
  have HK := Lib.hid (operators_any (w.alloc (.cells op0 137)))
  go_enter Tryz.func84, Tryz.ntmps84
  go_wp2_with (go_at_call 102; refine HK.out.mono ?_; rintro e w1 ⟨rfl, hB1⟩)
  have ez : (w.alloc (.cells op0 137)).heap.size = w.heap.size + 1 := by simp
  rw [ez] at hB1
  have hb0 : Below w.heap.size w w1 := ((Below.refl _ _).alloc (Nat.le_refl _) _).trans (hB1.mono (by omega))
  have hr0 : RowC w1 w.heap.size op0 137 := (RowC.new w op0 137 _ rfl).below hB1 (by omega)
  clear hB1 ez HK
  go_loopw [9] (fun i wr => ∃ k : Nat, k ≤ 7 ∧ i = .int .i64 k ∧ (∀ i, i < k → P i = false) ∧ RowC wr w.heap.size op0 137 ∧ Below w.heap.size w wr)
    (fun i _ => 7 - (intOf i).toNat)
  case atStart => exact ⟨0, by omega, rfl, fun i h => by omega, hr0, hb0⟩
  case round =>
    obtain ⟨k, hk, rfl, hno, g0, hB⟩ := hrel
    have HNO := Lib.hid hno
    clear hno
    by_cases hlt : k < 7
    · have hix := ixO k hlt
      obtain ⟨F, hkm⟩ := fnO_func k
      have i1 : (0 : Int) ≤ (k : Int) := by omega
      have i2 : (k : Int) < 7 := by omega
      have hs := hB.size
      have hcl := HP.out (wr.alloc (.cells (opA k) 137)) (hB.alloc hs _) k hlt
      have hg0 := g0.alloc (.cells (opA k) 137)
      have hFin : Hid (opA k = #[.string (sgO k), .bool (mkO k), .func (.func F) #[] #[]]) := Lib.hid (by unfold opA; rw [hkm])
      simp only [opA, hkm] at hix hcl hg0
      have HCL := Lib.hid hcl
      have HG0 := Lib.hid hg0
      have HBW := Lib.hid hB
      clear hcl g0 hB hkm hg0
      cases hp : P k
      · rw [hp] at HCL
        have HPK := Lib.hid hp
        clear hp
        go_wp2_with (go_at_call 85; refine HCL.out.mono ?_; rintro e w5 ⟨rfl, hB5⟩)
        have q0 := HG0.out
        exact ⟨⟨k + 1, by omega, by go_num, fun i hi => by
          by_cases h : i = k
          · subst h; exact HPK.out
          · exact HNO.out i (by omega), q0.below hB5 q0.lt, (HBW.out.alloc hs _).trans (hB5.mono (by simp; omega))⟩, by simp [intOf]; omega⟩
      · rw [hp] at HCL
        have HPK := Lib.hid hp
        clear hp
        go_wp2_with (go_at_call 85; refine HCL.out.mono ?_; rintro e w5 ⟨rfl, hB5⟩)
        have q0 := HG0.out
        have r3 := q0.below hB5 q0.lt
        have r6 : RowC w5 wr.heap.size #[.string (sgO k), .bool (mkO k), .func (.func F) #[] #[]] 137 := (RowC.new wr _ 137 _ rfl).below hB5 (by simp)
        have hB6 : Below w.heap.size w w5 := (HBW.out.alloc hs _).trans (hB5.mono (by simp; omega))
        have c0 := r6.cell 0 _ rfl
        have c1 := r6.cell 1 _ rfl
        have c2 := r6.cell 2 _ rfl
        have R3 := Lib.hid r3
        have HB6 := Lib.hid hB6
        clear q0 r6 hB6 hB5
        have d0 := R3.out.cell 0 _ rfl
        have d1 := R3.out.cell 1 _ rfl
        have d2 := R3.out.cell 2 _ rfl
        have f0 := R3.out.frozen 0
        have f1 := R3.out.frozen 1
        have f2 := R3.out.frozen 2
        clear r3
        go_region
        all_goals go_wp2
        have hrow : RowC (((w5.setCell ⟨w.heap.size, 0, none⟩ (.string (sgO k))).setCell ⟨w.heap.size, 1, none⟩ (.bool (mkO k))).setCell ⟨w.heap.size, 2, none⟩ (.func (.func F) #[] #[])).drew w.heap.size #[.string (sgO k), .bool (mkO k), .func (.func F) #[] #[]] 137 := ((R3.out.set 0 (.string (sgO k))).set 1 (.bool (mkO k))).set 2 (.func (.func F) #[] #[])
        have hbe : Below w.heap.size w (((w5.setCell ⟨w.heap.size, 0, none⟩ (.string (sgO k))).setCell ⟨w.heap.size, 1, none⟩ (.bool (mkO k))).setCell ⟨w.heap.size, 2, none⟩ (.func (.func F) #[] #[])).drew := (((HB6.out.setCell (by simp) _).setCell (by simp) _).setCell (by simp) _).drew
        all_goals
          refine bodyPost_ret (results_tctO Tryz.results84 _ _ w.heap.size _ _ (0, 0) _ (.int .i64 ((k : Int) + 1)) (.bool true) (by rfl) (by rfl) (by rfl) hrow Tryz.underlying137 (by rfl) (show _ = some 3 from infoO)) rfl ?_
          refine ⟨.inl ⟨k, hlt, HPK.out, HNO.out, ?_⟩, hbe⟩
          rw [hFin.out]
    · obtain rfl : k = 7 := by omega
      have G0 := Lib.hid g0
      have HBW := Lib.hid hB
      clear g0 hB
      go_wp2_with (refine wpList_store_row (by rfl) 137 _ _ (by rfl) w.heap.size op0 (by rfl) (by rfl) _ _ G0.out (show _ = some op0.size from infoO) (by rfl) (by simp [Value.oneCell']) ?_)
      refine bodyPost_ret (results_tctO Tryz.results84 _ _ w.heap.size _ op0 (0, 0) _ (.int .i64 0) (.bool false) (by rfl) (by rfl) (by rfl) (setRow_heap _ _ _ _ _ _ G0.out) Tryz.underlying137 (by rfl) (show _ = some op0.size from infoO)) rfl ?_
      exact ⟨.inr ⟨HNO.out, rfl⟩, below_setRow HBW.out (Nat.le_refl _) _⟩

set_option maxRecDepth 100000 in
set_option maxHeartbeats 8000000 in
theorem find_read (CB : Nat) (P : Nat → Bool) (w : World) (hcl : ∀ (wr : World), Below w.heap.size w wr → ∀ (k : Nat), k < 7 → Calls Tryz.prog 123 #[.int .i64 ((k : Int) + 1), .agg (opA k), .pointer (some ⟨CB, 0, none⟩)] wr fun e w' => e = .returned (.bool (P k)) ∧ Below wr.heap.size wr w') :
    Calls Tryz.prog 84 #[.func (.func 123) #[] #[.pointer (some ⟨CB, 0, none⟩)]] w (FindO P w) := by
  have HP := Lib.hid hcl
  clear hcl
  have HK := Lib.hid (operators_any (w.alloc (.cells op0 137)))
  go_enter Tryz.func84, Tryz.ntmps84
  go_wp2_with (go_at_call 102; refine HK.out.mono ?_; rintro e w1 ⟨rfl, hB1⟩)
  have ez : (w.alloc (.cells op0 137)).heap.size = w.heap.size + 1 := by simp
  rw [ez] at hB1
  have hb0 : Below w.heap.size w w1 := ((Below.refl _ _).alloc (Nat.le_refl _) _).trans (hB1.mono (by omega))
  have hr0 : RowC w1 w.heap.size op0 137 := (RowC.new w op0 137 _ rfl).below hB1 (by omega)
  clear hB1 ez HK
  go_loopw [9] (fun i wr => ∃ k : Nat, k ≤ 7 ∧ i = .int .i64 k ∧ (∀ i, i < k → P i = false) ∧ RowC wr w.heap.size op0 137 ∧ Below w.heap.size w wr)
    (fun i _ => 7 - (intOf i).toNat)
  case atStart => exact ⟨0, by omega, rfl, fun i h => by omega, hr0, hb0⟩
  case round =>
    obtain ⟨k, hk, rfl, hno, g0, hB⟩ := hrel
    have HNO := Lib.hid hno
    clear hno
    by_cases hlt : k < 7
    · have hix := ixO k hlt
      obtain ⟨F, hkm⟩ := fnO_func k
      have i1 : (0 : Int) ≤ (k : Int) := by omega
      have i2 : (k : Int) < 7 := by omega
      have hs := hB.size
      have hcl := HP.out (wr.alloc (.cells (opA k) 137)) (hB.alloc hs _) k hlt
      have hg0 := g0.alloc (.cells (opA k) 137)
      have hFin : Hid (opA k = #[.string (sgO k), .bool (mkO k), .func (.func F) #[] #[]]) := Lib.hid (by unfold opA; rw [hkm])
      simp only [opA, hkm] at hix hcl hg0
      have HCL := Lib.hid hcl
      have HG0 := Lib.hid hg0
      have HBW := Lib.hid hB
      clear hcl g0 hB hkm hg0
      cases hp : P k
      · rw [hp] at HCL
        have HPK := Lib.hid hp
        clear hp
        go_wp2_with (go_at_call 123; refine HCL.out.mono ?_; rintro e w5 ⟨rfl, hB5⟩)
        have q0 := HG0.out
        exact ⟨⟨k + 1, by omega, by go_num, fun i hi => by
          by_cases h : i = k
          · subst h; exact HPK.out
          · exact HNO.out i (by omega), q0.below hB5 q0.lt, (HBW.out.alloc hs _).trans (hB5.mono (by simp; omega))⟩, by simp [intOf]; omega⟩
      · rw [hp] at HCL
        have HPK := Lib.hid hp
        clear hp
        go_wp2_with (go_at_call 123; refine HCL.out.mono ?_; rintro e w5 ⟨rfl, hB5⟩)
        have q0 := HG0.out
        have r3 := q0.below hB5 q0.lt
        have r6 : RowC w5 wr.heap.size #[.string (sgO k), .bool (mkO k), .func (.func F) #[] #[]] 137 := (RowC.new wr _ 137 _ rfl).below hB5 (by simp)
        have hB6 : Below w.heap.size w w5 := (HBW.out.alloc hs _).trans (hB5.mono (by simp; omega))
        have c0 := r6.cell 0 _ rfl
        have c1 := r6.cell 1 _ rfl
        have c2 := r6.cell 2 _ rfl
        have R3 := Lib.hid r3
        have HB6 := Lib.hid hB6
        clear q0 r6 hB6 hB5
        have d0 := R3.out.cell 0 _ rfl
        have d1 := R3.out.cell 1 _ rfl
        have d2 := R3.out.cell 2 _ rfl
        have f0 := R3.out.frozen 0
        have f1 := R3.out.frozen 1
        have f2 := R3.out.frozen 2
        clear r3
        go_region
        all_goals go_wp2
        have hrow : RowC (((w5.setCell ⟨w.heap.size, 0, none⟩ (.string (sgO k))).setCell ⟨w.heap.size, 1, none⟩ (.bool (mkO k))).setCell ⟨w.heap.size, 2, none⟩ (.func (.func F) #[] #[])).drew w.heap.size #[.string (sgO k), .bool (mkO k), .func (.func F) #[] #[]] 137 := ((R3.out.set 0 (.string (sgO k))).set 1 (.bool (mkO k))).set 2 (.func (.func F) #[] #[])
        have hbe : Below w.heap.size w (((w5.setCell ⟨w.heap.size, 0, none⟩ (.string (sgO k))).setCell ⟨w.heap.size, 1, none⟩ (.bool (mkO k))).setCell ⟨w.heap.size, 2, none⟩ (.func (.func F) #[] #[])).drew := (((HB6.out.setCell (by simp) _).setCell (by simp) _).setCell (by simp) _).drew
        all_goals
          refine bodyPost_ret (results_tctO Tryz.results84 _ _ w.heap.size _ _ (0, 0) _ (.int .i64 ((k : Int) + 1)) (.bool true) (by rfl) (by rfl) (by rfl) hrow Tryz.underlying137 (by rfl) (show _ = some 3 from infoO)) rfl ?_
          refine ⟨.inl ⟨k, hlt, HPK.out, HNO.out, ?_⟩, hbe⟩
          rw [hFin.out]
    · obtain rfl : k = 7 := by omega
      have G0 := Lib.hid g0
      have HBW := Lib.hid hB
      clear g0 hB
      go_wp2_with (refine wpList_store_row (by rfl) 137 _ _ (by rfl) w.heap.size op0 (by rfl) (by rfl) _ _ G0.out (show _ = some op0.size from infoO) (by rfl) (by simp [Value.oneCell']) ?_)
      refine bodyPost_ret (results_tctO Tryz.results84 _ _ w.heap.size _ op0 (0, 0) _ (.int .i64 0) (.bool false) (by rfl) (by rfl) (by rfl) (setRow_heap _ _ _ _ _ _ G0.out) Tryz.underlying137 (by rfl) (show _ = some op0.size from infoO)) rfl ?_
      exact ⟨.inr ⟨HNO.out, rfl⟩, below_setRow HBW.out (Nat.le_refl _) _⟩
end Go.Proofs.YtccklmleaffgiaaGreatDoor

/-
  The contracts of cond.operatorOf, of Right and of Holds.
-/
namespace Go.Proofs.YtccklmleaffgiaaGreatDoor
open Go.RowKit
set_option linter.unusedVariables false

/-- The question whether an operator is a condition's. -/
def isO (o : Int) (m : Nat) (j : Nat) : Bool := (((j : Int) + 1) == o) && (mkO j || m == 0)
set_option maxRecDepth 100000 in
set_option maxHeartbeats 4000000 in
theorem opOf1_any (o : Int) (m : Nat) (CB k : Nat) (hk : k < 7) (w : World) (h1 : w.cell? ⟨CB, 1, none⟩ = some (.int .i64 o)) (h2 : w.cell? ⟨CB, 2, none⟩ = some (.int .u64 m)) :
    Calls Tryz.prog 85 #[.int .i64 ((k : Int) + 1), .agg (opA k), .pointer (some ⟨CB, 0, none⟩)] w fun e w' => e = .returned (.bool (isO o m k)) ∧ Below w.heap.size w w' := by
  have hB : Below w.heap.size w (w.alloc (.cells (opA k) 137)) := (Below.refl _ _).alloc (Nat.le_refl _) _
  have l1 := World.block_lt_of_cell? _ _ h1
  have l2 := World.block_lt_of_cell? _ _ h2
  have k1 : (w.alloc (.cells (opA k) 137)).cell? ⟨CB, 1, none⟩ = some (.int .i64 o) := (hB.cell (p := ⟨CB, 1, none⟩) l1).trans h1
  have k2 : (w.alloc (.cells (opA k) 137)).cell? ⟨CB, 2, none⟩ = some (.int .u64 m) := (hB.cell (p := ⟨CB, 2, none⟩) l2).trans h2
  have c1 : (w.alloc (.cells (opA k) 137)).cell? ⟨w.heap.size, 1, none⟩ = some (.bool (mkO k)) := (RowC.new w (opA k) 137 _ rfl).cell 1 _ rfl
  have HB := Lib.hid hB
  have hz : ((m : Int) == 0) = (m == 0) := by rw [Bool.eq_iff_iff]; simp
  clear h1 h2 hB l1 l2
  cases ht : (((k : Int) + 1) == o)
  · have HR : Hid (isO o m k = false) := Lib.hid (by simp [isO, ht])
    go_enter Tryz.func85, Tryz.ntmps85
    go_wp2
    go_ret
    exact ⟨ret_bl HR.out.symm, HB.out⟩
  · cases hm : mkO k
    · have HR : Hid (isO o m k = (m == 0)) := Lib.hid (by simp [isO, ht, hm])
      rw [hm] at c1
      go_enter Tryz.func85, Tryz.ntmps85
      go_wp2
      go_ret
      exact ⟨ret_bl (by rw [HR.out]), HB.out⟩
    · have HR : Hid (isO o m k = true) := Lib.hid (by simp [isO, ht, hm])
      rw [hm] at c1
      go_enter Tryz.func85, Tryz.ntmps85
      go_wp2
      go_ret
      exact ⟨ret_bl HR.out.symm, HB.out⟩

abbrev condA (a o : Int) (m v : Nat) : Array Value := #[.int .i64 a, .int .i64 o, .int .u64 m, .int .u64 v]
/-- Which operator a right condition has. -/
def RightO (a o : Int) (m : Nat) (j : Nat) : Prop := 0 ≤ a ∧ a < 6 ∧ j < 7 ∧ o = (j : Int) + 1 ∧ (mkO j || m == 0) = true
theorem right_is {a o : Int} {m j : Nat} (h : RightO a o m j) (i : Nat) : isO o m i = true ↔ i = j := by
  obtain ⟨_, _, hj, rfl, hm⟩ := h
  constructor
  · intro hi
    unfold isO at hi
    have := (Bool.and_eq_true _ _ ▸ hi).1
    have h2 : ((i : Int) + 1) = (j : Int) + 1 := by simpa using this
    omega
  · rintro rfl
    simp [isO, hm]
set_option maxRecDepth 100000 in
set_option maxHeartbeats 4000000 in
theorem operatorOf_ok (a o : Int) (m v j : Nat) (hr : RightO a o m j) (w : World) :
    Calls Tryz.prog 67 #[.agg (condA a o m v)] w fun e w' => e = .returned (.tuple #[.agg (opA j), .bool true]) ∧ Below w.heap.size w w' := by
  have r0 : RowC ((w.alloc (.cells (condA a o m v) 53)).alloc (.cells op0 137)) w.heap.size (condA a o m v) 53 := (RowC.new _ _ _ _ rfl).alloc _
  have r1 : RowC ((w.alloc (.cells (condA a o m v) 53)).alloc (.cells op0 137)) (w.heap.size + 1) op0 137 := RowC.new _ _ _ _ (by simp)
  have hb : Below w.heap.size w ((w.alloc (.cells (condA a o m v) 53)).alloc (.cells op0 137)) := ((Below.refl _ _).alloc (Nat.le_refl _) _).alloc (by simp) _
  have hF : Calls Tryz.prog 84 #[.func (.func 85) #[] #[.pointer (some ⟨w.heap.size, 0, none⟩)]] ((w.alloc (.cells (condA a o m v) 53)).alloc (.cells op0 137)) fun e w' => e = .returned (.tuple #[.int .i64 ((j : Int) + 1), .agg (opA j), .bool true]) ∧ Below (w.heap.size + 2) ((w.alloc (.cells (condA a o m v) 53)).alloc (.cells op0 137)) w' := by
    refine (find_of w.heap.size (isO o m) _ fun wr hwr k hk => opOf1_any o m _ k hk wr ((r0.below hwr r0.lt).cell 1 _ rfl) ((r0.below hwr r0.lt).cell 2 _ rfl)).mono ?_
    rintro e w' ⟨h | h, hB⟩
    · obtain ⟨i, _, hi, _, he⟩ := h
      obtain rfl := (right_is hr i).1 hi
      exact ⟨he, by simpa using hB⟩
    · have := h.1 j hr.2.2.1
      rw [(right_is hr j).2 rfl] at this
      cases this
  have HF := Lib.hid hF
  have R1 := Lib.hid r1
  have HB := Lib.hid hb
  have q0 : ¬ a < 0 := by have := hr.1; omega
  have q1 : ¬ a ≥ 6 := by have := hr.2.1; omega
  have q2 : decide (a < 0) = false := by simpa using q0
  have q3 : decide (a ≥ 6) = false := by simpa using q1
  clear r0 r1 hb hF hr
  obtain ⟨F, hkm⟩ := fnO_func j
  have HK := Lib.hid hkm
  clear hkm
  go_enter Tryz.func67, Tryz.ntmps67
  go_wp2_with fail
  refine HF.out.mono ?_
  rintro e w1 ⟨rfl, hB1⟩
  simp only [opA, HK.out]
  have hz := hB1.size
  have hr1 := (R1.out.below hB1 (by omega)).alloc (.cells #[.string (sgO j), .bool (mkO j), .func (.func F) #[] #[]] 137)
  have hbe := (HB.out.trans (hB1.mono (by omega))).alloc (by have := HB.out.size; simp at hz; omega) (.cells #[.string (sgO j), .bool (mkO j), .func (.func F) #[] #[]] 137)
  have H1 := Lib.hid hr1
  have HBE := Lib.hid hbe
  clear hr1 hbe hB1 hz
  have d0 := H1.out.cell 0 _ rfl
  have d1 := H1.out.cell 1 _ rfl
  have d2 := H1.out.cell 2 _ rfl
  have f0 := H1.out.frozen 0
  have f1 := H1.out.frozen 1
  have f2 := H1.out.frozen 2
  go_wp2
  exact bodyPost_ret (results_ctO Tryz.results67 _ _ (w.heap.size + 1) _ _ (0, 0) _ (.bool true) (by rfl) (by rfl) (show RowC _ (w.heap.size + 1) #[.string (sgO j), .bool (mkO j), .func (.func F) #[] #[]] 137 from ((H1.out.set 0 (.string (sgO j))).set 1 (.bool (mkO j))).set 2 (.func (.func F) #[] #[])) Tryz.underlying137 (by rfl) (show _ = some 3 from infoO)) rfl
    ⟨by simp only [opA, HK.out], ((HBE.out.setCell (by simp) _).setCell (by simp) _).setCell (by simp) _⟩
set_option maxRecDepth 100000 in
set_option maxHeartbeats 4000000 in
theorem operatorOf_no (a o : Int) (m v : Nat) (h0 : 0 ≤ a) (h6 : a < 6) (hno : ∀ j, j < 7 → isO o m j = false) (w : World) :
    Calls Tryz.prog 67 #[.agg (condA a o m v)] w fun e w' => e = .returned (.tuple #[.agg op0, .bool false]) ∧ Below w.heap.size w w' := by
  have r0 : RowC ((w.alloc (.cells (condA a o m v) 53)).alloc (.cells op0 137)) w.heap.size (condA a o m v) 53 := (RowC.new _ _ _ _ rfl).alloc _
  have r1 : RowC ((w.alloc (.cells (condA a o m v) 53)).alloc (.cells op0 137)) (w.heap.size + 1) op0 137 := RowC.new _ _ _ _ (by simp)
  have hb : Below w.heap.size w ((w.alloc (.cells (condA a o m v) 53)).alloc (.cells op0 137)) := ((Below.refl _ _).alloc (Nat.le_refl _) _).alloc (by simp) _
  have hF : Calls Tryz.prog 84 #[.func (.func 85) #[] #[.pointer (some ⟨w.heap.size, 0, none⟩)]] ((w.alloc (.cells (condA a o m v) 53)).alloc (.cells op0 137)) fun e w' => e = .returned (.tuple #[.int .i64 0, .agg op0, .bool false]) ∧ Below (w.heap.size + 2) ((w.alloc (.cells (condA a o m v) 53)).alloc (.cells op0 137)) w' := by
    refine (find_of w.heap.size (isO o m) _ fun wr hwr k hk => opOf1_any o m _ k hk wr ((r0.below hwr r0.lt).cell 1 _ rfl) ((r0.below hwr r0.lt).cell 2 _ rfl)).mono ?_
    rintro e w' ⟨h | h, hB⟩
    · obtain ⟨i, hi7, hi, _, he⟩ := h
      rw [hno i hi7] at hi
      cases hi
    · exact ⟨h.2, by simpa using hB⟩
  have HF := Lib.hid hF
  have R1 := Lib.hid r1
  have HB := Lib.hid hb
  have q0 : ¬ a < 0 := by omega
  have q1 : ¬ a ≥ 6 := by omega
  have q2 : decide (a < 0) = false := by simpa using q0
  have q3 : decide (a ≥ 6) = false := by simpa using q1
  clear r0 r1 hb hF hno
  go_enter Tryz.func67, Tryz.ntmps67
  go_wp2_with fail
  refine HF.out.mono ?_
  rintro e w1 ⟨rfl, hB1⟩
  have hz := hB1.size
  have hr1 := (R1.out.below hB1 (by omega)).alloc (.cells op0 137)
  have hbe := (HB.out.trans (hB1.mono (by omega))).alloc (by have := HB.out.size; simp at hz; omega) (.cells op0 137)
  have H1 := Lib.hid hr1
  have HBE := Lib.hid hbe
  clear hr1 hbe hB1 hz
  have d0 := H1.out.cell 0 _ rfl
  have d1 := H1.out.cell 1 _ rfl
  have d2 := H1.out.cell 2 _ rfl
  have f0 := H1.out.frozen 0
  have f1 := H1.out.frozen 1
  have f2 := H1.out.frozen 2
  go_wp2
  exact bodyPost_ret (results_ctO Tryz.results67 _ _ (w.heap.size + 1) _ _ (0, 0) _ (.bool false) (by rfl) (by rfl) (show RowC _ (w.heap.size + 1) op0 137 from ((H1.out.set 0 (.string ⟨#[]⟩)).set 1 (.bool false)).set 2 .nilFunc) Tryz.underlying137 (by rfl) (show _ = some 3 from infoO)) rfl
    ⟨rfl, ((HBE.out.setCell (by simp) _).setCell (by simp) _).setCell (by simp) _⟩
set_option maxRecDepth 100000 in
set_option maxHeartbeats 4000000 in
theorem operatorOf_out (a o : Int) (m v : Nat) (h : a < 0 ∨ 6 ≤ a) (w : World) :
    Calls Tryz.prog 67 #[.agg (condA a o m v)] w fun e w' => e = .returned (.tuple #[.agg op0, .bool false]) ∧ Below w.heap.size w w' := by
  have r1 : RowC ((w.alloc (.cells (condA a o m v) 53)).alloc (.cells op0 137)) (w.heap.size + 1) op0 137 := RowC.new _ _ _ _ (by simp)
  have hb : Below w.heap.size w ((w.alloc (.cells (condA a o m v) 53)).alloc (.cells op0 137)) := ((Below.refl _ _).alloc (Nat.le_refl _) _).alloc (by simp) _
  have H1 := Lib.hid r1
  have HB := Lib.hid hb
  clear r1 hb
  by_cases h0 : a < 0
  · clear h
    go_enter Tryz.func67, Tryz.ntmps67
    go_wp2_with (refine wpList_store_row (by rfl) 137 _ _ (by rfl) (w.heap.size + 1) op0 (by rfl) (by rfl) _ _ H1.out (show _ = some op0.size from infoO) (by rfl) (by simp [Value.oneCell']) ?_)
    exact bodyPost_ret (results_ctO Tryz.results67 _ _ (w.heap.size + 1) _ op0 (0, 0) _ (.bool false) (by rfl) (by rfl) (setRow_heap _ _ _ _ _ _ H1.out) Tryz.underlying137 (by rfl) (show _ = some op0.size from infoO)) rfl ⟨rfl, below_setRow HB.out (by omega) _⟩
  · have h6 : a ≥ 6 := by omega
    have q3 : decide (a ≥ 6) = true := by simpa using h6
    clear h
    go_enter Tryz.func67, Tryz.ntmps67
    go_wp2_with (refine wpList_store_row (by rfl) 137 _ _ (by rfl) (w.heap.size + 1) op0 (by rfl) (by rfl) _ _ H1.out (show _ = some op0.size from infoO) (by rfl) (by simp [Value.oneCell']) ?_)
    exact bodyPost_ret (results_ctO Tryz.results67 _ _ (w.heap.size + 1) _ op0 (0, 0) _ (.bool false) (by rfl) (by rfl) (setRow_heap _ _ _ _ _ _ H1.out) Tryz.underlying137 (by rfl) (show _ = some op0.size from infoO)) rfl ⟨rfl, below_setRow HB.out (by omega) _⟩
end Go.Proofs.YtccklmleaffgiaaGreatDoor

/-
  The contracts of cond.Right and of cond.Holds.
-/
namespace Go.Proofs.YtccklmleaffgiaaGreatDoor
open Go.RowKit Go.Shelf
set_option linter.unusedVariables false

set_option maxRecDepth 100000 in
set_option maxHeartbeats 4000000 in
theorem right_ok (a o : Int) (m v j : Nat) (hr : RightO a o m j) (w : World) :
    Calls Tryz.prog 42 #[.agg (condA a o m v)] w fun e w' => e = .returned (.bool true) ∧ Below w.heap.size w w' := by
  have HF := Lib.hid (operatorOf_ok a o m v j hr (w.alloc (.cells (condA a o m v) 53)))
  have HB := Lib.hid (show Below w.heap.size w (w.alloc (.cells (condA a o m v) 53)) from (Below.refl _ _).alloc (Nat.le_refl _) _)
  obtain ⟨F, hkm⟩ := fnO_func j
  have HK := Lib.hid hkm
  clear hkm hr
  go_enter Tryz.func42, Tryz.ntmps42
  go_wp2_with fail
  refine HF.out.mono ?_
  rintro e w1 ⟨rfl, hB1⟩
  simp only [opA, HK.out]
  have hz := hB1.size
  have hz2 := HB.out.size
  have HBE := Lib.hid ((HB.out.trans (hB1.mono hz2)).alloc (by omega) (.cells #[.string (sgO j), .bool (mkO j), .func (.func F) #[] #[]] 137))
  clear hB1 hz hz2
  go_wp2
  go_ret
  exact ⟨rfl, HBE.out⟩
set_option maxRecDepth 100000 in
set_option maxHeartbeats 4000000 in
theorem right_no (a o : Int) (m v : Nat) (hno : a < 0 ∨ 6 ≤ a ∨ ∀ j, j < 7 → isO o m j = false) (w : World) :
    Calls Tryz.prog 42 #[.agg (condA a o m v)] w fun e w' => e = .returned (.bool false) ∧ Below w.heap.size w w' := by
  have hF : Calls Tryz.prog 67 #[.agg (condA a o m v)] (w.alloc (.cells (condA a o m v) 53)) fun e w' => e = .returned (.tuple #[.agg op0, .bool false]) ∧ Below (w.alloc (.cells (condA a o m v) 53)).heap.size (w.alloc (.cells (condA a o m v) 53)) w' := by
    by_cases h0 : a < 0
    · exact operatorOf_out a o m v (.inl h0) _
    by_cases h6 : 6 ≤ a
    · exact operatorOf_out a o m v (.inr h6) _
    rcases hno with h | h | h
    · exact absurd h h0
    · exact absurd h h6
    · exact operatorOf_no a o m v (by omega) (by omega) h _
  have HF := Lib.hid hF
  have HB := Lib.hid (show Below w.heap.size w (w.alloc (.cells (condA a o m v) 53)) from (Below.refl _ _).alloc (Nat.le_refl _) _)
  clear hF hno
  go_enter Tryz.func42, Tryz.ntmps42
  go_wp2_with fail
  refine HF.out.mono ?_
  rintro e w1 ⟨rfl, hB1⟩
  have hz := hB1.size
  have hz2 := HB.out.size
  have HBE := Lib.hid ((HB.out.trans (hB1.mono hz2)).alloc (by omega) (.cells op0 137))
  clear hB1 hz hz2
  go_wp2
  go_ret
  exact ⟨rfl, HBE.out⟩

end Go.Proofs.YtccklmleaffgiaaGreatDoor
