/-
  The contract of cond.find at its two questions' functions; of operatorOf and Holds.
-/
import Derived.Test.YtlpcallgkciklaaGreatDoorGa
import Derived.RegionTactic
namespace Go.Proofs.YtlpcallgkciklaaGreatDoor
open Go.RowKit
set_option linter.unusedVariables false

/-- What a look for an operator gives. -/
def FindO (P : Nat → Bool) (w : World) (e : Ending) (w' : World) : Prop :=
  ((∃ j, j < 7 ∧ P j = true ∧ (∀ i, i < j → P i = false) ∧ e = .returned (.tuple #[.int .i64 ((j : Int) + 1), .agg (opA j), .bool true])) ∨
   ((∀ i, i < 7 → P i = false) ∧ e = .returned (.tuple #[.int .i64 0, .agg op0, .bool false]))) ∧ Below w.heap.size w w'
theorem results_tctO {P : Program} {fn : Func} {p q r : Tmp} {ty : TypeId} (h : fn.results = #[.tmp p, .cell q ty, .tmp r]) (tmps : Array Value) (w : World) (g : Nat) (t : TypeId) (cs : Array Value) (fr : Nat × Nat) (d : TypeDesc) (u v : Value)
    (hp : tmps.getD p undef = u) (hq : tmps.getD q undef = .pointer (some ⟨g, 0, none⟩)) (hr : tmps.getD r undef = v) (hg : w.heap[g]? = some (.cells cs t fr))
    (hu : P.underlying ty = some d) (hd : (match d with | .struct _ | .array _ _ => true | _ => false) = true) (hi : (P.info? ty).map (·.size) = some cs.size) :
    (results fn tmps).run P w = .ok (.tuple #[u, .agg cs, v]) w := by
  have hp' : tmps[p]?.getD undef = u := by simpa using hp
  have hq' : tmps[q]?.getD undef = .pointer (some ⟨g, 0, none⟩) := by simpa using hq
  have hr' : tmps[r]?.getD undef = v := by simpa using hr
  simp [results, h, hp', hq', hr', asAddr, run_loadVar_row w g t ty cs fr d hg hu hd hi, Result.andThen]

theorem results_ctO {P : Program} {fn : Func} {p q : Tmp} {ty : TypeId} (h : fn.results = #[.cell p ty, .tmp q]) (tmps : Array Value) (w : World) (g : Nat) (t : TypeId) (cs : Array Value) (fr : Nat × Nat) (d : TypeDesc) (v : Value)
    (hp : tmps.getD p undef = .pointer (some ⟨g, 0, none⟩)) (hq : tmps.getD q undef = v) (hg : w.heap[g]? = some (.cells cs t fr))
    (hu : P.underlying ty = some d) (hd : (match d with | .struct _ | .array _ _ => true | _ => false) = true) (hi : (P.info? ty).map (·.size) = some cs.size) :
    (results fn tmps).run P w = .ok (.tuple #[.agg cs, v]) w := by
  have hp' : tmps[p]?.getD undef = .pointer (some ⟨g, 0, none⟩) := by simpa using hp
  have hq' : tmps[q]?.getD undef = v := by simpa using hq
  simp [results, h, hp', hq', asAddr, run_loadVar_row w g t ty cs fr d hg hu hd hi, Result.andThen]


set_option maxRecDepth 100000 in
set_option maxHeartbeats 8000000 in
theorem find_of (CB : Nat) (P : Nat → Bool) (w : World) (hcl : ∀ (wr : World), Below w.heap.size w wr → ∀ (k : Nat), k < 7 → Calls Tryz.prog 107 #[.int .i64 ((k : Int) + 1), .agg (opA k), .pointer (some ⟨CB, 0, none⟩)] wr fun e w' => e = .returned (.bool (P k)) ∧ Below wr.heap.size wr w') :
    Calls Tryz.prog 106 #[.func (.func 107) #[] #[.pointer (some ⟨CB, 0, none⟩)]] w (FindO P w) := by
  have HP := Lib.hid hcl
  clear hcl
  have HK := Lib.hid (operators_any (w.alloc (.cells op0 165)))
  go_enter Tryz.func106, Tryz.ntmps106
  go_wp2_with (go_at_call 131; refine HK.out.mono ?_; rintro e w1 ⟨rfl, hB1⟩)
  have ez : (w.alloc (.cells op0 165)).heap.size = w.heap.size + 1 := by simp
  rw [ez] at hB1
  have hb0 : Below w.heap.size w w1 := ((Below.refl _ _).alloc (Nat.le_refl _) _).trans (hB1.mono (by omega))
  have hr0 : RowC w1 w.heap.size op0 165 := (RowC.new w op0 165 _ rfl).below hB1 (by omega)
  clear hB1 ez HK
  go_loopw [9] (fun i wr => ∃ k : Nat, k ≤ 7 ∧ i = .int .i64 k ∧ (∀ i, i < k → P i = false) ∧ RowC wr w.heap.size op0 165 ∧ Below w.heap.size w wr)
    (fun i _ => 7 - (intOf i).toNat)
  case atStart => exact ⟨0, by omega, rfl, fun i h => by omega, hr0, hb0⟩
  case round =>
    obtain ⟨k, hk, rfl, hno, g0, hB⟩ := hrel
    have HNO := Lib.hid hno
    clear hno
    by_cases hlt : k < 7
    · have hix := ixO k hlt
      obtain ⟨F, hkm⟩ := fnO_func k
      have i1 : (0 : Int) ≤ (k : Int) := by omega
      have i2 : (k : Int) < 7 := by omega
      have hs := hB.size
      have hcl := HP.out (wr.alloc (.cells (opA k) 165)) (hB.alloc hs _) k hlt
      have hg0 := g0.alloc (.cells (opA k) 165)
      have hFin : Hid (opA k = #[.string (sgO k), .bool (mkO k), .func (.func F) #[] #[]]) := Lib.hid (by unfold opA; rw [hkm])
      simp only [opA, hkm] at hix hcl hg0
      have HCL := Lib.hid hcl
      have HG0 := Lib.hid hg0
      have HBW := Lib.hid hB
      clear hcl g0 hB hkm hg0
      cases hp : P k
      · rw [hp] at HCL
        have HPK := Lib.hid hp
        clear hp
        go_wp2_with (go_at_call 107; refine HCL.out.mono ?_; rintro e w5 ⟨rfl, hB5⟩)
        have q0 := HG0.out
        exact ⟨⟨k + 1, by omega, by go_num, fun i hi => by
          by_cases h : i = k
          · subst h; exact HPK.out
          · exact HNO.out i (by omega), q0.below hB5 q0.lt, (HBW.out.alloc hs _).trans (hB5.mono (by simp; omega))⟩, by simp [intOf]; omega⟩
      · rw [hp] at HCL
        have HPK := Lib.hid hp
        clear hp
        go_wp2_with (go_at_call 107; refine HCL.out.mono ?_; rintro e w5 ⟨rfl, hB5⟩)
        have q0 := HG0.out
        have r3 := q0.below hB5 q0.lt
        have r6 : RowC w5 wr.heap.size #[.string (sgO k), .bool (mkO k), .func (.func F) #[] #[]] 165 := (RowC.new wr _ 165 _ rfl).below hB5 (by simp)
        have hB6 : Below w.heap.size w w5 := (HBW.out.alloc hs _).trans (hB5.mono (by simp; omega))
        have c0 := r6.cell 0 _ rfl
        have c1 := r6.cell 1 _ rfl
        have c2 := r6.cell 2 _ rfl
        have R3 := Lib.hid r3
        have HB6 := Lib.hid hB6
        clear q0 r6 hB6 hB5
        have d0 := R3.out.cell 0 _ rfl
        have d1 := R3.out.cell 1 _ rfl
        have d2 := R3.out.cell 2 _ rfl
        have f0 := R3.out.frozen 0
        have f1 := R3.out.frozen 1
        have f2 := R3.out.frozen 2
        clear r3
        go_region
        all_goals go_wp2
        have hrow : RowC (((w5.setCell ⟨w.heap.size, 0, none⟩ (.string (sgO k))).setCell ⟨w.heap.size, 1, none⟩ (.bool (mkO k))).setCell ⟨w.heap.size, 2, none⟩ (.func (.func F) #[] #[])).drew w.heap.size #[.string (sgO k), .bool (mkO k), .func (.func F) #[] #[]] 165 := ((R3.out.set 0 (.string (sgO k))).set 1 (.bool (mkO k))).set 2 (.func (.func F) #[] #[])
        have hbe : Below w.heap.size w (((w5.setCell ⟨w.heap.size, 0, none⟩ (.string (sgO k))).setCell ⟨w.heap.size, 1, none⟩ (.bool (mkO k))).setCell ⟨w.heap.size, 2, none⟩ (.func (.func F) #[] #[])).drew := (((HB6.out.setCell (by simp) _).setCell (by simp) _).setCell (by simp) _).drew
        all_goals
          refine bodyPost_ret (results_tctO Tryz.results106 _ _ w.heap.size _ _ (0, 0) _ (.int .i64 ((k : Int) + 1)) (.bool true) (by rfl) (by rfl) (by rfl) hrow Tryz.underlying165 (by rfl) (show _ = some 3 from infoO)) rfl ?_
          refine ⟨.inl ⟨k, hlt, HPK.out, HNO.out, ?_⟩, hbe⟩
          rw [hFin.out]
    · obtain rfl : k = 7 := by omega
      have G0 := Lib.hid g0
      have HBW := Lib.hid hB
      clear g0 hB
      go_wp2_with (refine wpList_store_row (by rfl) 165 _ _ (by rfl) w.heap.size op0 (by rfl) (by rfl) _ _ G0.out (show _ = some op0.size from infoO) (by rfl) (by simp [Value.oneCell']) ?_)
      refine bodyPost_ret (results_tctO Tryz.results106 _ _ w.heap.size _ op0 (0, 0) _ (.int .i64 0) (.bool false) (by rfl) (by rfl) (by rfl) (setRow_heap _ _ _ _ _ _ G0.out) Tryz.underlying165 (by rfl) (show _ = some op0.size from infoO)) rfl ?_
      exact ⟨.inr ⟨HNO.out, rfl⟩, below_setRow HBW.out (Nat.le_refl _) _⟩

set_option maxRecDepth 100000 in
set_option maxHeartbeats 8000000 in
theorem find_read (CB : Nat) (P : Nat → Bool) (w : World) (hcl : ∀ (wr : World), Below w.heap.size w wr → ∀ (k : Nat), k < 7 → Calls Tryz.prog 144 #[.int .i64 ((k : Int) + 1), .agg (opA k), .pointer (some ⟨CB, 0, none⟩)] wr fun e w' => e = .returned (.bool (P k)) ∧ Below wr.heap.size wr w') :
    Calls Tryz.prog 106 #[.func (.func 144) #[] #[.pointer (some ⟨CB, 0, none⟩)]] w (FindO P w) := by
  have HP := Lib.hid hcl
  clear hcl
  have HK := Lib.hid (operators_any (w.alloc (.cells op0 165)))
  go_enter Tryz.func106, Tryz.ntmps106
  go_wp2_with (go_at_call 131; refine HK.out.mono ?_; rintro e w1 ⟨rfl, hB1⟩)
  have ez : (w.alloc (.cells op0 165)).heap.size = w.heap.size + 1 := by simp
  rw [ez] at hB1
  have hb0 : Below w.heap.size w w1 := ((Below.refl _ _).alloc (Nat.le_refl _) _).trans (hB1.mono (by omega))
  have hr0 : RowC w1 w.heap.size op0 165 := (RowC.new w op0 165 _ rfl).below hB1 (by omega)
  clear hB1 ez HK
  go_loopw [9] (fun i wr => ∃ k : Nat, k ≤ 7 ∧ i = .int .i64 k ∧ (∀ i, i < k → P i = false) ∧ RowC wr w.heap.size op0 165 ∧ Below w.heap.size w wr)
    (fun i _ => 7 - (intOf i).toNat)
  case atStart => exact ⟨0, by omega, rfl, fun i h => by omega, hr0, hb0⟩
  case round =>
    obtain ⟨k, hk, rfl, hno, g0, hB⟩ := hrel
    have HNO := Lib.hid hno
    clear hno
    by_cases hlt : k < 7
    · have hix := ixO k hlt
      obtain ⟨F, hkm⟩ := fnO_func k
      have i1 : (0 : Int) ≤ (k : Int) := by omega
      have i2 : (k : Int) < 7 := by omega
      have hs := hB.size
      have hcl := HP.out (wr.alloc (.cells (opA k) 165)) (hB.alloc hs _) k hlt
      have hg0 := g0.alloc (.cells (opA k) 165)
      have hFin : Hid (opA k = #[.string (sgO k), .bool (mkO k), .func (.func F) #[] #[]]) := Lib.hid (by unfold opA; rw [hkm])
      simp only [opA, hkm] at hix hcl hg0
      have HCL := Lib.hid hcl
      have HG0 := Lib.hid hg0
      have HBW := Lib.hid hB
      clear hcl g0 hB hkm hg0
      cases hp : P k
      · rw [hp] at HCL
        have HPK := Lib.hid hp
        clear hp
        go_wp2_with (go_at_call 144; refine HCL.out.mono ?_; rintro e w5 ⟨rfl, hB5⟩)
        have q0 := HG0.out
        exact ⟨⟨k + 1, by omega, by go_num, fun i hi => by
          by_cases h : i = k
          · subst h; exact HPK.out
          · exact HNO.out i (by omega), q0.below hB5 q0.lt, (HBW.out.alloc hs _).trans (hB5.mono (by simp; omega))⟩, by simp [intOf]; omega⟩
      · rw [hp] at HCL
        have HPK := Lib.hid hp
        clear hp
        go_wp2_with (go_at_call 144; refine HCL.out.mono ?_; rintro e w5 ⟨rfl, hB5⟩)
        have q0 := HG0.out
        have r3 := q0.below hB5 q0.lt
        have r6 : RowC w5 wr.heap.size #[.string (sgO k), .bool (mkO k), .func (.func F) #[] #[]] 165 := (RowC.new wr _ 165 _ rfl).below hB5 (by simp)
        have hB6 : Below w.heap.size w w5 := (HBW.out.alloc hs _).trans (hB5.mono (by simp; omega))
        have c0 := r6.cell 0 _ rfl
        have c1 := r6.cell 1 _ rfl
        have c2 := r6.cell 2 _ rfl
        have R3 := Lib.hid r3
        have HB6 := Lib.hid hB6
        clear q0 r6 hB6 hB5
        have d0 := R3.out.cell 0 _ rfl
        have d1 := R3.out.cell 1 _ rfl
        have d2 := R3.out.cell 2 _ rfl
        have f0 := R3.out.frozen 0
        have f1 := R3.out.frozen 1
        have f2 := R3.out.frozen 2
        clear r3
        go_region
        all_goals go_wp2
        have hrow : RowC (((w5.setCell ⟨w.heap.size, 0, none⟩ (.string (sgO k))).setCell ⟨w.heap.size, 1, none⟩ (.bool (mkO k))).setCell ⟨w.heap.size, 2, none⟩ (.func (.func F) #[] #[])).drew w.heap.size #[.string (sgO k), .bool (mkO k), .func (.func F) #[] #[]] 165 := ((R3.out.set 0 (.string (sgO k))).set 1 (.bool (mkO k))).set 2 (.func (.func F) #[] #[])
        have hbe : Below w.heap.size w (((w5.setCell ⟨w.heap.size, 0, none⟩ (.string (sgO k))).setCell ⟨w.heap.size, 1, none⟩ (.bool (mkO k))).setCell ⟨w.heap.size, 2, none⟩ (.func (.func F) #[] #[])).drew := (((HB6.out.setCell (by simp) _).setCell (by simp) _).setCell (by simp) _).drew
        all_goals
          refine bodyPost_ret (results_tctO Tryz.results106 _ _ w.heap.size _ _ (0, 0) _ (.int .i64 ((k : Int) + 1)) (.bool true) (by rfl) (by rfl) (by rfl) hrow Tryz.underlying165 (by rfl) (show _ = some 3 from infoO)) rfl ?_
          refine ⟨.inl ⟨k, hlt, HPK.out, HNO.out, ?_⟩, hbe⟩
          rw [hFin.out]
    · obtain rfl : k = 7 := by omega
      have G0 := Lib.hid g0
      have HBW := Lib.hid hB
      clear g0 hB
      go_wp2_with (refine wpList_store_row (by rfl) 165 _ _ (by rfl) w.heap.size op0 (by rfl) (by rfl) _ _ G0.out (show _ = some op0.size from infoO) (by rfl) (by simp [Value.oneCell']) ?_)
      refine bodyPost_ret (results_tctO Tryz.results106 _ _ w.heap.size _ op0 (0, 0) _ (.int .i64 0) (.bool false) (by rfl) (by rfl) (by rfl) (setRow_heap _ _ _ _ _ _ G0.out) Tryz.underlying165 (by rfl) (show _ = some op0.size from infoO)) rfl ?_
      exact ⟨.inr ⟨HNO.out, rfl⟩, below_setRow HBW.out (Nat.le_refl _) _⟩
end Go.Proofs.YtlpcallgkciklaaGreatDoor
