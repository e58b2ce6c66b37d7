/-
  The contracts of cond.operatorOf, of Right and of Holds.
-/
import Derived.Test.YtlpcallgkciklaaGreatDoorGb
namespace Go.Proofs.YtlpcallgkciklaaGreatDoor
open Go.RowKit
set_option linter.unusedVariables false

/-- The question whether an operator is a condition's. -/
def isO (o : Int) (m : Nat) (j : Nat) : Bool := (((j : Int) + 1) == o) && (mkO j || m == 0)
set_option maxRecDepth 100000 in
set_option maxHeartbeats 4000000 in
theorem opOf1_any (o : Int) (m : Nat) (CB k : Nat) (hk : k < 7) (w : World) (h1 : w.cell? ⟨CB, 1, none⟩ = some (.int .i64 o)) (h2 : w.cell? ⟨CB, 2, none⟩ = some (.int .u64 m)) :
    Calls Tryz.prog 107 #[.int .i64 ((k : Int) + 1), .agg (opA k), .pointer (some ⟨CB, 0, none⟩)] w fun e w' => e = .returned (.bool (isO o m k)) ∧ Below w.heap.size w w' := by
  have hB : Below w.heap.size w (w.alloc (.cells (opA k) 165)) := (Below.refl _ _).alloc (Nat.le_refl _) _
  have l1 := World.block_lt_of_cell? _ _ h1
  have l2 := World.block_lt_of_cell? _ _ h2
  have k1 : (w.alloc (.cells (opA k) 165)).cell? ⟨CB, 1, none⟩ = some (.int .i64 o) := (hB.cell (p := ⟨CB, 1, none⟩) l1).trans h1
  have k2 : (w.alloc (.cells (opA k) 165)).cell? ⟨CB, 2, none⟩ = some (.int .u64 m) := (hB.cell (p := ⟨CB, 2, none⟩) l2).trans h2
  have c1 : (w.alloc (.cells (opA k) 165)).cell? ⟨w.heap.size, 1, none⟩ = some (.bool (mkO k)) := (RowC.new w (opA k) 165 _ rfl).cell 1 _ rfl
  have HB := Lib.hid hB
  have hz : ((m : Int) == 0) = (m == 0) := by rw [Bool.eq_iff_iff]; simp
  clear h1 h2 hB l1 l2
  cases ht : (((k : Int) + 1) == o)
  · have HR : Hid (isO o m k = false) := Lib.hid (by simp [isO, ht])
    go_enter Tryz.func107, Tryz.ntmps107
    go_wp2
    go_ret
    exact ⟨ret_bl HR.out.symm, HB.out⟩
  · cases hm : mkO k
    · have HR : Hid (isO o m k = (m == 0)) := Lib.hid (by simp [isO, ht, hm])
      rw [hm] at c1
      go_enter Tryz.func107, Tryz.ntmps107
      go_wp2
      go_ret
      exact ⟨ret_bl (by rw [HR.out]), HB.out⟩
    · have HR : Hid (isO o m k = true) := Lib.hid (by simp [isO, ht, hm])
      rw [hm] at c1
      go_enter Tryz.func107, Tryz.ntmps107
      go_wp2
      go_ret
      exact ⟨ret_bl HR.out.symm, HB.out⟩

abbrev condA (a o : Int) (m v : Nat) : Array Value := #[.int .i64 a, .int .i64 o, .int .u64 m, .int .u64 v]
/-- Which operator a right condition has. -/
def RightO (a o : Int) (m : Nat) (j : Nat) : Prop := 0 ≤ a ∧ a < 6 ∧ j < 7 ∧ o = (j : Int) + 1 ∧ (mkO j || m == 0) = true
theorem right_is {a o : Int} {m j : Nat} (h : RightO a o m j) (i : Nat) : isO o m i = true ↔ i = j := by
  obtain ⟨_, _, hj, rfl, hm⟩ := h
  constructor
  · intro hi
    unfold isO at hi
    have := (Bool.and_eq_true _ _ ▸ hi).1
    have h2 : ((i : Int) + 1) = (j : Int) + 1 := by simpa using this
    omega
  · rintro rfl
    simp [isO, hm]
theorem right_or10 (a o : Int) (m : Nat) : (∃ j, RightO a o m j) ∨ (a < 0 ∨ 6 ≤ a ∨ ∀ j, j < 7 → isO o m j = false) := by
  by_cases h0 : a < 0
  · exact .inr (.inl h0)
  by_cases h1 : 6 ≤ a
  · exact .inr (.inr (.inl h1))
  by_cases h : ∃ j, j < 7 ∧ isO o m j = true
  · obtain ⟨j, hj, h⟩ := h
    refine .inl ⟨j, by omega, by omega, hj, ?_, ?_⟩
    · have := (Bool.and_eq_true _ _ ▸ h).1
      have h2 : ((j : Int) + 1) = o := by simpa using this
      omega
    · exact (Bool.and_eq_true _ _ ▸ h).2
  · refine .inr (.inr (.inr fun j hj => ?_))
    cases hm : isO o m j with
    | false => rfl
    | true => exact absurd ⟨j, hj, hm⟩ h
set_option maxRecDepth 100000 in
set_option maxHeartbeats 4000000 in
theorem operatorOf_ok (a o : Int) (m v j : Nat) (hr : RightO a o m j) (w : World) :
    Calls Tryz.prog 91 #[.agg (condA a o m v)] w fun e w' => e = .returned (.tuple #[.agg (opA j), .bool true]) ∧ Below w.heap.size w w' := by
  have r0 : RowC ((w.alloc (.cells (condA a o m v) 62)).alloc (.cells op0 165)) w.heap.size (condA a o m v) 62 := (RowC.new _ _ _ _ rfl).alloc _
  have r1 : RowC ((w.alloc (.cells (condA a o m v) 62)).alloc (.cells op0 165)) (w.heap.size + 1) op0 165 := RowC.new _ _ _ _ (by simp)
  have hb : Below w.heap.size w ((w.alloc (.cells (condA a o m v) 62)).alloc (.cells op0 165)) := ((Below.refl _ _).alloc (Nat.le_refl _) _).alloc (by simp) _
  have hF : Calls Tryz.prog 106 #[.func (.func 107) #[] #[.pointer (some ⟨w.heap.size, 0, none⟩)]] ((w.alloc (.cells (condA a o m v) 62)).alloc (.cells op0 165)) fun e w' => e = .returned (.tuple #[.int .i64 ((j : Int) + 1), .agg (opA j), .bool true]) ∧ Below (w.heap.size + 2) ((w.alloc (.cells (condA a o m v) 62)).alloc (.cells op0 165)) w' := by
    refine (find_of w.heap.size (isO o m) _ fun wr hwr k hk => opOf1_any o m _ k hk wr ((r0.below hwr r0.lt).cell 1 _ rfl) ((r0.below hwr r0.lt).cell 2 _ rfl)).mono ?_
    rintro e w' ⟨h | h, hB⟩
    · obtain ⟨i, _, hi, _, he⟩ := h
      obtain rfl := (right_is hr i).1 hi
      exact ⟨he, by simpa using hB⟩
    · have := h.1 j hr.2.2.1
      rw [(right_is hr j).2 rfl] at this
      cases this
  have HF := Lib.hid hF
  have R1 := Lib.hid r1
  have HB := Lib.hid hb
  have q0 : ¬ a < 0 := by have := hr.1; omega
  have q1 : ¬ a ≥ 6 := by have := hr.2.1; omega
  have q2 : decide (a < 0) = false := by simpa using q0
  have q3 : decide (a ≥ 6) = false := by simpa using q1
  clear r0 r1 hb hF hr
  obtain ⟨F, hkm⟩ := fnO_func j
  have HK := Lib.hid hkm
  clear hkm
  go_enter Tryz.func91, Tryz.ntmps91
  go_wp2_with fail
  refine HF.out.mono ?_
  rintro e w1 ⟨rfl, hB1⟩
  simp only [opA, HK.out]
  have hz := hB1.size
  have hr1 := (R1.out.below hB1 (by omega)).alloc (.cells #[.string (sgO j), .bool (mkO j), .func (.func F) #[] #[]] 165)
  have hbe := (HB.out.trans (hB1.mono (by omega))).alloc (by have := HB.out.size; simp at hz; omega) (.cells #[.string (sgO j), .bool (mkO j), .func (.func F) #[] #[]] 165)
  have H1 := Lib.hid hr1
  have HBE := Lib.hid hbe
  clear hr1 hbe hB1 hz
  have d0 := H1.out.cell 0 _ rfl
  have d1 := H1.out.cell 1 _ rfl
  have d2 := H1.out.cell 2 _ rfl
  have f0 := H1.out.frozen 0
  have f1 := H1.out.frozen 1
  have f2 := H1.out.frozen 2
  go_wp2
  exact bodyPost_ret (results_ctO Tryz.results91 _ _ (w.heap.size + 1) _ _ (0, 0) _ (.bool true) (by rfl) (by rfl) (show RowC _ (w.heap.size + 1) #[.string (sgO j), .bool (mkO j), .func (.func F) #[] #[]] 165 from ((H1.out.set 0 (.string (sgO j))).set 1 (.bool (mkO j))).set 2 (.func (.func F) #[] #[])) Tryz.underlying165 (by rfl) (show _ = some 3 from infoO)) rfl
    ⟨by simp only [opA, HK.out], ((HBE.out.setCell (by simp) _).setCell (by simp) _).setCell (by simp) _⟩
set_option maxRecDepth 100000 in
set_option maxHeartbeats 4000000 in
theorem operatorOf_no (a o : Int) (m v : Nat) (h0 : 0 ≤ a) (h6 : a < 6) (hno : ∀ j, j < 7 → isO o m j = false) (w : World) :
    Calls Tryz.prog 91 #[.agg (condA a o m v)] w fun e w' => e = .returned (.tuple #[.agg op0, .bool false]) ∧ Below w.heap.size w w' := by
  have r0 : RowC ((w.alloc (.cells (condA a o m v) 62)).alloc (.cells op0 165)) w.heap.size (condA a o m v) 62 := (RowC.new _ _ _ _ rfl).alloc _
  have r1 : RowC ((w.alloc (.cells (condA a o m v) 62)).alloc (.cells op0 165)) (w.heap.size + 1) op0 165 := RowC.new _ _ _ _ (by simp)
  have hb : Below w.heap.size w ((w.alloc (.cells (condA a o m v) 62)).alloc (.cells op0 165)) := ((Below.refl _ _).alloc (Nat.le_refl _) _).alloc (by simp) _
  have hF : Calls Tryz.prog 106 #[.func (.func 107) #[] #[.pointer (some ⟨w.heap.size, 0, none⟩)]] ((w.alloc (.cells (condA a o m v) 62)).alloc (.cells op0 165)) fun e w' => e = .returned (.tuple #[.int .i64 0, .agg op0, .bool false]) ∧ Below (w.heap.size + 2) ((w.alloc (.cells (condA a o m v) 62)).alloc (.cells op0 165)) w' := by
    refine (find_of w.heap.size (isO o m) _ fun wr hwr k hk => opOf1_any o m _ k hk wr ((r0.below hwr r0.lt).cell 1 _ rfl) ((r0.below hwr r0.lt).cell 2 _ rfl)).mono ?_
    rintro e w' ⟨h | h, hB⟩
    · obtain ⟨i, hi7, hi, _, he⟩ := h
      rw [hno i hi7] at hi
      cases hi
    · exact ⟨h.2, by simpa using hB⟩
  have HF := Lib.hid hF
  have R1 := Lib.hid r1
  have HB := Lib.hid hb
  have q0 : ¬ a < 0 := by omega
  have q1 : ¬ a ≥ 6 := by omega
  have q2 : decide (a < 0) = false := by simpa using q0
  have q3 : decide (a ≥ 6) = false := by simpa using q1
  clear r0 r1 hb hF hno
  go_enter Tryz.func91, Tryz.ntmps91
  go_wp2_with fail
  refine HF.out.mono ?_
  rintro e w1 ⟨rfl, hB1⟩
  have hz := hB1.size
  have hr1 := (R1.out.below hB1 (by omega)).alloc (.cells op0 165)
  have hbe := (HB.out.trans (hB1.mono (by omega))).alloc (by have := HB.out.size; simp at hz; omega) (.cells op0 165)
  have H1 := Lib.hid hr1
  have HBE := Lib.hid hbe
  clear hr1 hbe hB1 hz
  have d0 := H1.out.cell 0 _ rfl
  have d1 := H1.out.cell 1 _ rfl
  have d2 := H1.out.cell 2 _ rfl
  have f0 := H1.out.frozen 0
  have f1 := H1.out.frozen 1
  have f2 := H1.out.frozen 2
  go_wp2
  exact bodyPost_ret (results_ctO Tryz.results91 _ _ (w.heap.size + 1) _ _ (0, 0) _ (.bool false) (by rfl) (by rfl) (show RowC _ (w.heap.size + 1) op0 165 from ((H1.out.set 0 (.string ⟨#[]⟩)).set 1 (.bool false)).set 2 .nilFunc) Tryz.underlying165 (by rfl) (show _ = some 3 from infoO)) rfl
    ⟨rfl, ((HBE.out.setCell (by simp) _).setCell (by simp) _).setCell (by simp) _⟩
set_option maxRecDepth 100000 in
set_option maxHeartbeats 4000000 in
theorem operatorOf_out (a o : Int) (m v : Nat) (h : a < 0 ∨ 6 ≤ a) (w : World) :
    Calls Tryz.prog 91 #[.agg (condA a o m v)] w fun e w' => e = .returned (.tuple #[.agg op0, .bool false]) ∧ Below w.heap.size w w' := by
  have r1 : RowC ((w.alloc (.cells (condA a o m v) 62)).alloc (.cells op0 165)) (w.heap.size + 1) op0 165 := RowC.new _ _ _ _ (by simp)
  have hb : Below w.heap.size w ((w.alloc (.cells (condA a o m v) 62)).alloc (.cells op0 165)) := ((Below.refl _ _).alloc (Nat.le_refl _) _).alloc (by simp) _
  have H1 := Lib.hid r1
  have HB := Lib.hid hb
  clear r1 hb
  by_cases h0 : a < 0
  · clear h
    go_enter Tryz.func91, Tryz.ntmps91
    go_wp2_with (refine wpList_store_row (by rfl) 165 _ _ (by rfl) (w.heap.size + 1) op0 (by rfl) (by rfl) _ _ H1.out (show _ = some op0.size from infoO) (by rfl) (by simp [Value.oneCell']) ?_)
    exact bodyPost_ret (results_ctO Tryz.results91 _ _ (w.heap.size + 1) _ op0 (0, 0) _ (.bool false) (by rfl) (by rfl) (setRow_heap _ _ _ _ _ _ H1.out) Tryz.underlying165 (by rfl) (show _ = some op0.size from infoO)) rfl ⟨rfl, below_setRow HB.out (by omega) _⟩
  · have h6 : a ≥ 6 := by omega
    have q3 : decide (a ≥ 6) = true := by simpa using h6
    clear h
    go_enter Tryz.func91, Tryz.ntmps91
    go_wp2_with (refine wpList_store_row (by rfl) 165 _ _ (by rfl) (w.heap.size + 1) op0 (by rfl) (by rfl) _ _ H1.out (show _ = some op0.size from infoO) (by rfl) (by simp [Value.oneCell']) ?_)
    exact bodyPost_ret (results_ctO Tryz.results91 _ _ (w.heap.size + 1) _ op0 (0, 0) _ (.bool false) (by rfl) (by rfl) (setRow_heap _ _ _ _ _ _ H1.out) Tryz.underlying165 (by rfl) (show _ = some op0.size from infoO)) rfl ⟨rfl, below_setRow HB.out (by omega) _⟩
end Go.Proofs.YtlpcallgkciklaaGreatDoor
