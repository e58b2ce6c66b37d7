/-
  Operators of conditions: what the row of operators holds; the contracts of cond.operators and of its functions.
-/
import Derived.WalkKit
import Derived.Deep.WholeRow
import Derived.Laws.EntriesVeiled
import Derived.Laws.CopyOwn
import Derived.Laws.Bits64b
import Derived.Lib.Hide
import Derived.Test.YtlpcallgkciklaaGreatDoorProg
import Derived.Test.YtlpcallgkciklaaGreatDoorRw
namespace Go.Proofs.YtlpcallgkciklaaGreatDoor
open Go.RowKit
set_option linter.unusedVariables false

/-- The operators' signs, whether a mask follows, when they hold. -/
def sgO : Nat → ByteArray
  | 0 => ⟨#[61, 61]⟩
  | 1 => ⟨#[33, 61]⟩
  | 2 => ⟨#[60]⟩
  | 3 => ⟨#[60, 61]⟩
  | 4 => ⟨#[62]⟩
  | 5 => ⟨#[62, 61]⟩
  | _ => ⟨#[38]⟩
def mkO (j : Nat) : Bool := j == 6
def hoF (j n m v : Nat) : Bool := match j with
  | 0 => n == v
  | 1 => n != v
  | 2 => decide (n < v)
  | 3 => decide (n ≤ v)
  | 4 => decide (v < n)
  | 5 => decide (v ≤ n)
  | _ => (n &&& m) == v
def fnO : Nat → Value
  | 0 => .func (.func 163) #[] #[]
  | 1 => .func (.func 164) #[] #[]
  | 2 => .func (.func 165) #[] #[]
  | 3 => .func (.func 166) #[] #[]
  | 4 => .func (.func 167) #[] #[]
  | 5 => .func (.func 168) #[] #[]
  | _ => .func (.func 169) #[] #[]
abbrev opA (j : Nat) : Array Value := #[.string (sgO j), .bool (mkO j), fnO j]
abbrev op0 : Array Value := #[.string ⟨#[]⟩, .bool false, .nilFunc]
def opsA : Array Value := #[.string (sgO 0), .bool (mkO 0), fnO 0,
  .string (sgO 1), .bool (mkO 1), fnO 1,
  .string (sgO 2), .bool (mkO 2), fnO 2,
  .string (sgO 3), .bool (mkO 3), fnO 3,
  .string (sgO 4), .bool (mkO 4), fnO 4,
  .string (sgO 5), .bool (mkO 5), fnO 5,
  .string (sgO 6), .bool (mkO 6), fnO 6]
theorem opsA_at (a : Nat) (ha : a < 7) : opsA.extract (a * 3) (a * 3 + 3) = opA a := by
  match a, ha with
  | 0, _ => rfl
  | 1, _ => rfl
  | 2, _ => rfl
  | 3, _ => rfl
  | 4, _ => rfl
  | 5, _ => rfl
  | 6, _ => rfl
theorem fnO_one (j : Nat) : (fnO j).oneCell' = true := by unfold fnO; split <;> rfl
theorem fnO_func (j : Nat) : ∃ F, fnO j = .func (.func F) #[] #[] := by unfold fnO; split <;> exact ⟨_, rfl⟩
theorem opA_one (j : Nat) : (opA j).all (·.oneCell') = true := by
  have h := fnO_one j
  simp [Value.oneCell'] at h ⊢
  exact h
theorem infoO : (Tryz.prog.info? 165).map (·.size) = some 3 := by kernel_rfl
theorem ixO (a : Nat) (ha : a < 7) (W : World) : (Instr.index 213 (.agg opsA) (.int .i64 a)).run Tryz.prog W = .ok (.agg (opA a)) W := by
  have h1 : (0 ≤ (a : Int) ∧ (a : Int) < 7) := by omega
  have hlt : 165 < Tryz.prog.types.size := of_decide_eq_true (by kernel_rfl)
  have hsz : (Tryz.prog.types[165]'hlt).size = 3 := by kernel_rfl
  rw [← opsA_at a ha]
  simp [Instr.index, run_underlying Tryz.underlying213, asIntOf, h1, ha, go_sem]
theorem ret_bl {a b : Bool} (h : a = b) : Ending.returned (.bool a) = .returned (.bool b) := by rw [h]

set_option maxHeartbeats 1000000 in
theorem ho0_any (a o : Int) (n m v : Nat) (w : World) (hn : n < 18446744073709551616) (hm : m < 18446744073709551616) : Calls Tryz.prog 163 #[.int .u64 n, .agg #[.int .i64 a, .int .i64 o, .int .u64 m, .int .u64 v]] w fun e w' => e = .returned (.bool (hoF 0 n m v)) ∧ Below w.heap.size w w' := by
  have hB : Below w.heap.size w (w.alloc (.cells #[.int .i64 a, .int .i64 o, .int .u64 m, .int .u64 v] 62)) := (Below.refl _ _).alloc (Nat.le_refl _) _
  have HB := Lib.hid hB
  clear hB
  go_enter Tryz.func163, Tryz.ntmps163
  go_wp2
  go_ret
  exact ⟨ret_bl (by show ((n : Int) == (v : Int)) = (n == v); rw [Bool.eq_iff_iff]; simp; omega), HB.out⟩
set_option maxHeartbeats 1000000 in
theorem ho1_any (a o : Int) (n m v : Nat) (w : World) (hn : n < 18446744073709551616) (hm : m < 18446744073709551616) : Calls Tryz.prog 164 #[.int .u64 n, .agg #[.int .i64 a, .int .i64 o, .int .u64 m, .int .u64 v]] w fun e w' => e = .returned (.bool (hoF 1 n m v)) ∧ Below w.heap.size w w' := by
  have hB : Below w.heap.size w (w.alloc (.cells #[.int .i64 a, .int .i64 o, .int .u64 m, .int .u64 v] 62)) := (Below.refl _ _).alloc (Nat.le_refl _) _
  have HB := Lib.hid hB
  clear hB
  go_enter Tryz.func164, Tryz.ntmps164
  go_wp2
  go_ret
  exact ⟨ret_bl (by show ((n : Int) != (v : Int)) = (n != v); rw [Bool.eq_iff_iff]; simp; omega), HB.out⟩
set_option maxHeartbeats 1000000 in
theorem ho2_any (a o : Int) (n m v : Nat) (w : World) (hn : n < 18446744073709551616) (hm : m < 18446744073709551616) : Calls Tryz.prog 165 #[.int .u64 n, .agg #[.int .i64 a, .int .i64 o, .int .u64 m, .int .u64 v]] w fun e w' => e = .returned (.bool (hoF 2 n m v)) ∧ Below w.heap.size w w' := by
  have hB : Below w.heap.size w (w.alloc (.cells #[.int .i64 a, .int .i64 o, .int .u64 m, .int .u64 v] 62)) := (Below.refl _ _).alloc (Nat.le_refl _) _
  have HB := Lib.hid hB
  clear hB
  go_enter Tryz.func165, Tryz.ntmps165
  go_wp2
  go_ret
  exact ⟨ret_bl (by rw [Bool.eq_iff_iff]; simp [hoF]), HB.out⟩
set_option maxHeartbeats 1000000 in
theorem ho3_any (a o : Int) (n m v : Nat) (w : World) (hn : n < 18446744073709551616) (hm : m < 18446744073709551616) : Calls Tryz.prog 166 #[.int .u64 n, .agg #[.int .i64 a, .int .i64 o, .int .u64 m, .int .u64 v]] w fun e w' => e = .returned (.bool (hoF 3 n m v)) ∧ Below w.heap.size w w' := by
  have hB : Below w.heap.size w (w.alloc (.cells #[.int .i64 a, .int .i64 o, .int .u64 m, .int .u64 v] 62)) := (Below.refl _ _).alloc (Nat.le_refl _) _
  have HB := Lib.hid hB
  clear hB
  go_enter Tryz.func166, Tryz.ntmps166
  go_wp2
  go_ret
  exact ⟨ret_bl (by rw [Bool.eq_iff_iff]; simp [hoF]), HB.out⟩
set_option maxHeartbeats 1000000 in
theorem ho4_any (a o : Int) (n m v : Nat) (w : World) (hn : n < 18446744073709551616) (hm : m < 18446744073709551616) : Calls Tryz.prog 167 #[.int .u64 n, .agg #[.int .i64 a, .int .i64 o, .int .u64 m, .int .u64 v]] w fun e w' => e = .returned (.bool (hoF 4 n m v)) ∧ Below w.heap.size w w' := by
  have hB : Below w.heap.size w (w.alloc (.cells #[.int .i64 a, .int .i64 o, .int .u64 m, .int .u64 v] 62)) := (Below.refl _ _).alloc (Nat.le_refl _) _
  have HB := Lib.hid hB
  clear hB
  go_enter Tryz.func167, Tryz.ntmps167
  go_wp2
  go_ret
  exact ⟨ret_bl (by rw [Bool.eq_iff_iff]; simp [hoF]), HB.out⟩
set_option maxHeartbeats 1000000 in
theorem ho5_any (a o : Int) (n m v : Nat) (w : World) (hn : n < 18446744073709551616) (hm : m < 18446744073709551616) : Calls Tryz.prog 168 #[.int .u64 n, .agg #[.int .i64 a, .int .i64 o, .int .u64 m, .int .u64 v]] w fun e w' => e = .returned (.bool (hoF 5 n m v)) ∧ Below w.heap.size w w' := by
  have hB : Below w.heap.size w (w.alloc (.cells #[.int .i64 a, .int .i64 o, .int .u64 m, .int .u64 v] 62)) := (Below.refl _ _).alloc (Nat.le_refl _) _
  have HB := Lib.hid hB
  clear hB
  go_enter Tryz.func168, Tryz.ntmps168
  go_wp2
  go_ret
  exact ⟨ret_bl (by rw [Bool.eq_iff_iff]; simp [hoF]), HB.out⟩
set_option maxHeartbeats 1000000 in
theorem ho6_any (a o : Int) (n m v : Nat) (w : World) (hn : n < 18446744073709551616) (hm : m < 18446744073709551616) : Calls Tryz.prog 169 #[.int .u64 n, .agg #[.int .i64 a, .int .i64 o, .int .u64 m, .int .u64 v]] w fun e w' => e = .returned (.bool (hoF 6 n m v)) ∧ Below w.heap.size w w' := by
  have hB : Below w.heap.size w (w.alloc (.cells #[.int .i64 a, .int .i64 o, .int .u64 m, .int .u64 v] 62)) := (Below.refl _ _).alloc (Nat.le_refl _) _
  have HB := Lib.hid hB
  clear hB
  go_enter Tryz.func169, Tryz.ntmps169
  go_wp2
  go_ret
  exact ⟨ret_bl (by rw [bits_and_u64_nat n m hn hm, Bool.eq_iff_iff]; simp [hoF]; omega), HB.out⟩
theorem ho_any (j : Nat) (hj : j < 7) (F : Nat) (hF : fnO j = .func (.func F) #[] #[]) (a o : Int) (n m v : Nat) (w : World) (hn : n < 18446744073709551616) (hm : m < 18446744073709551616) : Calls Tryz.prog F #[.int .u64 n, .agg #[.int .i64 a, .int .i64 o, .int .u64 m, .int .u64 v]] w fun e w' => e = .returned (.bool (hoF j n m v)) ∧ Below w.heap.size w w' := by
  match j, hj with
  | 0, _ => obtain rfl : F = 163 := by simpa [fnO] using hF.symm
            exact ho0_any a o n m v w hn hm
  | 1, _ => obtain rfl : F = 164 := by simpa [fnO] using hF.symm
            exact ho1_any a o n m v w hn hm
  | 2, _ => obtain rfl : F = 165 := by simpa [fnO] using hF.symm
            exact ho2_any a o n m v w hn hm
  | 3, _ => obtain rfl : F = 166 := by simpa [fnO] using hF.symm
            exact ho3_any a o n m v w hn hm
  | 4, _ => obtain rfl : F = 167 := by simpa [fnO] using hF.symm
            exact ho4_any a o n m v w hn hm
  | 5, _ => obtain rfl : F = 168 := by simpa [fnO] using hF.symm
            exact ho5_any a o n m v w hn hm
  | 6, _ => obtain rfl : F = 169 := by simpa [fnO] using hF.symm
            exact ho6_any a o n m v w hn hm

def zO : Array Value := #[.string ⟨#[]⟩, .bool false, .nilFunc, .string ⟨#[]⟩, .bool false, .nilFunc, .string ⟨#[]⟩, .bool false, .nilFunc, .string ⟨#[]⟩, .bool false, .nilFunc, .string ⟨#[]⟩, .bool false, .nilFunc, .string ⟨#[]⟩, .bool false, .nilFunc, .string ⟨#[]⟩, .bool false, .nilFunc]
set_option maxRecDepth 100000 in
set_option maxHeartbeats 2000000 in
theorem operators_any (w : World) : Calls Tryz.prog 131 #[] w fun e w' => e = .returned (.agg opsA) ∧ Below w.heap.size w w' := by
  obtain ⟨D, hD⟩ : ∃ D, opsA = D := ⟨_, rfl⟩
  have hi : (Tryz.prog.info? 213).map (·.size) = some D.size := by rw [← hD]; show _ = some 21; kernel_rfl
  have h1c : D.all (·.oneCell') = true := by rw [← hD]; simp [opsA, Value.oneCell', fnO]
  have S1 := Lib.hid hi
  have S2 := Lib.hid h1c
  have HD := Lib.hid hD
  clear hi h1c hD
  have r0 : RowC (w.alloc (.cells zO 213)) w.heap.size zO 213 := RowC.new _ _ _ _ rfl
  have hb : Below w.heap.size w (w.alloc (.cells zO 213)) := (Below.refl _ _).alloc (Nat.le_refl _) _
  have H0 := Lib.hid r0
  have HB := Lib.hid hb
  clear r0 hb
  unfold zO at H0 HB
  go_enter Tryz.func131, Tryz.ntmps131
  go_wp2_with (refine wpList_store_row (by rfl) 213 _ _ (by rfl) w.heap.size D (by rfl) (by rw [← HD.out]; rfl) _ _ H0.out S1.out (by rw [← HD.out]; rfl) S2.out ?_)
  exact bodyPost_ret (results_cell_row Tryz.results131 _ _ w.heap.size _ _ (0, 0) _ (by rfl) (setRow_heap _ _ _ _ _ _ H0.out) Tryz.underlying213 (by rfl) S1.out) rfl ⟨by rw [HD.out], below_setRow HB.out (Nat.le_refl _) _⟩
end Go.Proofs.YtlpcallgkciklaaGreatDoor
