/-
  Kinds of actions: what the row of kinds holds; the contracts of act.kinds and of its closures.
-/
import Derived.WalkKit
import Derived.Deep.WholeRow
import Derived.Laws.EntriesVeiled
import Derived.Laws.CopyOwn
import Derived.Lib.Hide
import Derived.Test.YtnlnddmnbeilfaaProg
import Derived.Test.YtnlnddmnbeilfaaMem
import Derived.Test.YtnlnddmnbeilfaaRw
namespace Go.Proofs.Ytnlnddmnbeilfaa
open Go.RowKit

/-- The kinds' words, codes, whether a number is told, how great it may be. -/
def kwA : Nat → ByteArray
  | 0 => ⟨#[107, 105, 108, 108]⟩
  | 1 => ⟨#[107, 105, 108, 108, 95, 116, 104, 114, 101, 97, 100]⟩
  | 2 => ⟨#[116, 114, 97, 112]⟩
  | 3 => ⟨#[101, 114, 114, 110, 111]⟩
  | 4 => ⟨#[110, 111, 116, 105, 102, 121]⟩
  | 5 => ⟨#[116, 114, 97, 99, 101]⟩
  | 6 => ⟨#[108, 111, 103]⟩
  | _ => ⟨#[97, 108, 108, 111, 119]⟩
def kcA : Nat → Nat
  | 0 => 2147483648
  | 1 => 0
  | 2 => 196608
  | 3 => 327680
  | 4 => 2143289344
  | 5 => 2146435072
  | 6 => 2147221504
  | _ => 2147418112
def knA (j : Nat) : Bool := j == 3 || j == 5
def mostA (j : Nat) : Int := if j = 3 then 4095 else if j = 5 then 65535 else 0
def mayA (j : Nat) (n : Int) : Bool := decide (0 ≤ n) && decide (n ≤ mostA j)
def kmA (b1 b2 : Nat) : Nat → Value
  | 3 => .func (.func 60) #[] #[.pointer (some ⟨b1, 0, none⟩)]
  | 5 => .func (.func 60) #[] #[.pointer (some ⟨b2, 0, none⟩)]
  | _ => .func (.func 58) #[] #[]
abbrev kindA (b1 b2 j : Nat) : Array Value := #[.string (kwA j), .int .u32 (kcA j), .bool (knA j), kmA b1 b2 j]
abbrev kind0 : Array Value := #[.string ⟨#[]⟩, .int .u32 0, .bool false, .nilFunc]
def kindsA (b1 b2 : Nat) : Array Value := #[
  .string (kwA 0), .int .u32 (kcA 0), .bool (knA 0), kmA b1 b2 0, .string (kwA 1), .int .u32 (kcA 1), .bool (knA 1), kmA b1 b2 1,
  .string (kwA 2), .int .u32 (kcA 2), .bool (knA 2), kmA b1 b2 2, .string (kwA 3), .int .u32 (kcA 3), .bool (knA 3), kmA b1 b2 3,
  .string (kwA 4), .int .u32 (kcA 4), .bool (knA 4), kmA b1 b2 4, .string (kwA 5), .int .u32 (kcA 5), .bool (knA 5), kmA b1 b2 5,
  .string (kwA 6), .int .u32 (kcA 6), .bool (knA 6), kmA b1 b2 6, .string (kwA 7), .int .u32 (kcA 7), .bool (knA 7), kmA b1 b2 7]
theorem kcA_lt (a : Nat) : kcA a < 4294967296 := by unfold kcA; split <;> decide
theorem kindsA_at (b1 b2 a : Nat) (ha : a < 8) : (kindsA b1 b2).extract (a * 4) (a * 4 + 4) = kindA b1 b2 a := by
  match a, ha with
  | 0, _ => rfl
  | 1, _ => rfl
  | 2, _ => rfl
  | 3, _ => rfl
  | 4, _ => rfl
  | 5, _ => rfl
  | 6, _ => rfl
  | 7, _ => rfl
theorem kmA_one (b1 b2 j : Nat) : (kmA b1 b2 j).oneCell' = true := by unfold kmA; split <;> rfl
theorem kindA_one (b1 b2 j : Nat) : (kindA b1 b2 j).all (·.oneCell') = true := by
  have h := kmA_one b1 b2 j
  simp [Value.oneCell'] at h ⊢
  exact h
theorem infoK : (Try.prog.info? 71).map (·.size) = some 4 := by kernel_rfl
theorem ixK (b1 b2 a : Nat) (ha : a < 8) (W : World) : (Instr.index 116 (.agg (kindsA b1 b2)) (.int .i64 a)).run Try.prog W = .ok (.agg (kindA b1 b2 a)) W := by
  have h1 : (0 ≤ (a : Int) ∧ (a : Int) < 8) := by omega
  have hlt : 71 < Try.prog.types.size := of_decide_eq_true (by kernel_rfl)
  have hsz : (Try.prog.types[71]'hlt).size = 4 := by kernel_rfl
  rw [← kindsA_at b1 b2 a ha]
  simp [Instr.index, run_underlying Try.underlying116, asIntOf, h1, ha, go_sem]

set_option maxHeartbeats 1000000 in
theorem none_any (n : Int) (w : World) : Calls Try.prog 58 #[.int .i64 n] w fun e w' => e = .returned (.bool (n == 0)) ∧ w = w' := by
  go_enter Try.func58, Try.ntmps58
  go_wp2
  go_ret
  exact ⟨rfl, rfl⟩
set_option maxHeartbeats 1000000 in
theorem upto1_any (n m : Int) (b : Nat) (w : World) (hb : w.cell? ⟨b, 0, none⟩ = some (.int .i64 m)) : Calls Try.prog 60 #[.int .i64 n, .pointer (some ⟨b, 0, none⟩)] w fun e w' => e = .returned (.bool (decide (0 ≤ n) && decide (n ≤ m))) ∧ w = w' := by
  by_cases h : 0 ≤ n
  · go_enter Try.func60, Try.ntmps60
    go_wp2
    go_ret
    exact ⟨by simp [h], rfl⟩
  · have h1 : decide (n ≥ 0) = false := by simpa using h
    go_enter Try.func60, Try.ntmps60
    go_wp2
    go_ret
    exact ⟨by simp, rfl⟩
set_option maxHeartbeats 1000000 in
theorem upto_any (m : Int) (w : World) (b : Nat) (hb : b = w.heap.size) : Calls Try.prog 59 #[.int .i64 m] w fun e w' => e = .returned (.func (.func 60) #[] #[.pointer (some ⟨b, 0, none⟩)]) ∧ w' = w.alloc (.cells #[.int .i64 m] 3) := by
  subst hb
  go_enter Try.func59, Try.ntmps59
  go_wp2
  go_ret
  exact ⟨rfl, rfl⟩

def z0 : Array Value := #[.string ⟨#[]⟩, .int .u32 0, .bool false, .nilFunc, .string ⟨#[]⟩, .int .u32 0, .bool false, .nilFunc, .string ⟨#[]⟩, .int .u32 0, .bool false, .nilFunc, .string ⟨#[]⟩, .int .u32 0, .bool false, .nilFunc, .string ⟨#[]⟩, .int .u32 0, .bool false, .nilFunc, .string ⟨#[]⟩, .int .u32 0, .bool false, .nilFunc, .string ⟨#[]⟩, .int .u32 0, .bool false, .nilFunc, .string ⟨#[]⟩, .int .u32 0, .bool false, .nilFunc]
set_option maxRecDepth 100000 in
set_option maxHeartbeats 2000000 in
theorem kinds_any (w : World) : Calls Try.prog 51 #[] w fun e w' => e = .returned (.agg (kindsA (w.heap.size + 1) (w.heap.size + 1 + 1))) ∧
    RowC w' (w.heap.size + 1) #[.int .i64 4095] 3 ∧ RowC w' (w.heap.size + 1 + 1) #[.int .i64 65535] 3 ∧ Below w.heap.size w w' := by
  obtain ⟨D, hD⟩ : ∃ D, kindsA (w.heap.size + 1) (w.heap.size + 1 + 1) = D := ⟨_, rfl⟩
  have hi : (Try.prog.info? 116).map (·.size) = some D.size := by rw [← hD]; show _ = some 32; kernel_rfl
  have h1c : D.all (·.oneCell') = true := by rw [← hD]; simp [kindsA, Value.oneCell', kmA]
  have S1 := Lib.hid hi
  have S2 := Lib.hid h1c
  have HD := Lib.hid hD
  clear hi h1c hD
  go_enter Try.func51, Try.ntmps51
  go_wp2_with fail
  refine (upto_any _ _ (w.heap.size + 1) (by simp)).mono ?_
  rintro e w1 ⟨rfl, rfl⟩
  go_wp2_with fail
  refine (upto_any _ _ (w.heap.size + 1 + 1) (by simp)).mono ?_
  rintro e w2 ⟨rfl, rfl⟩
  have r1 : RowC (((w.alloc (.cells z0 116)).alloc (.cells #[.int .i64 4095] 3)).alloc (.cells #[.int .i64 65535] 3)) (w.heap.size + 1) #[.int .i64 4095] 3 := (RowC.new _ _ _ _ (by simp)).alloc _
  have r2 : RowC (((w.alloc (.cells z0 116)).alloc (.cells #[.int .i64 4095] 3)).alloc (.cells #[.int .i64 65535] 3)) (w.heap.size + 1 + 1) #[.int .i64 65535] 3 := RowC.new _ _ _ _ (by simp)
  have r0 : RowC (((w.alloc (.cells z0 116)).alloc (.cells #[.int .i64 4095] 3)).alloc (.cells #[.int .i64 65535] 3)) w.heap.size z0 116 := ((RowC.new _ _ _ _ rfl).alloc _).alloc _
  have hb : Below w.heap.size w (((w.alloc (.cells z0 116)).alloc (.cells #[.int .i64 4095] 3)).alloc (.cells #[.int .i64 65535] 3)) := (((Below.refl _ _).alloc (Nat.le_refl _) _).alloc (by simp) _).alloc (by simp; omega) _
  have H0 := Lib.hid r0
  have H1 := Lib.hid r1
  have H2 := Lib.hid r2
  have HB := Lib.hid hb
  clear r0 r1 r2 hb
  unfold z0 at H0 H1 H2 HB
  generalize (((w.alloc (.cells #[.string ⟨#[]⟩, .int .u32 0, .bool false, .nilFunc, .string ⟨#[]⟩, .int .u32 0, .bool false, .nilFunc, .string ⟨#[]⟩, .int .u32 0, .bool false, .nilFunc, .string ⟨#[]⟩, .int .u32 0, .bool false, .nilFunc, .string ⟨#[]⟩, .int .u32 0, .bool false, .nilFunc, .string ⟨#[]⟩, .int .u32 0, .bool false, .nilFunc, .string ⟨#[]⟩, .int .u32 0, .bool false, .nilFunc, .string ⟨#[]⟩, .int .u32 0, .bool false, .nilFunc] 116)).alloc (.cells #[.int .i64 4095] 3)).alloc (.cells #[.int .i64 65535] 3)) = W at *
  go_wp2_with (refine wpList_store_row (by rfl) 116 _ _ (by rfl) w.heap.size D (by rfl) (by rw [← HD.out]; rfl) _ _ H0.out S1.out (by rw [← HD.out]; rfl) S2.out ?_)
  exact bodyPost_ret (results_cell_row Try.results51 _ _ w.heap.size _ _ (0, 0) _ (by rfl) (setRow_heap _ _ _ _ _ _ H0.out) Try.underlying116 (by rfl) S1.out) rfl ⟨by rw [HD.out], H1.out.setRow _ (by omega), H2.out.setRow _ (by omega), below_setRow HB.out (Nat.le_refl _) _⟩
end Go.Proofs.Ytnlnddmnbeilfaa
