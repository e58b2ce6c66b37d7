/-
  Kinds of actions: what the row of kinds holds; the contracts of act.kinds and of its closures.
-/
import Derived.Test.YtccklmleaffgiaaGreatDoorProg
import Derived.Test.YtccklmleaffgiaaGreatDoorQ1
import Derived.WalkKit
import Derived.Deep.WholeRow
import Derived.Laws.EntriesVeiled
import Derived.Laws.CopyOwn
import Derived.Lib.Hide
import Derived.RegionTactic
namespace Go.Proofs.YtccklmleaffgiaaGreatDoor
open Go.RowKit

/-- The kinds' words, codes, whether a number is told, how great it may be. -/
def kwA : Nat → ByteArray
  | 0 => ⟨#[107, 105, 108, 108]⟩
  | 1 => ⟨#[107, 105, 108, 108, 95, 116, 104, 114, 101, 97, 100]⟩
  | 2 => ⟨#[116, 114, 97, 112]⟩
  | 3 => ⟨#[101, 114, 114, 110, 111]⟩
  | 4 => ⟨#[110, 111, 116, 105, 102, 121]⟩
  | 5 => ⟨#[116, 114, 97, 99, 101]⟩
  | 6 => ⟨#[108, 111, 103]⟩
  | _ => ⟨#[97, 108, 108, 111, 119]⟩
def kcA : Nat → Nat
  | 0 => 2147483648
  | 1 => 0
  | 2 => 196608
  | 3 => 327680
  | 4 => 2143289344
  | 5 => 2146435072
  | 6 => 2147221504
  | _ => 2147418112
def knA (j : Nat) : Bool := j == 3 || j == 5
def mostA (j : Nat) : Int := if j = 3 then 4095 else if j = 5 then 65535 else 0
def mayA (j : Nat) (n : Int) : Bool := decide (0 ≤ n) && decide (n ≤ mostA j)
def kmA (b1 b2 : Nat) : Nat → Value
  | 3 => .func (.func 101) #[] #[.pointer (some ⟨b1, 0, none⟩)]
  | 5 => .func (.func 101) #[] #[.pointer (some ⟨b2, 0, none⟩)]
  | _ => .func (.func 99) #[] #[]
abbrev kindA (b1 b2 j : Nat) : Array Value := #[.string (kwA j), .int .u32 (kcA j), .bool (knA j), kmA b1 b2 j]
abbrev kind0 : Array Value := #[.string ⟨#[]⟩, .int .u32 0, .bool false, .nilFunc]
def kindsA (b1 b2 : Nat) : Array Value := #[
  .string (kwA 0), .int .u32 (kcA 0), .bool (knA 0), kmA b1 b2 0, .string (kwA 1), .int .u32 (kcA 1), .bool (knA 1), kmA b1 b2 1,
  .string (kwA 2), .int .u32 (kcA 2), .bool (knA 2), kmA b1 b2 2, .string (kwA 3), .int .u32 (kcA 3), .bool (knA 3), kmA b1 b2 3,
  .string (kwA 4), .int .u32 (kcA 4), .bool (knA 4), kmA b1 b2 4, .string (kwA 5), .int .u32 (kcA 5), .bool (knA 5), kmA b1 b2 5,
  .string (kwA 6), .int .u32 (kcA 6), .bool (knA 6), kmA b1 b2 6, .string (kwA 7), .int .u32 (kcA 7), .bool (knA 7), kmA b1 b2 7]
theorem kindsA_at (b1 b2 a : Nat) (ha : a < 8) : (kindsA b1 b2).extract (a * 4) (a * 4 + 4) = kindA b1 b2 a := by
  match a, ha with
  | 0, _ => rfl
  | 1, _ => rfl
  | 2, _ => rfl
  | 3, _ => rfl
  | 4, _ => rfl
  | 5, _ => rfl
  | 6, _ => rfl
  | 7, _ => rfl
theorem infoK : (Tryz.prog.info? 108).map (·.size) = some 4 := by kernel_rfl
theorem ixK (b1 b2 a : Nat) (ha : a < 8) (W : World) : (Instr.index 163 (.agg (kindsA b1 b2)) (.int .i64 a)).run Tryz.prog W = .ok (.agg (kindA b1 b2 a)) W := by
  have h1 : (0 ≤ (a : Int) ∧ (a : Int) < 8) := by omega
  have hlt : 108 < Tryz.prog.types.size := of_decide_eq_true (by kernel_rfl)
  have hsz : (Tryz.prog.types[108]'hlt).size = 4 := by kernel_rfl
  rw [← kindsA_at b1 b2 a ha]
  simp [Instr.index, run_underlying Tryz.underlying163, asIntOf, h1, ha, go_sem]

set_option maxHeartbeats 1000000 in
theorem none_any (n : Int) (w : World) : Calls Tryz.prog 99 #[.int .i64 n] w fun e w' => e = .returned (.bool (n == 0)) ∧ w = w' := by
  go_enter Tryz.func99, Tryz.ntmps99
  go_wp2
  go_ret
  exact ⟨rfl, rfl⟩
set_option maxHeartbeats 1000000 in
theorem upto1_any (n m : Int) (b : Nat) (w : World) (hb : w.cell? ⟨b, 0, none⟩ = some (.int .i64 m)) : Calls Tryz.prog 101 #[.int .i64 n, .pointer (some ⟨b, 0, none⟩)] w fun e w' => e = .returned (.bool (decide (0 ≤ n) && decide (n ≤ m))) ∧ w = w' := by
  by_cases h : 0 ≤ n
  · go_enter Tryz.func101, Tryz.ntmps101
    go_wp2
    go_ret
    exact ⟨by simp [h], rfl⟩
  · have h1 : decide (n ≥ 0) = false := by simpa using h
    go_enter Tryz.func101, Tryz.ntmps101
    go_wp2
    go_ret
    exact ⟨by simp, rfl⟩
set_option maxHeartbeats 1000000 in
theorem upto_any (m : Int) (w : World) (b : Nat) (hb : b = w.heap.size) : Calls Tryz.prog 100 #[.int .i64 m] w fun e w' => e = .returned (.func (.func 101) #[] #[.pointer (some ⟨b, 0, none⟩)]) ∧ w' = w.alloc (.cells #[.int .i64 m] 3) := by
  subst hb
  go_enter Tryz.func100, Tryz.ntmps100
  go_wp2
  go_ret
  exact ⟨rfl, rfl⟩

def z0 : Array Value := #[.string ⟨#[]⟩, .int .u32 0, .bool false, .nilFunc, .string ⟨#[]⟩, .int .u32 0, .bool false, .nilFunc, .string ⟨#[]⟩, .int .u32 0, .bool false, .nilFunc, .string ⟨#[]⟩, .int .u32 0, .bool false, .nilFunc, .string ⟨#[]⟩, .int .u32 0, .bool false, .nilFunc, .string ⟨#[]⟩, .int .u32 0, .bool false, .nilFunc, .string ⟨#[]⟩, .int .u32 0, .bool false, .nilFunc, .string ⟨#[]⟩, .int .u32 0, .bool false, .nilFunc]
set_option maxRecDepth 100000 in
set_option maxHeartbeats 2000000 in
theorem kinds_any (w : World) : Calls Tryz.prog 83 #[] w fun e w' => e = .returned (.agg (kindsA (w.heap.size + 1) (w.heap.size + 1 + 1))) ∧
    RowC w' (w.heap.size + 1) #[.int .i64 4095] 3 ∧ RowC w' (w.heap.size + 1 + 1) #[.int .i64 65535] 3 ∧ Below w.heap.size w w' := by
  obtain ⟨D, hD⟩ : ∃ D, kindsA (w.heap.size + 1) (w.heap.size + 1 + 1) = D := ⟨_, rfl⟩
  have hi : (Tryz.prog.info? 163).map (·.size) = some D.size := by rw [← hD]; show _ = some 32; kernel_rfl
  have h1c : D.all (·.oneCell') = true := by rw [← hD]; simp [kindsA, Value.oneCell', kmA]
  have S1 := Lib.hid hi
  have S2 := Lib.hid h1c
  have HD := Lib.hid hD
  clear hi h1c hD
  go_enter Tryz.func83, Tryz.ntmps83
  go_wp2_with fail
  refine (upto_any _ _ (w.heap.size + 1) (by simp)).mono ?_
  rintro e w1 ⟨rfl, rfl⟩
  go_wp2_with fail
  refine (upto_any _ _ (w.heap.size + 1 + 1) (by simp)).mono ?_
  rintro e w2 ⟨rfl, rfl⟩
  have r1 : RowC (((w.alloc (.cells z0 163)).alloc (.cells #[.int .i64 4095] 3)).alloc (.cells #[.int .i64 65535] 3)) (w.heap.size + 1) #[.int .i64 4095] 3 := (RowC.new _ _ _ _ (by simp)).alloc _
  have r2 : RowC (((w.alloc (.cells z0 163)).alloc (.cells #[.int .i64 4095] 3)).alloc (.cells #[.int .i64 65535] 3)) (w.heap.size + 1 + 1) #[.int .i64 65535] 3 := RowC.new _ _ _ _ (by simp)
  have r0 : RowC (((w.alloc (.cells z0 163)).alloc (.cells #[.int .i64 4095] 3)).alloc (.cells #[.int .i64 65535] 3)) w.heap.size z0 163 := ((RowC.new _ _ _ _ rfl).alloc _).alloc _
  have hb : Below w.heap.size w (((w.alloc (.cells z0 163)).alloc (.cells #[.int .i64 4095] 3)).alloc (.cells #[.int .i64 65535] 3)) := (((Below.refl _ _).alloc (Nat.le_refl _) _).alloc (by simp) _).alloc (by simp; omega) _
  have H0 := Lib.hid r0
  have H1 := Lib.hid r1
  have H2 := Lib.hid r2
  have HB := Lib.hid hb
  clear r0 r1 r2 hb
  unfold z0 at H0 H1 H2 HB
  generalize (((w.alloc (.cells #[.string ⟨#[]⟩, .int .u32 0, .bool false, .nilFunc, .string ⟨#[]⟩, .int .u32 0, .bool false, .nilFunc, .string ⟨#[]⟩, .int .u32 0, .bool false, .nilFunc, .string ⟨#[]⟩, .int .u32 0, .bool false, .nilFunc, .string ⟨#[]⟩, .int .u32 0, .bool false, .nilFunc, .string ⟨#[]⟩, .int .u32 0, .bool false, .nilFunc, .string ⟨#[]⟩, .int .u32 0, .bool false, .nilFunc, .string ⟨#[]⟩, .int .u32 0, .bool false, .nilFunc] 163)).alloc (.cells #[.int .i64 4095] 3)).alloc (.cells #[.int .i64 65535] 3)) = W at *
  go_wp2_with (refine wpList_store_row (by rfl) 163 _ _ (by rfl) w.heap.size D (by rfl) (by rw [← HD.out]; rfl) _ _ H0.out S1.out (by rw [← HD.out]; rfl) S2.out ?_)
  exact bodyPost_ret (results_cell_row Tryz.results83 _ _ w.heap.size _ _ (0, 0) _ (by rfl) (setRow_heap _ _ _ _ _ _ H0.out) Tryz.underlying163 (by rfl) S1.out) rfl ⟨by rw [HD.out], H1.out.setRow _ (by omega), H2.out.setRow _ (by omega), below_setRow HB.out (Nat.le_refl _) _⟩
end Go.Proofs.YtccklmleaffgiaaGreatDoor

/-
  The contract of act.find at the closure of act.kindOf, of kindOf, and of Code.
-/
namespace Go.Proofs.YtccklmleaffgiaaGreatDoor
open Go.RowKit

theorem may_other (j : Nat) (n : Int) (h3 : j ≠ 3) (h5 : j ≠ 5) : mayA j n = (n == 0) := by
  unfold mayA mostA
  rw [if_neg h3, if_neg h5, Bool.eq_iff_iff]
  simp
  omega
theorem km_other (b1 b2 j : Nat) (h3 : j ≠ 3) (h5 : j ≠ 5) : kmA b1 b2 j = .func (.func 99) #[] #[] := by
  unfold kmA
  split
  · exact absurd rfl h3
  · exact absurd rfl h5
  · rfl
/-- A kind's question, asked of a number. -/
theorem may3_any (n : Int) (b1 : Nat) (w : World) (hb : w.cell? ⟨b1, 0, none⟩ = some (.int .i64 4095)) : Calls Tryz.prog 101 #[.int .i64 n, .pointer (some ⟨b1, 0, none⟩)] w fun e w' => e = .returned (.bool (mayA 3 n)) ∧ w = w' := upto1_any n 4095 b1 w hb
theorem may5_any (n : Int) (b2 : Nat) (w : World) (hb : w.cell? ⟨b2, 0, none⟩ = some (.int .i64 65535)) : Calls Tryz.prog 101 #[.int .i64 n, .pointer (some ⟨b2, 0, none⟩)] w fun e w' => e = .returned (.bool (mayA 5 n)) ∧ w = w' := upto1_any n 65535 b2 w hb

set_option maxRecDepth 100000 in
set_option maxHeartbeats 4000000 in
theorem kindOf1_any (n kd nm : Int) (b1 b2 j AB : Nat) (w : World) (h1 : w.cell? ⟨b1, 0, none⟩ = some (.int .i64 4095)) (h2 : w.cell? ⟨b2, 0, none⟩ = some (.int .i64 65535)) (ha : w.cell? ⟨AB, 0, none⟩ = some (.int .i64 kd)) (hb : w.cell? ⟨AB, 1, none⟩ = some (.int .i64 nm)) :
    Calls Tryz.prog 66 #[.int .i64 n, .agg (kindA b1 b2 j), .pointer (some ⟨AB, 0, none⟩)] w fun e w' => e = .returned (.bool (n == kd && mayA j nm)) ∧ Below w.heap.size w w' := by
  have hB : Below w.heap.size w (w.alloc (.cells (kindA b1 b2 j) 108)) := (Below.refl _ _).alloc (Nat.le_refl _) _
  have l1 := World.block_lt_of_cell? _ _ h1
  have l2 := World.block_lt_of_cell? _ _ h2
  have l3 := World.block_lt_of_cell? _ _ ha
  have k1 : (w.alloc (.cells (kindA b1 b2 j) 108)).cell? ⟨b1, 0, none⟩ = some (.int .i64 4095) := (hB.cell (p := ⟨b1, 0, none⟩) l1).trans h1
  have k2 : (w.alloc (.cells (kindA b1 b2 j) 108)).cell? ⟨b2, 0, none⟩ = some (.int .i64 65535) := (hB.cell (p := ⟨b2, 0, none⟩) l2).trans h2
  have a0 : (w.alloc (.cells (kindA b1 b2 j) 108)).cell? ⟨AB, 0, none⟩ = some (.int .i64 kd) := (hB.cell (p := ⟨AB, 0, none⟩) l3).trans ha
  have a1 : (w.alloc (.cells (kindA b1 b2 j) 108)).cell? ⟨AB, 1, none⟩ = some (.int .i64 nm) := (hB.cell (p := ⟨AB, 1, none⟩) l3).trans hb
  have K1 := Lib.hid k1
  have K2 := Lib.hid k2
  have HB := Lib.hid hB
  have c3 : (w.alloc (.cells (kindA b1 b2 j) 108)).cell? ⟨w.heap.size, 3, none⟩ = some (kmA b1 b2 j) := (RowC.new w (kindA b1 b2 j) 108 _ rfl).cell 3 _ rfl
  clear h1 h2 ha hb k1 k2 hB
  cases ht : (n == kd)
  · go_enter Tryz.func66, Tryz.ntmps66
    go_wp2
    go_ret
    exact ⟨rfl, HB.out⟩
  · by_cases h3 : j = 3
    · subst h3
      have c3' : (w.alloc (.cells (kindA b1 b2 3) 108)).cell? ⟨w.heap.size, 3, none⟩ = some (.func (.func 101) #[] #[.pointer (some ⟨b1, 0, none⟩)]) := c3
      have HM := Lib.hid (may3_any nm b1 _ K1.out)
      clear c3
      go_enter Tryz.func66, Tryz.ntmps66
      go_wp2_with (go_at_call 101; refine HM.out.mono ?_; rintro e w1 ⟨rfl, rfl⟩)
      go_ret
      exact ⟨rfl, HB.out⟩
    by_cases h5 : j = 5
    · subst h5
      have c3' : (w.alloc (.cells (kindA b1 b2 5) 108)).cell? ⟨w.heap.size, 3, none⟩ = some (.func (.func 101) #[] #[.pointer (some ⟨b2, 0, none⟩)]) := c3
      have HM := Lib.hid (may5_any nm b2 _ K2.out)
      clear c3
      go_enter Tryz.func66, Tryz.ntmps66
      go_wp2_with (go_at_call 101; refine HM.out.mono ?_; rintro e w1 ⟨rfl, rfl⟩)
      go_ret
      exact ⟨rfl, HB.out⟩
    have c3' := c3
    rw [km_other b1 b2 j h3 h5] at c3'
    have HM := Lib.hid (may_other j nm h3 h5)
    clear c3 h3 h5
    go_enter Tryz.func66, Tryz.ntmps66
    go_wp2_with (go_at_call 99; refine (none_any _ _).mono ?_; rintro e w1 ⟨rfl, rfl⟩)
    go_ret
    exact ⟨by rw [HM.out]; rfl, HB.out⟩

theorem kmA_func (b1 b2 j : Nat) : ∃ F cap, kmA b1 b2 j = .func (.func F) #[] cap := by
  unfold kmA
  split
  · exact ⟨_, _, rfl⟩
  · exact ⟨_, _, rfl⟩
  · exact ⟨_, _, rfl⟩
/-- What a look for a kind gives. -/
def FindR (P : Nat → Bool) (w : World) (e : Ending) (w' : World) : Prop :=
  ((∃ j, j < 8 ∧ P j = true ∧ (∀ i, i < j → P i = false) ∧ e = .returned (.tuple #[.int .i64 ((j : Int) + 1), .agg (kindA (w.heap.size + 1 + 1) (w.heap.size + 1 + 1 + 1) j), .bool true])) ∨
   ((∀ i, i < 8 → P i = false) ∧ e = .returned (.tuple #[.int .i64 0, .agg kind0, .bool false]))) ∧
  (RowC w' (w.heap.size + 1 + 1) #[.int .i64 4095] 3 ∧ RowC w' (w.heap.size + 1 + 1 + 1) #[.int .i64 65535] 3) ∧ Below w.heap.size w w'
theorem results_tct {P : Program} {fn : Func} {p q r : Tmp} {ty : TypeId} (h : fn.results = #[.tmp p, .cell q ty, .tmp r]) (tmps : Array Value) (w : World) (g : Nat) (t : TypeId) (cs : Array Value) (fr : Nat × Nat) (d : TypeDesc) (u v : Value)
    (hp : tmps.getD p undef = u) (hq : tmps.getD q undef = .pointer (some ⟨g, 0, none⟩)) (hr : tmps.getD r undef = v) (hg : w.heap[g]? = some (.cells cs t fr))
    (hu : P.underlying ty = some d) (hd : (match d with | .struct _ | .array _ _ => true | _ => false) = true) (hi : (P.info? ty).map (·.size) = some cs.size) :
    (results fn tmps).run P w = .ok (.tuple #[u, .agg cs, v]) w := by
  have hp' : tmps[p]?.getD undef = u := by simpa using hp
  have hq' : tmps[q]?.getD undef = .pointer (some ⟨g, 0, none⟩) := by simpa using hq
  have hr' : tmps[r]?.getD undef = v := by simpa using hr
  simp [results, h, hp', hq', hr', asAddr, run_loadVar_row w g t ty cs fr d hg hu hd hi, Result.andThen]

set_option maxRecDepth 100000 in
set_option maxHeartbeats 8000000 in
theorem find_kindOf (kd nm : Int) (AB : Nat) (w : World) (ha : w.cell? ⟨AB, 0, none⟩ = some (.int .i64 kd)) (hb : w.cell? ⟨AB, 1, none⟩ = some (.int .i64 nm)) :
    Calls Tryz.prog 65 #[.func (.func 66) #[] #[.pointer (some ⟨AB, 0, none⟩)]] w (FindR (fun j => ((j : Int) + 1) == kd && mayA j nm) w) := by
  have lA := World.block_lt_of_cell? _ _ ha
  have HA := Lib.hid (⟨ha, hb⟩ : w.cell? ⟨AB, 0, none⟩ = some (.int .i64 kd) ∧ w.cell? ⟨AB, 1, none⟩ = some (.int .i64 nm))
  obtain ⟨P, hP⟩ : ∃ P : Nat → Bool, (fun j : Nat => ((j : Int) + 1) == kd && mayA j nm) = P := ⟨_, rfl⟩
  rw [hP]
  have HP := Lib.hid hP
  clear ha hb hP
  have HK := Lib.hid (kinds_any (w.alloc (.cells kind0 108)))
  go_enter Tryz.func65, Tryz.ntmps65
  go_wp2_with (go_at_call 83; refine HK.out.mono ?_; rintro e w1 ⟨rfl, hr1, hr2, hB1⟩)
  have ez : (w.alloc (.cells kind0 108)).heap.size = w.heap.size + 1 := by simp
  rw [ez] at hr1 hr2 hB1
  have hb0 : Below w.heap.size w w1 := ((Below.refl _ _).alloc (Nat.le_refl _) _).trans (hB1.mono (by omega))
  have hr0 : RowC w1 w.heap.size kind0 108 := (RowC.new w kind0 108 _ rfl).below hB1 (by omega)
  obtain ⟨b1, hb1⟩ : ∃ b, w.heap.size + 1 + 1 = b := ⟨_, rfl⟩
  obtain ⟨b2, hb2⟩ : ∃ b, w.heap.size + 1 + 1 + 1 = b := ⟨_, rfl⟩
  rw [hb1] at hr1
  rw [hb2] at hr2
  have HB1 := Lib.hid hb1
  have HB2 := Lib.hid hb2
  rw [hb2, hb1]
  clear hb1 hb2 hB1 ez
  go_loopw [9] (fun i wr => ∃ k : Nat, k ≤ 8 ∧ i = .int .i64 k ∧ (∀ i, i < k → P i = false) ∧ (RowC wr b1 #[.int .i64 4095] 3 ∧ RowC wr b2 #[.int .i64 65535] 3 ∧ RowC wr w.heap.size kind0 108) ∧ Below w.heap.size w wr)
    (fun i _ => 8 - (intOf i).toNat)
  case atStart => exact ⟨0, by omega, rfl, fun i h => by omega, ⟨hr1, hr2, hr0⟩, hb0⟩
  case round =>
    obtain ⟨k, hk, rfl, hno, ⟨g1, g2, g0⟩, hB⟩ := hrel
    have HNO := Lib.hid hno
    clear hno
    by_cases hlt : k < 8
    · have hix := ixK b1 b2 k hlt
      obtain ⟨F, cap, hkm⟩ := kmA_func b1 b2 k
      have i1 : (0 : Int) ≤ (k : Int) := by omega
      have i2 : (k : Int) < 8 := by omega
      have hs := hB.size
      have hcl : Calls Tryz.prog 66 #[.int .i64 ((k : Int) + 1), .agg (kindA b1 b2 k), .pointer (some ⟨AB, 0, none⟩)] (wr.alloc (.cells (kindA b1 b2 k) 108)) fun e w' => e = .returned (.bool (P k)) ∧ Below (wr.alloc (.cells (kindA b1 b2 k) 108)).heap.size (wr.alloc (.cells (kindA b1 b2 k) 108)) w' := by
        have hBa : Below w.heap.size w (wr.alloc (.cells (kindA b1 b2 k) 108)) := hB.alloc hs _
        have := kindOf1_any ((k : Int) + 1) kd nm b1 b2 k AB _ ((g1.alloc (.cells (kindA b1 b2 k) 108)).cell 0 _ rfl) ((g2.alloc (.cells (kindA b1 b2 k) 108)).cell 0 _ rfl) ((hBa.cell (p := ⟨AB, 0, none⟩) lA).trans HA.out.1) ((hBa.cell (p := ⟨AB, 1, none⟩) lA).trans HA.out.2)
        rw [show (((k : Int) + 1) == kd && mayA k nm) = P k from congrFun HP.out k] at this
        exact this
      have hg0 := g0.alloc (.cells (kindA b1 b2 k) 108)
      have hg1 := g1.alloc (.cells (kindA b1 b2 k) 108)
      have hg2 := g2.alloc (.cells (kindA b1 b2 k) 108)
      have hFin : Hid (kindA b1 b2 k = #[.string (kwA k), .int .u32 (kcA k), .bool (knA k), .func (.func F) #[] cap]) := Lib.hid (by unfold kindA; rw [hkm])
      simp only [kindA, hkm] at hix hcl hg0 hg1 hg2
      have HCL := Lib.hid hcl
      have HG0 := Lib.hid hg0
      have HG1 := Lib.hid hg1
      have HG2 := Lib.hid hg2
      have HBW := Lib.hid hB
      clear hcl g1 g2 g0 hB hkm hg0 hg1 hg2
      cases hp : P k
      · rw [hp] at HCL
        have HPK := Lib.hid hp
        clear hp
        go_wp2_with (go_at_call 66; refine HCL.out.mono ?_; rintro e w5 ⟨rfl, hB5⟩)
        have q0 := HG0.out
        have q1 := HG1.out
        have q2 := HG2.out
        exact ⟨⟨k + 1, by omega, by go_num, fun i hi => by
          by_cases h : i = k
          · subst h; exact HPK.out
          · exact HNO.out i (by omega), ⟨q1.below hB5 q1.lt, q2.below hB5 q2.lt, q0.below hB5 q0.lt⟩, (HBW.out.alloc hs _).trans (hB5.mono (by simp; omega))⟩, by simp [intOf]; omega⟩
      · rw [hp] at HCL
        have HPK := Lib.hid hp
        clear hp
        go_wp2_with (go_at_call 66; refine HCL.out.mono ?_; rintro e w5 ⟨rfl, hB5⟩)
        have q0 := HG0.out
        have q1 := HG1.out
        have q2 := HG2.out
        have s1 := q1.below hB5 q1.lt
        have s2 := q2.below hB5 q2.lt
        have r3 := q0.below hB5 q0.lt
        have r6 : RowC w5 wr.heap.size #[.string (kwA k), .int .u32 (kcA k), .bool (knA k), .func (.func F) #[] cap] 108 := (RowC.new wr _ 108 _ rfl).below hB5 (by simp)
        have hB6 : Below w.heap.size w w5 := (HBW.out.alloc hs _).trans (hB5.mono (by simp; omega))
        have c0 := r6.cell 0 _ rfl
        have c1 := r6.cell 1 _ rfl
        have c2 := r6.cell 2 _ rfl
        have c3 := r6.cell 3 _ rfl
        have R1 := Lib.hid s1
        have R2 := Lib.hid s2
        have R3 := Lib.hid r3
        have HB6 := Lib.hid hB6
        clear q1 q2 q0 s1 s2 r6 hB6 hB5
        have d0 := R3.out.cell 0 _ rfl
        have d1 := R3.out.cell 1 _ rfl
        have d2 := R3.out.cell 2 _ rfl
        have d3 := R3.out.cell 3 _ rfl
        have f0 := R3.out.frozen 0
        have f1 := R3.out.frozen 1
        have f2 := R3.out.frozen 2
        have f3 := R3.out.frozen 3
        clear r3
        go_region
        all_goals go_wp2
        have hrow : RowC ((((w5.setCell ⟨w.heap.size, 0, none⟩ (.string (kwA k))).setCell ⟨w.heap.size, 1, none⟩ (.int .u32 (kcA k))).setCell ⟨w.heap.size, 2, none⟩ (.bool (knA k))).setCell ⟨w.heap.size, 3, none⟩ (.func (.func F) #[] cap)).drew w.heap.size #[.string (kwA k), .int .u32 (kcA k), .bool (knA k), .func (.func F) #[] cap] 108 := (((R3.out.set 0 (.string (kwA k))).set 1 (.int .u32 (kcA k))).set 2 (.bool (knA k))).set 3 (.func (.func F) #[] cap)
        have n1 : b1 ≠ w.heap.size := by have := HB1.out; omega
        have n2 : b2 ≠ w.heap.size := by have := HB2.out; omega
        have hr1 : RowC ((((w5.setCell ⟨w.heap.size, 0, none⟩ (.string (kwA k))).setCell ⟨w.heap.size, 1, none⟩ (.int .u32 (kcA k))).setCell ⟨w.heap.size, 2, none⟩ (.bool (knA k))).setCell ⟨w.heap.size, 3, none⟩ (.func (.func F) #[] cap)).drew b1 #[.int .i64 4095] 3 := (((R1.out.setOther 0 _ n1).setOther 1 _ n1).setOther 2 _ n1).setOther 3 _ n1
        have hr2 : RowC ((((w5.setCell ⟨w.heap.size, 0, none⟩ (.string (kwA k))).setCell ⟨w.heap.size, 1, none⟩ (.int .u32 (kcA k))).setCell ⟨w.heap.size, 2, none⟩ (.bool (knA k))).setCell ⟨w.heap.size, 3, none⟩ (.func (.func F) #[] cap)).drew b2 #[.int .i64 65535] 3 := (((R2.out.setOther 0 _ n2).setOther 1 _ n2).setOther 2 _ n2).setOther 3 _ n2
        have hbe : Below w.heap.size w ((((w5.setCell ⟨w.heap.size, 0, none⟩ (.string (kwA k))).setCell ⟨w.heap.size, 1, none⟩ (.int .u32 (kcA k))).setCell ⟨w.heap.size, 2, none⟩ (.bool (knA k))).setCell ⟨w.heap.size, 3, none⟩ (.func (.func F) #[] cap)).drew := ((((HB6.out.setCell (by simp) _).setCell (by simp) _).setCell (by simp) _).setCell (by simp) _).drew
        all_goals
          refine bodyPost_ret (results_tct Tryz.results65 _ _ w.heap.size _ _ (0, 0) _ (.int .i64 ((k : Int) + 1)) (.bool true) (by rfl) (by rfl) (by rfl) hrow Tryz.underlying108 (by rfl) (show _ = some 4 from infoK)) rfl ?_
          refine ⟨.inl ⟨k, hlt, HPK.out, HNO.out, ?_⟩, ?_, hbe⟩
          · rw [HB2.out, HB1.out, hFin.out]
          · rw [HB2.out, HB1.out]; exact ⟨hr1, hr2⟩
    · obtain rfl : k = 8 := by omega
      have G0 := Lib.hid g0
      have G1 := Lib.hid g1
      have G2 := Lib.hid g2
      have HBW := Lib.hid hB
      clear g0 g1 g2 hB
      go_wp2_with (refine wpList_store_row (by rfl) 108 _ _ (by rfl) w.heap.size kind0 (by rfl) (by rfl) _ _ G0.out (show _ = some kind0.size from infoK) (by rfl) (by simp [Value.oneCell']) ?_)
      refine bodyPost_ret (results_tct Tryz.results65 _ _ w.heap.size _ kind0 (0, 0) _ (.int .i64 0) (.bool false) (by rfl) (by rfl) (by rfl) (setRow_heap _ _ _ _ _ _ G0.out) Tryz.underlying108 (by rfl) (show _ = some kind0.size from infoK)) rfl ?_
      refine ⟨.inr ⟨HNO.out, rfl⟩, ?_, below_setRow HBW.out (Nat.le_refl _) _⟩
      rw [HB2.out, HB1.out]
      exact ⟨G1.out.setRow _ (by have := HB1.out; omega), G2.out.setRow _ (by have := HB2.out; omega)⟩

theorem find_ok (j : Nat) (hj : j < 8) (nm : Int) (hm : mayA j nm = true) (AB : Nat) (w : World) (ha : w.cell? ⟨AB, 0, none⟩ = some (.int .i64 ((j : Int) + 1))) (hb : w.cell? ⟨AB, 1, none⟩ = some (.int .i64 nm)) :
    Calls Tryz.prog 65 #[.func (.func 66) #[] #[.pointer (some ⟨AB, 0, none⟩)]] w fun e w' => (∃ b1 b2, e = .returned (.tuple #[.int .i64 ((j : Int) + 1), .agg (kindA b1 b2 j), .bool true])) ∧ Below w.heap.size w w' := by
  refine (find_kindOf _ nm AB w ha hb).mono ?_
  rintro e w' ⟨h | h, _, hB⟩
  · obtain ⟨i, hi, hp, _, he⟩ := h
    have : i = j := by
      have := (Bool.and_eq_true _ _ ▸ hp).1
      have h2 : ((i : Int) + 1) = (j : Int) + 1 := by simpa using this
      omega
    subst this
    exact ⟨⟨_, _, he⟩, hB⟩
  · have := h.1 j hj
    simp [hm] at this
theorem find_no (kd nm : Int) (hno : ∀ j : Nat, j < 8 → kd = (j : Int) + 1 → mayA j nm = false) (AB : Nat) (w : World) (ha : w.cell? ⟨AB, 0, none⟩ = some (.int .i64 kd)) (hb : w.cell? ⟨AB, 1, none⟩ = some (.int .i64 nm)) :
    Calls Tryz.prog 65 #[.func (.func 66) #[] #[.pointer (some ⟨AB, 0, none⟩)]] w fun e w' => e = .returned (.tuple #[.int .i64 0, .agg kind0, .bool false]) ∧ Below w.heap.size w w' := by
  refine (find_kindOf _ nm AB w ha hb).mono ?_
  rintro e w' ⟨h | h, _, hB⟩
  · obtain ⟨i, hi, hp, _, he⟩ := h
    have h1 := Bool.and_eq_true _ _ ▸ hp
    have h2 : ((i : Int) + 1) = kd := by simpa using h1.1
    have := hno i hi h2.symm
    rw [this] at h1
    exact absurd h1.2 (by decide)
  · exact ⟨h.2, hB⟩

end Go.Proofs.YtccklmleaffgiaaGreatDoor

/-
  The contracts of act.kindOf, act.Code, and of the chapter's example.
-/
namespace Go.Proofs.YtccklmleaffgiaaGreatDoor
open Go.RowKit

theorem results_ct {P : Program} {fn : Func} {p q : Tmp} {ty : TypeId} (h : fn.results = #[.cell p ty, .tmp q]) (tmps : Array Value) (w : World) (g : Nat) (t : TypeId) (cs : Array Value) (fr : Nat × Nat) (d : TypeDesc) (v : Value)
    (hp : tmps.getD p undef = .pointer (some ⟨g, 0, none⟩)) (hq : tmps.getD q undef = v) (hg : w.heap[g]? = some (.cells cs t fr))
    (hu : P.underlying ty = some d) (hd : (match d with | .struct _ | .array _ _ => true | _ => false) = true) (hi : (P.info? ty).map (·.size) = some cs.size) :
    (results fn tmps).run P w = .ok (.tuple #[.agg cs, v]) w := by
  have hp' : tmps[p]?.getD undef = .pointer (some ⟨g, 0, none⟩) := by simpa using hp
  have hq' : tmps[q]?.getD undef = v := by simpa using hq
  simp [results, h, hp', hq', asAddr, run_loadVar_row w g t ty cs fr d hg hu hd hi, Result.andThen]

set_option maxRecDepth 100000 in
set_option maxHeartbeats 4000000 in
theorem kindOf_ok (j : Nat) (hj : j < 8) (nm : Int) (hm : mayA j nm = true) (w : World) :
    Calls Tryz.prog 40 #[.agg #[.int .i64 ((j : Int) + 1), .int .i64 nm]] w fun e w' => (∃ F cap, e = .returned (.tuple #[.agg #[.string (kwA j), .int .u32 (kcA j), .bool (knA j), .func (.func F) #[] cap], .bool true])) ∧ Below w.heap.size w w' := by
  have r0 : RowC ((w.alloc (.cells #[.int .i64 ((j : Int) + 1), .int .i64 nm] 23)).alloc (.cells kind0 108)) w.heap.size #[.int .i64 ((j : Int) + 1), .int .i64 nm] 23 := (RowC.new _ _ _ _ rfl).alloc _
  have r1 : RowC ((w.alloc (.cells #[.int .i64 ((j : Int) + 1), .int .i64 nm] 23)).alloc (.cells kind0 108)) (w.heap.size + 1) kind0 108 := RowC.new _ _ _ _ (by simp)
  have HF := Lib.hid (find_ok j hj nm hm w.heap.size _ (r0.cell 0 _ rfl) (r0.cell 1 _ rfl))
  have hb : Below w.heap.size w ((w.alloc (.cells #[.int .i64 ((j : Int) + 1), .int .i64 nm] 23)).alloc (.cells kind0 108)) := ((Below.refl _ _).alloc (Nat.le_refl _) _).alloc (by simp) _
  have R1 := Lib.hid r1
  have HB := Lib.hid hb
  clear r0 r1 hb hm
  go_enter Tryz.func40, Tryz.ntmps40
  go_wp2_with fail
  refine HF.out.mono ?_
  rintro e w1 ⟨⟨b1, b2, rfl⟩, hB1⟩
  obtain ⟨F, cap, hkm⟩ := kmA_func b1 b2 j
  simp only [kindA, hkm]
  have hr1 := (R1.out.below hB1 R1.out.lt).alloc (.cells #[.string (kwA j), .int .u32 (kcA j), .bool (knA j), .func (.func F) #[] cap] 108)
  have hbe := (HB.out.trans (hB1.mono HB.out.size)).alloc (by have := HB.out.size; have := hB1.size; omega) (.cells #[.string (kwA j), .int .u32 (kcA j), .bool (knA j), .func (.func F) #[] cap] 108)
  have H1 := Lib.hid hr1
  have HBE := Lib.hid hbe
  clear hr1 hbe hB1 hkm
  have d0 := H1.out.cell 0 _ rfl
  have d1 := H1.out.cell 1 _ rfl
  have d2 := H1.out.cell 2 _ rfl
  have d3 := H1.out.cell 3 _ rfl
  have f0 := H1.out.frozen 0
  have f1 := H1.out.frozen 1
  have f2 := H1.out.frozen 2
  have f3 := H1.out.frozen 3
  go_wp2
  exact bodyPost_ret (results_ct Tryz.results40 _ _ (w.heap.size + 1) _ _ (0, 0) _ (.bool true) (by rfl) (by rfl) (show RowC _ (w.heap.size + 1) #[.string (kwA j), .int .u32 (kcA j), .bool (knA j), .func (.func F) #[] cap] 108 from (((H1.out.set 0 (.string (kwA j))).set 1 (.int .u32 (kcA j))).set 2 (.bool (knA j))).set 3 (.func (.func F) #[] cap)) Tryz.underlying108 (by rfl) (show _ = some 4 from infoK)) rfl
    ⟨⟨F, cap, rfl⟩, (((HBE.out.setCell (by simp) _).setCell (by simp) _).setCell (by simp) _).setCell (by simp) _⟩
set_option maxRecDepth 100000 in
set_option maxHeartbeats 4000000 in
theorem kindOf_no (kd nm : Int) (hno : ∀ j : Nat, j < 8 → kd = (j : Int) + 1 → mayA j nm = false) (w : World) :
    Calls Tryz.prog 40 #[.agg #[.int .i64 kd, .int .i64 nm]] w fun e w' => e = .returned (.tuple #[.agg kind0, .bool false]) ∧ Below w.heap.size w w' := by
  have r0 : RowC ((w.alloc (.cells #[.int .i64 kd, .int .i64 nm] 23)).alloc (.cells kind0 108)) w.heap.size #[.int .i64 kd, .int .i64 nm] 23 := (RowC.new _ _ _ _ rfl).alloc _
  have r1 : RowC ((w.alloc (.cells #[.int .i64 kd, .int .i64 nm] 23)).alloc (.cells kind0 108)) (w.heap.size + 1) kind0 108 := RowC.new _ _ _ _ (by simp)
  have HF := Lib.hid (find_no kd nm hno w.heap.size _ (r0.cell 0 _ rfl) (r0.cell 1 _ rfl))
  have hb : Below w.heap.size w ((w.alloc (.cells #[.int .i64 kd, .int .i64 nm] 23)).alloc (.cells kind0 108)) := ((Below.refl _ _).alloc (Nat.le_refl _) _).alloc (by simp) _
  have R1 := Lib.hid r1
  have HB := Lib.hid hb
  clear r0 r1 hb hno
  go_enter Tryz.func40, Tryz.ntmps40
  go_wp2_with fail
  refine HF.out.mono ?_
  rintro e w1 ⟨rfl, hB1⟩
  have hr1 := (R1.out.below hB1 R1.out.lt).alloc (.cells kind0 108)
  have hbe := (HB.out.trans (hB1.mono HB.out.size)).alloc (by have := HB.out.size; have := hB1.size; omega) (.cells kind0 108)
  have H1 := Lib.hid hr1
  have HBE := Lib.hid hbe
  clear hr1 hbe hB1
  have d0 := H1.out.cell 0 _ rfl
  have d1 := H1.out.cell 1 _ rfl
  have d2 := H1.out.cell 2 _ rfl
  have d3 := H1.out.cell 3 _ rfl
  have f0 := H1.out.frozen 0
  have f1 := H1.out.frozen 1
  have f2 := H1.out.frozen 2
  have f3 := H1.out.frozen 3
  go_wp2
  exact bodyPost_ret (results_ct Tryz.results40 _ _ (w.heap.size + 1) _ _ (0, 0) _ (.bool false) (by rfl) (by rfl) (show RowC _ (w.heap.size + 1) kind0 108 from (((H1.out.set 0 (.string ⟨#[]⟩)).set 1 (.int .u32 0)).set 2 (.bool false)).set 3 .nilFunc) Tryz.underlying108 (by rfl) (show _ = some 4 from infoK)) rfl
    ⟨rfl, (((HBE.out.setCell (by simp) _).setCell (by simp) _).setCell (by simp) _).setCell (by simp) _⟩

theorem most_le (j : Nat) : mostA j ≤ 65535 := by unfold mostA; split <;> (try split) <;> omega
theorem may_bd {j : Nat} {nm : Int} (h : mayA j nm = true) : 0 ≤ nm ∧ nm ≤ 65535 := by
  unfold mayA at h
  simp at h
  have := most_le j
  omega
end Go.Proofs.YtccklmleaffgiaaGreatDoor
