/-
  Layer 19 (tree): numbers in memory; do they rise; the document's answers for them.
-/
import Derived.Test.YtkbfmnpilbhfaaaRw
import Derived.Test.YtkbfmnpilbhfaaaXa
import Derived.BigQuiet
import Derived.Deep.QuietTactic
namespace Go.Proofs.Ytkbfmnpilbhfaaa
open Go.RowKit

/-- A slice that reads as numbers of thirty-two bits. -/
def U32a (w : World) (A : Option Addr) (n c : Nat) (N : Nat → Nat) : Prop := Cel w w.heap.size 1 A n c (fun i => .int .u32 (N i : Nat)) ∧ ∀ i, i < n → N i < 4294967296
theorem U32a.below {w w' : World} {A : Option Addr} {n c : Nat} {N : Nat → Nat} (h : U32a w A n c N) (hb : Below w.heap.size w w') : U32a w' A n c N := ⟨(h.1.below hb).more hb.size, h.2⟩
theorem u32_of_ints {w : World} {x : Addr} {n c : Nat} {zs : List Int} (h1 : n ≤ c) (h2 : c ≤ maxLen) (hz : n ≤ zs.length) (hc : ∀ i, i < zs.length → w.cell? (x.add i) = some (.int .u32 (zs.getD i 0))) (hw : ∀ z ∈ zs, (Lit.int .u32 z).wf = true) :
    U32a w (some x) n c (fun i => (zs.getD i 0).toNat) := by
  have hb : ∀ i, i < n → 0 ≤ zs.getD i 0 ∧ zs.getD i 0 < 4294967296 := fun i hi => by
    have hi' : i < zs.length := by omega
    have hmem : zs.getD i 0 ∈ zs := by rw [List.getD_eq_getElem?_getD, List.getElem?_eq_getElem hi']; exact List.getElem_mem hi'
    have hwf := hw _ hmem
    simp [Lit.wf, IntKind.min, IntKind.max, IntKind.signed, IntKind.bits] at hwf
    constructor
    · simpa using hwf.1
    · have := hwf.2
      simp only [List.getD_eq_getElem?_getD] at this ⊢
      omega
  refine ⟨.inr ⟨x, rfl, h1, h2, fun i hi => ?_⟩, fun i hi => by have := hb i hi; show (zs.getD i 0).toNat < 4294967296; omega⟩
  have hin : i < n := by omega
  have hcell := hc i (by omega)
  have hlt := World.block_lt_of_cell? w _ hcell
  have eb : (x.add i).block = x.block := by unfold Addr.add; split <;> rfl
  rw [eb] at hlt
  refine ⟨hlt, ?_⟩
  rw [hcell]
  show some (Value.int .u32 _) = some (Value.int .u32 _)
  rw [Int.toNat_of_nonneg (hb i hin).1]
theorem U32a.at_ {w : World} {A : Option Addr} {n c : Nat} {N : Nat → Nat} (h : U32a w A n c N) (hn : 0 < n) : ∃ b off, A = some ⟨b, off, none⟩ ∧ b < w.heap.size ∧ n ≤ c ∧ c ≤ maxLen ∧ ∀ i, i < n → w.cell? ⟨b, off + i, none⟩ = some (.int .u32 (N i : Nat)) := by
  obtain ⟨b, off, rfl, hb, hc⟩ := h.1.at_ (by omega)
  exact ⟨b, off, rfl, hb, h.1.le.1, h.1.le.2, fun i hi => hc i (by omega)⟩
theorem U32a.le {w : World} {A : Option Addr} {n c : Nat} {N : Nat → Nat} (h : U32a w A n c N) : n ≤ maxLen := Nat.le_trans h.1.le.1 h.1.le.2

set_option maxRecDepth 100000 in
set_option maxHeartbeats 4000000 in
theorem rises_any (A : Option Addr) (n c : Nat) (g : Nat → Nat) (w : World) (hU : U32a w A n c g) :
    Calls Try.prog 14 #[.slice A n c] w fun e w' => e = .returned (.bool (risB g n)) ∧ Below w.heap.size w w' := by
  have hml := hU.le
  have hml' : n ≤ 9223372036854775807 := by unfold maxLen at hml; omega
  have HU := Lib.hid hU
  clear hU hml
  go_enter Try.func14, Try.ntmps14
  go_wp2
  go_loopw [3] (fun i wr => ∃ k : Nat, 1 ≤ k ∧ (k ≤ n ∨ n = 0 ∧ k = 1) ∧ i = .int .i64 k ∧ Below w.heap.size w wr ∧ (∀ j, j + 1 < k → g j < g (j + 1))) (fun i _ => n - (intOf i).toNat)
  case atStart => exact ⟨1, by omega, by omega, rfl, Below.refl _ _, fun j hj => by omega⟩
  case round =>
    obtain ⟨k, hk1, hk, rfl, hB, hz⟩ := hrel
    have HZ := Lib.hid hz
    clear hz
    by_cases hlt : k < n
    · obtain ⟨b, off, rfl, hb, _, _, hc⟩ := (HU.out.below hB).at_ (by omega)
      have i1 : (k : Int) < (n : Int) := by omega
      have i2 : (0 : Int) ≤ (k : Int) := by omega
      have i3 : (0 : Int) ≤ (k : Int) - 1 := by omega
      have i4 : (k : Int) - 1 < (n : Int) := by omega
      have q0 := hc k hlt
      have q1 := hc (k - 1) (by omega)
      have e1 : ((k : Int) - 1).toNat = k - 1 := by omega
      have w1 : IntKind.i64.wrap ((k : Int) - 1) = (k : Int) - 1 := by rw [IntKind.wrap_i64]; omega
      clear hc
      rcases Nat.lt_or_ge (g (k - 1)) (g k) with hd | hd
      · have d : ¬ (g k : Int) ≤ (g (k - 1) : Int) := by omega
        have HD := Lib.hid hd
        clear hd
        go_wp2_with fail
        go_quiet (fail)
        go_wp2
        refine ⟨⟨k + 1, by omega, by omega, by go_num, hB.trans (bdn (Below.refl _ _) nq), fun j hj => ?_⟩, by simp [intOf]; omega⟩
        by_cases e : j + 1 < k
        · exact HZ.out j e
        · obtain rfl : j = k - 1 := by omega
          rw [show k - 1 + 1 = k from by omega]
          exact HD.out
      · have d : (g k : Int) ≤ (g (k - 1) : Int) := by omega
        have HD := Lib.hid hd
        clear hd
        go_wp2_with fail
        go_quiet (fail)
        go_wp2
        go_ret
        refine ⟨ret_bool ?_, hB.trans (bdn (Below.refl _ _) nq)⟩
        exact (risB_no (i := k - 1) (by omega) (by rw [show k - 1 + 1 = k from by omega]; exact HD.out)).symm
    · have i1 : ¬ (k : Int) < (n : Int) := by omega
      go_wp2
      go_ret
      exact ⟨ret_bool (risB_yes fun i hi => HZ.out i (by omega)).symm, hB⟩

/-- The document's answer, what is wrong of numbers. -/
def wrongF (g : Nat → Nat) (n : Nat) : Int := if risB g n = true then (if 4096 < n then 3 else 0) else 15
set_option maxRecDepth 100000 in
set_option maxHeartbeats 4000000 in
theorem wrong_any (A : Option Addr) (n c : Nat) (g : Nat → Nat) (w : World) (hU : U32a w A n c g) :
    Calls Try.prog 8 #[.slice A n c] w fun e w' => e = .returned (.int .i64 (wrongF g n)) ∧ Below w.heap.size w w' := by
  have hml := hU.le
  have hml' : n ≤ 9223372036854775807 := by unfold maxLen at hml; omega
  have HU := Lib.hid hU
  clear hU hml
  go_enter Try.func8, Try.ntmps8
  go_wp2
  go_loopw [3] (fun i wr => ∃ k : Nat, 1 ≤ k ∧ (k ≤ n ∨ n = 0 ∧ k = 1) ∧ i = .int .i64 k ∧ Below w.heap.size w wr ∧ (∀ j, j + 1 < k → g j < g (j + 1))) (fun i _ => n - (intOf i).toNat)
  case atStart => exact ⟨1, by omega, by omega, rfl, Below.refl _ _, fun j hj => by omega⟩
  case round =>
    obtain ⟨k, hk1, hk, rfl, hB, hz⟩ := hrel
    have HZ := Lib.hid hz
    clear hz
    by_cases hlt : k < n
    · obtain ⟨b, off, rfl, hb, _, _, hc⟩ := (HU.out.below hB).at_ (by omega)
      have i1 : (k : Int) < (n : Int) := by omega
      have i2 : (0 : Int) ≤ (k : Int) := by omega
      have i3 : (0 : Int) ≤ (k : Int) - 1 := by omega
      have i4 : (k : Int) - 1 < (n : Int) := by omega
      have q0 := hc k hlt
      have q1 := hc (k - 1) (by omega)
      have e1 : ((k : Int) - 1).toNat = k - 1 := by omega
      have w1 : IntKind.i64.wrap ((k : Int) - 1) = (k : Int) - 1 := by rw [IntKind.wrap_i64]; omega
      clear hc
      rcases Nat.lt_or_ge (g (k - 1)) (g k) with hd | hd
      · have d : ¬ (g k : Int) ≤ (g (k - 1) : Int) := by omega
        have HD := Lib.hid hd
        clear hd
        go_wp2_with fail
        go_quiet (fail)
        go_wp2
        refine ⟨⟨k + 1, by omega, by omega, by go_num, hB.trans (bdn (Below.refl _ _) nq), fun j hj => ?_⟩, by simp [intOf]; omega⟩
        by_cases e : j + 1 < k
        · exact HZ.out j e
        · obtain rfl : j = k - 1 := by omega
          rw [show k - 1 + 1 = k from by omega]
          exact HD.out
      · have d : (g k : Int) ≤ (g (k - 1) : Int) := by omega
        have HD := Lib.hid hd
        clear hd
        go_wp2_with fail
        go_quiet (fail)
        go_wp2
        go_ret
        refine ⟨ret_int ?_, hB.trans (bdn (Below.refl _ _) nq)⟩
        unfold wrongF
        rw [risB_no (i := k - 1) (by omega) (by rw [show k - 1 + 1 = k from by omega]; exact HD.out)]
        rfl
    · have i1 : ¬ (k : Int) < (n : Int) := by omega
      have hy : risB g n = true := risB_yes fun i hi => HZ.out i (by omega)
      by_cases h4 : n > 4096
      · have i2 : (n : Int) > 4096 := by omega
        have e : wrongF g n = 3 := by unfold wrongF; rw [if_pos hy, if_pos h4]
        have HE := Lib.hid e
        clear e hy
        go_wp2
        go_ret
        exact ⟨ret_int HE.out.symm, hB⟩
      · have i2 : ¬ (n : Int) > 4096 := by omega
        have e : wrongF g n = 0 := by unfold wrongF; rw [if_pos hy, if_neg h4]
        have HE := Lib.hid e
        clear e hy
        go_wp2
        go_ret
        exact ⟨ret_int HE.out.symm, hB⟩

set_option maxRecDepth 100000 in
set_option maxHeartbeats 4000000 in
theorem place_any (A : Option Addr) (n c : Nat) (g : Nat → Nat) (x : Nat) (w : World) (hU : U32a w A n c g) :
    Calls Try.prog 11 #[.slice A n c, .int .u32 x] w fun e w' => (∃ r, e = .returned (.int .i64 r) ∧ IsPlace g 0 n x r) ∧ w' = w := by
  have hml := hU.le
  have hml' : n ≤ 9223372036854775807 := by unfold maxLen at hml; omega
  have HU := Lib.hid hU
  clear hU hml
  go_enter Try.func11, Try.ntmps11
  go_wp2
  go_loopw [5] (fun i wr => ∃ k : Nat, k ≤ n ∧ i = .int .i64 k ∧ wr = w ∧ (∀ j, j < k → g j ≠ x)) (fun i _ => n - (intOf i).toNat)
  case atStart => exact ⟨0, by omega, rfl, rfl, fun j hj => by omega⟩
  case round =>
    obtain ⟨k, hk, rfl, rfl, hz⟩ := hrel
    have HZ := Lib.hid hz
    clear hz
    by_cases hlt : k < n
    · obtain ⟨b, off, rfl, hb, _, _, hc⟩ := HU.out.at_ (by omega)
      have i1 : (k : Int) < (n : Int) := by omega
      have i2 : (0 : Int) ≤ (k : Int) := by omega
      have q0 := hc k hlt
      clear hc
      by_cases hd : g k = x
      · have d : ((g k : Int) == (x : Int)) = true := by rw [hd]; simp
        have HD := Lib.hid hd
        clear hd
        go_wp2
        go_ret
        exact ⟨⟨_, rfl, .inl ⟨k, by omega, by omega, HD.out, rfl⟩⟩, by first | rfl | trivial⟩
      · have d : ((g k : Int) == (x : Int)) = false := by simp; omega
        have HD := Lib.hid hd
        clear hd
        go_wp2
        refine ⟨⟨k + 1, by omega, by go_num, by first | rfl | trivial, fun j hj => ?_⟩, by simp [intOf]; omega⟩
        by_cases e : j < k
        · exact HZ.out j e
        · obtain rfl : j = k := by omega
          exact HD.out
    · have i1 : ¬ (k : Int) < (n : Int) := by omega
      go_wp2
      go_ret
      exact ⟨⟨_, rfl, .inr ⟨fun i _ hi => HZ.out i (by omega), rfl⟩⟩, by first | rfl | trivial⟩

set_option maxRecDepth 100000 in
set_option maxHeartbeats 4000000 in
theorem most_any (n : Nat) (w : World) (hn : n ≤ 1000000) :
    Calls Try.prog 13 #[.int .i64 n] w fun e w' => (∃ k : Nat, e = .returned (.int .i64 k) ∧ n ≤ 2 ^ k) ∧ w' = w := by
  go_enter Try.func13, Try.ntmps13
  go_wp2
  go_loopw [3, 4] (fun kv pv wr => ∃ k p : Nat, kv = .int .i64 k ∧ pv = .int .i64 p ∧ Hid (p = 2 ^ k) ∧ 1 ≤ p ∧ p ≤ 2000000 ∧ k ≤ p ∧ wr = w) (fun _ pv _ => 2000000 - (intOf pv).toNat)
  case atStart => exact ⟨0, 1, rfl, rfl, Lib.hid rfl, by omega, by omega, by omega, rfl⟩
  case round =>
    obtain ⟨k, p, rfl, rfl, HP, hp, hp2, hkp, rfl⟩ := hrel
    by_cases hlt : p < n
    · have i1 : (p : Int) < (n : Int) := by omega
      go_wp2
      refine ⟨⟨k + 1, 2 * p, by go_num, by go_num, Lib.hid (by rw [Nat.pow_succ, HP.out]; omega), by omega, by omega, by omega, by first | rfl | trivial⟩, by simp [intOf]; omega⟩
    · have i1 : ¬ (p : Int) < (n : Int) := by omega
      go_wp2
      go_ret
      exact ⟨⟨k, rfl, by rw [← HP.out]; omega⟩, rfl⟩
end Go.Proofs.Ytkbfmnpilbhfaaa
