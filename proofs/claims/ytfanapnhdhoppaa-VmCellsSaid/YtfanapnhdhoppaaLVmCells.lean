/-
  The law VmCells holds for every input: what is stored in a cell is there, until something else is; a quotient by X that is 0 ends the run with 0. No condition.
-/
import Derived.Test.YtfanapnhdhoppaaVt
import Derived.Test.YtfanapnhdhoppaaRows
import Derived.Below
import Derived.ChangeOld
import Derived.ShutString
import Derived.Lib.SmallJoins
import Derived.OpenShut
import Derived.ProofKit
import Derived.WalkKit
import Derived.Deep.RegionWith
import Derived.Deep.RegionHeld3
import Derived.Deep.QuietTactic
import Derived.BigQuiet
namespace Go.Proofs.Ytfanapnhdhoppaa
open Go.RowKit

/-- The cells of the two programs. -/
theorem rowS (a b i k : Nat) (b' i' k' : Int) (eb : b' = b) (ei : i' = i) (ek : k' = k) : ∀ j, j < 6 * 4 → (#[Value.int .u16 0, .int .u8 0, .int .u8 0, .int .u32 a, .int .u16 2, .int .u8 0, .int .u8 0, .int .u32 i', .int .u16 1, .int .u8 0, .int .u8 0, .int .u32 b', .int .u16 3, .int .u8 0, .int .u8 0, .int .u32 k', .int .u16 96, .int .u8 0, .int .u8 0, .int .u32 i', .int .u16 22, .int .u8 0, .int .u8 0, .int .u32 0] : Array Value)[j]? = some (icell (gS a b i k) j) := by
  subst eb ei ek
  intro j hj
  have h : j = 0 ∨ j = 1 ∨ j = 2 ∨ j = 3 ∨ j = 4 ∨ j = 5 ∨ j = 6 ∨ j = 7 ∨ j = 8 ∨ j = 9 ∨ j = 10 ∨ j = 11 ∨ j = 12 ∨ j = 13 ∨ j = 14 ∨ j = 15 ∨ j = 16 ∨ j = 17 ∨ j = 18 ∨ j = 19 ∨ j = 20 ∨ j = 21 ∨ j = 22 ∨ j = 23 := by omega
  rcases h with rfl | rfl | rfl | rfl | rfl | rfl | rfl | rfl | rfl | rfl | rfl | rfl | rfl | rfl | rfl | rfl | rfl | rfl | rfl | rfl | rfl | rfl | rfl | rfl <;> rfl
theorem rowQ (a b : Nat) (b' : Int) (eb : b' = b) : ∀ j, j < 5 * 4 → (#[Value.int .u16 0, .int .u8 0, .int .u8 0, .int .u32 a, .int .u16 1, .int .u8 0, .int .u8 0, .int .u32 b', .int .u16 60, .int .u8 0, .int .u8 0, .int .u32 0, .int .u16 4, .int .u8 0, .int .u8 0, .int .u32 1, .int .u16 22, .int .u8 0, .int .u8 0, .int .u32 0] : Array Value)[j]? = some (icell (gQ a b) j) := by
  subst eb
  intro j hj
  have h : j = 0 ∨ j = 1 ∨ j = 2 ∨ j = 3 ∨ j = 4 ∨ j = 5 ∨ j = 6 ∨ j = 7 ∨ j = 8 ∨ j = 9 ∨ j = 10 ∨ j = 11 ∨ j = 12 ∨ j = 13 ∨ j = 14 ∨ j = 15 ∨ j = 16 ∨ j = 17 ∨ j = 18 ∨ j = 19 := by omega
  rcases h with rfl | rfl | rfl | rfl | rfl | rfl | rfl | rfl | rfl | rfl | rfl | rfl | rfl | rfl | rfl | rfl | rfl | rfl | rfl | rfl <;> rfl
theorem gS_ok (a b i k : Nat) (ha : a < 4294967296) (hb : b < 4294967296) (hi : i < 16) (hk : k < 16) (j : Nat) : (gS a b i k j).ok := by
  unfold gS IV.ok
  split <;> (refine ⟨?_, ?_, ?_, ?_⟩ <;> dsimp only <;> omega)
theorem gQ_ok (a b : Nat) (ha : a < 4294967296) (hb : b < 4294967296) (j : Nat) : (gQ a b j).ok := by
  unfold gQ IV.ok
  split <;> (refine ⟨?_, ?_, ?_, ?_⟩ <;> dsimp only <;> omega)
/-- What the second program tells. -/
def valQ (a b : Nat) : Nat := if b = 0 then 0 else (a / b + 1) % 4294967296
def stQ (b : Nat) : Nat := if b = 0 then 3 else 5
theorem runQ (a b : Nat) : runV (gQ a b) nul 5 = some (valQ a b, stQ b, []) := by
  unfold valQ stQ
  cases b with
  | zero => exact runQ0 a
  | succ b => exact runQ1 a b

theorem below_dN {B : Nat} {a w : World} (h : Below B a w) (n : Nat) : Below B a (w.drewN n) := h.trans ⟨rfl, rfl, rfl, Nat.le_refl _, fun _ _ => rfl⟩
theorem bel4 {w0 W w1 : World} {o1 o2 : Obj} {N : Nat} (hb : Below w0.heap.size w0 W) (hN : w0.heap.size ≤ N) (h : Below N ((W.alloc o1).alloc o2) w1) : Below w0.heap.size w0 w1 :=
  ((hb.alloc hb.size _).alloc (by have := hb.size; simp; omega) _).trans (h.mono hN)
theorem cell3 (w : World) (R : Array Value) (T : TypeId) (o1 o2 : Obj) (i : Nat) : (((w.alloc (.cells R T)).alloc o1).alloc o2).cell? ⟨w.heap.size, i, none⟩ = R[i]? := by
  have h0 := heap_alloc_last w (.cells R T)
  have h2 : (((w.alloc (.cells R T)).alloc o1).alloc o2).heap[w.heap.size]? = some (.cells R T) := by
    rw [heap_alloc_old _ _ _ (by simp; omega), heap_alloc_old _ _ _ (by simp)]
    exact h0
  rw [cell_of_row _ _ i _ _ (0, 0) h2]
set_option maxRecDepth 100000 in
set_option maxHeartbeats 8000000 in
theorem vc1 {w0 : World} (a b c d : Nat) (ha : a < 4294967296) (hb : b < 4294967296) (hc : c < 256) (hd : d < 256) (h1 : c % 16 = d % 16) (h2 : b = 0) :
    Calls Try.prog 8 #[.agg #[.int .u32 a, .int .u32 b, .int .u8 c, .int .u8 d]] w0 fun e w' => e = .returned (.bool true) ∧ Below w0.heap.size w0 w' := by
  obtain ⟨Z, hZ, hmk⟩ := mk64
  have HZ := Lib.hid hZ
  have HS := Lib.hid (runS a b (c % 16) (d % 16))
  have HQ := Lib.hid (runQ a b)
  have HA := Lib.hid ha
  have HB := Lib.hid hb
  rw [if_pos h1] at HS
  have t1 : ((c : Int) % 16 == (d : Int) % 16) = true := by simp; omega
  clear hZ h1 ha hb
  have HV : Hid (((0 : Nat) : Int) = (valQ a b : Nat)) := Lib.hid (by unfold valQ; rw [if_pos h2])
  have HT : Hid (((3 : Nat) : Int) = (stQ b : Nat)) := Lib.hid (by unfold stQ; rw [if_pos h2])
  have eb : ((b : Nat) : Int) = 0 := by omega
  rw [eb]
  have HE : Hid ((0 : Int) = ((b : Nat) : Int)) := Lib.hid eb.symm
  clear h2 eb
  go_enter Try.func8, Try.ntmps8
  go_wp2
  go_quiet (fail)
  go_wp2_with fail
  refine Calls.mono (vlit _ Z (gS a b (c % 16) (d % 16)) 6 b 6 _ _ ?hB (by decide) (rowS a b (c % 16) (d % 16) _ _ _ ?e0 ?e1 ?e2) (fun j _ => gS_ok a b _ _ HA.out HB.out (by omega) (by omega) j) HZ.out (checkS a b _ _ (by omega) (by omega)) HS.out _ _ HE.out rfl) ?_
  case hB => simp
  case e0 => exact HE.out
  case e1 => simp
  case e2 => simp
  rintro e w1 ⟨A1, c1, rfl, hB1⟩
  have HB1 : Hid (Below w0.heap.size w0 w1) := Lib.hid (bel4 (below_dN ((Below.refl _ _).alloc (Nat.le_refl _) _) _) (show w0.heap.size ≤ w0.heap.size + 1 + 2 by omega) hB1)
  clear hB1
  go_wp2_with fail
  refine Calls.mono (vlit _ Z (gQ a b) 5 _ _ _ _ ?hB (by decide) (rowQ a b _ ?e0) (fun j _ => gQ_ok a b HA.out HB.out j) HZ.out (checkQ a b) HQ.out 0 3 ?e1 ?e2) ?_
  case hB => simp
  case e0 => exact HE.out
  case e1 => exact HV.out
  case e2 => exact HT.out
  rintro e w2 ⟨A2, c2, rfl, hB2⟩
  have p0 : w2.cell? ⟨w1.heap.size, 0, none⟩ = some (.int .u32 0) := (hB2.cell (p := ⟨w1.heap.size, 0, none⟩) (by show w1.heap.size < _; omega)).trans (cell3 w1 #[.int .u32 0, .int .i64 6, .slice A1 0 c1] _ _ _ 0)
  have p1 : w2.cell? ⟨w1.heap.size, 1, none⟩ = some (.int .i64 6) := (hB2.cell (p := ⟨w1.heap.size, 1, none⟩) (by show w1.heap.size < _; omega)).trans (cell3 w1 #[.int .u32 0, .int .i64 6, .slice A1 0 c1] _ _ _ 1)
  have HB2 : Hid (Below w0.heap.size w0 w2) := Lib.hid (bel4 (HB1.out.alloc HB1.out.size _) (show w0.heap.size ≤ w1.heap.size + 1 + 2 by have := HB1.out.size; omega) hB2)
  have hw12 : w1.heap.size < w2.heap.size := by have := hB2.size; simp at this; omega
  clear hB2
  go_wp2_with (refine (awake6_any _).mono ?_; rintro e w3 ⟨rfl, hB3⟩)
  go_ret
  exact ⟨rfl, (HB2.out.alloc HB2.out.size _).trans (hB3.mono (by have := HB2.out.size; simp; omega))⟩
set_option maxRecDepth 100000 in
set_option maxHeartbeats 8000000 in
theorem vc2 {w0 : World} (a b c d : Nat) (ha : a < 4294967296) (hb : b < 4294967296) (hc : c < 256) (hd : d < 256) (h1 : c % 16 = d % 16) (h2 : b ≠ 0) :
    Calls Try.prog 8 #[.agg #[.int .u32 a, .int .u32 b, .int .u8 c, .int .u8 d]] w0 fun e w' => e = .returned (.bool true) ∧ Below w0.heap.size w0 w' := by
  obtain ⟨Z, hZ, hmk⟩ := mk64
  have HZ := Lib.hid hZ
  have HS := Lib.hid (runS a b (c % 16) (d % 16))
  have HQ := Lib.hid (runQ a b)
  have HA := Lib.hid ha
  have HB := Lib.hid hb
  rw [if_pos h1] at HS
  have t1 : ((c : Int) % 16 == (d : Int) % 16) = true := by simp; omega
  clear hZ h1 ha hb
  have HV : Hid (((a : Int).tdiv b + 1) % 4294967296 = (valQ a b : Nat)) := Lib.hid (by unfold valQ; rw [if_neg h2, Int.tdiv_eq_ediv_of_nonneg (by omega)]; omega)
  have HT : Hid (((5 : Nat) : Int) = (stQ b : Nat)) := Lib.hid (by unfold stQ; rw [if_neg h2])
  have t2 : ((b : Int) == 0) = false := by simp; omega
  have t3 : ((b : Int) != 0) = true := by simp; omega
  have t4 : ¬ b = 0 := h2
  clear h2
  go_enter Try.func8, Try.ntmps8
  go_wp2
  go_quiet (fail)
  go_wp2_with fail
  refine Calls.mono (vlit _ Z (gS a b (c % 16) (d % 16)) 6 b 6 _ _ ?hB (by decide) (rowS a b (c % 16) (d % 16) _ _ _ ?e0 ?e1 ?e2) (fun j _ => gS_ok a b _ _ HA.out HB.out (by omega) (by omega) j) HZ.out (checkS a b _ _ (by omega) (by omega)) HS.out _ _ rfl rfl) ?_
  case hB => simp
  case e0 => exact rfl
  case e1 => simp
  case e2 => simp
  rintro e w1 ⟨A1, c1, rfl, hB1⟩
  have HB1 : Hid (Below w0.heap.size w0 w1) := Lib.hid (bel4 (below_dN ((Below.refl _ _).alloc (Nat.le_refl _) _) _) (show w0.heap.size ≤ w0.heap.size + 1 + 2 by omega) hB1)
  clear hB1
  go_wp2_with fail
  refine Calls.mono (vlit _ Z (gQ a b) 5 _ _ _ _ ?hB (by decide) (rowQ a b _ ?e0) (fun j _ => gQ_ok a b HA.out HB.out j) HZ.out (checkQ a b) HQ.out (((a : Int).tdiv b + 1) % 4294967296) 5 ?e1 ?e2) ?_
  case hB => simp
  case e0 => exact rfl
  case e1 => exact HV.out
  case e2 => exact HT.out
  rintro e w2 ⟨A2, c2, rfl, hB2⟩
  have p0 : w2.cell? ⟨w1.heap.size, 0, none⟩ = some (.int .u32 b) := (hB2.cell (p := ⟨w1.heap.size, 0, none⟩) (by show w1.heap.size < _; omega)).trans (cell3 w1 #[.int .u32 b, .int .i64 6, .slice A1 0 c1] _ _ _ 0)
  have p1 : w2.cell? ⟨w1.heap.size, 1, none⟩ = some (.int .i64 6) := (hB2.cell (p := ⟨w1.heap.size, 1, none⟩) (by show w1.heap.size < _; omega)).trans (cell3 w1 #[.int .u32 b, .int .i64 6, .slice A1 0 c1] _ _ _ 1)
  have HB2 : Hid (Below w0.heap.size w0 w2) := Lib.hid (bel4 (HB1.out.alloc HB1.out.size _) (show w0.heap.size ≤ w1.heap.size + 1 + 2 by have := HB1.out.size; omega) hB2)
  have hw12 : w1.heap.size < w2.heap.size := by have := hB2.size; simp at this; omega
  clear hB2
  go_wp2_with (refine (awake6_any _).mono ?_; rintro e w3 ⟨rfl, hB3⟩)
  go_ret
  exact ⟨rfl, (HB2.out.alloc HB2.out.size _).trans (hB3.mono (by have := HB2.out.size; simp; omega))⟩
set_option maxRecDepth 100000 in
set_option maxHeartbeats 8000000 in
theorem vc3 {w0 : World} (a b c d : Nat) (ha : a < 4294967296) (hb : b < 4294967296) (hc : c < 256) (hd : d < 256) (h1 : ¬ c % 16 = d % 16) (h2 : b = 0) :
    Calls Try.prog 8 #[.agg #[.int .u32 a, .int .u32 b, .int .u8 c, .int .u8 d]] w0 fun e w' => e = .returned (.bool true) ∧ Below w0.heap.size w0 w' := by
  obtain ⟨Z, hZ, hmk⟩ := mk64
  have HZ := Lib.hid hZ
  have HS := Lib.hid (runS a b (c % 16) (d % 16))
  have HQ := Lib.hid (runQ a b)
  have HA := Lib.hid ha
  have HB := Lib.hid hb
  rw [if_neg h1] at HS
  have t1 : ((c : Int) % 16 == (d : Int) % 16) = false := by simp; omega
  clear hZ h1 ha hb
  have HV : Hid (((0 : Nat) : Int) = (valQ a b : Nat)) := Lib.hid (by unfold valQ; rw [if_pos h2])
  have HT : Hid (((3 : Nat) : Int) = (stQ b : Nat)) := Lib.hid (by unfold stQ; rw [if_pos h2])
  have eb : ((b : Nat) : Int) = 0 := by omega
  rw [eb]
  have HE : Hid ((0 : Int) = ((b : Nat) : Int)) := Lib.hid eb.symm
  clear h2 eb
  go_enter Try.func8, Try.ntmps8
  go_wp2
  go_quiet (fail)
  go_wp2_with fail
  refine Calls.mono (vlit _ Z (gS a b (c % 16) (d % 16)) 6 a 6 _ _ ?hB (by decide) (rowS a b (c % 16) (d % 16) _ _ _ ?e0 ?e1 ?e2) (fun j _ => gS_ok a b _ _ HA.out HB.out (by omega) (by omega) j) HZ.out (checkS a b _ _ (by omega) (by omega)) HS.out _ _ rfl rfl) ?_
  case hB => simp
  case e0 => exact HE.out
  case e1 => simp
  case e2 => simp
  rintro e w1 ⟨A1, c1, rfl, hB1⟩
  have HB1 : Hid (Below w0.heap.size w0 w1) := Lib.hid (bel4 (below_dN ((Below.refl _ _).alloc (Nat.le_refl _) _) _) (show w0.heap.size ≤ w0.heap.size + 1 + 2 by omega) hB1)
  clear hB1
  go_wp2_with fail
  refine Calls.mono (vlit _ Z (gQ a b) 5 _ _ _ _ ?hB (by decide) (rowQ a b _ ?e0) (fun j _ => gQ_ok a b HA.out HB.out j) HZ.out (checkQ a b) HQ.out 0 3 ?e1 ?e2) ?_
  case hB => simp
  case e0 => exact HE.out
  case e1 => exact HV.out
  case e2 => exact HT.out
  rintro e w2 ⟨A2, c2, rfl, hB2⟩
  have p0 : w2.cell? ⟨w1.heap.size, 0, none⟩ = some (.int .u32 a) := (hB2.cell (p := ⟨w1.heap.size, 0, none⟩) (by show w1.heap.size < _; omega)).trans (cell3 w1 #[.int .u32 a, .int .i64 6, .slice A1 0 c1] _ _ _ 0)
  have p1 : w2.cell? ⟨w1.heap.size, 1, none⟩ = some (.int .i64 6) := (hB2.cell (p := ⟨w1.heap.size, 1, none⟩) (by show w1.heap.size < _; omega)).trans (cell3 w1 #[.int .u32 a, .int .i64 6, .slice A1 0 c1] _ _ _ 1)
  have HB2 : Hid (Below w0.heap.size w0 w2) := Lib.hid (bel4 (HB1.out.alloc HB1.out.size _) (show w0.heap.size ≤ w1.heap.size + 1 + 2 by have := HB1.out.size; omega) hB2)
  have hw12 : w1.heap.size < w2.heap.size := by have := hB2.size; simp at this; omega
  clear hB2
  go_wp2_with (refine (awake6_any _).mono ?_; rintro e w3 ⟨rfl, hB3⟩)
  go_ret
  exact ⟨rfl, (HB2.out.alloc HB2.out.size _).trans (hB3.mono (by have := HB2.out.size; simp; omega))⟩
set_option maxRecDepth 100000 in
set_option maxHeartbeats 8000000 in
theorem vc4 {w0 : World} (a b c d : Nat) (ha : a < 4294967296) (hb : b < 4294967296) (hc : c < 256) (hd : d < 256) (h1 : ¬ c % 16 = d % 16) (h2 : b ≠ 0) :
    Calls Try.prog 8 #[.agg #[.int .u32 a, .int .u32 b, .int .u8 c, .int .u8 d]] w0 fun e w' => e = .returned (.bool true) ∧ Below w0.heap.size w0 w' := by
  obtain ⟨Z, hZ, hmk⟩ := mk64
  have HZ := Lib.hid hZ
  have HS := Lib.hid (runS a b (c % 16) (d % 16))
  have HQ := Lib.hid (runQ a b)
  have HA := Lib.hid ha
  have HB := Lib.hid hb
  rw [if_neg h1] at HS
  have t1 : ((c : Int) % 16 == (d : Int) % 16) = false := by simp; omega
  clear hZ h1 ha hb
  have HV : Hid (((a : Int).tdiv b + 1) % 4294967296 = (valQ a b : Nat)) := Lib.hid (by unfold valQ; rw [if_neg h2, Int.tdiv_eq_ediv_of_nonneg (by omega)]; omega)
  have HT : Hid (((5 : Nat) : Int) = (stQ b : Nat)) := Lib.hid (by unfold stQ; rw [if_neg h2])
  have t2 : ((b : Int) == 0) = false := by simp; omega
  have t3 : ((b : Int) != 0) = true := by simp; omega
  have t4 : ¬ b = 0 := h2
  clear h2
  go_enter Try.func8, Try.ntmps8
  go_wp2
  go_quiet (fail)
  go_wp2_with fail
  refine Calls.mono (vlit _ Z (gS a b (c % 16) (d % 16)) 6 a 6 _ _ ?hB (by decide) (rowS a b (c % 16) (d % 16) _ _ _ ?e0 ?e1 ?e2) (fun j _ => gS_ok a b _ _ HA.out HB.out (by omega) (by omega) j) HZ.out (checkS a b _ _ (by omega) (by omega)) HS.out _ _ rfl rfl) ?_
  case hB => simp
  case e0 => exact rfl
  case e1 => simp
  case e2 => simp
  rintro e w1 ⟨A1, c1, rfl, hB1⟩
  have HB1 : Hid (Below w0.heap.size w0 w1) := Lib.hid (bel4 (below_dN ((Below.refl _ _).alloc (Nat.le_refl _) _) _) (show w0.heap.size ≤ w0.heap.size + 1 + 2 by omega) hB1)
  clear hB1
  go_wp2_with fail
  refine Calls.mono (vlit _ Z (gQ a b) 5 _ _ _ _ ?hB (by decide) (rowQ a b _ ?e0) (fun j _ => gQ_ok a b HA.out HB.out j) HZ.out (checkQ a b) HQ.out (((a : Int).tdiv b + 1) % 4294967296) 5 ?e1 ?e2) ?_
  case hB => simp
  case e0 => exact rfl
  case e1 => exact HV.out
  case e2 => exact HT.out
  rintro e w2 ⟨A2, c2, rfl, hB2⟩
  have p0 : w2.cell? ⟨w1.heap.size, 0, none⟩ = some (.int .u32 a) := (hB2.cell (p := ⟨w1.heap.size, 0, none⟩) (by show w1.heap.size < _; omega)).trans (cell3 w1 #[.int .u32 a, .int .i64 6, .slice A1 0 c1] _ _ _ 0)
  have p1 : w2.cell? ⟨w1.heap.size, 1, none⟩ = some (.int .i64 6) := (hB2.cell (p := ⟨w1.heap.size, 1, none⟩) (by show w1.heap.size < _; omega)).trans (cell3 w1 #[.int .u32 a, .int .i64 6, .slice A1 0 c1] _ _ _ 1)
  have HB2 : Hid (Below w0.heap.size w0 w2) := Lib.hid (bel4 (HB1.out.alloc HB1.out.size _) (show w0.heap.size ≤ w1.heap.size + 1 + 2 by have := HB1.out.size; omega) hB2)
  have hw12 : w1.heap.size < w2.heap.size := by have := hB2.size; simp at this; omega
  clear hB2
  go_wp2_with (refine (awake6_any _).mono ?_; rintro e w3 ⟨rfl, hB3⟩)
  go_ret
  exact ⟨rfl, (HB2.out.alloc HB2.out.size _).trans (hB3.mono (by have := HB2.out.size; simp; omega))⟩
theorem walk_VmCells {w0 : World} (a b c d : Nat) (ha : a < 4294967296) (hb : b < 4294967296) (hc : c < 256) (hd : d < 256) :
    Calls Try.prog 8 #[.agg #[.int .u32 a, .int .u32 b, .int .u8 c, .int .u8 d]] w0 fun e w' => e = .returned (.bool true) ∧ Below w0.heap.size w0 w' := by
  by_cases h1 : c % 16 = d % 16
  · by_cases h2 : b = 0
    · exact vc1 a b c d ha hb hc hd h1 h2
    · exact vc2 a b c d ha hb hc hd h1 h2
  · by_cases h2 : b = 0
    · exact vc3 a b c d ha hb hc hd h1 h2
    · exact vc4 a b c d ha hb hc hd h1 h2

namespace vmCellsRow
open Go.ChangeShapes Go.WideShapes Go.ChangeAt Go.RowKit Go.Joins
open Go.ChangeMaps (open_string shut_string)
set_option linter.unusedVariables false
theorem own : ownKnob Try.prog.godebug = none := by kernel_rfl
theorem laidOut : laidOutB Try.prog = true := by kernel_rfl
set_option maxRecDepth 100000 in
theorem lifted (os : Os) (started : os.Started) (H : Type) (enc : TypeId × Value → H) :
    ReturnsInHanded {} Try.checked os 8 .any (Rows.vmCellsSpec.pre6 enc Try.prog Try.f8 Rows.vmCellsRow.domain false) (Rows.vmCellsSpec.post enc Try.prog Try.f8 false true false false) := by
  refine returnsInHanded_of_change (C := Try.checked) own started (by kernel_rfl) Try.func8
    (ChangeSpec.witness6 (enc := enc) (C := Try.checked) false ⟨#[], #[.agg #[.int .u32 0, .int .u32 0, .int .u8 0, .int .u8 0]], []⟩ 8 (by kernel_rfl) (by kernel_rfl) (by kernel_rfl) (by kernel_rfl)) ?_
  intro W base args ds gs before hval0 hW hcnd _
  have hval : ∀ (j : Nat) t v, Try.f8.params[j]? = some t → args[j]? = some v → Value.okWide Try.prog W .any base t v := hval0
  have hW' := hW
  obtain ⟨p, q, hA0, hV, rfl, hfz, hnd⟩ := hW
  have hA : DataW.TrodAll enc Try.prog W 0 (fun _ => true) true Try.f8.params.toList args.toList ds p := hA0
  rw [Try.params8] at hA hval
  obtain ⟨v0, vs0, d0, ds0, p0, q0, hargs, rfl, rfl, h0, r0⟩ := trodAll_cons hA
  obtain ⟨rfl, rfl, rfl⟩ := trodAll_nil r0
  obtain rfl : args = #[v0] := by cases args; simp_all
  obtain ⟨rfl, rfl⟩ := trodVars_none hV
  have k0 := h0
  have lt0 : ∀ x ∈ p0, x.block < W.heap.size := by obtain ⟨m, hm⟩ := k0; exact DataW.trod_lt m _ _ _ hm
  obtain ⟨cc0, cc1, cc2, cc3, yy0, yy1, yy2, yy3, mm, rfl, _, _, hyy0, hyy1, hyy2, hyy3⟩ := open_agg4 Try.underlying63 (by kernel_rfl) (show Try.prog.cellsOf 63 = 4 by kernel_rfl) (hval 0 63 v0 rfl rfl) h0
  obtain ⟨n0, ee0, _, u0⟩ := DataW.trod_int Try.underlying29 hyy0
  obtain ⟨n1, ee1, _, u1⟩ := DataW.trod_int Try.underlying29 hyy1
  obtain ⟨n2, ee2, _, u2⟩ := DataW.trod_int Try.underlying5 hyy2
  obtain ⟨n3, ee3, _, u3⟩ := DataW.trod_int Try.underlying5 hyy3
  simp only [List.cons.injEq, and_true] at ee0 ee1 ee2 ee3
  subst ee0 ee1 ee2 ee3
  simp [Lit.wf, IntKind.min, IntKind.max, IntKind.signed, IntKind.bits] at u0 u1 u2 u3
  obtain ⟨x0, rfl⟩ := Int.eq_ofNat_of_zero_le u0.1
  obtain ⟨x1, rfl⟩ := Int.eq_ofNat_of_zero_le u1.1
  obtain ⟨x2, rfl⟩ := Int.eq_ofNat_of_zero_le u2.1
  obtain ⟨x3, rfl⟩ := Int.eq_ofNat_of_zero_le u3.1
  clear hA0 hval0
  refine (walk_VmCells (w0 := W) x0 x1 x2 x3 (by omega) (by omega) (by omega) (by omega)).mono fun e W' ⟨he, bel⟩ => ?_
  subst he
  exact ⟨_, rfl, _, _, _, [], _, [], hW', trodAll_mk1 (shut_bool Try.underlying4 _), (trodAll_cons_mk (Below.trod laidOut (by kernel_rfl) (of_decide_eq_true (by kernel_rfl)) k0 bel lt0) trodAll_mk0), rfl, bel.frame _, fun h => by cases h⟩

theorem over : Rows.vmCellsRow.holds Try.pinned (OpenSpec.ofChange Rows.vmCellsSpec) :=
  OpenClaim.holds_of_wide 8 Try.f8 rfl rfl rfl rfl rfl rfl rfl ⟨rfl, rfl, rfl, rfl, rfl⟩ rfl rfl rfl rfl rfl (by kernel_rfl) Try.func8 (by kernel_rfl)
    (of_decide_eq_true (by kernel_rfl)) (by unfold Func.isWrapper; first | (rw [if_pos (by decide +kernel)]; kernel_rfl) | (rw [if_neg (by decide +kernel)]; exact ⟨rfl, rfl⟩))
    (fun os started H enc _ => lifted os started H enc)
end vmCellsRow

theorem vmCells_proved : Rows.VmCellsSaid := vmCellsRow.over
#print axioms vmCells_proved
end Go.Proofs.Ytfanapnhdhoppaa
