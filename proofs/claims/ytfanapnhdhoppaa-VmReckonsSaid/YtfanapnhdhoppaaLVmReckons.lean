/-
  The law VmReckons holds for every input: sums, differences, products, quotients, rows of bits, shifts and comparisons of any two numbers are what a program reckons. No condition.
-/
import Derived.Test.YtfanapnhdhoppaaVt
import Derived.Test.YtfanapnhdhoppaaRows
import Derived.Below
import Derived.ChangeOld
import Derived.ShutString
import Derived.Lib.SmallJoins
import Derived.OpenShut
import Derived.ProofKit
import Derived.WalkKit
import Derived.Deep.RegionWith
import Derived.Deep.RegionHeld3
import Derived.Deep.QuietTactic
import Derived.BigQuiet
namespace Go.Proofs.Ytfanapnhdhoppaa
open Go.RowKit

theorem bel4 {w0 W w1 : World} {o1 o2 : Obj} {N : Nat} (hb : Below w0.heap.size w0 W) (hN : w0.heap.size ≤ N) (h : Below N ((W.alloc o1).alloc o2) w1) : Below w0.heap.size w0 w1 :=
  ((hb.alloc hb.size _).alloc (by have := hb.size; simp; omega) _).trans (h.mono hN)
/-- The cells of the two programs. -/
theorem rowR (a n c : Nat) (c' : Int) (ec : c' = c) : ∀ j, j < 4 * 4 → (#[Value.int .u16 0, .int .u8 0, .int .u8 0, .int .u32 a, .int .u16 1, .int .u8 0, .int .u8 0, .int .u32 n, .int .u16 c', .int .u8 0, .int .u8 0, .int .u32 0, .int .u16 22, .int .u8 0, .int .u8 0, .int .u32 0] : Array Value)[j]? = some (icell (gR a n c) j) := by
  subst ec
  intro j hj
  have h : j = 0 ∨ j = 1 ∨ j = 2 ∨ j = 3 ∨ j = 4 ∨ j = 5 ∨ j = 6 ∨ j = 7 ∨ j = 8 ∨ j = 9 ∨ j = 10 ∨ j = 11 ∨ j = 12 ∨ j = 13 ∨ j = 14 ∨ j = 15 := by omega
  rcases h with rfl | rfl | rfl | rfl | rfl | rfl | rfl | rfl | rfl | rfl | rfl | rfl | rfl | rfl | rfl | rfl <;> rfl
theorem rowJ (a n c : Nat) (c' : Int) (ec : c' = c) : ∀ j, j < 4 * 4 → (#[Value.int .u16 0, .int .u8 0, .int .u8 0, .int .u32 a, .int .u16 c', .int .u8 0, .int .u8 1, .int .u32 n, .int .u16 6, .int .u8 0, .int .u8 0, .int .u32 1, .int .u16 6, .int .u8 0, .int .u8 0, .int .u32 2] : Array Value)[j]? = some (icell (gJ a n c) j) := by
  subst ec
  intro j hj
  have h : j = 0 ∨ j = 1 ∨ j = 2 ∨ j = 3 ∨ j = 4 ∨ j = 5 ∨ j = 6 ∨ j = 7 ∨ j = 8 ∨ j = 9 ∨ j = 10 ∨ j = 11 ∨ j = 12 ∨ j = 13 ∨ j = 14 ∨ j = 15 := by omega
  rcases h with rfl | rfl | rfl | rfl | rfl | rfl | rfl | rfl | rfl | rfl | rfl | rfl | rfl | rfl | rfl | rfl <;> rfl
theorem rowRz (a n : Nat) (n' : Int) (hn : n = 0) (c : Nat) (c' : Int) (ec : c' = c) (en : n' = 0 := by rfl) : ∀ j, j < 4 * 4 → (#[Value.int .u16 0, .int .u8 0, .int .u8 0, .int .u32 a, .int .u16 1, .int .u8 0, .int .u8 0, .int .u32 n', .int .u16 c', .int .u8 0, .int .u8 0, .int .u32 0, .int .u16 22, .int .u8 0, .int .u8 0, .int .u32 0] : Array Value)[j]? = some (icell (gR a n c) j) := by
  subst hn en
  exact rowR a 0 c c' ec
theorem gR_ok (a n c : Nat) (ha : a < 4294967296) (hn : n < 4294967296) (hc : c < 65536) (j : Nat) : (gR a n c j).ok := by
  unfold gR IV.ok
  split <;> (refine ⟨?_, ?_, ?_, ?_⟩ <;> dsimp only <;> omega)
theorem gJ_ok (a n c : Nat) (ha : a < 4294967296) (hn : n < 4294967296) (hc : c < 65536) (j : Nat) : (gJ a n c j).ok := by
  unfold gJ IV.ok
  split <;> (refine ⟨?_, ?_, ?_, ?_⟩ <;> dsimp only <;> omega)

theorem ev0 (a n : Nat) : ((a : Int) + n) % 4294967296 = ((wR a n 0 : Nat) : Int) := by show _ = (((a + n) % 4294967296 : Nat) : Int); omega
theorem ev1 (a n : Nat) (hn : n < 4294967296) : ((a : Int) - n) % 4294967296 = ((wR a n 1 : Nat) : Int) := by show _ = (((a + (4294967296 - n)) % 4294967296 : Nat) : Int); omega
theorem ev2 (a n : Nat) : (a : Int) * n % 4294967296 = ((wR a n 2 : Nat) : Int) := by
  show _ = ((a * n % 4294967296 : Nat) : Int)
  rw [Int.natCast_emod, Int.natCast_mul]; rfl
theorem ev3 (a n : Nat) (ha : a < 4294967296) (h : ¬ n = 0) : (a : Int) / n % 4294967296 = ((wR a n 3 : Nat) : Int) := by
  have e : wR a n 3 = a / n := by
    show (if n = 0 then 0 else a / n) = _
    rw [if_neg h]
  have h1 : a / n < 4294967296 := Nat.lt_of_le_of_lt (Nat.div_le_self _ _) ha
  rw [e, ← Int.natCast_ediv]
  generalize a / n = q at *
  omega
theorem ev3z (a n : Nat) (h : n = 0) : (0 : Int) = ((wR a n 3 : Nat) : Int) := by subst h; rfl
theorem ev6 (a n : Nat) : (a : Int) * 2 ^ (n % 32) % 4294967296 = ((wR a n 6 : Nat) : Int) := by
  show _ = ((a * 2 ^ (n % 32) % 4294967296 : Nat) : Int)
  rw [Int.natCast_emod, Int.natCast_mul, Int.natCast_pow]; rfl
theorem ev7 (a n : Nat) : (a : Int) / 2 ^ (n % 32) = ((wR a n 7 : Nat) : Int) := by
  show _ = ((a / 2 ^ (n % 32) : Nat) : Int)
  rw [Int.natCast_ediv, Int.natCast_pow]; rfl
set_option maxRecDepth 100000 in
set_option maxHeartbeats 8000000 in
theorem walkN {w0 : World} (a n : Nat) (ha : a < 4294967296) (hn : n < 4294967296) :
    Calls Try.prog 7 #[.int .u32 a, .int .u32 n] w0 fun e w' => e = .returned (.bool true) ∧ Below w0.heap.size w0 w' := by
  obtain ⟨Z, hZ, hmk⟩ := mk64
  have HZ := Lib.hid hZ
  have HA := Lib.hid ha
  have HN := Lib.hid hn
  clear hZ
  go_enter Try.func7, Try.ntmps7
  go_wp2_with fail
  go_loopw [5] (fun i wr => ∃ k : Nat, k ≤ 9 ∧ i = .int .i64 k ∧ Below w0.heap.size w0 wr)
    (fun i _ => 9 - (intOf i).toNat)
  case atStart => exact ⟨0, by omega, rfl, Below.refl _ _⟩
  case round =>
    obtain ⟨k, hk, rfl, hB⟩ := hrel
    have HB := Lib.hid hB
    clear hB ha hn
    by_cases h9 : k = 9
    · have e9 : (k : Int) = 9 := by omega
      rw [e9]
      clear h9 hk e9
      go_wp2_with fail
      go_loopw [10] (fun i wr' => ∃ k : Nat, k ≤ 4 ∧ i = .int .i64 k ∧ Below w0.heap.size w0 wr')
        (fun i _ => 4 - (intOf i).toNat)
      case atStart => exact ⟨0, by omega, rfl, HB.out⟩
      case round =>
        clear HB
        obtain ⟨k, hk, rfl, hB⟩ := hrel
        have HB := Lib.hid hB
        clear hB
        by_cases h4 : k = 4
        · subst h4
          clear hk
          go_wp2_with (refine (awake6_any _).mono ?_; rintro e w3 ⟨rfl, hB3⟩)
          go_ret
          exact ⟨rfl, HB.out.trans (hB3.mono HB.out.size)⟩
        · have h : k = 0 ∨ k = 1 ∨ k = 2 ∨ k = 3 := by omega
          clear h4 hk
          rcases h with rfl | rfl | rfl | rfl
          · by_cases hc : a = n
            · have HQ : Hid (runV (gJ a n (cJ 0)) nul 4 = some (1, 3, [])) := Lib.hid (by rw [runJ a n 0 (by decide)]; simp [bJ, hc])
              subst hc
              go_wp2_with fail
              refine Calls.mono (vlit _ Z (gJ a a (cJ 0)) 4 1 3 _ _ ?hB1 (by decide) (rowJ a a (cJ 0) _ rfl) (fun j _ => gJ_ok a a _ HA.out HN.out (by decide) j) HZ.out (checkJ a a 0 (by decide)) HQ.out 1 3 rfl rfl) ?_
              case hB1 => simp
              rintro e w1 ⟨A1, c1, rfl, hB1⟩
              have HB1 : Hid (Below w0.heap.size w0 w1) := Lib.hid (bel4 ((HB.out.alloc HB.out.size _).alloc (by have := HB.out.size; simp; omega) _) (show w0.heap.size ≤ wr.heap.size + 1 + 1 + 2 by have := HB.out.size; omega) hB1)
              clear hB1
              go_wp2
              exact ⟨⟨1, by decide, by go_num, HB1.out.alloc HB1.out.size _⟩, by simp [intOf]⟩
            · have HQ : Hid (runV (gJ a n (cJ 0)) nul 4 = some (2, 3, [])) := Lib.hid (by rw [runJ a n 0 (by decide)]; simp [bJ, hc])
              have t1 : ((a : Int) == (n : Int)) = false := by simp; omega
              clear hc
              go_wp2_with fail
              refine Calls.mono (vlit _ Z (gJ a n (cJ 0)) 4 2 3 _ _ ?hB2 (by decide) (rowJ a n (cJ 0) _ rfl) (fun j _ => gJ_ok a n _ HA.out HN.out (by decide) j) HZ.out (checkJ a n 0 (by decide)) HQ.out 2 3 rfl rfl) ?_
              case hB2 => simp
              rintro e w1 ⟨A1, c1, rfl, hB1⟩
              have HB1 : Hid (Below w0.heap.size w0 w1) := Lib.hid (bel4 ((HB.out.alloc HB.out.size _).alloc (by have := HB.out.size; simp; omega) _) (show w0.heap.size ≤ wr.heap.size + 1 + 1 + 2 by have := HB.out.size; omega) hB1)
              clear hB1
              go_wp2
              exact ⟨⟨1, by decide, by go_num, HB1.out.alloc HB1.out.size _⟩, by simp [intOf]⟩
          · by_cases hc : n < a
            · have HQ : Hid (runV (gJ a n (cJ 1)) nul 4 = some (1, 3, [])) := Lib.hid (by rw [runJ a n 1 (by decide)]; simp [bJ, hc])
              have t1 : (n : Int) < (a : Int) := by omega
              clear hc
              go_wp2_with fail
              refine Calls.mono (vlit _ Z (gJ a n (cJ 1)) 4 1 3 _ _ ?hB3 (by decide) (rowJ a n (cJ 1) _ rfl) (fun j _ => gJ_ok a n _ HA.out HN.out (by decide) j) HZ.out (checkJ a n 1 (by decide)) HQ.out 1 3 rfl rfl) ?_
              case hB3 => simp
              rintro e w1 ⟨A1, c1, rfl, hB1⟩
              have HB1 : Hid (Below w0.heap.size w0 w1) := Lib.hid (bel4 ((HB.out.alloc HB.out.size _).alloc (by have := HB.out.size; simp; omega) _) (show w0.heap.size ≤ wr.heap.size + 1 + 1 + 2 by have := HB.out.size; omega) hB1)
              clear hB1
              go_wp2
              exact ⟨⟨2, by decide, by go_num, HB1.out.alloc HB1.out.size _⟩, by simp [intOf]⟩
            · have HQ : Hid (runV (gJ a n (cJ 1)) nul 4 = some (2, 3, [])) := Lib.hid (by rw [runJ a n 1 (by decide)]; simp [bJ, hc])
              have t1 : ¬ (n : Int) < (a : Int) := by omega
              clear hc
              go_wp2_with fail
              refine Calls.mono (vlit _ Z (gJ a n (cJ 1)) 4 2 3 _ _ ?hB4 (by decide) (rowJ a n (cJ 1) _ rfl) (fun j _ => gJ_ok a n _ HA.out HN.out (by decide) j) HZ.out (checkJ a n 1 (by decide)) HQ.out 2 3 rfl rfl) ?_
              case hB4 => simp
              rintro e w1 ⟨A1, c1, rfl, hB1⟩
              have HB1 : Hid (Below w0.heap.size w0 w1) := Lib.hid (bel4 ((HB.out.alloc HB.out.size _).alloc (by have := HB.out.size; simp; omega) _) (show w0.heap.size ≤ wr.heap.size + 1 + 1 + 2 by have := HB.out.size; omega) hB1)
              clear hB1
              go_wp2
              exact ⟨⟨2, by decide, by go_num, HB1.out.alloc HB1.out.size _⟩, by simp [intOf]⟩
          · by_cases hc : n ≤ a
            · have HQ : Hid (runV (gJ a n (cJ 2)) nul 4 = some (1, 3, [])) := Lib.hid (by rw [runJ a n 2 (by decide)]; simp [bJ, hc])
              have t1 : (n : Int) ≤ (a : Int) := by omega
              clear hc
              go_wp2_with fail
              refine Calls.mono (vlit _ Z (gJ a n (cJ 2)) 4 1 3 _ _ ?hB5 (by decide) (rowJ a n (cJ 2) _ rfl) (fun j _ => gJ_ok a n _ HA.out HN.out (by decide) j) HZ.out (checkJ a n 2 (by decide)) HQ.out 1 3 rfl rfl) ?_
              case hB5 => simp
              rintro e w1 ⟨A1, c1, rfl, hB1⟩
              have HB1 : Hid (Below w0.heap.size w0 w1) := Lib.hid (bel4 ((HB.out.alloc HB.out.size _).alloc (by have := HB.out.size; simp; omega) _) (show w0.heap.size ≤ wr.heap.size + 1 + 1 + 2 by have := HB.out.size; omega) hB1)
              clear hB1
              go_wp2
              exact ⟨⟨3, by decide, by go_num, HB1.out.alloc HB1.out.size _⟩, by simp [intOf]⟩
            · have HQ : Hid (runV (gJ a n (cJ 2)) nul 4 = some (2, 3, [])) := Lib.hid (by rw [runJ a n 2 (by decide)]; simp [bJ, hc])
              have t1 : ¬ (n : Int) ≤ (a : Int) := by omega
              clear hc
              go_wp2_with fail
              refine Calls.mono (vlit _ Z (gJ a n (cJ 2)) 4 2 3 _ _ ?hB6 (by decide) (rowJ a n (cJ 2) _ rfl) (fun j _ => gJ_ok a n _ HA.out HN.out (by decide) j) HZ.out (checkJ a n 2 (by decide)) HQ.out 2 3 rfl rfl) ?_
              case hB6 => simp
              rintro e w1 ⟨A1, c1, rfl, hB1⟩
              have HB1 : Hid (Below w0.heap.size w0 w1) := Lib.hid (bel4 ((HB.out.alloc HB.out.size _).alloc (by have := HB.out.size; simp; omega) _) (show w0.heap.size ≤ wr.heap.size + 1 + 1 + 2 by have := HB.out.size; omega) hB1)
              clear hB1
              go_wp2
              exact ⟨⟨3, by decide, by go_num, HB1.out.alloc HB1.out.size _⟩, by simp [intOf]⟩
          · by_cases hc : a &&& n ≠ 0
            · have HQ : Hid (runV (gJ a n (cJ 3)) nul 4 = some (1, 3, [])) := Lib.hid (by rw [runJ a n 3 (by decide)]; simp [bJ, hc])
              have t1 : (bits .and .u32 (a : Int) (n : Int) != 0) = true := by rw [and32 a n HA.out HN.out]; simpa using hc
              clear hc
              go_wp2_with fail
              refine Calls.mono (vlit _ Z (gJ a n (cJ 3)) 4 1 3 _ _ ?hB7 (by decide) (rowJ a n (cJ 3) _ rfl) (fun j _ => gJ_ok a n _ HA.out HN.out (by decide) j) HZ.out (checkJ a n 3 (by decide)) HQ.out 1 3 rfl rfl) ?_
              case hB7 => simp
              rintro e w1 ⟨A1, c1, rfl, hB1⟩
              have HB1 : Hid (Below w0.heap.size w0 w1) := Lib.hid (bel4 ((HB.out.alloc HB.out.size _).alloc (by have := HB.out.size; simp; omega) _) (show w0.heap.size ≤ wr.heap.size + 1 + 1 + 2 by have := HB.out.size; omega) hB1)
              clear hB1
              go_wp2
              exact ⟨⟨4, by decide, by go_num, HB1.out.alloc HB1.out.size _⟩, by simp [intOf]⟩
            · have HQ : Hid (runV (gJ a n (cJ 3)) nul 4 = some (2, 3, [])) := Lib.hid (by rw [runJ a n 3 (by decide)]; simp [bJ, hc])
              have t1 : (bits .and .u32 (a : Int) (n : Int) != 0) = false := by rw [and32 a n HA.out HN.out]; simpa using hc
              clear hc
              go_wp2_with fail
              refine Calls.mono (vlit _ Z (gJ a n (cJ 3)) 4 2 3 _ _ ?hB8 (by decide) (rowJ a n (cJ 3) _ rfl) (fun j _ => gJ_ok a n _ HA.out HN.out (by decide) j) HZ.out (checkJ a n 3 (by decide)) HQ.out 2 3 rfl rfl) ?_
              case hB8 => simp
              rintro e w1 ⟨A1, c1, rfl, hB1⟩
              have HB1 : Hid (Below w0.heap.size w0 w1) := Lib.hid (bel4 ((HB.out.alloc HB.out.size _).alloc (by have := HB.out.size; simp; omega) _) (show w0.heap.size ≤ wr.heap.size + 1 + 1 + 2 by have := HB.out.size; omega) hB1)
              clear hB1
              go_wp2
              exact ⟨⟨4, by decide, by go_num, HB1.out.alloc HB1.out.size _⟩, by simp [intOf]⟩
    · have h : k = 0 ∨ k = 1 ∨ k = 2 ∨ k = 3 ∨ k = 4 ∨ k = 5 ∨ k = 6 ∨ k = 7 ∨ k = 8 := by omega
      clear h9 hk
      rcases h with rfl | rfl | rfl | rfl | rfl | rfl | rfl | rfl | rfl
      · obtain ⟨st, hrun⟩ := runR a n 0 (by decide)
        have HQ := Lib.hid hrun
        clear hrun
        go_wp2_with fail
        refine Calls.mono (vlit _ Z (gR a n (cR 0 + 8)) 4 _ _ _ _ ?hB9 (by decide) (rowR a n (cR 0 + 8) _ rfl) (fun j _ => gR_ok a n _ HA.out HN.out (by decide) j) HZ.out (checkR a n 0 (by decide)) HQ.out (((a : Int) + n) % 4294967296) st ?e19 rfl) ?_
        case hB9 => simp
        case e19 => exact ev0 a n
        rintro e w1 ⟨A1, c1, rfl, hB1⟩
        have HB1 : Hid (Below w0.heap.size w0 w1) := Lib.hid (bel4 ((HB.out.alloc HB.out.size _).alloc (by have := HB.out.size; simp; omega) _) (show w0.heap.size ≤ wr.heap.size + 1 + 1 + 2 by have := HB.out.size; omega) hB1)
        clear hB1
        go_wp2
        exact ⟨⟨1, by decide, by go_num, HB1.out.alloc HB1.out.size _⟩, by simp [intOf]⟩
      · obtain ⟨st, hrun⟩ := runR a n 1 (by decide)
        have HQ := Lib.hid hrun
        clear hrun
        go_wp2_with fail
        refine Calls.mono (vlit _ Z (gR a n (cR 1 + 8)) 4 _ _ _ _ ?hB10 (by decide) (rowR a n (cR 1 + 8) _ rfl) (fun j _ => gR_ok a n _ HA.out HN.out (by decide) j) HZ.out (checkR a n 1 (by decide)) HQ.out (((a : Int) - n) % 4294967296) st ?e110 rfl) ?_
        case hB10 => simp
        case e110 => exact ev1 a n HN.out
        rintro e w1 ⟨A1, c1, rfl, hB1⟩
        have HB1 : Hid (Below w0.heap.size w0 w1) := Lib.hid (bel4 ((HB.out.alloc HB.out.size _).alloc (by have := HB.out.size; simp; omega) _) (show w0.heap.size ≤ wr.heap.size + 1 + 1 + 2 by have := HB.out.size; omega) hB1)
        clear hB1
        go_wp2
        exact ⟨⟨2, by decide, by go_num, HB1.out.alloc HB1.out.size _⟩, by simp [intOf]⟩
      · obtain ⟨st, hrun⟩ := runR a n 2 (by decide)
        have HQ := Lib.hid hrun
        clear hrun
        go_wp2_with fail
        refine Calls.mono (vlit _ Z (gR a n (cR 2 + 8)) 4 _ _ _ _ ?hB11 (by decide) (rowR a n (cR 2 + 8) _ rfl) (fun j _ => gR_ok a n _ HA.out HN.out (by decide) j) HZ.out (checkR a n 2 (by decide)) HQ.out ((a : Int) * n % 4294967296) st ?e111 rfl) ?_
        case hB11 => simp
        case e111 => exact ev2 a n
        rintro e w1 ⟨A1, c1, rfl, hB1⟩
        have HB1 : Hid (Below w0.heap.size w0 w1) := Lib.hid (bel4 ((HB.out.alloc HB.out.size _).alloc (by have := HB.out.size; simp; omega) _) (show w0.heap.size ≤ wr.heap.size + 1 + 1 + 2 by have := HB.out.size; omega) hB1)
        clear hB1
        go_wp2
        exact ⟨⟨3, by decide, by go_num, HB1.out.alloc HB1.out.size _⟩, by simp [intOf]⟩
      · by_cases hn0 : n = 0
        · have HN0 := Lib.hid hn0
          have hrun0 : True := trivial
          have en : ((n : Nat) : Int) = 0 := by omega
          clear hn0 hrun0
          rw [en]
          clear en
          obtain ⟨st, hrun⟩ := runR a n 3 (by decide)
          have HQ := Lib.hid hrun
          clear hrun
          go_wp2_with fail
          refine Calls.mono (vlit _ Z (gR a n (cR 3 + 8)) 4 _ _ _ _ ?hB12 (by decide) (rowRz a n _ HN0.out (cR 3 + 8) _ rfl) (fun j _ => gR_ok a n _ HA.out HN.out (by decide) j) HZ.out (checkR a n 3 (by decide)) HQ.out 0 st ?e112 rfl) ?_
          case hB12 => simp
          case e112 => exact ev3z a n HN0.out
          rintro e w1 ⟨A1, c1, rfl, hB1⟩
          have HB1 : Hid (Below w0.heap.size w0 w1) := Lib.hid (bel4 ((HB.out.alloc HB.out.size _).alloc (by have := HB.out.size; simp; omega) _) (show w0.heap.size ≤ wr.heap.size + 1 + 1 + 2 by have := HB.out.size; omega) hB1)
          clear hB1
          go_wp2
          exact ⟨⟨4, by decide, by go_num, HB1.out.alloc HB1.out.size _⟩, by simp [intOf]⟩
        · have HN0 := Lib.hid hn0
          have t1 : ((n : Int) == 0) = false := by simp; omega
          have t2 : ((n : Int) != 0) = true := by simp; omega
          obtain ⟨st, hrun⟩ := runR a n 3 (by decide)
          have HQ := Lib.hid hrun
          clear hrun
          go_wp2_with fail
          refine Calls.mono (vlit _ Z (gR a n (cR 3 + 8)) 4 _ _ _ _ ?hB13 (by decide) (rowR a n (cR 3 + 8) _ rfl) (fun j _ => gR_ok a n _ HA.out HN.out (by decide) j) HZ.out (checkR a n 3 (by decide)) HQ.out ((a : Int) / n % 4294967296) st ?e113 rfl) ?_
          case hB13 => simp
          case e113 => exact ev3 a n HA.out HN0.out
          rintro e w1 ⟨A1, c1, rfl, hB1⟩
          have HB1 : Hid (Below w0.heap.size w0 w1) := Lib.hid (bel4 ((HB.out.alloc HB.out.size _).alloc (by have := HB.out.size; simp; omega) _) (show w0.heap.size ≤ wr.heap.size + 1 + 1 + 2 by have := HB.out.size; omega) hB1)
          clear hB1
          go_wp2
          exact ⟨⟨4, by decide, by go_num, HB1.out.alloc HB1.out.size _⟩, by simp [intOf]⟩
      · obtain ⟨st, hrun⟩ := runR a n 4 (by decide)
        have HQ := Lib.hid hrun
        clear hrun
        go_wp2_with fail
        refine Calls.mono (vlit _ Z (gR a n (cR 4 + 8)) 4 _ _ _ _ ?hB14 (by decide) (rowR a n (cR 4 + 8) _ rfl) (fun j _ => gR_ok a n _ HA.out HN.out (by decide) j) HZ.out (checkR a n 4 (by decide)) HQ.out (bits .or .u32 (a : Int) (n : Int)) st ?e114 rfl) ?_
        case hB14 => simp
        case e114 => exact or32 a n HA.out HN.out
        rintro e w1 ⟨A1, c1, rfl, hB1⟩
        have HB1 : Hid (Below w0.heap.size w0 w1) := Lib.hid (bel4 ((HB.out.alloc HB.out.size _).alloc (by have := HB.out.size; simp; omega) _) (show w0.heap.size ≤ wr.heap.size + 1 + 1 + 2 by have := HB.out.size; omega) hB1)
        clear hB1
        go_wp2
        exact ⟨⟨5, by decide, by go_num, HB1.out.alloc HB1.out.size _⟩, by simp [intOf]⟩
      · obtain ⟨st, hrun⟩ := runR a n 5 (by decide)
        have HQ := Lib.hid hrun
        clear hrun
        go_wp2_with fail
        refine Calls.mono (vlit _ Z (gR a n (cR 5 + 8)) 4 _ _ _ _ ?hB15 (by decide) (rowR a n (cR 5 + 8) _ rfl) (fun j _ => gR_ok a n _ HA.out HN.out (by decide) j) HZ.out (checkR a n 5 (by decide)) HQ.out (bits .and .u32 (a : Int) (n : Int)) st ?e115 rfl) ?_
        case hB15 => simp
        case e115 => exact and32 a n HA.out HN.out
        rintro e w1 ⟨A1, c1, rfl, hB1⟩
        have HB1 : Hid (Below w0.heap.size w0 w1) := Lib.hid (bel4 ((HB.out.alloc HB.out.size _).alloc (by have := HB.out.size; simp; omega) _) (show w0.heap.size ≤ wr.heap.size + 1 + 1 + 2 by have := HB.out.size; omega) hB1)
        clear hB1
        go_wp2
        exact ⟨⟨6, by decide, by go_num, HB1.out.alloc HB1.out.size _⟩, by simp [intOf]⟩
      · obtain ⟨st, hrun⟩ := runR a n 6 (by decide)
        have HQ := Lib.hid hrun
        clear hrun
        go_wp2_with fail
        refine Calls.mono (vlit _ Z (gR a n (cR 6 + 8)) 4 _ _ _ _ ?hB16 (by decide) (rowR a n (cR 6 + 8) _ rfl) (fun j _ => gR_ok a n _ HA.out HN.out (by decide) j) HZ.out (checkR a n 6 (by decide)) HQ.out ((a : Int) * 2 ^ (n % 32) % 4294967296) st ?e116 rfl) ?_
        case hB16 => simp
        case e116 => exact ev6 a n
        rintro e w1 ⟨A1, c1, rfl, hB1⟩
        have HB1 : Hid (Below w0.heap.size w0 w1) := Lib.hid (bel4 ((HB.out.alloc HB.out.size _).alloc (by have := HB.out.size; simp; omega) _) (show w0.heap.size ≤ wr.heap.size + 1 + 1 + 2 by have := HB.out.size; omega) hB1)
        clear hB1
        go_wp2
        exact ⟨⟨7, by decide, by go_num, HB1.out.alloc HB1.out.size _⟩, by simp [intOf]⟩
      · obtain ⟨st, hrun⟩ := runR a n 7 (by decide)
        have HQ := Lib.hid hrun
        clear hrun
        go_wp2_with fail
        refine Calls.mono (vlit _ Z (gR a n (cR 7 + 8)) 4 _ _ _ _ ?hB17 (by decide) (rowR a n (cR 7 + 8) _ rfl) (fun j _ => gR_ok a n _ HA.out HN.out (by decide) j) HZ.out (checkR a n 7 (by decide)) HQ.out ((a : Int) / 2 ^ (n % 32)) st ?e117 rfl) ?_
        case hB17 => simp
        case e117 => exact ev7 a n
        rintro e w1 ⟨A1, c1, rfl, hB1⟩
        have HB1 : Hid (Below w0.heap.size w0 w1) := Lib.hid (bel4 ((HB.out.alloc HB.out.size _).alloc (by have := HB.out.size; simp; omega) _) (show w0.heap.size ≤ wr.heap.size + 1 + 1 + 2 by have := HB.out.size; omega) hB1)
        clear hB1
        go_wp2
        exact ⟨⟨8, by decide, by go_num, HB1.out.alloc HB1.out.size _⟩, by simp [intOf]⟩
      · obtain ⟨st, hrun⟩ := runR a n 8 (by decide)
        have HQ := Lib.hid hrun
        clear hrun
        go_wp2_with fail
        refine Calls.mono (vlit _ Z (gR a n (cR 8 + 8)) 4 _ _ _ _ ?hB18 (by decide) (rowR a n (cR 8 + 8) _ rfl) (fun j _ => gR_ok a n _ HA.out HN.out (by decide) j) HZ.out (checkR a n 8 (by decide)) HQ.out (bits .xor .u32 (a : Int) (n : Int)) st ?e118 rfl) ?_
        case hB18 => simp
        case e118 => exact xor32 a n HA.out HN.out
        rintro e w1 ⟨A1, c1, rfl, hB1⟩
        have HB1 : Hid (Below w0.heap.size w0 w1) := Lib.hid (bel4 ((HB.out.alloc HB.out.size _).alloc (by have := HB.out.size; simp; omega) _) (show w0.heap.size ≤ wr.heap.size + 1 + 1 + 2 by have := HB.out.size; omega) hB1)
        clear hB1
        go_wp2
        exact ⟨⟨9, by decide, by go_num, HB1.out.alloc HB1.out.size _⟩, by simp [intOf]⟩
theorem walk_VmReckons {w0 : World} (a : Int) (wa : (Lit.int .u32 a).wf = true) (n : Int) (wn : (Lit.int .u32 n).wf = true) :
    Calls Try.prog 7 #[.int .u32 a, .int .u32 n] w0 fun e w' => e = .returned (.bool true) ∧ Below w0.heap.size w0 w' := by
  simp [Lit.wf, IntKind.min, IntKind.max, IntKind.signed, IntKind.bits] at wa wn
  obtain ⟨x, rfl⟩ := Int.eq_ofNat_of_zero_le wa.1
  obtain ⟨y, rfl⟩ := Int.eq_ofNat_of_zero_le wn.1
  exact walkN x y (by omega) (by omega)

namespace vmReckonsRow
open Go.ChangeShapes Go.WideShapes Go.ChangeAt Go.RowKit Go.Joins
open Go.ChangeMaps (open_string shut_string)
set_option linter.unusedVariables false
theorem own : ownKnob Try.prog.godebug = none := by kernel_rfl
theorem laidOut : laidOutB Try.prog = true := by kernel_rfl
set_option maxRecDepth 100000 in
theorem lifted (os : Os) (started : os.Started) (H : Type) (enc : TypeId × Value → H) :
    ReturnsInHanded {} Try.checked os 7 .any (Rows.vmReckonsSpec.pre6 enc Try.prog Try.f7 Rows.vmReckonsRow.domain false) (Rows.vmReckonsSpec.post enc Try.prog Try.f7 false true false false) := by
  refine returnsInHanded_of_change (C := Try.checked) own started (by kernel_rfl) Try.func7
    (ChangeSpec.witness6 (enc := enc) (C := Try.checked) false ⟨#[], #[.int .u32 0, .int .u32 0], []⟩ 8 (by kernel_rfl) (by kernel_rfl) (by kernel_rfl) (by kernel_rfl)) ?_
  intro W base args ds gs before hval0 hW hcnd _
  have hval : ∀ (j : Nat) t v, Try.f7.params[j]? = some t → args[j]? = some v → Value.okWide Try.prog W .any base t v := hval0
  have hW' := hW
  obtain ⟨p, q, hA0, hV, rfl, hfz, hnd⟩ := hW
  have hA : DataW.TrodAll enc Try.prog W 0 (fun _ => true) true Try.f7.params.toList args.toList ds p := hA0
  rw [Try.params7] at hA hval
  obtain ⟨v0, vs0, d0, ds0, p0, q0, hargs, rfl, rfl, h0, r0⟩ := trodAll_cons hA
  obtain ⟨v1, vs1, d1, ds1, p1, q1, rfl, rfl, rfl, h1, r1⟩ := trodAll_cons r0
  obtain ⟨rfl, rfl, rfl⟩ := trodAll_nil r1
  obtain rfl : args = #[v0, v1] := by cases args; simp_all
  obtain ⟨rfl, rfl⟩ := trodVars_none hV
  have k0 := h0
  have lt0 : ∀ x ∈ p0, x.block < W.heap.size := by obtain ⟨m, hm⟩ := k0; exact DataW.trod_lt m _ _ _ hm
  have k1 := h1
  have lt1 : ∀ x ∈ p1, x.block < W.heap.size := by obtain ⟨m, hm⟩ := k1; exact DataW.trod_lt m _ _ _ hm
  obtain ⟨a0, rfl, rfl, rfl, w0⟩ := open_int Try.underlying29 (hval 0 29 v0 rfl rfl) h0
  obtain ⟨a1, rfl, rfl, rfl, w1⟩ := open_int Try.underlying29 (hval 1 29 v1 rfl rfl) h1
  clear hA0 hval0
  refine (walk_VmReckons (w0 := W) a0 w0 a1 w1).mono fun e W' ⟨he, bel⟩ => ?_
  subst he
  exact ⟨_, rfl, _, _, _, [], _, [], hW', trodAll_mk1 (shut_bool Try.underlying4 _), (trodAll_cons_mk (Below.trod laidOut (by kernel_rfl) (of_decide_eq_true (by kernel_rfl)) k0 bel lt0) (trodAll_cons_mk (Below.trod laidOut (by kernel_rfl) (of_decide_eq_true (by kernel_rfl)) k1 bel lt1) trodAll_mk0)), rfl, bel.frame _, fun h => by cases h⟩

theorem over : Rows.vmReckonsRow.holds Try.pinned (OpenSpec.ofChange Rows.vmReckonsSpec) :=
  OpenClaim.holds_of_wide 7 Try.f7 rfl rfl rfl rfl rfl rfl rfl ⟨rfl, rfl, rfl, rfl, rfl⟩ rfl rfl rfl rfl rfl (by kernel_rfl) Try.func7 (by kernel_rfl)
    (of_decide_eq_true (by kernel_rfl)) (by unfold Func.isWrapper; first | (rw [if_pos (by decide +kernel)]; kernel_rfl) | (rw [if_neg (by decide +kernel)]; exact ⟨rfl, rfl⟩))
    (fun os started H enc _ => lifted os started H enc)
end vmReckonsRow

theorem vmReckons_proved : Rows.VmReckonsSaid := vmReckonsRow.over
#print axioms vmReckons_proved
end Go.Proofs.Ytfanapnhdhoppaa
