/-
  Contracts of the reference of layer 4: what is wrong with an instruction alone, with a program's form.
-/
import Derived.Test.YtmndolojfdekdaaKl
import Derived.Deep.QuietTactic
import Derived.BigQuiet
namespace Go.Proofs.Ytmndolojfdekdaa
open Go.RowKit

/-- A document's instruction as a value. -/
abbrev iv4 (v : IV) : Value := .agg #[.int .u16 v.c, .int .u8 v.t, .int .u8 v.f, .int .u32 v.k]
theorem refOf_v (v : IV) (hv : v.ok) (w : World) : Calls Try.prog 41 #[.int .u16 v.c] w fun e w' => e = .returned (.tuple #[.int .i64 (kd v), .bool (xx v)]) ∧ Below w.heap.size w w' :=
  refOf_any v.c w (by omega) (by have := hv.1; omega)

set_option maxRecDepth 100000 in
set_option maxHeartbeats 8000000 in
theorem refAlone_any (v : IV) (hv : v.ok) (r : Nat) (_hr : r ≤ 4096) (r' : Int) (er : r' = r) (w : World) : Calls Try.prog 65 #[iv4 v, .int .i64 r'] w fun e w' => e = .returned (.int .i64 (alone v r : Nat)) ∧ Below w.heap.size w w' := by
  subst er
  have hb0 : Below w.heap.size w (w.alloc (.cells #[.int .u16 v.c, .int .u8 v.t, .int .u8 v.f, .int .u32 v.k] 70)) := (Below.refl _ _).alloc (Nat.le_refl _) _
  have hkr := kd_range v
  have hA : alone v r = alone v r := rfl
  have HV := Lib.hid hv
  obtain ⟨K, hK⟩ : ∃ K : Nat, kd v = (K : Int) := ⟨(kd v).toNat, by omega⟩
  obtain ⟨X, hX⟩ : ∃ X, xx v = X := ⟨_, rfl⟩
  obtain ⟨al, hal⟩ : ∃ al, alone v r = al := ⟨_, rfl⟩
  have h28 : K ≤ 28 := by omega
  have HX := Lib.hid hX
  have HAL := Lib.hid hal
  have HK := Lib.hid hK
  have k1 := hv.2.1
  have k2 := hv.2.2.1
  have k3 := hv.2.2.2
  unfold alone isLd isSt isBr at hal
  rw [hK, hX] at hal
  rw [HAL.out]
  clear hA hkr hv hK hX HAL
  match K, h28 with
  | 0, _ =>
    obtain rfl : al = 5 := by simpa using hal.symm
    clear hal
    go_enter Try.func65, Try.ntmps65
    go_wp2_with (go_at_call 41; refine (refOf_v v HV.out _).mono ?_; rw [HK.out, HX.out]; rintro e w1 ⟨rfl, hB1⟩; obtain ⟨q0, q1, q2, q3⟩ := cell4 _ _ _ _ _ _ _ hB1; have hb1 := hb0.trans (hB1.mono (by simp)))
    go_ret
    exact ⟨rfl, hb1⟩
  | 1, _ =>
    by_cases a1 : v.k % 4 = 0
    · have t1 : ((v.k : Int) % 4 != 0) = false := by rw [show (v.k : Int) % 4 = 0 from by omega]; rfl
      by_cases a2 : 64 ≤ v.k
      · have t2 : (v.k : Int) ≥ 64 := by omega
        obtain rfl : al = 6 := by simpa [a2] using hal.symm
        clear hal a1 a2
        go_enter Try.func65, Try.ntmps65
        go_wp2_with (go_at_call 41; refine (refOf_v v HV.out _).mono ?_; rw [HK.out, HX.out]; rintro e w1 ⟨rfl, hB1⟩; obtain ⟨q0, q1, q2, q3⟩ := cell4 _ _ _ _ _ _ _ hB1; have hb1 := hb0.trans (hB1.mono (by simp)))
        go_ret
        exact ⟨rfl, hb1⟩
      · have t2 : ¬ (v.k : Int) ≥ 64 := by omega
        obtain rfl : al = 0 := by simpa [a1, a2] using hal.symm
        clear hal a1 a2
        go_enter Try.func65, Try.ntmps65
        go_wp2_with (go_at_call 41; refine (refOf_v v HV.out _).mono ?_; rw [HK.out, HX.out]; rintro e w1 ⟨rfl, hB1⟩; obtain ⟨q0, q1, q2, q3⟩ := cell4 _ _ _ _ _ _ _ hB1; have hb1 := hb0.trans (hB1.mono (by simp)))
        go_ret
        exact ⟨rfl, hb1⟩
    · have t1 : ((v.k : Int) % 4 != 0) = true := by rw [bne_iff_ne]; omega
      obtain rfl : al = 6 := by simpa [a1] using hal.symm
      clear hal a1
      go_enter Try.func65, Try.ntmps65
      go_wp2_with (go_at_call 41; refine (refOf_v v HV.out _).mono ?_; rw [HK.out, HX.out]; rintro e w1 ⟨rfl, hB1⟩; obtain ⟨q0, q1, q2, q3⟩ := cell4 _ _ _ _ _ _ _ hB1; have hb1 := hb0.trans (hB1.mono (by simp)))
      go_ret
      exact ⟨rfl, hb1⟩
  | 2, _ =>
    obtain rfl : al = 0 := by simpa using hal.symm
    clear hal
    go_enter Try.func65, Try.ntmps65
    go_wp2_with (go_at_call 41; refine (refOf_v v HV.out _).mono ?_; rw [HK.out, HX.out]; rintro e w1 ⟨rfl, hB1⟩; obtain ⟨q0, q1, q2, q3⟩ := cell4 _ _ _ _ _ _ _ hB1; have hb1 := hb0.trans (hB1.mono (by simp)))
    go_ret
    exact ⟨rfl, hb1⟩
  | 3, _ =>
    by_cases a1 : 16 ≤ v.k
    · have t1 : (v.k : Int) > 15 := by omega
      obtain rfl : al = 7 := by simpa [a1] using hal.symm
      clear hal a1
      go_enter Try.func65, Try.ntmps65
      go_wp2_with (go_at_call 41; refine (refOf_v v HV.out _).mono ?_; rw [HK.out, HX.out]; rintro e w1 ⟨rfl, hB1⟩; obtain ⟨q0, q1, q2, q3⟩ := cell4 _ _ _ _ _ _ _ hB1; have hb1 := hb0.trans (hB1.mono (by simp)))
      go_ret
      exact ⟨rfl, hb1⟩
    · have t1 : ¬ (v.k : Int) > 15 := by omega
      obtain rfl : al = 0 := by simpa [a1] using hal.symm
      clear hal a1
      go_enter Try.func65, Try.ntmps65
      go_wp2_with (go_at_call 41; refine (refOf_v v HV.out _).mono ?_; rw [HK.out, HX.out]; rintro e w1 ⟨rfl, hB1⟩; obtain ⟨q0, q1, q2, q3⟩ := cell4 _ _ _ _ _ _ _ hB1; have hb1 := hb0.trans (hB1.mono (by simp)))
      go_ret
      exact ⟨rfl, hb1⟩
  | 4, _ =>
    obtain rfl : al = 0 := by simpa using hal.symm
    clear hal
    go_enter Try.func65, Try.ntmps65
    go_wp2_with (go_at_call 41; refine (refOf_v v HV.out _).mono ?_; rw [HK.out, HX.out]; rintro e w1 ⟨rfl, hB1⟩; obtain ⟨q0, q1, q2, q3⟩ := cell4 _ _ _ _ _ _ _ hB1; have hb1 := hb0.trans (hB1.mono (by simp)))
    go_ret
    exact ⟨rfl, hb1⟩
  | 5, _ =>
    obtain rfl : al = 0 := by simpa using hal.symm
    clear hal
    go_enter Try.func65, Try.ntmps65
    go_wp2_with (go_at_call 41; refine (refOf_v v HV.out _).mono ?_; rw [HK.out, HX.out]; rintro e w1 ⟨rfl, hB1⟩; obtain ⟨q0, q1, q2, q3⟩ := cell4 _ _ _ _ _ _ _ hB1; have hb1 := hb0.trans (hB1.mono (by simp)))
    go_ret
    exact ⟨rfl, hb1⟩
  | 6, _ =>
    by_cases a1 : 16 ≤ v.k
    · have t1 : (v.k : Int) > 15 := by omega
      obtain rfl : al = 7 := by simpa [a1] using hal.symm
      clear hal a1
      go_enter Try.func65, Try.ntmps65
      go_wp2_with (go_at_call 41; refine (refOf_v v HV.out _).mono ?_; rw [HK.out, HX.out]; rintro e w1 ⟨rfl, hB1⟩; obtain ⟨q0, q1, q2, q3⟩ := cell4 _ _ _ _ _ _ _ hB1; have hb1 := hb0.trans (hB1.mono (by simp)))
      go_ret
      exact ⟨rfl, hb1⟩
    · have t1 : ¬ (v.k : Int) > 15 := by omega
      obtain rfl : al = 0 := by simpa [a1] using hal.symm
      clear hal a1
      go_enter Try.func65, Try.ntmps65
      go_wp2_with (go_at_call 41; refine (refOf_v v HV.out _).mono ?_; rw [HK.out, HX.out]; rintro e w1 ⟨rfl, hB1⟩; obtain ⟨q0, q1, q2, q3⟩ := cell4 _ _ _ _ _ _ _ hB1; have hb1 := hb0.trans (hB1.mono (by simp)))
      go_ret
      exact ⟨rfl, hb1⟩
  | 7, _ =>
    obtain rfl : al = 0 := by simpa using hal.symm
    clear hal
    go_enter Try.func65, Try.ntmps65
    go_wp2_with (go_at_call 41; refine (refOf_v v HV.out _).mono ?_; rw [HK.out, HX.out]; rintro e w1 ⟨rfl, hB1⟩; obtain ⟨q0, q1, q2, q3⟩ := cell4 _ _ _ _ _ _ _ hB1; have hb1 := hb0.trans (hB1.mono (by simp)))
    go_ret
    exact ⟨rfl, hb1⟩
  | 8, _ =>
    by_cases a1 : 16 ≤ v.k
    · have t1 : (v.k : Int) > 15 := by omega
      obtain rfl : al = 7 := by simpa [a1] using hal.symm
      clear hal a1
      go_enter Try.func65, Try.ntmps65
      go_wp2_with (go_at_call 41; refine (refOf_v v HV.out _).mono ?_; rw [HK.out, HX.out]; rintro e w1 ⟨rfl, hB1⟩; obtain ⟨q0, q1, q2, q3⟩ := cell4 _ _ _ _ _ _ _ hB1; have hb1 := hb0.trans (hB1.mono (by simp)))
      go_ret
      exact ⟨rfl, hb1⟩
    · have t1 : ¬ (v.k : Int) > 15 := by omega
      obtain rfl : al = 0 := by simpa [a1] using hal.symm
      clear hal a1
      go_enter Try.func65, Try.ntmps65
      go_wp2_with (go_at_call 41; refine (refOf_v v HV.out _).mono ?_; rw [HK.out, HX.out]; rintro e w1 ⟨rfl, hB1⟩; obtain ⟨q0, q1, q2, q3⟩ := cell4 _ _ _ _ _ _ _ hB1; have hb1 := hb0.trans (hB1.mono (by simp)))
      go_ret
      exact ⟨rfl, hb1⟩
  | 9, _ =>
    by_cases a1 : 16 ≤ v.k
    · have t1 : (v.k : Int) > 15 := by omega
      obtain rfl : al = 7 := by simpa [a1] using hal.symm
      clear hal a1
      go_enter Try.func65, Try.ntmps65
      go_wp2_with (go_at_call 41; refine (refOf_v v HV.out _).mono ?_; rw [HK.out, HX.out]; rintro e w1 ⟨rfl, hB1⟩; obtain ⟨q0, q1, q2, q3⟩ := cell4 _ _ _ _ _ _ _ hB1; have hb1 := hb0.trans (hB1.mono (by simp)))
      go_ret
      exact ⟨rfl, hb1⟩
    · have t1 : ¬ (v.k : Int) > 15 := by omega
      obtain rfl : al = 0 := by simpa [a1] using hal.symm
      clear hal a1
      go_enter Try.func65, Try.ntmps65
      go_wp2_with (go_at_call 41; refine (refOf_v v HV.out _).mono ?_; rw [HK.out, HX.out]; rintro e w1 ⟨rfl, hB1⟩; obtain ⟨q0, q1, q2, q3⟩ := cell4 _ _ _ _ _ _ _ hB1; have hb1 := hb0.trans (hB1.mono (by simp)))
      go_ret
      exact ⟨rfl, hb1⟩
  | 10, _ =>
    obtain rfl : al = 0 := by simpa using hal.symm
    clear hal
    go_enter Try.func65, Try.ntmps65
    go_wp2_with (go_at_call 41; refine (refOf_v v HV.out _).mono ?_; rw [HK.out, HX.out]; rintro e w1 ⟨rfl, hB1⟩; obtain ⟨q0, q1, q2, q3⟩ := cell4 _ _ _ _ _ _ _ hB1; have hb1 := hb0.trans (hB1.mono (by simp)))
    go_ret
    exact ⟨rfl, hb1⟩
  | 11, _ =>
    obtain rfl : al = 0 := by simpa using hal.symm
    clear hal
    go_enter Try.func65, Try.ntmps65
    go_wp2_with (go_at_call 41; refine (refOf_v v HV.out _).mono ?_; rw [HK.out, HX.out]; rintro e w1 ⟨rfl, hB1⟩; obtain ⟨q0, q1, q2, q3⟩ := cell4 _ _ _ _ _ _ _ hB1; have hb1 := hb0.trans (hB1.mono (by simp)))
    go_ret
    exact ⟨rfl, hb1⟩
  | 12, _ =>
    obtain rfl : al = 0 := by simpa using hal.symm
    clear hal
    go_enter Try.func65, Try.ntmps65
    go_wp2_with (go_at_call 41; refine (refOf_v v HV.out _).mono ?_; rw [HK.out, HX.out]; rintro e w1 ⟨rfl, hB1⟩; obtain ⟨q0, q1, q2, q3⟩ := cell4 _ _ _ _ _ _ _ hB1; have hb1 := hb0.trans (hB1.mono (by simp)))
    go_ret
    exact ⟨rfl, hb1⟩
  | 13, _ =>
    by_cases a1 : r ≤ v.k
    · have t1 : (v.k : Int) ≥ (r : Int) := by omega
      obtain rfl : al = 10 := by simpa [a1] using hal.symm
      clear hal a1
      go_enter Try.func65, Try.ntmps65
      go_wp2_with (go_at_call 41; refine (refOf_v v HV.out _).mono ?_; rw [HK.out, HX.out]; rintro e w1 ⟨rfl, hB1⟩; obtain ⟨q0, q1, q2, q3⟩ := cell4 _ _ _ _ _ _ _ hB1; have hb1 := hb0.trans (hB1.mono (by simp)))
      go_ret
      exact ⟨rfl, hb1⟩
    · have t1 : ¬ (v.k : Int) ≥ (r : Int) := by omega
      obtain rfl : al = 0 := by simpa [a1] using hal.symm
      clear hal a1
      go_enter Try.func65, Try.ntmps65
      go_wp2_with (go_at_call 41; refine (refOf_v v HV.out _).mono ?_; rw [HK.out, HX.out]; rintro e w1 ⟨rfl, hB1⟩; obtain ⟨q0, q1, q2, q3⟩ := cell4 _ _ _ _ _ _ _ hB1; have hb1 := hb0.trans (hB1.mono (by simp)))
      go_ret
      exact ⟨rfl, hb1⟩
  | 14, _ =>
    obtain rfl : al = 0 := by simpa using hal.symm
    clear hal
    go_enter Try.func65, Try.ntmps65
    go_wp2_with (go_at_call 41; refine (refOf_v v HV.out _).mono ?_; rw [HK.out, HX.out]; rintro e w1 ⟨rfl, hB1⟩; obtain ⟨q0, q1, q2, q3⟩ := cell4 _ _ _ _ _ _ _ hB1; have hb1 := hb0.trans (hB1.mono (by simp)))
    go_ret
    exact ⟨rfl, hb1⟩
  | 15, _ =>
    obtain rfl : al = 0 := by simpa using hal.symm
    clear hal
    go_enter Try.func65, Try.ntmps65
    go_wp2_with (go_at_call 41; refine (refOf_v v HV.out _).mono ?_; rw [HK.out, HX.out]; rintro e w1 ⟨rfl, hB1⟩; obtain ⟨q0, q1, q2, q3⟩ := cell4 _ _ _ _ _ _ _ hB1; have hb1 := hb0.trans (hB1.mono (by simp)))
    go_ret
    exact ⟨rfl, hb1⟩
  | 16, _ =>
    obtain rfl : al = 0 := by simpa using hal.symm
    clear hal
    go_enter Try.func65, Try.ntmps65
    go_wp2_with (go_at_call 41; refine (refOf_v v HV.out _).mono ?_; rw [HK.out, HX.out]; rintro e w1 ⟨rfl, hB1⟩; obtain ⟨q0, q1, q2, q3⟩ := cell4 _ _ _ _ _ _ _ hB1; have hb1 := hb0.trans (hB1.mono (by simp)))
    go_ret
    exact ⟨rfl, hb1⟩
  | 17, _ =>
    obtain rfl : al = 0 := by simpa using hal.symm
    clear hal
    go_enter Try.func65, Try.ntmps65
    go_wp2_with (go_at_call 41; refine (refOf_v v HV.out _).mono ?_; rw [HK.out, HX.out]; rintro e w1 ⟨rfl, hB1⟩; obtain ⟨q0, q1, q2, q3⟩ := cell4 _ _ _ _ _ _ _ hB1; have hb1 := hb0.trans (hB1.mono (by simp)))
    go_ret
    exact ⟨rfl, hb1⟩
  | 18, _ =>
    obtain rfl : al = 0 := by simpa using hal.symm
    clear hal
    go_enter Try.func65, Try.ntmps65
    go_wp2_with (go_at_call 41; refine (refOf_v v HV.out _).mono ?_; rw [HK.out, HX.out]; rintro e w1 ⟨rfl, hB1⟩; obtain ⟨q0, q1, q2, q3⟩ := cell4 _ _ _ _ _ _ _ hB1; have hb1 := hb0.trans (hB1.mono (by simp)))
    go_ret
    exact ⟨rfl, hb1⟩
  | 19, _ =>
    cases X
    · by_cases a1 : v.k = 0
      · have t1 : ((v.k : Int) == 0) = true := by simp [a1]
        obtain rfl : al = 8 := by simpa [a1] using hal.symm
        clear hal a1
        go_enter Try.func65, Try.ntmps65
        go_wp2_with (go_at_call 41; refine (refOf_v v HV.out _).mono ?_; rw [HK.out, HX.out]; rintro e w1 ⟨rfl, hB1⟩; obtain ⟨q0, q1, q2, q3⟩ := cell4 _ _ _ _ _ _ _ hB1; have hb1 := hb0.trans (hB1.mono (by simp)))
        go_ret
        exact ⟨rfl, hb1⟩
      · have t1 : ((v.k : Int) == 0) = false := by simpa using a1
        obtain rfl : al = 0 := by simpa [a1] using hal.symm
        clear hal a1
        go_enter Try.func65, Try.ntmps65
        go_wp2_with (go_at_call 41; refine (refOf_v v HV.out _).mono ?_; rw [HK.out, HX.out]; rintro e w1 ⟨rfl, hB1⟩; obtain ⟨q0, q1, q2, q3⟩ := cell4 _ _ _ _ _ _ _ hB1; have hb1 := hb0.trans (hB1.mono (by simp)))
        go_ret
        exact ⟨rfl, hb1⟩
    · obtain rfl : al = 0 := by simpa using hal.symm
      clear hal
      go_enter Try.func65, Try.ntmps65
      go_wp2_with (go_at_call 41; refine (refOf_v v HV.out _).mono ?_; rw [HK.out, HX.out]; rintro e w1 ⟨rfl, hB1⟩; obtain ⟨q0, q1, q2, q3⟩ := cell4 _ _ _ _ _ _ _ hB1; have hb1 := hb0.trans (hB1.mono (by simp)))
      go_ret
      exact ⟨rfl, hb1⟩
  | 20, _ =>
    obtain rfl : al = 0 := by simpa using hal.symm
    clear hal
    go_enter Try.func65, Try.ntmps65
    go_wp2_with (go_at_call 41; refine (refOf_v v HV.out _).mono ?_; rw [HK.out, HX.out]; rintro e w1 ⟨rfl, hB1⟩; obtain ⟨q0, q1, q2, q3⟩ := cell4 _ _ _ _ _ _ _ hB1; have hb1 := hb0.trans (hB1.mono (by simp)))
    go_ret
    exact ⟨rfl, hb1⟩
  | 21, _ =>
    obtain rfl : al = 0 := by simpa using hal.symm
    clear hal
    go_enter Try.func65, Try.ntmps65
    go_wp2_with (go_at_call 41; refine (refOf_v v HV.out _).mono ?_; rw [HK.out, HX.out]; rintro e w1 ⟨rfl, hB1⟩; obtain ⟨q0, q1, q2, q3⟩ := cell4 _ _ _ _ _ _ _ hB1; have hb1 := hb0.trans (hB1.mono (by simp)))
    go_ret
    exact ⟨rfl, hb1⟩
  | 22, _ =>
    cases X
    · by_cases a1 : 31 < v.k
      · have t1 : (v.k : Int) > 31 := by omega
        obtain rfl : al = 9 := by simpa [a1] using hal.symm
        clear hal a1
        go_enter Try.func65, Try.ntmps65
        go_wp2_with (go_at_call 41; refine (refOf_v v HV.out _).mono ?_; rw [HK.out, HX.out]; rintro e w1 ⟨rfl, hB1⟩; obtain ⟨q0, q1, q2, q3⟩ := cell4 _ _ _ _ _ _ _ hB1; have hb1 := hb0.trans (hB1.mono (by simp)))
        go_ret
        exact ⟨rfl, hb1⟩
      · have t1 : ¬ (v.k : Int) > 31 := by omega
        obtain rfl : al = 0 := by simpa [a1] using hal.symm
        clear hal a1
        go_enter Try.func65, Try.ntmps65
        go_wp2_with (go_at_call 41; refine (refOf_v v HV.out _).mono ?_; rw [HK.out, HX.out]; rintro e w1 ⟨rfl, hB1⟩; obtain ⟨q0, q1, q2, q3⟩ := cell4 _ _ _ _ _ _ _ hB1; have hb1 := hb0.trans (hB1.mono (by simp)))
        go_ret
        exact ⟨rfl, hb1⟩
    · obtain rfl : al = 0 := by simpa using hal.symm
      clear hal
      go_enter Try.func65, Try.ntmps65
      go_wp2_with (go_at_call 41; refine (refOf_v v HV.out _).mono ?_; rw [HK.out, HX.out]; rintro e w1 ⟨rfl, hB1⟩; obtain ⟨q0, q1, q2, q3⟩ := cell4 _ _ _ _ _ _ _ hB1; have hb1 := hb0.trans (hB1.mono (by simp)))
      go_ret
      exact ⟨rfl, hb1⟩
  | 23, _ =>
    cases X
    · by_cases a1 : 31 < v.k
      · have t1 : (v.k : Int) > 31 := by omega
        obtain rfl : al = 9 := by simpa [a1] using hal.symm
        clear hal a1
        go_enter Try.func65, Try.ntmps65
        go_wp2_with (go_at_call 41; refine (refOf_v v HV.out _).mono ?_; rw [HK.out, HX.out]; rintro e w1 ⟨rfl, hB1⟩; obtain ⟨q0, q1, q2, q3⟩ := cell4 _ _ _ _ _ _ _ hB1; have hb1 := hb0.trans (hB1.mono (by simp)))
        go_ret
        exact ⟨rfl, hb1⟩
      · have t1 : ¬ (v.k : Int) > 31 := by omega
        obtain rfl : al = 0 := by simpa [a1] using hal.symm
        clear hal a1
        go_enter Try.func65, Try.ntmps65
        go_wp2_with (go_at_call 41; refine (refOf_v v HV.out _).mono ?_; rw [HK.out, HX.out]; rintro e w1 ⟨rfl, hB1⟩; obtain ⟨q0, q1, q2, q3⟩ := cell4 _ _ _ _ _ _ _ hB1; have hb1 := hb0.trans (hB1.mono (by simp)))
        go_ret
        exact ⟨rfl, hb1⟩
    · obtain rfl : al = 0 := by simpa using hal.symm
      clear hal
      go_enter Try.func65, Try.ntmps65
      go_wp2_with (go_at_call 41; refine (refOf_v v HV.out _).mono ?_; rw [HK.out, HX.out]; rintro e w1 ⟨rfl, hB1⟩; obtain ⟨q0, q1, q2, q3⟩ := cell4 _ _ _ _ _ _ _ hB1; have hb1 := hb0.trans (hB1.mono (by simp)))
      go_ret
      exact ⟨rfl, hb1⟩
  | 24, _ =>
    obtain rfl : al = 0 := by simpa using hal.symm
    clear hal
    go_enter Try.func65, Try.ntmps65
    go_wp2_with (go_at_call 41; refine (refOf_v v HV.out _).mono ?_; rw [HK.out, HX.out]; rintro e w1 ⟨rfl, hB1⟩; obtain ⟨q0, q1, q2, q3⟩ := cell4 _ _ _ _ _ _ _ hB1; have hb1 := hb0.trans (hB1.mono (by simp)))
    go_ret
    exact ⟨rfl, hb1⟩
  | 25, _ =>
    by_cases a1 : r ≤ v.t
    · have t1 : (v.t : Int) ≥ (r : Int) := by omega
      obtain rfl : al = 10 := by simpa [a1] using hal.symm
      clear hal a1
      go_enter Try.func65, Try.ntmps65
      go_wp2_with (go_at_call 41; refine (refOf_v v HV.out _).mono ?_; rw [HK.out, HX.out]; rintro e w1 ⟨rfl, hB1⟩; obtain ⟨q0, q1, q2, q3⟩ := cell4 _ _ _ _ _ _ _ hB1; have hb1 := hb0.trans (hB1.mono (by simp)))
      go_ret
      exact ⟨rfl, hb1⟩
    · have t1 : ¬ (v.t : Int) ≥ (r : Int) := by omega
      by_cases a2 : r ≤ v.f
      · have t2 : (v.f : Int) ≥ (r : Int) := by omega
        obtain rfl : al = 10 := by simpa [a2] using hal.symm
        clear hal a1 a2
        go_enter Try.func65, Try.ntmps65
        go_wp2_with (go_at_call 41; refine (refOf_v v HV.out _).mono ?_; rw [HK.out, HX.out]; rintro e w1 ⟨rfl, hB1⟩; obtain ⟨q0, q1, q2, q3⟩ := cell4 _ _ _ _ _ _ _ hB1; have hb1 := hb0.trans (hB1.mono (by simp)))
        go_ret
        exact ⟨rfl, hb1⟩
      · have t2 : ¬ (v.f : Int) ≥ (r : Int) := by omega
        obtain rfl : al = 0 := by simpa [a1, a2] using hal.symm
        clear hal a1 a2
        go_enter Try.func65, Try.ntmps65
        go_wp2_with (go_at_call 41; refine (refOf_v v HV.out _).mono ?_; rw [HK.out, HX.out]; rintro e w1 ⟨rfl, hB1⟩; obtain ⟨q0, q1, q2, q3⟩ := cell4 _ _ _ _ _ _ _ hB1; have hb1 := hb0.trans (hB1.mono (by simp)))
        go_ret
        exact ⟨rfl, hb1⟩
  | 26, _ =>
    by_cases a1 : r ≤ v.t
    · have t1 : (v.t : Int) ≥ (r : Int) := by omega
      obtain rfl : al = 10 := by simpa [a1] using hal.symm
      clear hal a1
      go_enter Try.func65, Try.ntmps65
      go_wp2_with (go_at_call 41; refine (refOf_v v HV.out _).mono ?_; rw [HK.out, HX.out]; rintro e w1 ⟨rfl, hB1⟩; obtain ⟨q0, q1, q2, q3⟩ := cell4 _ _ _ _ _ _ _ hB1; have hb1 := hb0.trans (hB1.mono (by simp)))
      go_ret
      exact ⟨rfl, hb1⟩
    · have t1 : ¬ (v.t : Int) ≥ (r : Int) := by omega
      by_cases a2 : r ≤ v.f
      · have t2 : (v.f : Int) ≥ (r : Int) := by omega
        obtain rfl : al = 10 := by simpa [a2] using hal.symm
        clear hal a1 a2
        go_enter Try.func65, Try.ntmps65
        go_wp2_with (go_at_call 41; refine (refOf_v v HV.out _).mono ?_; rw [HK.out, HX.out]; rintro e w1 ⟨rfl, hB1⟩; obtain ⟨q0, q1, q2, q3⟩ := cell4 _ _ _ _ _ _ _ hB1; have hb1 := hb0.trans (hB1.mono (by simp)))
        go_ret
        exact ⟨rfl, hb1⟩
      · have t2 : ¬ (v.f : Int) ≥ (r : Int) := by omega
        obtain rfl : al = 0 := by simpa [a1, a2] using hal.symm
        clear hal a1 a2
        go_enter Try.func65, Try.ntmps65
        go_wp2_with (go_at_call 41; refine (refOf_v v HV.out _).mono ?_; rw [HK.out, HX.out]; rintro e w1 ⟨rfl, hB1⟩; obtain ⟨q0, q1, q2, q3⟩ := cell4 _ _ _ _ _ _ _ hB1; have hb1 := hb0.trans (hB1.mono (by simp)))
        go_ret
        exact ⟨rfl, hb1⟩
  | 27, _ =>
    by_cases a1 : r ≤ v.t
    · have t1 : (v.t : Int) ≥ (r : Int) := by omega
      obtain rfl : al = 10 := by simpa [a1] using hal.symm
      clear hal a1
      go_enter Try.func65, Try.ntmps65
      go_wp2_with (go_at_call 41; refine (refOf_v v HV.out _).mono ?_; rw [HK.out, HX.out]; rintro e w1 ⟨rfl, hB1⟩; obtain ⟨q0, q1, q2, q3⟩ := cell4 _ _ _ _ _ _ _ hB1; have hb1 := hb0.trans (hB1.mono (by simp)))
      go_ret
      exact ⟨rfl, hb1⟩
    · have t1 : ¬ (v.t : Int) ≥ (r : Int) := by omega
      by_cases a2 : r ≤ v.f
      · have t2 : (v.f : Int) ≥ (r : Int) := by omega
        obtain rfl : al = 10 := by simpa [a2] using hal.symm
        clear hal a1 a2
        go_enter Try.func65, Try.ntmps65
        go_wp2_with (go_at_call 41; refine (refOf_v v HV.out _).mono ?_; rw [HK.out, HX.out]; rintro e w1 ⟨rfl, hB1⟩; obtain ⟨q0, q1, q2, q3⟩ := cell4 _ _ _ _ _ _ _ hB1; have hb1 := hb0.trans (hB1.mono (by simp)))
        go_ret
        exact ⟨rfl, hb1⟩
      · have t2 : ¬ (v.f : Int) ≥ (r : Int) := by omega
        obtain rfl : al = 0 := by simpa [a1, a2] using hal.symm
        clear hal a1 a2
        go_enter Try.func65, Try.ntmps65
        go_wp2_with (go_at_call 41; refine (refOf_v v HV.out _).mono ?_; rw [HK.out, HX.out]; rintro e w1 ⟨rfl, hB1⟩; obtain ⟨q0, q1, q2, q3⟩ := cell4 _ _ _ _ _ _ _ hB1; have hb1 := hb0.trans (hB1.mono (by simp)))
        go_ret
        exact ⟨rfl, hb1⟩
  | 28, _ =>
    by_cases a1 : r ≤ v.t
    · have t1 : (v.t : Int) ≥ (r : Int) := by omega
      obtain rfl : al = 10 := by simpa [a1] using hal.symm
      clear hal a1
      go_enter Try.func65, Try.ntmps65
      go_wp2_with (go_at_call 41; refine (refOf_v v HV.out _).mono ?_; rw [HK.out, HX.out]; rintro e w1 ⟨rfl, hB1⟩; obtain ⟨q0, q1, q2, q3⟩ := cell4 _ _ _ _ _ _ _ hB1; have hb1 := hb0.trans (hB1.mono (by simp)))
      go_ret
      exact ⟨rfl, hb1⟩
    · have t1 : ¬ (v.t : Int) ≥ (r : Int) := by omega
      by_cases a2 : r ≤ v.f
      · have t2 : (v.f : Int) ≥ (r : Int) := by omega
        obtain rfl : al = 10 := by simpa [a2] using hal.symm
        clear hal a1 a2
        go_enter Try.func65, Try.ntmps65
        go_wp2_with (go_at_call 41; refine (refOf_v v HV.out _).mono ?_; rw [HK.out, HX.out]; rintro e w1 ⟨rfl, hB1⟩; obtain ⟨q0, q1, q2, q3⟩ := cell4 _ _ _ _ _ _ _ hB1; have hb1 := hb0.trans (hB1.mono (by simp)))
        go_ret
        exact ⟨rfl, hb1⟩
      · have t2 : ¬ (v.f : Int) ≥ (r : Int) := by omega
        obtain rfl : al = 0 := by simpa [a1, a2] using hal.symm
        clear hal a1 a2
        go_enter Try.func65, Try.ntmps65
        go_wp2_with (go_at_call 41; refine (refOf_v v HV.out _).mono ?_; rw [HK.out, HX.out]; rintro e w1 ⟨rfl, hB1⟩; obtain ⟨q0, q1, q2, q3⟩ := cell4 _ _ _ _ _ _ _ hB1; have hb1 := hb0.trans (hB1.mono (by simp)))
        go_ret
        exact ⟨rfl, hb1⟩
  | K + 29, h => omega
end Go.Proofs.Ytmndolojfdekdaa
