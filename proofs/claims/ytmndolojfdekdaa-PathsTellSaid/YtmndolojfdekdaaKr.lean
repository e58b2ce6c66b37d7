/-
  The contract of the reference's Check of layer 4.
-/
import Derived.Test.YtmndolojfdekdaaKq
namespace Go.Proofs.Ytmndolojfdekdaa
open Go.RowKit

set_option maxRecDepth 100000 in
set_option maxHeartbeats 16000000 in
theorem refCheck_any (A : Option Addr) (n c : Nat) (g : Nat → IV) (w : World) (hr : Ins w w.heap.size A n c g) (h1 : n ≤ 4096) :
    Calls Try.prog 12 #[.slice A n c] w fun e w' => e = .returned (.tuple #[.int .i64 ((checkF g n).1 : Nat), .int .i64 ((checkF g n).2 : Nat)]) ∧ Below w.heap.size w w' := by
  have HR := Lib.hid hr
  clear hr
  by_cases hq : (formedF g n).2 = 0
  · obtain ⟨h0, _, hal, hlast, hff⟩ := formedF_ok hq
    have HCK := Lib.hid (checkF_ok hq)
    have HALL := Lib.hid hal
    have HLAST := Lib.hid hlast
    have HFF := Lib.hid hff
    have t1 : (((0 : Nat) : Int) != 0) = false := rfl
    clear hq hal hlast hff
    go_enter Try.func12, Try.ntmps12
    go_wp2_with (first
      | (go_at_call 39
         refine (refFormed_any A n c g _ HR.out h1).mono ?_
         rw [HFF.out]
         rintro e w1 ⟨rfl, hB1⟩)
      | (go_at_call 40
         refine (refStored_any A n c g _ ((HR.out.below hB1).more hB1.size) h0 h1 HALL.out HLAST.out).mono ?_
         rintro e w2 ⟨A2, c2, rfl, hown, hB2⟩
         have HO := Lib.hid hown.cel
         have hb2 := hB1.trans (hB2.mono hB1.size)
         clear hown))
    go_loopw [7] (fun i wr => ∃ k : Nat, k ≤ n ∧ i = .int .i64 k ∧ Below w2.heap.size w2 wr ∧ ∀ i, i < k → initE g n i = 0)
      (fun i _ => n - (intOf i).toNat)
    case atStart => exact ⟨0, by omega, rfl, Below.refl _ _, fun i hi => by omega⟩
    case round =>
      obtain ⟨k, hk, rfl, hB, hno⟩ := hrel
      have HNO := Lib.hid hno
      clear hno
      have hs := hB.size
      have hb := hb2.trans (hB.mono hb2.size)
      by_cases hlt : k < n
      · have hv := HR.out.2 k hlt
        have HV := Lib.hid hv
        have k3 := hv.2.2.2
        obtain ⟨b, off, rfl, hbb, hc⟩ := (HR.out.below hb).at_ (by omega)
        obtain ⟨q0, q1, q2, q3⟩ := hc k hlt
        obtain ⟨b2, off2, rfl, hbb2, hc2⟩ := (HO.out.below hB).at_ (by omega)
        have c0 := hc2 k (by omega)
        obtain ⟨K, hK⟩ : ∃ K, kd (g k) = K := ⟨_, rfl⟩
        have HK := Lib.hid hK
        have hld : isLd (g k) = (K == 3 || K == 6) := by unfold isLd; rw [hK]
        have HLD := Lib.hid hld
        obtain ⟨s0, hs0⟩ : ∃ s0, storedT g n k = s0 := ⟨_, rfl⟩
        have hs0l : s0 < 65536 := by rw [← hs0]; exact storedT_lt g n k
        have c0' : wr.cell? ⟨b2, off2 + k, none⟩ = some (.int .u16 (s0 : Int)) := by rw [← hs0]; exact c0
        have HS0 := Lib.hid hs0
        clear hc hc2 c0 hK hld hs0 hv
        cases hl : (K == 3 || K == 6)
        · have hl' : (K == 3) = false ∧ (K == 6) = false := by simpa using hl
          obtain ⟨t3, t6⟩ := hl'
          clear hl
          go_wp2_with (go_at_call 41
                       refine (refOf_v _ HV.out _).mono ?_
                       rw [HK.out]
                       rintro e w3 ⟨rfl, hB3⟩)
          go_quiet (fail)
          all_goals go_wp2
          all_goals exact ⟨⟨k + 1, by omega, by go_num, bdn (hB.trans (hB3.mono hs)) _, fun i hi => by
            by_cases h : i = k
            · rw [h]; exact initE_no g n k (by rw [HLD.out, t3, t6]; rfl)
            · exact HNO.out i (by omega)⟩, by simp [intOf]; omega⟩
        · have hldt : isLd (g k) = true := by rw [HLD.out]; exact hl
          have hk16 := ld_small (g k) _ (HALL.out k hlt) hldt
          obtain ⟨pw, hpw⟩ : ∃ pw, 2 ^ (g k).k = pw := ⟨_, rfl⟩
          have hpl : pw < 65536 := by
            rw [← hpw]
            exact Nat.lt_of_le_of_lt (Nat.pow_le_pow_right (by decide) (show (g k).k ≤ 15 by omega)) (by decide)
          have hsh : IntKind.u16.wrap ((2 : Int) ^ (g k).k) = (pw : Int) := by
            have h := two_pow_u16 ((g k).k : Int) (by omega) (by omega)
            rw [Int.toNat_natCast, hpw] at h
            exact h
          obtain ⟨z, hz⟩ : ∃ z, s0 &&& pw = z := ⟨_, rfl⟩
          have hand : bits .and .u16 (s0 : Int) (pw : Int) = (z : Int) := by rw [u16_and_nat s0 pw hs0l hpl, hz]
          have hbit : z = 0 ↔ initE g n k = 12 := by
            rw [← hz, ← HS0.out, ← hpw]
            exact initE_bit g n k hldt hk16
          have HBIT := Lib.hid hbit
          have k16 : ((g k).k : Int) < 16 := by omega
          clear hpw hpl hldt hbit hz
          by_cases hz0 : z = 0
          · have t5 : ((z : Int) == 0) = true := by simpa using hz0
            have HZ0 := Lib.hid hz0
            clear hz0
            cases t3 : (K == 3)
            · have t6 : (K == 6) = true := by rw [t3] at hl; simpa using hl
              clear hl
              go_wp2_with (go_at_call 41
                           refine (refOf_v _ HV.out _).mono ?_
                           rw [HK.out]
                           rintro e w3 ⟨rfl, hB3⟩
                           have c3 := (hB3.cell (p := ⟨b2, off2 + k, none⟩) (Nat.lt_of_lt_of_le hbb2 hs)).trans c0'
                           have p3 := (hB3.cell (p := ⟨b, off + k * 4 + 3, none⟩) (Nat.lt_of_lt_of_le hbb hb.size)).trans q3)
              go_quiet (fail)
              all_goals go_wp2
              all_goals go_ret2
              all_goals
                have e12 := HBIT.out.1 HZ0.out
                have e : checkF g n = (k, 12) := by
                  rw [HCK.out, ← e12]
                  exact pick_at _ hlt (by rw [e12]; decide) HNO.out
                rw [e]
                exact ⟨rfl, bdn (hb.trans (hB3.mono hb.size)) _⟩
            · clear hl
              go_wp2_with (go_at_call 41
                           refine (refOf_v _ HV.out _).mono ?_
                           rw [HK.out]
                           rintro e w3 ⟨rfl, hB3⟩
                           have c3 := (hB3.cell (p := ⟨b2, off2 + k, none⟩) (Nat.lt_of_lt_of_le hbb2 hs)).trans c0'
                           have p3 := (hB3.cell (p := ⟨b, off + k * 4 + 3, none⟩) (Nat.lt_of_lt_of_le hbb hb.size)).trans q3)
              go_quiet (fail)
              all_goals go_wp2
              all_goals go_ret2
              all_goals
                have e12 := HBIT.out.1 HZ0.out
                have e : checkF g n = (k, 12) := by
                  rw [HCK.out, ← e12]
                  exact pick_at _ hlt (by rw [e12]; decide) HNO.out
                rw [e]
                exact ⟨rfl, bdn (hb.trans (hB3.mono hb.size)) _⟩
          · have t5 : ((z : Int) == 0) = false := by simpa using hz0
            have HZ0 := Lib.hid hz0
            clear hz0
            cases t3 : (K == 3)
            · have t6 : (K == 6) = true := by rw [t3] at hl; simpa using hl
              clear hl
              go_wp2_with (go_at_call 41
                           refine (refOf_v _ HV.out _).mono ?_
                           rw [HK.out]
                           rintro e w3 ⟨rfl, hB3⟩
                           have c3 := (hB3.cell (p := ⟨b2, off2 + k, none⟩) (Nat.lt_of_lt_of_le hbb2 hs)).trans c0'
                           have p3 := (hB3.cell (p := ⟨b, off + k * 4 + 3, none⟩) (Nat.lt_of_lt_of_le hbb hb.size)).trans q3)
              go_quiet (fail)
              all_goals go_wp2
              all_goals exact ⟨⟨k + 1, by omega, by go_num, bdn (hB.trans (hB3.mono hs)) _, fun i hi => by
                by_cases h : i = k
                · rw [h]
                  rcases initE_or g n k with h0 | h0
                  · exact h0
                  · exact absurd (HBIT.out.2 h0) HZ0.out
                · exact HNO.out i (by omega)⟩, by simp [intOf]; omega⟩
            · clear hl
              go_wp2_with (go_at_call 41
                           refine (refOf_v _ HV.out _).mono ?_
                           rw [HK.out]
                           rintro e w3 ⟨rfl, hB3⟩
                           have c3 := (hB3.cell (p := ⟨b2, off2 + k, none⟩) (Nat.lt_of_lt_of_le hbb2 hs)).trans c0'
                           have p3 := (hB3.cell (p := ⟨b, off + k * 4 + 3, none⟩) (Nat.lt_of_lt_of_le hbb hb.size)).trans q3)
              go_quiet (fail)
              all_goals go_wp2
              all_goals exact ⟨⟨k + 1, by omega, by go_num, bdn (hB.trans (hB3.mono hs)) _, fun i hi => by
                by_cases h : i = k
                · rw [h]
                  rcases initE_or g n k with h0 | h0
                  · exact h0
                  · exact absurd (HBIT.out.2 h0) HZ0.out
                · exact HNO.out i (by omega)⟩, by simp [intOf]; omega⟩
      · obtain rfl : k = n := by omega
        have e : checkF g k = (0, 0) := by rw [HCK.out, pick_none _ HNO.out]
        go_wp2
        go_ret2
        rw [e]
        exact ⟨rfl, hb⟩
  · have e : checkF g n = formedF g n := by unfold checkF; rw [if_neg hq]
    rw [e]
    obtain ⟨FR, hFR⟩ : ∃ z, formedF g n = z := ⟨_, rfl⟩
    have HFR := Lib.hid hFR
    rw [hFR] at hq ⊢
    have t1 : ((FR.2 : Int) != 0) = true := by simpa using hq
    clear e hFR hq
    go_enter Try.func12, Try.ntmps12
    go_wp2_with (go_at_call 39
                 refine (refFormed_any A n c g _ HR.out h1).mono ?_
                 rw [HFR.out]
                 rintro e w1 ⟨rfl, hB1⟩)
    go_ret2
    exact ⟨rfl, hB1⟩
end Go.Proofs.Ytmndolojfdekdaa
