/-
  Contracts of the reference of layer 4: what is wrong with a program's form; where an instruction may go on.
-/
import Derived.Test.YtdkmomdekngpnabKm
namespace Go.Proofs.Ytdkmomdekngpnab
open Go.RowKit

set_option maxRecDepth 100000 in
set_option maxHeartbeats 8000000 in
theorem refFormed_go (A : Option Addr) (n c : Nat) (g : Nat → IV) (w : World) (hr : Ins w w.heap.size A n c g) (h0 : 0 < n) (h1 : n ≤ 4096) :
    Calls Try.prog 15 #[.slice A n c] w fun e w' => e = .returned (.tuple #[.int .i64 ((formedF g n).1 : Nat), .int .i64 ((formedF g n).2 : Nat)]) ∧ Below w.heap.size w w' := by
  have HR := Lib.hid hr
  have hfd : formedF g n = pick (fun i => alone (g i) (n - 1 - i)) n (if isRet (g (n - 1)) = true then (0, 0) else (n - 1, 11)) := by
    unfold formedF; rw [if_neg (by omega), if_neg (by omega)]
  have HFD := Lib.hid hfd
  have t1 : ((n : Int) == 0) = false := by simp; omega
  have t2 : ¬ (n : Int) > 4096 := by omega
  obtain ⟨FR, hFR⟩ : ∃ z, formedF g n = z := ⟨_, rfl⟩
  rw [hFR]
  rw [hFR] at HFD
  clear hr hfd hFR
  go_enter Try.func15, Try.ntmps15
  go_wp2
  go_loopw [4] (fun i wr => ∃ k : Nat, k ≤ n ∧ i = .int .i64 k ∧ (∀ i, i < k → alone (g i) (n - 1 - i) = 0) ∧ Below w.heap.size w wr)
    (fun i _ => n - (intOf i).toNat)
  case atStart => exact ⟨0, Nat.zero_le _, rfl, fun i hi => by omega, Below.refl _ _⟩
  case round =>
    obtain ⟨k, hk, rfl, hno, hB⟩ := hrel
    have HNO := Lib.hid hno
    clear hno
    have hs := hB.size
    by_cases hlt : k < n
    · have hv := HR.out.2 k hlt
      obtain ⟨b, off, rfl, hb, hc⟩ := (HR.out.below hB).at_ (by omega)
      obtain ⟨q0, q1, q2, q3⟩ := hc k hlt
      clear hc
      obtain ⟨al, hal⟩ : ∃ al, alone (g k) (n - 1 - k) = al := ⟨_, rfl⟩
      have HAL := Lib.hid hal
      have HV := Lib.hid hv
      clear hal hv
      by_cases hz : al = 0
      · have t3 : ((al : Int) != 0) = false := by rw [hz]; rfl
        go_wp2_with (go_at_call 19
                     refine (refAlone_any (g k) HV.out (n - 1 - k) (by omega) _ (by omega) _).mono ?_
                     rw [HAL.out]
                     rintro e w2 ⟨rfl, hB2⟩
                     have hb2 := hB.trans (hB2.mono hs))
        exact ⟨⟨k + 1, by omega, by go_num, fun i hi => by
          by_cases hik : i = k
          · rw [hik, HAL.out]; exact hz
          · exact HNO.out i (by omega), hb2⟩, by simp [intOf]; omega⟩
      · have t3 : ((al : Int) != 0) = true := by simpa using hz
        go_wp2_with (go_at_call 19
                     refine (refAlone_any (g k) HV.out (n - 1 - k) (by omega) _ (by omega) _).mono ?_
                     rw [HAL.out]
                     rintro e w2 ⟨rfl, hB2⟩
                     have hb2 := hB.trans (hB2.mono hs))
        go_ret2
        have e : FR = (k, al) := by
          rw [HFD.out, ← HAL.out]
          exact pick_at _ hlt (by show alone (g k) (n - 1 - k) ≠ 0; rw [HAL.out]; exact hz) HNO.out
        rw [e]
        exact ⟨rfl, hb2⟩
    · obtain rfl : k = n := by omega
      obtain ⟨b, off, rfl, hb, hc⟩ := (HR.out.below hB).at_ (by omega)
      obtain ⟨q0, q1, q2, q3⟩ := hc (k - 1) (by omega)
      clear hc
      have hv := HR.out.2 (k - 1) (by omega)
      have HV := Lib.hid hv
      have i1 : (0 : Int) ≤ (k : Int) - 1 := by omega
      obtain ⟨K, hK⟩ : ∃ K, kd (g (k - 1)) = K := ⟨_, rfl⟩
      have HK := Lib.hid hK
      have hrt : isRet (g (k - 1)) = (K == 14 || K == 15) := by unfold isRet; rw [hK]
      have HRT := Lib.hid hrt
      clear hK hv hrt
      cases h14 : (K == 14)
      · have t3 : (K != 14) = true := by rw [bne, h14]; rfl
        cases h15 : (K == 15)
        · have t4 : (K != 15) = true := by rw [bne, h15]; rfl
          go_wp2_with (go_at_call 18
                       refine (refOf_v _ HV.out _).mono ?_
                       rw [HK.out]
                       rintro e w2 ⟨rfl, hB2⟩
                       have hb2 := hB.trans (hB2.mono hs))
          go_ret2
          have e : FR = (k - 1, 11) := by
            rw [HFD.out, pick_none _ HNO.out, HRT.out, h14, h15]; rfl
          rw [e]
          refine ⟨?_, hb2⟩
          rw [show ((k - 1 : Nat) : Int) = (k : Int) - 1 from by omega]; rfl
        · have t4 : (K != 15) = false := by rw [bne, h15]; rfl
          go_wp2_with (go_at_call 18
                       refine (refOf_v _ HV.out _).mono ?_
                       rw [HK.out]
                       rintro e w2 ⟨rfl, hB2⟩
                       have hb2 := hB.trans (hB2.mono hs))
          go_ret2
          have e : FR = (0, 0) := by
            rw [HFD.out, pick_none _ HNO.out, HRT.out, h14, h15]; rfl
          rw [e]
          exact ⟨rfl, hb2⟩
      · have t3 : (K != 14) = false := by rw [bne, h14]; rfl
        go_wp2_with (go_at_call 18
                     refine (refOf_v _ HV.out _).mono ?_
                     rw [HK.out]
                     rintro e w2 ⟨rfl, hB2⟩
                     have hb2 := hB.trans (hB2.mono hs))
        go_ret2
        have e : FR = (0, 0) := by
          rw [HFD.out, pick_none _ HNO.out, HRT.out, h14]; rfl
        rw [e]
        exact ⟨rfl, hb2⟩

set_option maxRecDepth 100000 in
theorem refFormed_any (A : Option Addr) (n c : Nat) (g : Nat → IV) (w : World) (hr : Ins w w.heap.size A n c g) (h1 : n ≤ 4096) :
    Calls Try.prog 15 #[.slice A n c] w fun e w' => e = .returned (.tuple #[.int .i64 ((formedF g n).1 : Nat), .int .i64 ((formedF g n).2 : Nat)]) ∧ Below w.heap.size w w' := by
  by_cases h0 : n = 0
  · have e : formedF g n = (0, 4) := by unfold formedF; rw [if_pos h0]
    rw [e]
    subst h0
    go_enter Try.func15, Try.ntmps15
    go_wp2
    go_ret2
    exact ⟨rfl, Below.refl _ _⟩
  · exact refFormed_go A n c g w hr (by omega) h1

end Go.Proofs.Ytdkmomdekngpnab
