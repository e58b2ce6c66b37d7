/-
  Contracts of the reference of layer 4: what is wrong with a program's form; where an instruction may go on.
-/
import Derived.Test.YtmndolojfdekdaaKm
import Derived.Deep.RegionHeld3
namespace Go.Proofs.Ytmndolojfdekdaa
open Go.RowKit

set_option maxRecDepth 100000 in
set_option maxHeartbeats 8000000 in
theorem refFormed_go (A : Option Addr) (n c : Nat) (g : Nat → IV) (w : World) (hr : Ins w w.heap.size A n c g) (h0 : 0 < n) (h1 : n ≤ 4096) :
    Calls Try.prog 39 #[.slice A n c] w fun e w' => e = .returned (.tuple #[.int .i64 ((formedF g n).1 : Nat), .int .i64 ((formedF g n).2 : Nat)]) ∧ Below w.heap.size w w' := by
  have HR := Lib.hid hr
  have hfd : formedF g n = pick (fun i => alone (g i) (n - 1 - i)) n (if isRet (g (n - 1)) = true then (0, 0) else (n - 1, 11)) := by
    unfold formedF; rw [if_neg (by omega), if_neg (by omega)]
  have HFD := Lib.hid hfd
  have t1 : ((n : Int) == 0) = false := by simp; omega
  have t2 : ¬ (n : Int) > 4096 := by omega
  obtain ⟨FR, hFR⟩ : ∃ z, formedF g n = z := ⟨_, rfl⟩
  rw [hFR]
  rw [hFR] at HFD
  clear hr hfd hFR
  go_enter Try.func39, Try.ntmps39
  go_wp2
  go_loopw [4] (fun i wr => ∃ k : Nat, k ≤ n ∧ i = .int .i64 k ∧ (∀ i, i < k → alone (g i) (n - 1 - i) = 0) ∧ Below w.heap.size w wr)
    (fun i _ => n - (intOf i).toNat)
  case atStart => exact ⟨0, Nat.zero_le _, rfl, fun i hi => by omega, Below.refl _ _⟩
  case round =>
    obtain ⟨k, hk, rfl, hno, hB⟩ := hrel
    have HNO := Lib.hid hno
    clear hno
    have hs := hB.size
    by_cases hlt : k < n
    · have hv := HR.out.2 k hlt
      obtain ⟨b, off, rfl, hb, hc⟩ := (HR.out.below hB).at_ (by omega)
      obtain ⟨q0, q1, q2, q3⟩ := hc k hlt
      clear hc
      obtain ⟨al, hal⟩ : ∃ al, alone (g k) (n - 1 - k) = al := ⟨_, rfl⟩
      have HAL := Lib.hid hal
      have HV := Lib.hid hv
      clear hal hv
      by_cases hz : al = 0
      · have t3 : ((al : Int) != 0) = false := by rw [hz]; rfl
        go_wp2_with (go_at_call 65
                     refine (refAlone_any (g k) HV.out (n - 1 - k) (by omega) _ (by omega) _).mono ?_
                     rw [HAL.out]
                     rintro e w2 ⟨rfl, hB2⟩
                     have hb2 := hB.trans (hB2.mono hs))
        exact ⟨⟨k + 1, by omega, by go_num, fun i hi => by
          by_cases hik : i = k
          · rw [hik, HAL.out]; exact hz
          · exact HNO.out i (by omega), hb2⟩, by simp [intOf]; omega⟩
      · have t3 : ((al : Int) != 0) = true := by simpa using hz
        go_wp2_with (go_at_call 65
                     refine (refAlone_any (g k) HV.out (n - 1 - k) (by omega) _ (by omega) _).mono ?_
                     rw [HAL.out]
                     rintro e w2 ⟨rfl, hB2⟩
                     have hb2 := hB.trans (hB2.mono hs))
        go_ret2
        have e : FR = (k, al) := by
          rw [HFD.out, ← HAL.out]
          exact pick_at _ hlt (by show alone (g k) (n - 1 - k) ≠ 0; rw [HAL.out]; exact hz) HNO.out
        rw [e]
        exact ⟨rfl, hb2⟩
    · obtain rfl : k = n := by omega
      obtain ⟨b, off, rfl, hb, hc⟩ := (HR.out.below hB).at_ (by omega)
      obtain ⟨q0, q1, q2, q3⟩ := hc (k - 1) (by omega)
      clear hc
      have hv := HR.out.2 (k - 1) (by omega)
      have HV := Lib.hid hv
      have i1 : (0 : Int) ≤ (k : Int) - 1 := by omega
      obtain ⟨K, hK⟩ : ∃ K, kd (g (k - 1)) = K := ⟨_, rfl⟩
      have HK := Lib.hid hK
      have hrt : isRet (g (k - 1)) = (K == 14 || K == 15) := by unfold isRet; rw [hK]
      have HRT := Lib.hid hrt
      clear hK hv hrt
      cases h14 : (K == 14)
      · have t3 : (K != 14) = true := by rw [bne, h14]; rfl
        cases h15 : (K == 15)
        · have t4 : (K != 15) = true := by rw [bne, h15]; rfl
          go_wp2_with (go_at_call 41
                       refine (refOf_v _ HV.out _).mono ?_
                       rw [HK.out]
                       rintro e w2 ⟨rfl, hB2⟩
                       have hb2 := hB.trans (hB2.mono hs))
          go_ret2
          have e : FR = (k - 1, 11) := by
            rw [HFD.out, pick_none _ HNO.out, HRT.out, h14, h15]; rfl
          rw [e]
          refine ⟨?_, hb2⟩
          rw [show ((k - 1 : Nat) : Int) = (k : Int) - 1 from by omega]; rfl
        · have t4 : (K != 15) = false := by rw [bne, h15]; rfl
          go_wp2_with (go_at_call 41
                       refine (refOf_v _ HV.out _).mono ?_
                       rw [HK.out]
                       rintro e w2 ⟨rfl, hB2⟩
                       have hb2 := hB.trans (hB2.mono hs))
          go_ret2
          have e : FR = (0, 0) := by
            rw [HFD.out, pick_none _ HNO.out, HRT.out, h14, h15]; rfl
          rw [e]
          exact ⟨rfl, hb2⟩
      · have t3 : (K != 14) = false := by rw [bne, h14]; rfl
        go_wp2_with (go_at_call 41
                     refine (refOf_v _ HV.out _).mono ?_
                     rw [HK.out]
                     rintro e w2 ⟨rfl, hB2⟩
                     have hb2 := hB.trans (hB2.mono hs))
        go_ret2
        have e : FR = (0, 0) := by
          rw [HFD.out, pick_none _ HNO.out, HRT.out, h14]; rfl
        rw [e]
        exact ⟨rfl, hb2⟩

set_option maxRecDepth 100000 in
theorem refFormed_any (A : Option Addr) (n c : Nat) (g : Nat → IV) (w : World) (hr : Ins w w.heap.size A n c g) (h1 : n ≤ 4096) :
    Calls Try.prog 39 #[.slice A n c] w fun e w' => e = .returned (.tuple #[.int .i64 ((formedF g n).1 : Nat), .int .i64 ((formedF g n).2 : Nat)]) ∧ Below w.heap.size w w' := by
  by_cases h0 : n = 0
  · have e : formedF g n = (0, 4) := by unfold formedF; rw [if_pos h0]
    rw [e]
    subst h0
    go_enter Try.func39, Try.ntmps39
    go_wp2
    go_ret2
    exact ⟨rfl, Below.refl _ _⟩
  · exact refFormed_go A n c g w hr (by omega) h1

end Go.Proofs.Ytmndolojfdekdaa

/-
  The contract of the reference's Next of layer 4: where an instruction may go on.
-/
namespace Go.Proofs.Ytmndolojfdekdaa
open Go.RowKit

/-- Where an instruction may go on. -/
def nexts (v : IV) (k : Nat) : List Nat := (fars v).map fun f => k + 1 + f
/-- A slice that reads as these numbers, to its capacity. -/
def I64s (w : World) (base : Nat) (A : Option Addr) (n : Nat) (l : List Nat) : Prop := n = l.length ∧ Cel w w.heap.size 1 A n n (fun j => .int .i64 ((l.getD j 0 : Nat) : Int)) ∧ ∀ ad, A = some ad → base ≤ ad.block

set_option maxRecDepth 100000 in
set_option maxHeartbeats 8000000 in
theorem refNext_any (A : Option Addr) (n c : Nat) (g : Nat → IV) (w : World) (hr : Ins w w.heap.size A n c g) (k : Nat) (hk : k < n) (h1 : n ≤ 4096) :
    Calls Try.prog 42 #[.slice A n c, .int .i64 k] w fun e w' => ∃ A' m, e = .returned (.slice A' m m) ∧ I64s w' w.heap.size A' m (nexts (g k) k) ∧ Below w.heap.size w w' := by
  have hv := hr.2 k hk
  have HR := Lib.hid hr
  have HV := Lib.hid hv
  obtain ⟨b, off, rfl, hb, hc⟩ := hr.at_ (by omega)
  obtain ⟨q0, q1, q2, q3⟩ := hc k hk
  have k1 := hv.2.1
  have k2 := hv.2.2.1
  have k3 := hv.2.2.2
  obtain ⟨K, hK⟩ : ∃ K, kd (g k) = K := ⟨_, rfl⟩
  have hkr := kd_range (g k)
  rw [hK] at hkr
  have HK := Lib.hid hK
  have hn0 : nexts (g k) k = (if (K == 14 || K == 15) = true then [] else if (K == 13) = true then [k + 1 + (g k).k] else if (K == 25 || K == 26 || K == 27 || K == 28) = true then [k + 1 + (g k).t, k + 1 + (g k).f] else [k + 1]) := by
    unfold nexts
    rw [← fars_eq]
    unfold farsK
    rw [hK]
    repeat' split
    all_goals rfl
  have HN := Lib.hid hn0
  rw [HN.out]
  clear hr hc hv hK hn0 HN
  cases h14 : (K == 14 || K == 15)
  · have h14' : (K == 14) = false ∧ (K == 15) = false := by simpa using h14
    obtain ⟨t14, t15⟩ := h14'
    cases h13 : (K == 13)
    · have h25 : (K == 25 || K == 26 || K == 27 || K == 28) = decide (K ≥ 25) := by
        by_cases h : K ≥ 25
        · have hh : K = 25 ∨ K = 26 ∨ K = 27 ∨ K = 28 := by omega
          rcases hh with rfl | rfl | rfl | rfl <;> rfl
        · have e1 : (K == 25) = false := by simp; omega
          have e2 : (K == 26) = false := by simp; omega
          have e3 : (K == 27) = false := by simp; omega
          have e4 : (K == 28) = false := by simp; omega
          rw [e1, e2, e3, e4]; simp [h]
      rw [h25]
      by_cases hge : K ≥ 25
      · rw [if_neg (by decide), if_neg (by decide), if_pos (by simpa using hge)]
        clear h14 h25
        go_enter Try.func42, Try.ntmps42
        go_wp2_with (go_at_call 41
                     refine (refOf_v _ HV.out _).mono ?_
                     rw [HK.out]
                     rintro e w2 ⟨rfl, hB2⟩
                     obtain ⟨b', off', eA, hb', hc'⟩ := (HR.out.below hB2).at_ (by omega)
                     injection eA with eA
                     injection eA with e1 e2
                     subst e1 e2
                     obtain ⟨p0, p1, p2, p3⟩ := hc' k hk
                     clear hc')
        have s1 : IntKind.i64.wrap ((k : Int) + 1) = (k : Int) + 1 := IntWalk.i64_in _ (by omega)
        have s2 : IntKind.i64.wrap ((g k).t : Int) = ((g k).t : Int) := IntWalk.i64_in _ (by omega)
        have s3 : IntKind.i64.wrap ((g k).f : Int) = ((g k).f : Int) := IntWalk.i64_in _ (by omega)
        have s4 : IntKind.i64.wrap ((k : Int) + 1 + ((g k).t : Int)) = (k : Int) + 1 + ((g k).t : Int) := IntWalk.i64_in _ (by omega)
        have s5 : IntKind.i64.wrap ((k : Int) + 1 + ((g k).f : Int)) = (k : Int) + 1 + ((g k).f : Int) := IntWalk.i64_in _ (by omega)
        go_wp2
        go_region_held3 (fun w' => w'.cell? ⟨b, off + k * 4 + 1, none⟩ = some (.int .u8 (g k).t) ∧ w'.cell? ⟨b, off + k * 4 + 2, none⟩ = some (.int .u8 (g k).f))
          (first
            | go_keep
            | exact ⟨p1, p2⟩)
          (fail)
        all_goals go_wp2
        all_goals go_ret
        all_goals
          refine ⟨_, _, rfl, ⟨rfl, ?_, fun ad h => by cases h; exact hB2.size⟩, (hB2.alloc hB2.size _).drew⟩
          exact Cel.mk_ (by simp) (Nat.le_refl _) (by decide) (fun i hi => by
            match i, hi with
            | 0, _ =>
              show (w2.alloc _).cell? _ = _
              simp
            | 1, _ =>
              show (w2.alloc _).cell? _ = _
              simp)
      · rw [if_neg (by decide), if_neg (by decide), if_neg (by simpa using hge)]
        clear h14 h25
        go_enter Try.func42, Try.ntmps42
        go_wp2_with (go_at_call 41
                     refine (refOf_v _ HV.out _).mono ?_
                     rw [HK.out]
                     rintro e w2 ⟨rfl, hB2⟩)
        go_ret
        refine ⟨_, _, rfl, ⟨rfl, ?_, fun ad h => by cases h; exact hB2.size⟩, hB2.alloc hB2.size _⟩
        exact Cel.mk_ (by simp) (Nat.le_refl _) (by decide) (fun i hi => by
          match i, hi with
          | 0, _ => simp)
    · rw [if_neg (by decide), if_pos rfl]
      clear h14
      go_enter Try.func42, Try.ntmps42
      go_wp2_with (go_at_call 41
                   refine (refOf_v _ HV.out _).mono ?_
                   rw [HK.out]
                   rintro e w2 ⟨rfl, hB2⟩
                   obtain ⟨b', off', eA, hb', hc'⟩ := (HR.out.below hB2).at_ (by omega)
                   injection eA with eA
                   injection eA with e1 e2
                   subst e1 e2
                   obtain ⟨p0, p1, p2, p3⟩ := hc' k hk
                   clear hc')
      go_ret
      refine ⟨_, _, rfl, ⟨rfl, ?_, fun ad h => by cases h; exact hB2.size⟩, hB2.alloc hB2.size _⟩
      exact Cel.mk_ (by simp) (Nat.le_refl _) (by decide) (fun i hi => by
        match i, hi with
        | 0, _ => simp)
  · rw [if_pos rfl]
    cases t14 : (K == 14)
    · have t15 : (K == 15) = true := by rw [t14] at h14; simpa using h14
      clear h14
      go_enter Try.func42, Try.ntmps42
      go_wp2_with (go_at_call 41
                   refine (refOf_v _ HV.out _).mono ?_
                   rw [HK.out]
                   rintro e w2 ⟨rfl, hB2⟩)
      go_ret
      exact ⟨_, _, rfl, ⟨rfl, Cel.nil_, fun _ h => by cases h⟩, hB2⟩
    · clear h14
      go_enter Try.func42, Try.ntmps42
      go_wp2_with (go_at_call 41
                   refine (refOf_v _ HV.out _).mono ?_
                   rw [HK.out]
                   rintro e w2 ⟨rfl, hB2⟩)
      go_ret
      exact ⟨_, _, rfl, ⟨rfl, Cel.nil_, fun _ h => by cases h⟩, hB2⟩
end Go.Proofs.Ytmndolojfdekdaa
