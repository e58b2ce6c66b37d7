/-
  The contract of check.formed: a program's places, or the first thing of 1 to 3 that is wrong with it.
-/
import Derived.Test.YtfanapnhdhoppaaKf
namespace Go.Proofs.Ytfanapnhdhoppaa
open Go.RowKit

theorem returns_v (v : IV) (b : Int) (w : World) : Calls Try.prog 93 #[plA v.c v.t v.f v.k (kd v) (xx v) b] w fun e w' => e = .returned (.bool (isRet v)) ∧ Below w.heap.size w w' := returns_any _ _ _ _ _ _ _ _

set_option maxRecDepth 100000 in
set_option maxHeartbeats 4000000 in
theorem formed_go (A : Option Addr) (n c : Nat) (g : Nat → IV) (w : World) (hr : Ins w w.heap.size A n c g) (h0 : 0 < n) (h1 : n ≤ 4096) :
    Calls Try.prog 68 #[.slice A n c] w fun e w' => ∃ A' m c', e = .returned (.tuple #[.slice A' m c', .int .i64 ((formedF g n).1 : Nat), .int .i64 ((formedF g n).2 : Nat)]) ∧
      ((formedF g n).2 = 0 → m = n ∧ OwnC w' w.heap.size 135 7 A' n c' (pcell g n)) ∧ Below w.heap.size w w' := by
  have HR := Lib.hid hr
  have hfd : formedF g n = pick (fun i => alone (g i) (n - 1 - i)) n (if isRet (g (n - 1)) = true then (0, 0) else (n - 1, 11)) := by
    unfold formedF; rw [if_neg (by omega), if_neg (by omega)]
  have HFD := Lib.hid hfd
  have t1 : ((n : Int) == 0) = false := by simp; omega
  have t2 : ¬ (n : Int) > 4096 := by omega
  obtain ⟨w1, hmk, hown1, hB1⟩ := mk_places n h1 w
  have ho1 : OwnC w1 w.heap.size 135 7 (some ⟨w.heap.size, 0, none⟩) n n (partP g n 0) := hown1.congr (fun i _ => by unfold partP; rw [if_neg (by omega)])
  obtain ⟨FR, hFR⟩ : ∃ z, formedF g n = z := ⟨_, rfl⟩
  rw [hFR]
  rw [hFR] at HFD
  clear hr hown1 hfd hFR
  go_enter Try.func68, Try.ntmps68
  go_wp2_with fail
  go_loopw [25] (fun i wr => ∃ k : Nat, k ≤ n ∧ i = .int .i64 k ∧ (∀ i, i < k → alone (g i) (n - 1 - i) = 0) ∧ OwnC wr w.heap.size 135 7 (some ⟨w.heap.size, 0, none⟩) n n (partP g n k) ∧ Below w.heap.size w wr)
    (fun i _ => n - (intOf i).toNat)
  case atStart => exact ⟨0, Nat.zero_le _, rfl, fun i hi => by omega, ho1, hB1⟩
  case round =>
    obtain ⟨k, hk, rfl, hno, hown, hB⟩ := hrel
    have HNO := Lib.hid hno
    clear hno ho1 hB1 hmk
    have hs := hB.size
    by_cases hlt : k < n
    · have hv := HR.out.2 k hlt
      obtain ⟨b, off, rfl, hb, hc⟩ := (HR.out.below hB).at_ (by omega)
      obtain ⟨q0, q1, q2, q3⟩ := hc k hlt
      clear hc
      obtain ⟨al, hal⟩ : ∃ al, alone (g k) (n - 1 - k) = al := ⟨_, rfl⟩
      have HAL := Lib.hid hal
      have HV := Lib.hid hv
      clear hal hv
      by_cases hz : al = 0
      · have t3 : ((al : Int) != 0) = false := by rw [hz]; rfl
        go_wp2_with (first
          | (go_at_call 43
             refine (of_v (g k) HV.out _).mono ?_
             rintro e w2 ⟨xb, rfl, hB2⟩
             obtain ⟨r0, r1, r2, r3⟩ := cell4 _ _ _ _ _ _ _ hB2
             have hb2 := (hB.alloc hs _).trans (hB2.mono (by simp; omega))
             have ho2 := (hown.alloc _).below hB2 (Nat.le_refl _))
          | (go_at_call 92
             refine (fault_v (g k) HV.out (n - 1 - k) (by omega) _ (by omega) _).mono ?_
             rw [HAL.out]
             rintro e w3 ⟨rfl, hB3⟩
             obtain ⟨s0, s1, s2, s3, s4, s5, s6⟩ := (Bx.new _).below hB3 (by simp)
             have hs2 := hb2.size
             have hb3 := (hb2.alloc hs2 _).trans (hB3.mono (by simp; omega))
             have ho3 := (ho2.alloc _).below hB3 (Nat.le_refl _)
             obtain ⟨bb, eb, hbb, _, hcs⟩ := ho3.at_ h0
             obtain rfl : w.heap.size = bb := by injection eb with eb; injection eb
             obtain ⟨p0, f0⟩ := hcs (k * 7) (by omega)
             obtain ⟨p1, f1⟩ := hcs (k * 7 + 1) (by omega)
             obtain ⟨p2, f2⟩ := hcs (k * 7 + 2) (by omega)
             obtain ⟨p3, f3⟩ := hcs (k * 7 + 3) (by omega)
             obtain ⟨p4, f4⟩ := hcs (k * 7 + 4) (by omega)
             obtain ⟨p5, f5⟩ := hcs (k * 7 + 5) (by omega)
             obtain ⟨p6, f6⟩ := hcs (k * 7 + 6) (by omega)
             clear hcs eb))
        refine ⟨⟨k + 1, by omega, by go_num, fun i hi => ?_, (((((((ho3.set_ _).set_ _).set_ _).set_ _).set_ _).set_ _).set_ _).congr (fun i _ => partP_step g n k i), ?_⟩, by simp [intOf]; omega⟩
        · by_cases hik : i = k
          · rw [hik, HAL.out]; exact hz
          · exact HNO.out i (by omega)
        · exact ((((((hb3.setCell (p := ⟨w.heap.size, k * 7, none⟩) (Nat.le_refl _) _).setCell (p := ⟨w.heap.size, k * 7 + 1, none⟩) (Nat.le_refl _) _).setCell (p := ⟨w.heap.size, k * 7 + 2, none⟩) (Nat.le_refl _) _).setCell (p := ⟨w.heap.size, k * 7 + 3, none⟩) (Nat.le_refl _) _).setCell (p := ⟨w.heap.size, k * 7 + 4, none⟩) (Nat.le_refl _) _).setCell (p := ⟨w.heap.size, k * 7 + 5, none⟩) (Nat.le_refl _) _).setCell (p := ⟨w.heap.size, k * 7 + 6, none⟩) (Nat.le_refl _) _
      · have t3 : ((al : Int) != 0) = true := by simpa using hz
        go_wp2_with (first
          | (go_at_call 43
             refine (of_v (g k) HV.out _).mono ?_
             rintro e w2 ⟨xb, rfl, hB2⟩
             obtain ⟨r0, r1, r2, r3⟩ := cell4 _ _ _ _ _ _ _ hB2
             have hb2 := (hB.alloc hs _).trans (hB2.mono (by simp; omega)))
          | (go_at_call 92
             refine (fault_v (g k) HV.out (n - 1 - k) (by omega) _ (by omega) _).mono ?_
             rw [HAL.out]
             rintro e w3 ⟨rfl, hB3⟩
             have hs2 := hb2.size
             have hb3 := (hb2.alloc hs2 _).trans (hB3.mono (by simp; omega))))
        go_ret3
        have e : FR = (k, al) := by
          rw [HFD.out, ← HAL.out]
          exact pick_at _ hlt (by show alone (g k) (n - 1 - k) ≠ 0; rw [HAL.out]; exact hz) HNO.out
        rw [e]
        exact ⟨_, _, _, rfl, fun h => absurd h hz, hb3⟩
    · obtain rfl : k = n := by omega
      obtain ⟨bb, eb, hbb, _, hcs⟩ := hown.at_ h0
      obtain rfl : w.heap.size = bb := by injection eb with eb; injection eb
      have hlast : ∀ q, q < 7 → partP g k k ((k - 1) * 7 + q) = pcell g k ((k - 1) * 7 + q) := fun q hq => by unfold partP; rw [if_pos (by omega)]
      obtain ⟨p0, _⟩ := hcs ((k - 1) * 7) (by omega)
      obtain ⟨p1, _⟩ := hcs ((k - 1) * 7 + 1) (by omega)
      obtain ⟨p2, _⟩ := hcs ((k - 1) * 7 + 2) (by omega)
      obtain ⟨p3, _⟩ := hcs ((k - 1) * 7 + 3) (by omega)
      obtain ⟨p4, _⟩ := hcs ((k - 1) * 7 + 4) (by omega)
      obtain ⟨p5, _⟩ := hcs ((k - 1) * 7 + 5) (by omega)
      obtain ⟨p6, _⟩ := hcs ((k - 1) * 7 + 6) (by omega)
      rw [show (k - 1) * 7 = (k - 1) * 7 + 0 from rfl, hlast 0 (by omega)] at p0
      rw [hlast 1 (by omega), pcell1] at p1
      rw [hlast 2 (by omega), pcell2] at p2
      rw [hlast 3 (by omega), pcell3] at p3
      rw [hlast 4 (by omega), pcell4] at p4
      rw [hlast 5 (by omega), pcell5] at p5
      rw [hlast 6 (by omega), pcell6] at p6
      rw [Nat.add_zero, pcell0] at p0
      clear hcs eb hlast
      have i1 : (0 : Int) ≤ (k : Int) - 1 := by omega
      obtain ⟨rr, hrr⟩ : ∃ r, isRet (g (k - 1)) = r := ⟨_, rfl⟩
      have HRR := Lib.hid hrr
      clear hrr
      cases rr
      · go_wp2_with (go_at_call 93
                     refine (returns_v (g (k - 1)) _ _).mono ?_
                     rw [HRR.out]
                     rintro e w3 ⟨rfl, hB3⟩
                     have hb3 := hB.trans (hB3.mono hs))
        go_ret3
        have e : FR = (k - 1, 11) := by
          rw [HFD.out, pick_none _ HNO.out, HRR.out]; rfl
        rw [e]
        refine ⟨none, 0, 0, ?_, fun h => absurd h (show ¬ (11 : Nat) = 0 by decide), hb3⟩
        rw [show ((k - 1 : Nat) : Int) = (k : Int) - 1 from by omega]; rfl
      · go_wp2_with (go_at_call 93
                     refine (returns_v (g (k - 1)) _ _).mono ?_
                     rw [HRR.out]
                     rintro e w3 ⟨rfl, hB3⟩
                     have hb3 := hB.trans (hB3.mono hs))
        go_ret3
        have e : FR = (0, 0) := by
          rw [HFD.out, pick_none _ HNO.out, HRR.out]; rfl
        rw [e]
        exact ⟨_, _, _, rfl, fun _ => ⟨rfl, (hown.below hB3 (Nat.le_refl _)).congr (fun i hi => by unfold partP; rw [if_pos hi])⟩, hb3⟩

set_option maxRecDepth 100000 in
set_option maxHeartbeats 4000000 in
theorem formed_any (A : Option Addr) (n c : Nat) (g : Nat → IV) (w : World) (hr : Ins w w.heap.size A n c g) :
    Calls Try.prog 68 #[.slice A n c] w fun e w' => ∃ A' m c', e = .returned (.tuple #[.slice A' m c', .int .i64 ((formedF g n).1 : Nat), .int .i64 ((formedF g n).2 : Nat)]) ∧
      ((formedF g n).2 = 0 → m = n ∧ OwnC w' w.heap.size 135 7 A' n c' (pcell g n)) ∧ Below w.heap.size w w' := by
  have hle := hr.1.le
  unfold maxLen at hle
  obtain ⟨l1, l2⟩ := hle
  by_cases h0 : n = 0
  · have e : formedF g n = (0, 4) := by unfold formedF; rw [if_pos h0]
    rw [e]
    subst h0
    go_enter Try.func68, Try.ntmps68
    go_wp2
    go_ret3
    exact ⟨_, _, _, rfl, fun h => absurd h (by decide), Below.refl _ _⟩
  · by_cases h1 : n ≤ 4096
    · exact formed_go A n c g w hr (by omega) h1
    · have e : formedF g n = (0, 3) := by unfold formedF; rw [if_neg h0, if_pos (by omega)]
      rw [e]
      have t1 : ((n : Int) == 0) = false := by simp; omega
      have t2 : (n : Int) > 4096 := by omega
      clear e
      go_enter Try.func68, Try.ntmps68
      go_wp2
      go_ret3
      exact ⟨_, _, _, rfl, fun h => absurd h (by decide), Below.refl _ _⟩
end Go.Proofs.Ytfanapnhdhoppaa
