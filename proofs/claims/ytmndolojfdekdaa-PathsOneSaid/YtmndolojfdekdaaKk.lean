/-
  The contract of check.Check: whether a program may run, or what is wrong first, and where.
-/
import Derived.Test.YtmndolojfdekdaaKj
import Derived.Deep.RegionWith
namespace Go.Proofs.Ytmndolojfdekdaa
open Go.RowKit

theorem arrOf_Z : ∃ Z, Z.size = 4096 ∧ ∀ w, (zeroValue 153).run Try.prog w = .ok (.agg Z) w := ⟨_, arrOf_size _, zero56⟩
/-- What is wrong by 4 at a place. -/
def initE (g : Nat → IV) (n i : Nat) : Nat := if isLd (g i) = true ∧ reach g (g i).k n i = true then 12 else 0
theorem checkF_ok {g : Nat → IV} {n : Nat} (h : (formedF g n).2 = 0) : checkF g n = pick (initE g n) n (0, 0) := by
  unfold checkF initE; rw [if_pos h]
theorem initE_bit (g : Nat → IV) (n i : Nat) (hl : isLd (g i) = true) (hk : (g i).k < 16) : ((storedT g n i &&& 2 ^ (g i).k : Nat) = 0) ↔ initE g n i = 12 := by
  unfold storedT initE
  rw [wordOf_and_bit _ _ _ hk]
  have hp : 0 < 2 ^ (g i).k := Nat.pow_pos (by decide)
  cases reach g (g i).k n i
  · simp
  · simp [hl]
theorem initE_no (g : Nat → IV) (n i : Nat) (hl : isLd (g i) = false) : initE g n i = 0 := by
  unfold initE; rw [if_neg (by simp [hl])]
theorem initE_or (g : Nat → IV) (n i : Nat) : initE g n i = 0 ∨ initE g n i = 12 := by
  unfold initE; split <;> simp

set_option maxRecDepth 100000 in
set_option maxHeartbeats 8000000 in
theorem check_any (A : Option Addr) (n c : Nat) (g : Nat → IV) (w : World) (hr : Ins w w.heap.size A n c g) :
    Calls Try.prog 54 #[.slice A n c] w fun e w' => e = .returned (.tuple #[.int .i64 ((checkF g n).1 : Nat), .int .i64 ((checkF g n).2 : Nat)]) ∧ Below w.heap.size w w' := by
  have HR := Lib.hid hr
  clear hr
  by_cases hq : (formedF g n).2 = 0
  · obtain ⟨h0, h1, hal, hlast, hff⟩ := formedF_ok hq
    have HCK := Lib.hid (checkF_ok hq)
    have HALL := Lib.hid hal
    have HLAST := Lib.hid hlast
    have HFF := Lib.hid hff
    have HQ := Lib.hid hq
    obtain ⟨Z, hZs, hz⟩ := arrOf_Z
    have hs1 := size56 (storedT g n)
    have hs3 := arrOf_size (storedT g n)
    have h1c := arrOf_one (storedT g n)
    obtain ⟨D, hD⟩ : ∃ D, arrOf (storedT g n) = D := ⟨_, rfl⟩
    rw [hD] at hs1 hs3 h1c
    have HD := Lib.hid hD
    have S1 := Lib.hid hs1
    have S2 := Lib.hid (hZs.trans hs3.symm)
    have H1C := Lib.hid h1c
    have t1 : (((0 : Nat) : Int) != 0) = false := rfl
    clear hq hal hlast hff hs1 hs3 hD hZs h1c
    go_enter Try.func54, Try.ntmps54
    go_wp2_with (first
      | (go_at_call 76
         refine (formed_any A n c g _ HR.out).mono ?_
         rintro e w1 ⟨A1, m, c1, rfl, hm, hB1⟩
         obtain ⟨rfl, hown⟩ := hm HQ.out
         rw [HFF.out]
         have hcel := hown.cel
         have HO := Lib.hid hown
         have HC := Lib.hid hcel
         clear hm hown hcel)
      | (go_at_call 77
         refine (stored_any A1 m c1 g _ HC.out HR.out.2 h1 HALL.out HLAST.out).mono ?_
         rw [HD.out]
         rintro e w2 ⟨rfl, hB2⟩
         have h2' : (w2.alloc (.cells Z 153)).heap[w2.heap.size]? = some (.cells Z 153) := heap_alloc_last _ _
         have H2 := Lib.hid h2'
         clear h2')
      | (refine wpList_store_row (by rfl) 153 _ _ (by rfl) w2.heap.size D (by rfl) (by rfl) _ Z H2.out S1.out S2.out H1C.out ?_
         rw [World.setRow_alloc_new]))
    have ha0 : Arr (w2.alloc (.cells D 153)) w2.heap.size (storedT g m) := by unfold Arr; rw [HD.out]; exact heap_alloc_last _ _
    have hw0 : Below w1.heap.size w1 (w2.alloc (.cells D 153)) := hB2.alloc hB2.size _
    go_loopw [24] (fun i wr => ∃ k : Nat, k ≤ m ∧ i = .int .i64 k ∧ Below w1.heap.size w1 wr ∧ Arr wr w2.heap.size (storedT g m) ∧ ∀ i, i < k → initE g m i = 0)
      (fun i _ => m - (intOf i).toNat)
    case atStart => exact ⟨0, by omega, rfl, hw0, ha0, fun i hi => by omega⟩
    case round =>
      clear ha0 hw0 hz
      obtain ⟨k, hk, rfl, hB, ha, hno⟩ := hrel
      have HNO := Lib.hid hno
      have HA := Lib.hid ha
      clear hno
      have hs := hB.size
      by_cases hlt : k < m
      · obtain ⟨b, off, rfl, hb, hcc⟩ := pl_at (HC.out.below hB) (by omega)
        obtain ⟨q0, q1, q2, q3, q4, q5, q6⟩ := hcc k hlt
        have c0 := ha.cell k (by omega)
        have i2 : (k : Int) < 4096 := by omega
        have hbx := Bx.new (w := wr) (c := (g k).c) (t := (g k).t) (f := (g k).f) (k := (g k).k) (K := kd (g k)) (X := xx (g k)) (b := (m : Int) - 1 - (k : Int)) 156
        have HBX : Hid (Bx (wr.alloc (.cells #[.int .u16 (g k).c, .int .u8 (g k).t, .int .u8 (g k).f, .int .u32 (g k).k, .int .i64 (kd (g k)), .bool (xx (g k)), .int .i64 ((m : Int) - 1 - (k : Int))] 156)).drew wr.heap.size (g k).c (g k).t (g k).f (g k).k (kd (g k)) (xx (g k)) ((m : Int) - 1 - (k : Int))) := Lib.hid hbx
        obtain ⟨s0, hs0⟩ : ∃ s0, storedT g m k = s0 := ⟨_, rfl⟩
        have hs0l : s0 < 65536 := by rw [← hs0]; exact storedT_lt g m k
        rw [hs0] at c0
        have c0' : ∀ o, (wr.alloc o).drew.cell? ⟨w2.heap.size, k, none⟩ = some (.int .u16 (s0 : Int)) := fun o => cell_alloc_l (W := wr) o c0
        have HS0 := Lib.hid hs0
        clear hcc hbx ha hs0
        cases hld : isLd (g k)
        · have HLD := Lib.hid hld
          clear hld
          go_wp2
          first
          | (go_region_with (first
                 | (go_at_call 78
                    refine (loadsCell_v (g k) _ _).mono ?_
                    rw [HLD.out]
                    rintro e w4 ⟨rfl, hB4⟩
                    obtain ⟨r0, r1, r2, r3, r4, r5, r6⟩ := HBX.out.below hB4 (by simp)
                    have hb4 := (hB.alloc hs _).drew.trans (hB4.mono (by simp; omega))
                    have c4 := (hB4.cell (p := ⟨w2.heap.size, k, none⟩) (by have := HA.out.lt; simp; omega)).trans (c0' _))))
          | fail "region 8"
          all_goals go_wp2
          all_goals exact ⟨⟨k + 1, by omega, by go_num, hb4, (HA.out.below ((Below.refl wr.heap.size wr).alloc (Nat.le_refl _) _).drew HA.out.lt).below hB4 (by have := HA.out.lt; simp; omega), fun i hi => by
            by_cases h : i = k
            · rw [h]; exact initE_no g m k HLD.out
            · exact HNO.out i (by omega)⟩, by simp [intOf]; omega⟩
        · have hk16 := ld_small (g k) _ (HALL.out k hlt) hld
          obtain ⟨pw, hpw⟩ : ∃ pw, 2 ^ (g k).k = pw := ⟨_, rfl⟩
          have hpl : pw < 65536 := by
            rw [← hpw]
            exact Nat.lt_of_le_of_lt (Nat.pow_le_pow_right (by decide) (show (g k).k ≤ 15 by omega)) (by decide)
          obtain ⟨z, hz⟩ : ∃ z, s0 &&& pw = z := ⟨_, rfl⟩
          have hand : bits .and .u16 (s0 : Int) (pw : Int) = (z : Int) := by rw [u16_and_nat s0 pw hs0l hpl, hz]
          have hbit : z = 0 ↔ initE g m k = 12 := by
            rw [← hz, ← HS0.out, ← hpw]
            exact initE_bit g m k hld hk16
          have HK := Lib.hid hk16
          have HPW := Lib.hid hpw
          have HLD := Lib.hid hld
          have HBIT := Lib.hid hbit
          clear hk16 hpw hpl hld hbit hz
          by_cases hz0 : z = 0
          · have t2 : ((z : Int) == 0) = true := by simpa using hz0
            have HZ0 := Lib.hid hz0
            clear hz0
            go_wp2
            first
            | (go_region_with (first
                   | (go_at_call 78
                      refine (loadsCell_v (g k) _ _).mono ?_
                      rw [HLD.out]
                      rintro e w4 ⟨rfl, hB4⟩
                      obtain ⟨r0, r1, r2, r3, r4, r5, r6⟩ := HBX.out.below hB4 (by simp)
                      have hb4 := (hB.alloc hs _).drew.trans (hB4.mono (by simp; omega))
                      have c4 := (hB4.cell (p := ⟨w2.heap.size, k, none⟩) (by have := HA.out.lt; simp; omega)).trans (c0' _))
                   | (go_at_call 79
                      refine (cell_v (g k) HK.out _ _).mono ?_
                      rw [HPW.out]
                      rintro e w5 ⟨rfl, hB5⟩
                      have hs4 := hB4.size
                      obtain ⟨s0', s1', s2', s3', s4', s5', s6'⟩ := (HBX.out.below hB4 (by simp)).below hB5 (by simp at hs4; omega)
                      have hb5 := hb4.trans (hB5.mono hb4.size)
                      have c5 := (hB5.cell (p := ⟨w2.heap.size, k, none⟩) (by have := HA.out.lt; simp at hs4; show w2.heap.size < _; omega)).trans c4)))
            | fail "region 8"
            all_goals go_wp2
            all_goals go_ret2
            all_goals
              have e12 := HBIT.out.1 HZ0.out
              have e : checkF g m = (k, 12) := by
                rw [HCK.out, ← e12]
                exact pick_at _ hlt (by rw [e12]; decide) HNO.out
              rw [e]
              exact ⟨rfl, hB1.trans (hb5.mono hB1.size)⟩
          · have t2 : ((z : Int) == 0) = false := by simpa using hz0
            have HZ0 := Lib.hid hz0
            clear hz0
            go_wp2
            first
            | (go_region_with (first
                   | (go_at_call 78
                      refine (loadsCell_v (g k) _ _).mono ?_
                      rw [HLD.out]
                      rintro e w4 ⟨rfl, hB4⟩
                      obtain ⟨r0, r1, r2, r3, r4, r5, r6⟩ := HBX.out.below hB4 (by simp)
                      have hb4 := (hB.alloc hs _).drew.trans (hB4.mono (by simp; omega))
                      have c4 := (hB4.cell (p := ⟨w2.heap.size, k, none⟩) (by have := HA.out.lt; simp; omega)).trans (c0' _))
                   | (go_at_call 79
                      refine (cell_v (g k) HK.out _ _).mono ?_
                      rw [HPW.out]
                      rintro e w5 ⟨rfl, hB5⟩
                      have hs4 := hB4.size
                      obtain ⟨s0', s1', s2', s3', s4', s5', s6'⟩ := (HBX.out.below hB4 (by simp)).below hB5 (by simp at hs4; omega)
                      have hb5 := hb4.trans (hB5.mono hb4.size)
                      have c5 := (hB5.cell (p := ⟨w2.heap.size, k, none⟩) (by have := HA.out.lt; simp at hs4; show w2.heap.size < _; omega)).trans c4)))
            | fail "region 8"
            all_goals go_wp2
            all_goals exact ⟨⟨k + 1, by omega, by go_num, hb5, ((HA.out.below ((Below.refl wr.heap.size wr).alloc (Nat.le_refl _) _).drew HA.out.lt).below hB4 (by have := HA.out.lt; simp; omega)).below hB5 (by have := HA.out.lt; have := hB4.size; simp at this; omega), fun i hi => by
              by_cases h : i = k
              · rw [h]
                rcases initE_or g m k with h0 | h0
                · exact h0
                · exact absurd (HBIT.out.2 h0) HZ0.out
              · exact HNO.out i (by omega)⟩, by simp [intOf]; omega⟩
      · obtain rfl : k = m := by omega
        have e : checkF g k = (0, 0) := by rw [HCK.out, pick_none _ HNO.out]
        go_wp2
        go_ret2
        rw [e]
        exact ⟨rfl, hB1.trans (hB.mono hB1.size)⟩
  · have e : checkF g n = formedF g n := by unfold checkF; rw [if_neg hq]
    rw [e]
    obtain ⟨FR, hFR⟩ : ∃ z, formedF g n = z := ⟨_, rfl⟩
    have HFR := Lib.hid hFR
    rw [hFR] at hq ⊢
    have t1 : ((FR.2 : Int) != 0) = true := by simpa using hq
    clear e hFR hq
    go_enter Try.func54, Try.ntmps54
    go_wp2_with (go_at_call 76
                 refine (formed_any A n c g _ HR.out).mono ?_
                 rw [HFR.out]
                 rintro e w1 ⟨A1, m, c1, rfl, _, hB1⟩)
    go_ret2
    exact ⟨rfl, hB1⟩
end Go.Proofs.Ytmndolojfdekdaa
