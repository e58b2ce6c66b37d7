/-
  The contract of the reference's Stored of layer 4.
-/
import Derived.Test.YtmndolojfdekdaaKp
namespace Go.Proofs.Ytmndolojfdekdaa
open Go.RowKit

/-- What is stored at an instruction, the cells below j looked at. -/
def wd (g : Nat → IV) (n j i : Nat) : Nat := wordOf (fun c => !reach g c n i) j
theorem wd_lt (g : Nat → IV) (n j i : Nat) (hj : j ≤ 16) : wd g n j i < 65536 :=
  Nat.lt_of_lt_of_le (wordOf_lt _ j) (Nat.pow_le_pow_right (n := 2) (i := j) (j := 16) (by decide) hj)
theorem wd_skip (g : Nat → IV) (n j i : Nat) (h : reach g j n i = true) : wd g n (j + 1) i = wd g n j i := by
  show wordOf _ j + (if (!reach g j n i) = true then 2 ^ j else 0) = _
  rw [h]; rfl
theorem wd_or (g : Nat → IV) (n j i : Nat) (h : reach g j n i = false) : wd g n j i ||| 2 ^ j = wd g n (j + 1) i := by
  apply wordOf_eq (j + 1)
  · exact Nat.or_lt_two_pow (Nat.lt_of_lt_of_le (wordOf_lt _ j) (Nat.pow_le_pow_right (by decide) (by omega))) (Nat.pow_lt_pow_right (by decide) (by omega))
  · intro q hq
    rw [Nat.testBit_or, wd, wordOf_bit, Nat.testBit_two_pow]
    by_cases hqj : j = q
    · subst hqj; simp [h]
    · have : q < j := by omega
      simp [this, hqj]
theorem wcell_congr {C D : Nat → Nat} {i : Nat} (h : C i = D i) : wcell C i = wcell D i := by unfold wcell; rw [h]
/-- The row while a cell is gone through. -/
def wmid (g : Nat → IV) (n j m i : Nat) : Nat := if i < m then wd g n (j + 1) i else wd g n j i

set_option maxRecDepth 100000 in
set_option maxHeartbeats 16000000 in
theorem refStored_any (A : Option Addr) (n c : Nat) (g : Nat → IV) (w : World) (hr : Ins w w.heap.size A n c g) (h0 : 0 < n) (h1 : n ≤ 4096)
    (hal : ∀ i, i < n → alone (g i) (n - 1 - i) = 0) (hlast : isRet (g (n - 1)) = true) :
    Calls Try.prog 40 #[.slice A n c] w fun e w' => ∃ A' c', e = .returned (.slice A' n c') ∧ OwnC w' w.heap.size 68 1 A' n c' (wcell (storedT g n)) ∧ Below w.heap.size w w' := by
  have HR := Lib.hid hr
  have HALL := Lib.hid hal
  have HLAST := Lib.hid hlast
  obtain ⟨w1, hmk, hown1, hB1⟩ := mk_one Try.underlying94 info16 rfl (by decide) n h1 w
  have HO1 : Hid (OwnC w1 w.heap.size 68 1 (some ⟨w.heap.size, 0, none⟩) n n (wcell (wd g n 0))) := Lib.hid (hown1.congr (fun i _ => rfl))
  clear hr hal hlast hown1
  go_enter Try.func40, Try.ntmps40
  go_wp2
  go_loopw [4] (fun i wr => ∃ j : Nat, j ≤ 16 ∧ i = .int .i64 j ∧ OwnC wr w.heap.size 68 1 (some ⟨w.heap.size, 0, none⟩) n n (wcell (wd g n j)) ∧ Below w.heap.size w wr)
    (fun i _ => 16 - (intOf i).toNat)
  case atStart => exact ⟨0, by omega, rfl, HO1.out, hB1⟩
  case round =>
    clear hmk
    obtain ⟨j, hj, rfl, hown, hB⟩ := hrel
    have hs := hB.size
    have HO := Lib.hid hown
    by_cases hlt : j < 16
    · have hS : w.heap.size < wr.heap.size := by
        obtain ⟨bb, eb, _, hS, _⟩ := hown.at_ h0
        injection eb with eb; injection eb with eb; omega
      have hj16 : (j : Int) < 16 := by omega
      clear hown
      go_wp2_with (go_at_call 14
                   refine (refReached_any A n c g _ ((HR.out.below hB).more hB.size) h0 h1 HALL.out HLAST.out j (by omega)).mono ?_
                   rintro e w2 ⟨A2, c2, rfl, hb, hB2⟩
                   have HB := Lib.hid hb
                   have HO2 := Lib.hid (HO.out.below hB2 (Nat.le_refl _))
                   have hb2 := hB.trans (hB2.mono hs)
                   clear hb)
      go_loopw [6] (fun i wr' => ∃ m : Nat, m ≤ n ∧ i = .int .i64 m ∧ OwnC wr' w.heap.size 68 1 (some ⟨w.heap.size, 0, none⟩) n n (wcell (wmid g n j m)) ∧ Below w.heap.size w wr' ∧ ∃ b2, A2 = some ⟨b2, 0, none⟩ ∧ w.heap.size < b2 ∧ ∀ q, q < n → wr'.cell? ⟨b2, q, none⟩ = some (.bool (reach g j n q)))
        (fun i _ => n - (intOf i).toNat)
      case atStart =>
        refine ⟨0, Nat.zero_le _, rfl, HO2.out.congr (fun i _ => wcell_congr (by unfold wmid; rw [if_neg (by omega)])), hb2, ?_⟩
        obtain ⟨b2, e2, hge, _, hcs⟩ := HB.out.at_ h0
        exact ⟨b2, e2, by omega, fun q hq => (hcs q (by omega)).1⟩
      case round =>
        obtain ⟨m, hm, rfl, hown', hB', b2, rfl, hgt, hcl⟩ := hrel
        by_cases hlm : m < n
        · have c1 := hcl m hlm
          have HCL := Lib.hid hcl
          obtain ⟨bb, eb, _, _, hcs⟩ := hown'.at_ h0
          obtain rfl : w.heap.size = bb := by injection eb with eb; injection eb
          obtain ⟨p0, f0⟩ := hcs m (by omega)
          have hwm : wcell (wmid g n j m) m = .int .u16 (wd g n j m : Nat) := by unfold wcell wmid; rw [if_neg (by omega)]
          rw [hwm] at p0
          clear hcs eb hwm hcl
          obtain ⟨rk, hrk⟩ : ∃ rk, reach g j n m = rk := ⟨_, rfl⟩
          have HRK := Lib.hid hrk
          rw [hrk] at c1
          clear hrk
          cases rk
          · obtain ⟨x, hx⟩ : ∃ x, wd g n j m = x := ⟨_, rfl⟩
            have HX := Lib.hid hx
            rw [hx] at p0
            clear hx
            go_wp2
            go_region
            all_goals go_wp2
            all_goals
              have hpw : IntKind.u16.wrap ((2 : Int) ^ j) = ((2 ^ j : Nat) : Int) := by
                have h := two_pow_u16 (j : Int) (by omega) (by omega)
                rwa [Int.toNat_natCast] at h
              have hxl : x < 65536 := by rw [← HX.out]; exact wd_lt g n j m hj
              have hpl : 2 ^ j < 65536 := Nat.lt_of_le_of_lt (Nat.pow_le_pow_right (by decide) (show j ≤ 15 by omega)) (by decide)
              have hval : bits .or .u16 (x : Int) (IntKind.u16.wrap ((2 : Int) ^ j)) = ((wd g n (j + 1) m : Nat) : Int) := by
                rw [hpw, u16_or_nat x _ hxl hpl, ← HX.out, wd_or g n j m HRK.out]
              rw [hval]
              refine ⟨⟨m + 1, by omega, by go_num, ((hown'.set_ _).drew).congr (fun i _ => ?_), (hB'.setCell (Nat.le_refl _) _).drew, b2, rfl, hgt, fun q hq => ?_⟩, by simp [intOf]; omega⟩
              · unfold wcell wmid
                by_cases hi : i = m
                · rw [if_pos hi, hi]
                  rw [if_pos (by omega)]
                · rw [if_neg hi]
                  by_cases hi' : i < m
                  · rw [if_pos hi', if_pos (by omega)]
                  · rw [if_neg hi', if_neg (by omega)]
              · exact (World.cell?_of_block (w := wr) (Below.heap_setCell wr ⟨w.heap.size, m, none⟩ _ b2 (by show b2 ≠ w.heap.size; omega))).trans (HCL.out q hq)
          · go_wp2
            refine ⟨⟨m + 1, by omega, by go_num, hown'.congr (fun i _ => wcell_congr ?_), hB', b2, rfl, hgt, HCL.out⟩, by simp [intOf]; omega⟩
            unfold wmid
            by_cases hi : i < m
            · rw [if_pos hi, if_pos (by omega)]
            · rw [if_neg hi]
              by_cases hi' : i = m
              · rw [hi', if_pos (by omega), wd_skip g n j m HRK.out]
              · rw [if_neg (by omega)]
        · obtain rfl : m = n := by omega
          go_wp2
          exact ⟨⟨j + 1, by omega, by go_num, hown'.congr (fun i hi => wcell_congr (by unfold wmid; rw [if_pos (by omega)])), hB'⟩, by simp [intOf]; omega⟩
    · obtain rfl : j = 16 := by omega
      go_wp2
      go_ret
      exact ⟨_, _, rfl, HO.out, hB⟩
end Go.Proofs.Ytmndolojfdekdaa
