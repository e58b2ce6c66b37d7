/-
  The contract of inst.Read: for every bytes it hands back the instructions that they say, or the error that the document names.
-/
import Derived.Test.YtilelhhnbbjaaaaGreatDoorKl
import Derived.Test.YtilelhhnbbjaaaaGreatDoorIe
namespace Go.Proofs.YtilelhhnbbjaaaaGreatDoor
open Go.RowKit

/-- The instruction number i of bytes. -/
def rg (f : Nat → Nat) (i : Nat) : IV := ival (fun j => f (8 * i + j))
set_option maxRecDepth 100000 in
set_option maxHeartbeats 4000000 in
theorem read_ok (A : Option Addr) (n c : Nat) (f : Nat → Nat) (w : World) (h1 : n ≤ 32768) (h8 : n % 8 = 0) (hr : Byt w w.heap.size A n c f) :
    Calls Tryz.prog 5 #[.slice A n c] w fun e w' => ∃ A' c', e = .returned (.tuple #[.slice A' (n / 8) c', .int .i64 0]) ∧ OwnC w' w.heap.size 47 4 A' (n / 8) c' (icell (rg f)) ∧ Below w.heap.size w w' := by
  obtain ⟨m, rfl⟩ : ∃ m, n = 8 * m := ⟨n / 8, by omega⟩
  have e8 : 8 * m / 8 = m := by omega
  rw [e8]
  have HR := Lib.hid hr
  have t1 : (((8 * m : Nat) : Int).tmod 8 != 0) = false := by simp
  have hq : ((8 * m : Nat) : Int) / 8 = (m : Int) := by omega
  obtain ⟨w1, hmk, hown1, hB1⟩ := mk_insts m (by omega) w
  have ho1 : OwnC w1 w.heap.size 47 4 (some ⟨w.heap.size, 0, none⟩) m m (part (rg f) 0) := hown1.congr (fun i _ => by unfold part; rw [if_neg (by omega)])
  clear h8 e8 hr hown1
  go_enter Tryz.func5, Tryz.ntmps5
  go_wp2_with fail
  go_loopw [19] (fun i wr => ∃ k : Nat, k ≤ m ∧ i = .int .i64 k ∧ OwnC wr w.heap.size 47 4 (some ⟨w.heap.size, 0, none⟩) m m (part (rg f) k) ∧ Below w.heap.size w wr)
    (fun i _ => m - (intOf i).toNat)
  case atStart => exact ⟨0, Nat.zero_le _, rfl, ho1, hB1⟩
  case round =>
    obtain ⟨k, hk, rfl, hown, hB⟩ := hrel
    by_cases hlt : k < m
    · have hri := (HR.out.below hB).more hB.size
      go_wp2_with fail
      refine (instAt_any _ _ _ (8 * k) _ _ (by omega) (by omega) hri _ (by omega)).mono ?_
      rintro e w2 ⟨rfl, hB2⟩
      have ho2 := hown.below hB2 (Nat.le_refl _)
      have hb2 := hB.trans (hB2.mono hB.size)
      obtain ⟨bb, eb, hbb, _, hcs⟩ := ho2.at_ (by omega)
      obtain rfl : w.heap.size = bb := by injection eb with eb; injection eb
      obtain ⟨p0, f0⟩ := hcs (k * 4) (by omega)
      obtain ⟨p1, f1⟩ := hcs (k * 4 + 1) (by omega)
      obtain ⟨p2, f2⟩ := hcs (k * 4 + 2) (by omega)
      obtain ⟨p3, f3⟩ := hcs (k * 4 + 3) (by omega)
      clear hcs eb hri
      go_wp2
      refine ⟨⟨k + 1, by omega, by go_num, ((((ho2.set_ _).set_ _).set_ _).set_ _).congr (fun i _ => part_step (rg f) k i), ?_⟩, by simp [intOf]; omega⟩
      exact (((hb2.setCell (p := ⟨w.heap.size, k * 4, none⟩) (Nat.le_refl _) _).setCell (p := ⟨w.heap.size, k * 4 + 1, none⟩) (Nat.le_refl _) _).setCell (p := ⟨w.heap.size, k * 4 + 2, none⟩) (Nat.le_refl _) _).setCell (p := ⟨w.heap.size, k * 4 + 3, none⟩) (Nat.le_refl _) _
    · obtain rfl : k = m := by omega
      go_wp2
      go_ret2
      exact ⟨_, _, rfl, hown.congr (fun i hi => by unfold part; rw [if_pos hi]), hB⟩

theorem rg_ok {w : World} {B n c : Nat} {A : Option Addr} {f : Nat → Nat} (h : Byt w B A n c f) (i : Nat) (hi : i < n / 8) : (rg f i).ok :=
  ival_ok _ (fun j hj => h.lt (by omega))
set_option maxHeartbeats 1000000 in
theorem read_long (A : Option Addr) (n c : Nat) (w : World) (h1 : 32768 < n) (h2 : n ≤ maxLen) :
    Calls Tryz.prog 5 #[.slice A n c] w fun e w' => e = .returned (.tuple #[.slice none 0 0, .int .i64 3]) ∧ w = w' := by
  unfold maxLen at h2
  go_enter Tryz.func5, Tryz.ntmps5
  go_wp2
  go_ret2
  exact ⟨rfl, rfl⟩
set_option maxHeartbeats 1000000 in
theorem read_short (A : Option Addr) (n c : Nat) (w : World) (h1 : n ≤ 32768) (h8 : n % 8 ≠ 0) :
    Calls Tryz.prog 5 #[.slice A n c] w fun e w' => e = .returned (.tuple #[.slice none 0 0, .int .i64 2]) ∧ w = w' := by
  have t1 : ((n : Int) % 8 != 0) = true := by rw [bne_iff_ne]; omega
  clear h8
  go_enter Tryz.func5, Tryz.ntmps5
  go_wp2
  go_ret2
  exact ⟨rfl, rfl⟩
end Go.Proofs.YtilelhhnbbjaaaaGreatDoor
