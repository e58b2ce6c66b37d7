/-
  The contracts of the law's own told and of the reference's Read of layer 2.
-/
import Derived.Test.YtfdfngljfilomaaIg
import Derived.Laws.StructEq
namespace Go.Proofs.Ytfdfngljfilomaa
open Go.RowKit

set_option maxRecDepth 100000 in
set_option maxHeartbeats 4000000 in
theorem told_yes (A C : Option Addr) (n c d : Nat) (g : Nat → IV) (w : World) (hr : Ins w w.heap.size A n c g) (hs : Ins w w.heap.size C n d g) :
    Calls Try.prog 33 #[.slice A n c, .slice C n d] w fun e w' => e = .returned (.bool true) ∧ Below w.heap.size w w' := by
  have hmx := hr.1.le
  unfold maxLen at hmx
  obtain ⟨m1, m2⟩ := hmx
  go_enter Try.func33, Try.ntmps33
  go_wp2
  go_loopw [5] (fun i wr => ∃ k : Nat, k ≤ n ∧ i = .int .i64 k ∧ Below w.heap.size w wr) (fun i _ => n - (intOf i).toNat)
  case atStart => exact ⟨0, Nat.zero_le _, rfl, Below.refl _ _⟩
  case round =>
    obtain ⟨k, hk, rfl, hB⟩ := hrel
    by_cases hlt : k < n
    · obtain ⟨b, off, rfl, _, hc⟩ := (hr.below hB).at_ (by omega)
      obtain ⟨b', off', rfl, _, hc'⟩ := (hs.below hB).at_ (by omega)
      obtain ⟨q0, q1, q2, q3⟩ := hc k hlt
      obtain ⟨r0, r1, r2, r3⟩ := hc' k hlt
      have i1 : (0 : Int) ≤ (k : Int) := by omega
      have i2 : (k : Int) < (n : Int) := by omega
      generalize g k = v at *
      clear hc hc'
      go_wp2
      go_quiet (fail)
      go_wp2
      exact ⟨⟨k + 1, by omega, by go_num, bdn hB nq⟩, by simp [intOf]; omega⟩
    · obtain rfl : k = n := by omega
      go_wp2
      go_ret
      exact ⟨rfl, hB⟩
theorem told_nil (w : World) : Calls Try.prog 33 #[.slice none 0 0, .slice none 0 0] w fun e w' => e = .returned (.bool true) ∧ Below w.heap.size w w' :=
  told_yes none none 0 0 0 (fun _ => ⟨0, 0, 0, 0⟩) w ⟨Cel.nil_, fun i h => by omega⟩ ⟨Cel.nil_, fun i h => by omega⟩

theorem infoR : (Try.prog.info? 80).map (fun i => (i.zero, i.size, i.bytes)) = some (some (.agg #[.int .u16 0, .int .u8 0, .int .u8 0, .int .u32 0]), 4, 8) := by kernel_rfl
theorem one_inst2 (w : World) (a b c d : Int) (v : IV) (E : TypeId) (e0 : a = v.c) (e1 : b = v.t) (e2 : c = v.f) (e3 : d = v.k) : Cel (w.alloc (.cells #[.int .u16 a, .int .u8 b, .int .u8 c, .int .u32 d] E)) (w.heap.size + 1) 4 (some ⟨w.heap.size, 0, none⟩) 1 1 (icell fun _ => v) := by
  subst e0 e1 e2 e3
  exact one_inst w v E

set_option pp.deepTerms true in
set_option pp.maxSteps 1000000 in
set_option maxRecDepth 100000 in
set_option maxHeartbeats 4000000 in
theorem refRead_ok (A : Option Addr) (m c : Nat) (f : Nat → Nat) (w : World) (h1 : 8 * m ≤ 32768) (hr : Byt w w.heap.size A (8 * m) c f) :
    Calls Try.prog 32 #[.slice A (8 * m) c] w fun e w' => ∃ A' c', e = .returned (.tuple #[.slice A' m c', .int .i64 0]) ∧ OwnC w' w.heap.size 80 4 A' m c' (icell (rg f)) ∧ Below w.heap.size w w' := by
  have HR := Lib.hid hr
  have t1 : (((8 * m : Nat) : Int).tmod 8 != 0) = false := by simp
  clear hr
  go_enter Try.func32, Try.ntmps32
  go_wp2
  go_loopw [4, 5] (fun u i wr => ∃ (k : Nat) (A' : Option Addr) (c' : Nat), k ≤ m ∧ i = .int .i64 (8 * (k : Int)) ∧ u = .slice A' k c' ∧ OwnC wr w.heap.size 80 4 A' k c' (icell (rg f)) ∧ Below w.heap.size w wr)
    (fun _ i _ => (8 * m - (intOf i).toNat))
  case atStart => exact ⟨0, none, 0, Nat.zero_le _, rfl, rfl, OwnC.nil_, Below.refl _ _⟩
  case round =>
    obtain ⟨k, A', c', hk, rfl, rfl, hown, hB⟩ := hrel
    by_cases hlt : k < m
    · obtain ⟨b, off, rfl, hb, hc⟩ := (HR.out.below hB).at_ (by omega)
      have HW := Lib.hid (icell_cat (rg f) k)
      have HV : Hid (rg f k = ival (fun j => f (8 * k + j))) := rfl
      obtain ⟨q0, l0⟩ := hc (8 * k) (by omega)
      obtain ⟨q1, l1⟩ := hc (8 * k + 1) (by omega)
      obtain ⟨q2, l2⟩ := hc (8 * k + 2) (by omega)
      obtain ⟨q3, l3⟩ := hc (8 * k + 3) (by omega)
      obtain ⟨q4, l4⟩ := hc (8 * k + 4) (by omega)
      obtain ⟨q5, l5⟩ := hc (8 * k + 5) (by omega)
      obtain ⟨q6, l6⟩ := hc (8 * k + 6) (by omega)
      obtain ⟨q7, l7⟩ := hc (8 * k + 7) (by omega)
      have i0 : (0 : Int) ≤ 8 * (k : Int) := by omega
      have a1 : (0 : Int) ≤ 8 * (k : Int) + 1 := by omega
      have b1 : 8 * (k : Int) + 1 < 8 * (m : Int) := by omega
      have w1 : IntKind.i64.wrap (8 * (k : Int) + 1) = 8 * (k : Int) + 1 := IntWalk.i64_in _ (by omega)
      have n1 : (8 * (k : Int) + 1).toNat = 8 * k + 1 := by omega
      have a2 : (0 : Int) ≤ 8 * (k : Int) + 2 := by omega
      have b2 : 8 * (k : Int) + 2 < 8 * (m : Int) := by omega
      have w2 : IntKind.i64.wrap (8 * (k : Int) + 2) = 8 * (k : Int) + 2 := IntWalk.i64_in _ (by omega)
      have n2 : (8 * (k : Int) + 2).toNat = 8 * k + 2 := by omega
      have a3 : (0 : Int) ≤ 8 * (k : Int) + 3 := by omega
      have b3 : 8 * (k : Int) + 3 < 8 * (m : Int) := by omega
      have w3 : IntKind.i64.wrap (8 * (k : Int) + 3) = 8 * (k : Int) + 3 := IntWalk.i64_in _ (by omega)
      have n3 : (8 * (k : Int) + 3).toNat = 8 * k + 3 := by omega
      have a4 : (0 : Int) ≤ 8 * (k : Int) + 4 := by omega
      have b4 : 8 * (k : Int) + 4 < 8 * (m : Int) := by omega
      have w4 : IntKind.i64.wrap (8 * (k : Int) + 4) = 8 * (k : Int) + 4 := IntWalk.i64_in _ (by omega)
      have n4 : (8 * (k : Int) + 4).toNat = 8 * k + 4 := by omega
      have a5 : (0 : Int) ≤ 8 * (k : Int) + 5 := by omega
      have b5 : 8 * (k : Int) + 5 < 8 * (m : Int) := by omega
      have w5 : IntKind.i64.wrap (8 * (k : Int) + 5) = 8 * (k : Int) + 5 := IntWalk.i64_in _ (by omega)
      have n5 : (8 * (k : Int) + 5).toNat = 8 * k + 5 := by omega
      have a6 : (0 : Int) ≤ 8 * (k : Int) + 6 := by omega
      have b6 : 8 * (k : Int) + 6 < 8 * (m : Int) := by omega
      have w6 : IntKind.i64.wrap (8 * (k : Int) + 6) = 8 * (k : Int) + 6 := IntWalk.i64_in _ (by omega)
      have n6 : (8 * (k : Int) + 6).toNat = 8 * k + 6 := by omega
      have a7 : (0 : Int) ≤ 8 * (k : Int) + 7 := by omega
      have b7 : 8 * (k : Int) + 7 < 8 * (m : Int) := by omega
      have w7 : IntKind.i64.wrap (8 * (k : Int) + 7) = 8 * (k : Int) + 7 := IntWalk.i64_in _ (by omega)
      have n7 : (8 * (k : Int) + 7).toNat = 8 * k + 7 := by omega
      have b0 : 8 * (k : Int) < 8 * (m : Int) := by omega
      have n0 : (8 * (k : Int)).toNat = 8 * k := by omega
      clear hc
      go_wp2
      go_region_held3 (fun w' => w'.cell? ⟨b, off + 8 * k, none⟩ = some (bv (f (8 * k))) ∧ w'.cell? ⟨b, off + (8 * k + 1), none⟩ = some (bv (f (8 * k + 1))) ∧ w'.cell? ⟨b, off + (8 * k + 2), none⟩ = some (bv (f (8 * k + 2))) ∧ w'.cell? ⟨b, off + (8 * k + 3), none⟩ = some (bv (f (8 * k + 3))) ∧ w'.cell? ⟨b, off + (8 * k + 4), none⟩ = some (bv (f (8 * k + 4))) ∧ w'.cell? ⟨b, off + (8 * k + 5), none⟩ = some (bv (f (8 * k + 5))) ∧ w'.cell? ⟨b, off + (8 * k + 6), none⟩ = some (bv (f (8 * k + 6))) ∧ w'.cell? ⟨b, off + (8 * k + 7), none⟩ = some (bv (f (8 * k + 7))))
        (first
          | go_keep
          | exact ⟨(hK.cell (p := ⟨b, off + 8 * k, none⟩) hb).trans q0, (hK.cell (p := ⟨b, off + (8 * k + 1), none⟩) hb).trans q1, (hK.cell (p := ⟨b, off + (8 * k + 2), none⟩) hb).trans q2, (hK.cell (p := ⟨b, off + (8 * k + 3), none⟩) hb).trans q3, (hK.cell (p := ⟨b, off + (8 * k + 4), none⟩) hb).trans q4, (hK.cell (p := ⟨b, off + (8 * k + 5), none⟩) hb).trans q5, (hK.cell (p := ⟨b, off + (8 * k + 6), none⟩) hb).trans q6, (hK.cell (p := ⟨b, off + (8 * k + 7), none⟩) hb).trans q7⟩)
        (first | (refine step_cells2 (by rfl) _ _ _ 80 (by rfl) Try.underlying55 infoR (by rfl) (by decide) (by rfl) (hown.alloc _).drew (by rfl) (one_inst2 wr _ _ _ _ (rg f k) 80 (by simp only [IntKind.wrap_u16, HV.out, ival, Nat.add_zero]; omega) (by simp [HV.out, ival]) (by simp [HV.out, ival]) (by simp only [IntKind.wrap_u32', HV.out, ival]; omega)) (fun i _ => icell_one _ i) (by unfold maxLen; omega) (by omega) (by have := hB.size; simp; omega) (k + 1) rfl (icell (rg f)) HW.out ?_; rintro A2 c2 w2 hown2 hB2; have hK : Below w.heap.size wr w2 := ((Below.refl _ _).alloc hB.size _).drew.trans hB2))
      go_wp2
      exact ⟨⟨k + 1, A2, c2, by omega, by go_num, rfl, hown2, hB.trans hK⟩, by simp [intOf]; omega⟩
    · obtain rfl : k = m := by omega
      go_wp2
      go_ret2
      exact ⟨_, _, rfl, hown, hB⟩
end Go.Proofs.Ytfdfngljfilomaa
