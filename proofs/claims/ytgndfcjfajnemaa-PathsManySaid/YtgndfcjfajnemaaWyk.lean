/-
  Layer 27: paths.All of a plain program; the chapter's example.
-/
import Derived.Test.YtgndfcjfajnemaaWyj
namespace Go.Proofs.Ytgndfcjfajnemaa
open Go.RowKit Go.Shelf
set_option linter.unusedVariables false

set_option maxRecDepth 100000 in
set_option maxHeartbeats 8000000 in
theorem all_ok (A : Option Addr) (n c : Nat) (g : Nat → IV) (w : World) (hr : Ins w w.heap.size A n c g) (hp : plainB g n = true) (hN : cntP g n ≤ 4096) (hL : (pF g n 0 0 0 [] 0).length ≤ 100000) :
    Calls Try.prog 8 #[.slice A n c] w fun e w' => ∃ A' cA' S', e = .returned (.tuple #[.slice A' (pF g n 0 0 0 [] 0).length cA', .int .i64 0]) ∧ Pths w' A' cA' (pF g n 0 0 0 [] 0) S' ∧ Below w.heap.size w w' := by
  obtain ⟨hF, hk, _⟩ := plainB_facts hp
  have HP := Lib.hid (placesOf_any A n c g w hr)
  have hv := hr.2
  have hn0 : ¬ (n : Int) = 0 := by have := hF.pos; omega
  go_enter Try.func8, Try.ntmps8
  go_wp2_with fail
  refine HP.out.mono ?_
  rintro e w1 ⟨⟨hp0, _⟩ | ⟨_, pb, rfl, hO⟩, hB1⟩
  · rw [hp] at hp0; cases hp0
  obtain ⟨pb', epb, _, hpb1, hpc⟩ := hO.at_ hF.pos
  obtain rfl : pb = pb' := by injection epb with e; injection e
  have HC := Lib.hid (count_any pb n g w1 hF hpb1 (fun i hi => (hpc i hi).1) hv hk)
  have HB1 := Lib.hid hB1
  have HPC : Hid (∀ W, Below w1.heap.size w1 W → Calls Try.prog 20 #[.slice (some ⟨pb, 0, none⟩) n n, .int .i64 (cntP g n : Nat)] W fun e w' => ∃ A' cA' S', e = .returned (.slice A' (pF g n 0 0 0 [] 0).length cA') ∧ Pths w' A' cA' (pF g n 0 0 0 [] 0) S' ∧ Below W.heap.size W w') := Lib.hid fun W hW => gather_any pb n (cntP g n) g W hF (Nat.lt_of_lt_of_le hpb1 hW.size) (fun i hi => (hW.cell (p := ⟨pb, i, none⟩) hpb1).trans (hpc i hi).1) hv hk (by omega) hL
  obtain ⟨N, hNe⟩ : ∃ N, cntP g n = N := ⟨_, rfl⟩
  rw [hNe] at HC HPC hN
  have i4 : ¬ (N : Int) > 4096 := by omega
  clear hB1 hpc hO epb hNe HP hr
  go_wp2_with (first
    | (go_at_call 19; refine HC.out.mono ?_; rintro e w2 ⟨rfl, hB2⟩; have HB2 := Lib.hid hB2; clear hB2)
    | (go_at_call 20; refine (HPC.out _ HB2.out).mono ?_; rintro e w3 ⟨A', cA', S', rfl, hP3, hB3⟩; have HP3 := Lib.hid hP3; have HB3 := Lib.hid (HB1.out.trans ((HB2.out.trans (hB3.mono HB2.out.size)).mono HB1.out.size)); clear hP3 hB3))
  go_ret2
  exact ⟨_, _, _, rfl, HP3.out, HB3.out⟩
def exL : List IV := [⟨32, 0, 0, 0⟩, ⟨21, 0, 1, 1⟩, ⟨6, 0, 0, 2⟩, ⟨6, 0, 0, 3⟩]
def exG (i : Nat) : IV := exL.getD i ⟨0, 0, 0, 0⟩
def exP : List PV := [⟨[⟨0, 4294967295, 25, 1, true⟩], 3, 2⟩, ⟨[⟨0, 4294967295, 25, 1, false⟩], 3, 3⟩]
theorem ex_plain : plainB exG 4 = true := by decide +kernel
theorem ex_cnt : cntP exG 4 = 2 := by decide +kernel
theorem ex_pF : pF exG 4 0 0 0 [] 0 = exP := by kernel_rfl
theorem ex_ins (w : World) (E : TypeId) : Ins (w.alloc (.cells #[.int .u16 32, .int .u8 0, .int .u8 0, .int .u32 0, .int .u16 21, .int .u8 0, .int .u8 1, .int .u32 1, .int .u16 6, .int .u8 0, .int .u8 0, .int .u32 2, .int .u16 6, .int .u8 0, .int .u8 0, .int .u32 3] E)) (w.heap.size + 1) (some ⟨w.heap.size, 0, none⟩) 4 4 exG := by
  refine ⟨Cel.mk_ (Nat.lt_succ_self _) (Nat.le_refl _) (by decide) fun i hi => ?_, fun i hi => ?_⟩
  · have hi' : i < 16 := by omega
    rw [Nat.zero_add, cell_of_row _ _ _ _ _ _ (heap_alloc_last w _)]
    match i, hi' with
    | 0, _ | 1, _ | 2, _ | 3, _ | 4, _ | 5, _ | 6, _ | 7, _ | 8, _ | 9, _ | 10, _ | 11, _ | 12, _ | 13, _ | 14, _ | 15, _ => rfl
    | i + 16, h => omega
  · match i, hi with
    | 0, _ | 1, _ | 2, _ | 3, _ => exact ⟨by decide, by decide, by decide, by decide⟩
set_option maxRecDepth 100000 in
set_option maxHeartbeats 8000000 in
theorem awake27_any (w : World) : Calls Try.prog 11 #[] w fun e w' => e = .returned (.bool true) ∧ Below w.heap.size w w' := by
  have hb0 : Below w.heap.size w (w.alloc (.cells #[.int .u16 32, .int .u8 0, .int .u8 0, .int .u32 0, .int .u16 21, .int .u8 0, .int .u8 1, .int .u32 1, .int .u16 6, .int .u8 0, .int .u8 0, .int .u32 2, .int .u16 6, .int .u8 0, .int .u8 0, .int .u32 3] 61)) := (Below.refl _ _).alloc (Nat.le_refl _) _
  have hA := all_ok (some ⟨w.heap.size, 0, none⟩) 4 4 exG _ ((ex_ins w 61).more (by simp)) ex_plain (by rw [ex_cnt]; decide) (by rw [ex_pF]; decide)
  rw [ex_pF] at hA
  have HA := Lib.hid hA
  have HB := Lib.hid hb0
  clear hA hb0
  go_enter Try.func11, Try.ntmps11
  go_wp2_with fail
  refine HA.out.mono ?_
  rintro e w1 ⟨A', cA', S', rfl, ⟨hc, ht⟩, hB1⟩
  have HBE := Lib.hid (HB.out.trans (hB1.mono HB.out.size))
  have ht0 := ht 0 (by decide)
  obtain ⟨b, off, rfl, _, hcc⟩ := hc.at_ (by decide)
  have u0 : w1.cell? ⟨b, off, none⟩ = some (.slice (S' 0).1 1 (S' 0).2) := hcc 0 (by decide)
  have u2 : w1.cell? ⟨b, off + 2, none⟩ = some (.int .u32 2) := hcc 2 (by decide)
  have u5 : w1.cell? ⟨b, off + 5, none⟩ = some (.int .u32 3) := hcc 5 (by decide)
  have u52 : w1.cell? ⟨b, off + 3 + 2, none⟩ = some (.int .u32 3) := hcc 5 (by decide)
  have ht0 : Cel w1 w1.heap.size 5 (S' 0).1 1 (S' 0).2 (tscell fun j => ([⟨0, 4294967295, 25, 1, true⟩] : List TV)[j]!) := ht0
  obtain ⟨tb, tof, etb, _, htc⟩ := ht0.at_ (by decide)
  rw [etb] at u0
  have t0 : w1.cell? ⟨tb, tof, none⟩ = some (.int .i64 0) := htc 0 (by decide)
  have t1 : w1.cell? ⟨tb, tof + 1, none⟩ = some (.int .u32 4294967295) := htc 1 (by decide)
  have t2 : w1.cell? ⟨tb, tof + 2, none⟩ = some (.int .i64 25) := htc 2 (by decide)
  have t3 : w1.cell? ⟨tb, tof + 3, none⟩ = some (.int .u32 1) := htc 3 (by decide)
  have t4 : w1.cell? ⟨tb, tof + 4, none⟩ = some (.bool true) := htc 4 (by decide)
  generalize (S' 0).2 = sc at *
  clear hc ht hcc ht0 htc hB1 etb HA HB
  go_wp2
  go_ret
  exact ⟨rfl, HBE.out⟩
end Go.Proofs.Ytgndfcjfajnemaa
