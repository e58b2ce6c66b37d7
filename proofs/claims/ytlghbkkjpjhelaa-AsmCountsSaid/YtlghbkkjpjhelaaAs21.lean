/-
  Layer 21, the document's answer: strainerref21.Many.
-/
import Derived.Test.YtlghbkkjpjhelaaAs20
namespace Go.Proofs.Ytlghbkkjpjhelaa
open Go.RowKit Go.Shelf
set_option linter.unusedVariables false

set_option maxRecDepth 100000 in
set_option maxHeartbeats 8000000 in
theorem refMany_any (A : Option Addr) (n c : Nat) (l : List IT) (w : World) (hn : l.length = n) (hn1 : n ≤ 1000) (hr : Cel w w.heap.size 5 A n c (itcell fun i => l[i]!)) (hok : ∀ x ∈ l, x.ok) (hF : FormedI l) :
    Calls Try.prog 16 #[.slice A n c] w fun e w' => ∃ z : Nat, e = .returned (.tuple #[.int .i64 ((cntR l n : Nat) : Int), .int .i64 (z : Int)]) ∧ Below w.heap.size w w' := by
  have HRE := Lib.hid (refReached_any A n c l w hn hn1 hr hok hF)
  have HR := Lib.hid hr
  have HOK := Lib.hid hok
  have HN := Lib.hid hn
  clear hr hok hn hF
  go_enter Try.func16, Try.ntmps16
  go_wp2_with fail
  refine HRE.out.mono ?_
  rintro e w1 ⟨c', M, rfl, hB1, hlt1, hM, hM2⟩
  have HM := Lib.hid hM
  have HM2 := Lib.hid hM2
  clear hM hM2
  go_wp2_with fail
  go_loopw [5, 6, 7] (fun s b i wr => ∃ (k z : Nat), k ≤ n ∧ z ≤ k ∧ i = .int .i64 k ∧ s = .int .i64 ((cntR l k : Nat) : Int) ∧ b = .int .i64 (z : Int) ∧ cntR l k ≤ k ∧ Below (w.heap.size + 1) w1 wr)
    (fun _ _ i _ => n - (intOf i).toNat)
  case atStart => exact ⟨0, 0, Nat.zero_le _, Nat.le_refl _, rfl, rfl, rfl, Nat.le_refl _, Below.refl _ _⟩
  case round =>
    obtain ⟨k, z, hk, hz, rfl, rfl, rfl, hc, hB⟩ := hrel
    by_cases hlt : k < n
    · have hkl : k < l.length := by rw [HN.out]; exact hlt
      obtain ⟨x, hx⟩ : ∃ x, l[k]! = x := ⟨_, rfl⟩
      have hxo : x.ok := HOK.out x (by rw [← hx, getElem!_pos l k hkl]; exact List.getElem_mem _)
      have hbw : Below w.heap.size w wr := hB1.trans (hB.mono (Nat.le_succ _))
      obtain ⟨b, off, rfl, hb, q0, q1, q2, q3, q4⟩ := it_at (HR.out.below hbw) hlt hx
      have i1 : (0 : Int) ≤ (k : Int) := by omega
      have i2 : (k : Int) < (n : Int) := by omega
      have c0 := (hB.cell (p := ⟨w.heap.size, k, none⟩) (Nat.lt_succ_self _)).trans (HM.out k hlt)
      obtain ⟨bk, hbk⟩ : ∃ z, M k = z := ⟨_, rfl⟩
      rw [hbk] at c0
      have hcs := cntR_succ hkl
      rw [hx] at hcs
      have hsk : x.m = 0 → sOf l k 0 = bk := fun h => by rw [← hbk]; exact (HM2.out k hlt (by rw [hx]; exact h)).symm
      obtain ⟨N, hN⟩ : ∃ N, cntR l k = N := ⟨_, rfl⟩
      rw [hN] at hcs hc ⊢
      have HNN := Lib.hid hN
      have HXO := Lib.hid hxo
      have HX := Lib.hid hx
      clear hx hxo hN hbk hb
      by_cases hm0 : x.m = 0
      · have f0 : (x.m != 0) = false := by simp [hm0]
        have hs := hsk hm0
        rw [hs] at hcs
        rw [hm0] at q0
        cases bk with
        | false =>
          have HE : Hid (cntR l (k + 1) = N) := Lib.hid (by rw [hcs, if_neg (fun h => by cases h.2)]; rfl)
          clear hcs hs hsk
          go_wp2
          exact ⟨⟨k + 1, z, by omega, by omega, by go_num, by rw [HE.out], rfl, by rw [HE.out]; omega, hB⟩, by simp [intOf]; omega⟩
        | true =>
          have HE : Hid (cntR l (k + 1) = N + 1) := Lib.hid (by rw [hcs, if_pos ⟨hm0, rfl⟩])
          clear hcs hs hsk
          go_wp2_with fail
          refine (refOf_any x.c _ (by omega) (by have := HXO.out.1; omega)).mono ?_
          obtain ⟨KK, hKK⟩ : ∃ z, (ofF (x.c : Int)).1 = z := ⟨_, rfl⟩
          rw [hKK]
          rintro e w3 ⟨rfl, hB4⟩
          have hB3 : Below (w.heap.size + 1) w1 w3 := hB.trans (hB4.mono (by have := hB.size; omega))
          clear hKK
          by_cases h25 : KK ≥ 25
          · go_wp2
            exact ⟨⟨k + 1, z + 1, by omega, by omega, by go_num, by rw [HE.out]; go_num, by go_num, by rw [HE.out]; omega, hB3⟩, by simp [intOf]; omega⟩
          · go_wp2
            exact ⟨⟨k + 1, z, by omega, by omega, by go_num, by rw [HE.out]; go_num, rfl, by rw [HE.out]; omega, hB3⟩, by simp [intOf]; omega⟩
      · have f0 : (x.m != 0) = true := by simp [hm0]
        have HE : Hid (cntR l (k + 1) = N) := Lib.hid (by rw [hcs, if_neg (fun h => hm0 h.1)]; rfl)
        clear hcs hsk
        cases bk with
        | false =>
          go_wp2
          exact ⟨⟨k + 1, z, by omega, by omega, by go_num, by rw [HE.out], rfl, by rw [HE.out]; omega, hB⟩, by simp [intOf]; omega⟩
        | true =>
          go_wp2
          exact ⟨⟨k + 1, z, by omega, by omega, by go_num, by rw [HE.out], rfl, by rw [HE.out]; omega, hB⟩, by simp [intOf]; omega⟩
    · obtain rfl : n = k := by omega
      have i2 : ¬ (n : Int) < (n : Int) := by omega
      go_wp2
      go_ret2
      exact ⟨⟨z, rfl⟩, hB1.trans (hB.mono (Nat.le_succ _))⟩
end Go.Proofs.Ytlghbkkjpjhelaa
