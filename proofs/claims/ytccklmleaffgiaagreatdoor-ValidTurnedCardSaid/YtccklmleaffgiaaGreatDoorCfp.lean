/-
  Layer 15: beside (a condition's value beside its mask), IndexFunc and ContainsFunc by it.
-/
import Derived.Test.YtccklmleaffgiaaGreatDoorCep
import Derived.Laws.BitsAllLaws
namespace Go.Proofs.YtccklmleaffgiaaGreatDoor
open Go.RowKit Go.Shelf Go.Lib Go.Sort
set_option linter.unusedVariables false

/-- Has a condition's value bits beside its mask? -/
def besF (c : CD) : Bool := (c.o == 7) && ((c.v &&& (18446744073709551615 - c.m) : Nat) != 0)
set_option maxRecDepth 100000 in
set_option maxHeartbeats 2000000 in
theorem beside_any (c : CD) (w : World) (hm : c.m ≤ 18446744073709551615) (hv : c.v ≤ 18446744073709551615) : Calls Tryz.prog 48 #[.agg #[.int .i64 c.a, .int .i64 c.o, .int .u64 c.m, .int .u64 c.v]] w fun e w' => e = .returned (.bool (besF c)) ∧ Below w.heap.size w w' := by
  have hB : Below w.heap.size w (w.alloc (.cells #[.int .i64 c.a, .int .i64 c.o, .int .u64 c.m, .int .u64 c.v] 53)) := (Below.refl _ _).alloc (Nat.le_refl _) _
  have hbits := u64_andNot_nat c.v c.m (by omega) (by omega)
  have HB := Lib.hid hB
  have hbe : besF c = ((c.o == 7) && ((c.v &&& (18446744073709551615 - c.m) : Nat) != 0)) := rfl
  generalize c.v &&& (18446744073709551615 - c.m) = z at hbits hbe
  rw [hbe]
  clear hB hbe
  cases h7 : (c.o == 7)
  · go_enter Tryz.func48, Tryz.ntmps48
    go_wp2
    go_ret
    exact ⟨rfl, HB.out⟩
  · have hz : (((z : Nat) : Int) != 0) = (z != 0) := by
      cases z with
      | zero => rfl
      | succ n => simp; omega
    go_enter Tryz.func48, Tryz.ntmps48
    go_wp2
    go_ret
    exact ⟨rfl, HB.out⟩
set_option maxRecDepth 100000 in
set_option maxHeartbeats 4000000 in
theorem indexB_any (A : Option Addr) (n cap : Nat) (C : Nat → CD) (w : World) (hn : n ≤ 1000) (hC : ConA w A n C) :
    Calls Tryz.prog 73 #[.slice A n cap, .func (.func 48) #[] #[]] w fun e w' =>
      (∃ z : Int, e = .returned (.int .i64 z) ∧ (decide (z ≥ 0) = ((List.range n).map C).any besF)) ∧ Below w.heap.size w w' := by
  have HC := Lib.hid hC
  clear hC
  go_enter Tryz.func73, Tryz.ntmps73
  go_wp2
  go_loopw [8] (fun i wr => ∃ k : Nat, k ≤ n ∧ i = .int .i64 k ∧ Below w.heap.size w wr ∧ Hid (∀ j, j < k → besF (C j) = false))
    (fun i _ => n - (intOf i).toNat)
  case atStart => exact ⟨0, Nat.zero_le _, rfl, Below.refl _ _, Lib.hid fun j hj => by omega⟩
  case round =>
    obtain ⟨k, hk, rfl, hB, hno⟩ := hrel
    have HB := Lib.hid hB
    by_cases hlt : k < n
    · rcases HC.out.below hB (Nat.le_refl _) with h0 | ⟨b, o, rfl, hbl, hcs⟩
      · omega
      obtain ⟨q0, q1, q2, q3, hbm, hbv⟩ := hcs k hlt
      rw [Nat.add_zero] at q0
      obtain ⟨x, hx⟩ : ∃ x, C k = x := ⟨_, rfl⟩
      have HX := Lib.hid hx
      rw [hx] at q0 q1 q2 q3 hbm hbv
      have KB := Lib.hid (beside_any x wr hbm hbv)
      have i1 : (0 : Int) ≤ (k : Int) := by omega
      have i2 : (k : Int) < (n : Int) := by omega
      clear hcs hx hB hbm hbv
      go_wp2_with (go_at_call 48; refine KB.out.mono ?_; rintro e w2 ⟨rfl, hB2⟩; cases hbes : besF x)
      · have HB2 : Hid (Below w.heap.size w w2) := Lib.hid (HB.out.trans (hB2.mono HB.out.size))
        exact ⟨⟨k + 1, by omega, by go_num, HB2.out, Lib.hid fun j hj => by
          by_cases e : j = k
          · subst e; rw [HX.out]; exact hbes
          · exact hno.out j (by omega)⟩, by simp [intOf]; omega⟩
      · have HB2 : Hid (Below w.heap.size w w2) := Lib.hid (HB.out.trans (hB2.mono HB.out.size))
        go_ret
        refine ⟨⟨(k : Int), rfl, ?_⟩, HB2.out⟩
        rw [show ((List.range n).map C).any besF = true from List.any_eq_true.2 ⟨x, List.mem_map.2 ⟨k, List.mem_range.2 hlt, HX.out⟩, hbes⟩]
        simp
    · obtain rfl : k = n := by omega
      clear hB
      go_wp2
      go_ret
      refine ⟨⟨-1, rfl, ?_⟩, HB.out⟩
      have : ((List.range k).map C).any besF = false := by
        rw [List.any_eq_false]
        intro y hy
        obtain ⟨j, hj, rfl⟩ := List.mem_map.1 hy
        rw [hno.out j (List.mem_range.1 hj)]
        simp
      rw [this]; decide
set_option maxRecDepth 100000 in
theorem containsB_any (A : Option Addr) (n cap : Nat) (C : Nat → CD) (w : World) (hn : n ≤ 1000) (hC : ConA w A n C) :
    Calls Tryz.prog 47 #[.slice A n cap, .func (.func 48) #[] #[]] w fun e w' =>
      e = .returned (.bool (((List.range n).map C).any besF)) ∧ Below w.heap.size w w' := by
  have hI := indexB_any A n cap C w hn hC
  generalize ((List.range n).map C).any besF = q at hI ⊢
  have HI := Lib.hid hI
  clear hC hI
  go_enter Tryz.func47, Tryz.ntmps47
  go_wp2_with (go_at_call 73; refine HI.out.mono ?_; rintro e w1 ⟨⟨z, rfl, hz⟩, hB⟩)
  go_ret
  exact ⟨by first | rfl | (rw [← hz]; rfl), hB⟩
/-- The second demand: no condition's value lies beside its mask. -/
theorem demB_any (nm : ByteArray) (k u : Int) (A : Option Addr) (n c : Nat) (C : Nat → CD) (w : World) (hn : n ≤ 1000) (hC : ConA w A n C) :
    Calls Tryz.prog 46 #[.agg #[.string nm, .int .i64 k, .int .i64 u, .slice A n c]] w fun e w' => e = .returned (.bool (!((List.range n).map C).any besF)) ∧ Below w.heap.size w w' := by
  have hb0 : Below w.heap.size w (w.alloc (.cells #[.string nm, .int .i64 k, .int .i64 u, .slice A n c] 50)) := (Below.refl _ _).alloc (Nat.le_refl _) _
  have hI := containsB_any A n c C _ hn (hC.below hb0 (Nat.le_refl _))
  generalize ((List.range n).map C).any besF = q at hI ⊢
  have HI := Lib.hid hI
  clear hI
  have HB := Lib.hid hb0
  clear hC hb0
  go_enter Tryz.func46, Tryz.ntmps46
  go_wp2_with (go_at_call 47; refine HI.out.mono ?_; rintro e w1 ⟨rfl, hB⟩)
  go_ret
  exact ⟨rfl, HB.out.trans (hB.mono HB.out.size)⟩
end Go.Proofs.YtccklmleaffgiaaGreatDoor
