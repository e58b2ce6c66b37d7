/-
  The law CondGrows holds for every input: what is below one value is below each greater one, and what is at least one is at least each smaller one. No condition.
-/
import Derived.Test.YtplnaejbfanioaaDoorRows
import Derived.Test.YtplnaejbfanioaaDoorCards
import Derived.Test.YtplnaejbfanioaaDoorTie
import Derived.Test.YtplnaejbfanioaaDoorGk
import Derived.Test.YtplnaejbfanioaaDoorGl
import Derived.WalkKit
import Derived.ProofKit
import Derived.OpenShut
import Derived.ShutString
import Derived.ChangeOld
import Derived.Below
import Derived.Lib.SmallJoins
import Derived.SevenTiedAt
import Derived.LaidMore
import Derived.Stop.Joined
import Derived.Deep.Cut
import Derived.Deep.CutRange
namespace Go.Proofs.YtplnaejbfanioaaDoor
open Go.RowKit
set_option linter.unusedVariables false

theorem holds0 (j : Nat) (hj : j < 6) (x : Nat) (f : Nat → Nat) (hf : ∀ i, i < 6 → f i < 18446744073709551616) (r : Bool) (hr : hoF j (f 0) 0 x = r) (w : World) :
    Calls Tryd.prog 17 #[.agg #[.int .i64 0, .int .i64 ((j : Int) + 1), .int .u64 0, .int .u64 x], .agg (argsA f)] w fun e w' => e = .returned (.bool r) ∧ Below w.heap.size w w' := by
  have := holds_ok 0 (by omega) ((j : Int) + 1) 0 x j ⟨by omega, by omega, by omega, rfl, by simp⟩ f hf (by omega) w
  rw [hr] at this
  exact this

set_option maxRecDepth 100000 in
set_option maxHeartbeats 8000000 in
theorem grows_a {w0 : World} (v w : Nat) (f : Nat → Nat) (hf : ∀ i, i < 6 → f i < 18446744073709551616) (ht : TabP w0) (hvw : w < v) :
    Calls Tryd.prog 8 #[.int .u64 v, .int .u64 w, .agg (argsA f)] w0 fun e w' => e = .returned (.bool true) ∧ Below w0.heap.size w0 w' := by
  have q0 : decide ((v : Int) > (w : Int)) = true := by simp; omega
  have q1 : (w : Int) < (v : Int) := by omega
  have A0 : RowC (w0.alloc (.cells (argsA f) 37)) w0.heap.size (argsA f) 37 := RowC.new _ _ _ _ rfl
  have hb : Below w0.heap.size w0 (w0.alloc (.cells (argsA f) 37)) := (Below.refl _ _).alloc (Nat.le_refl _) _
  have HB := Lib.hid hb
  have HT := Lib.hid ht
  clear hb ht
  go_enter Tryd.func8, Tryd.ntmps8
  go_wp2_with fail
  go_loopw [7] (fun i wr => ∃ k : Nat, 3 ≤ k ∧ k ≤ 5 ∧ i = .int .i64 k ∧ RowC wr w0.heap.size (argsA f) 37 ∧ Below w0.heap.size w0 wr)
    (fun i _ => 5 - (intOf i).toNat)
  case atStart => exact ⟨3, by omega, by omega, rfl, A0, HB.out⟩
  case round =>
    obtain ⟨k, hk3, hk5, rfl, ra, hb⟩ := hrel
    have b := Lib.hid hb
    clear hb
    have c_0 := ra.cell 0 (.int .u64 (f 0)) rfl
    have c_1 := ra.cell 1 (.int .u64 (f 1)) rfl
    have c_2 := ra.cell 2 (.int .u64 (f 2)) rfl
    have c_3 := ra.cell 3 (.int .u64 (f 3)) rfl
    have c_4 := ra.cell 4 (.int .u64 (f 4)) rfl
    have c_5 := ra.cell 5 (.int .u64 (f 5)) rfl
    have hk : k = 3 ∨ k = 4 ∨ k = 5 := by omega
    rcases hk with rfl | rfl | rfl
    · by_cases p : f 0 < w
      · by_cases q : v < f 0
        · have h1 : ∀ X, Calls Tryd.prog 17 #[.agg #[.int .i64 0, .int .i64 3, .int .u64 0, .int .u64 w], .agg (argsA f)] X fun e w' => e = .returned (.bool true) ∧ Below X.heap.size X w' := fun X => holds0 2 (by omega) w f hf true (by show decide (f 0 < w) = true; simp; omega) X
          have h2 : ∀ X, Calls Tryd.prog 17 #[.agg #[.int .i64 0, .int .i64 3, .int .u64 0, .int .u64 v], .agg (argsA f)] X fun e w' => e = .returned (.bool true) ∧ Below X.heap.size X w' := fun X => holds0 2 (by omega) v f hf true (by show decide (f 0 < v) = true; simp; omega) X
          have h3 : ∀ X, Calls Tryd.prog 17 #[.agg #[.int .i64 0, .int .i64 5, .int .u64 0, .int .u64 v], .agg (argsA f)] X fun e w' => e = .returned (.bool true) ∧ Below X.heap.size X w' := fun X => holds0 4 (by omega) v f hf true (by show decide (v < f 0) = true; simp; omega) X
          have h4 : ∀ X, Calls Tryd.prog 17 #[.agg #[.int .i64 0, .int .i64 5, .int .u64 0, .int .u64 w], .agg (argsA f)] X fun e w' => e = .returned (.bool true) ∧ Below X.heap.size X w' := fun X => holds0 4 (by omega) w f hf true (by show decide (w < f 0) = true; simp; omega) X
          clear p q
          go_wp2_with fail
          refine (h1 _).mono ?_
          rintro e w1 ⟨rfl, hB1⟩
          have ra1 := ra.below hB1 ra.lt
          have b1 := Lib.hid (b.out.trans (hB1.mono b.out.size))
          clear hB1
          have c1_0 := ra1.cell 0 (.int .u64 (f 0)) rfl
          have c1_1 := ra1.cell 1 (.int .u64 (f 1)) rfl
          have c1_2 := ra1.cell 2 (.int .u64 (f 2)) rfl
          have c1_3 := ra1.cell 3 (.int .u64 (f 3)) rfl
          have c1_4 := ra1.cell 4 (.int .u64 (f 4)) rfl
          have c1_5 := ra1.cell 5 (.int .u64 (f 5)) rfl
          go_wp2_with fail
          refine (h2 _).mono ?_
          rintro e w2 ⟨rfl, hB2⟩
          have ra2 := ra1.below hB2 ra1.lt
          have b2 := Lib.hid (b1.out.trans (hB2.mono b1.out.size))
          clear hB2
          have c2_0 := ra2.cell 0 (.int .u64 (f 0)) rfl
          have c2_1 := ra2.cell 1 (.int .u64 (f 1)) rfl
          have c2_2 := ra2.cell 2 (.int .u64 (f 2)) rfl
          have c2_3 := ra2.cell 3 (.int .u64 (f 3)) rfl
          have c2_4 := ra2.cell 4 (.int .u64 (f 4)) rfl
          have c2_5 := ra2.cell 5 (.int .u64 (f 5)) rfl
          go_wp2_with fail
          refine (h3 _).mono ?_
          rintro e w3 ⟨rfl, hB3⟩
          have ra3 := ra2.below hB3 ra2.lt
          have b3 := Lib.hid (b2.out.trans (hB3.mono b2.out.size))
          clear hB3
          have c3_0 := ra3.cell 0 (.int .u64 (f 0)) rfl
          have c3_1 := ra3.cell 1 (.int .u64 (f 1)) rfl
          have c3_2 := ra3.cell 2 (.int .u64 (f 2)) rfl
          have c3_3 := ra3.cell 3 (.int .u64 (f 3)) rfl
          have c3_4 := ra3.cell 4 (.int .u64 (f 4)) rfl
          have c3_5 := ra3.cell 5 (.int .u64 (f 5)) rfl
          go_wp2_with fail
          refine (h4 _).mono ?_
          rintro e w4 ⟨rfl, hB4⟩
          have ra4 := ra3.below hB4 ra3.lt
          have b4 := Lib.hid (b3.out.trans (hB4.mono b3.out.size))
          clear hB4
          have c4_0 := ra4.cell 0 (.int .u64 (f 0)) rfl
          have c4_1 := ra4.cell 1 (.int .u64 (f 1)) rfl
          have c4_2 := ra4.cell 2 (.int .u64 (f 2)) rfl
          have c4_3 := ra4.cell 3 (.int .u64 (f 3)) rfl
          have c4_4 := ra4.cell 4 (.int .u64 (f 4)) rfl
          have c4_5 := ra4.cell 5 (.int .u64 (f 5)) rfl
          go_wp2
          exact ⟨⟨4, by omega, by omega, by go_num, ra4, b4.out⟩, by simp [intOf]⟩
        · have h1 : ∀ X, Calls Tryd.prog 17 #[.agg #[.int .i64 0, .int .i64 3, .int .u64 0, .int .u64 w], .agg (argsA f)] X fun e w' => e = .returned (.bool true) ∧ Below X.heap.size X w' := fun X => holds0 2 (by omega) w f hf true (by show decide (f 0 < w) = true; simp; omega) X
          have h2 : ∀ X, Calls Tryd.prog 17 #[.agg #[.int .i64 0, .int .i64 3, .int .u64 0, .int .u64 v], .agg (argsA f)] X fun e w' => e = .returned (.bool true) ∧ Below X.heap.size X w' := fun X => holds0 2 (by omega) v f hf true (by show decide (f 0 < v) = true; simp; omega) X
          have h3 : ∀ X, Calls Tryd.prog 17 #[.agg #[.int .i64 0, .int .i64 5, .int .u64 0, .int .u64 v], .agg (argsA f)] X fun e w' => e = .returned (.bool false) ∧ Below X.heap.size X w' := fun X => holds0 4 (by omega) v f hf false (by show decide (v < f 0) = false; simp; omega) X
          clear p q
          go_wp2_with fail
          refine (h1 _).mono ?_
          rintro e w1 ⟨rfl, hB1⟩
          have ra1 := ra.below hB1 ra.lt
          have b1 := Lib.hid (b.out.trans (hB1.mono b.out.size))
          clear hB1
          have c1_0 := ra1.cell 0 (.int .u64 (f 0)) rfl
          have c1_1 := ra1.cell 1 (.int .u64 (f 1)) rfl
          have c1_2 := ra1.cell 2 (.int .u64 (f 2)) rfl
          have c1_3 := ra1.cell 3 (.int .u64 (f 3)) rfl
          have c1_4 := ra1.cell 4 (.int .u64 (f 4)) rfl
          have c1_5 := ra1.cell 5 (.int .u64 (f 5)) rfl
          go_wp2_with fail
          refine (h2 _).mono ?_
          rintro e w2 ⟨rfl, hB2⟩
          have ra2 := ra1.below hB2 ra1.lt
          have b2 := Lib.hid (b1.out.trans (hB2.mono b1.out.size))
          clear hB2
          have c2_0 := ra2.cell 0 (.int .u64 (f 0)) rfl
          have c2_1 := ra2.cell 1 (.int .u64 (f 1)) rfl
          have c2_2 := ra2.cell 2 (.int .u64 (f 2)) rfl
          have c2_3 := ra2.cell 3 (.int .u64 (f 3)) rfl
          have c2_4 := ra2.cell 4 (.int .u64 (f 4)) rfl
          have c2_5 := ra2.cell 5 (.int .u64 (f 5)) rfl
          go_wp2_with fail
          refine (h3 _).mono ?_
          rintro e w3 ⟨rfl, hB3⟩
          have ra3 := ra2.below hB3 ra2.lt
          have b3 := Lib.hid (b2.out.trans (hB3.mono b2.out.size))
          clear hB3
          have c3_0 := ra3.cell 0 (.int .u64 (f 0)) rfl
          have c3_1 := ra3.cell 1 (.int .u64 (f 1)) rfl
          have c3_2 := ra3.cell 2 (.int .u64 (f 2)) rfl
          have c3_3 := ra3.cell 3 (.int .u64 (f 3)) rfl
          have c3_4 := ra3.cell 4 (.int .u64 (f 4)) rfl
          have c3_5 := ra3.cell 5 (.int .u64 (f 5)) rfl
          go_wp2
          exact ⟨⟨4, by omega, by omega, by go_num, ra3, b3.out⟩, by simp [intOf]⟩
      · by_cases q : v < f 0
        · have h1 : ∀ X, Calls Tryd.prog 17 #[.agg #[.int .i64 0, .int .i64 3, .int .u64 0, .int .u64 w], .agg (argsA f)] X fun e w' => e = .returned (.bool false) ∧ Below X.heap.size X w' := fun X => holds0 2 (by omega) w f hf false (by show decide (f 0 < w) = false; simp; omega) X
          have h3 : ∀ X, Calls Tryd.prog 17 #[.agg #[.int .i64 0, .int .i64 5, .int .u64 0, .int .u64 v], .agg (argsA f)] X fun e w' => e = .returned (.bool true) ∧ Below X.heap.size X w' := fun X => holds0 4 (by omega) v f hf true (by show decide (v < f 0) = true; simp; omega) X
          have h4 : ∀ X, Calls Tryd.prog 17 #[.agg #[.int .i64 0, .int .i64 5, .int .u64 0, .int .u64 w], .agg (argsA f)] X fun e w' => e = .returned (.bool true) ∧ Below X.heap.size X w' := fun X => holds0 4 (by omega) w f hf true (by show decide (w < f 0) = true; simp; omega) X
          clear p q
          go_wp2_with fail
          refine (h1 _).mono ?_
          rintro e w1 ⟨rfl, hB1⟩
          have ra1 := ra.below hB1 ra.lt
          have b1 := Lib.hid (b.out.trans (hB1.mono b.out.size))
          clear hB1
          have c1_0 := ra1.cell 0 (.int .u64 (f 0)) rfl
          have c1_1 := ra1.cell 1 (.int .u64 (f 1)) rfl
          have c1_2 := ra1.cell 2 (.int .u64 (f 2)) rfl
          have c1_3 := ra1.cell 3 (.int .u64 (f 3)) rfl
          have c1_4 := ra1.cell 4 (.int .u64 (f 4)) rfl
          have c1_5 := ra1.cell 5 (.int .u64 (f 5)) rfl
          go_wp2_with fail
          refine (h3 _).mono ?_
          rintro e w2 ⟨rfl, hB2⟩
          have ra2 := ra1.below hB2 ra1.lt
          have b2 := Lib.hid (b1.out.trans (hB2.mono b1.out.size))
          clear hB2
          have c2_0 := ra2.cell 0 (.int .u64 (f 0)) rfl
          have c2_1 := ra2.cell 1 (.int .u64 (f 1)) rfl
          have c2_2 := ra2.cell 2 (.int .u64 (f 2)) rfl
          have c2_3 := ra2.cell 3 (.int .u64 (f 3)) rfl
          have c2_4 := ra2.cell 4 (.int .u64 (f 4)) rfl
          have c2_5 := ra2.cell 5 (.int .u64 (f 5)) rfl
          go_wp2_with fail
          refine (h4 _).mono ?_
          rintro e w3 ⟨rfl, hB3⟩
          have ra3 := ra2.below hB3 ra2.lt
          have b3 := Lib.hid (b2.out.trans (hB3.mono b2.out.size))
          clear hB3
          have c3_0 := ra3.cell 0 (.int .u64 (f 0)) rfl
          have c3_1 := ra3.cell 1 (.int .u64 (f 1)) rfl
          have c3_2 := ra3.cell 2 (.int .u64 (f 2)) rfl
          have c3_3 := ra3.cell 3 (.int .u64 (f 3)) rfl
          have c3_4 := ra3.cell 4 (.int .u64 (f 4)) rfl
          have c3_5 := ra3.cell 5 (.int .u64 (f 5)) rfl
          go_wp2
          exact ⟨⟨4, by omega, by omega, by go_num, ra3, b3.out⟩, by simp [intOf]⟩
        · have h1 : ∀ X, Calls Tryd.prog 17 #[.agg #[.int .i64 0, .int .i64 3, .int .u64 0, .int .u64 w], .agg (argsA f)] X fun e w' => e = .returned (.bool false) ∧ Below X.heap.size X w' := fun X => holds0 2 (by omega) w f hf false (by show decide (f 0 < w) = false; simp; omega) X
          have h3 : ∀ X, Calls Tryd.prog 17 #[.agg #[.int .i64 0, .int .i64 5, .int .u64 0, .int .u64 v], .agg (argsA f)] X fun e w' => e = .returned (.bool false) ∧ Below X.heap.size X w' := fun X => holds0 4 (by omega) v f hf false (by show decide (v < f 0) = false; simp; omega) X
          clear p q
          go_wp2_with fail
          refine (h1 _).mono ?_
          rintro e w1 ⟨rfl, hB1⟩
          have ra1 := ra.below hB1 ra.lt
          have b1 := Lib.hid (b.out.trans (hB1.mono b.out.size))
          clear hB1
          have c1_0 := ra1.cell 0 (.int .u64 (f 0)) rfl
          have c1_1 := ra1.cell 1 (.int .u64 (f 1)) rfl
          have c1_2 := ra1.cell 2 (.int .u64 (f 2)) rfl
          have c1_3 := ra1.cell 3 (.int .u64 (f 3)) rfl
          have c1_4 := ra1.cell 4 (.int .u64 (f 4)) rfl
          have c1_5 := ra1.cell 5 (.int .u64 (f 5)) rfl
          go_wp2_with fail
          refine (h3 _).mono ?_
          rintro e w2 ⟨rfl, hB2⟩
          have ra2 := ra1.below hB2 ra1.lt
          have b2 := Lib.hid (b1.out.trans (hB2.mono b1.out.size))
          clear hB2
          have c2_0 := ra2.cell 0 (.int .u64 (f 0)) rfl
          have c2_1 := ra2.cell 1 (.int .u64 (f 1)) rfl
          have c2_2 := ra2.cell 2 (.int .u64 (f 2)) rfl
          have c2_3 := ra2.cell 3 (.int .u64 (f 3)) rfl
          have c2_4 := ra2.cell 4 (.int .u64 (f 4)) rfl
          have c2_5 := ra2.cell 5 (.int .u64 (f 5)) rfl
          go_wp2
          exact ⟨⟨4, by omega, by omega, by go_num, ra2, b2.out⟩, by simp [intOf]⟩
    · by_cases p : f 0 ≤ w
      · by_cases q : v ≤ f 0
        · have h1 : ∀ X, Calls Tryd.prog 17 #[.agg #[.int .i64 0, .int .i64 4, .int .u64 0, .int .u64 w], .agg (argsA f)] X fun e w' => e = .returned (.bool true) ∧ Below X.heap.size X w' := fun X => holds0 3 (by omega) w f hf true (by show decide (f 0 ≤ w) = true; simp; omega) X
          have h2 : ∀ X, Calls Tryd.prog 17 #[.agg #[.int .i64 0, .int .i64 4, .int .u64 0, .int .u64 v], .agg (argsA f)] X fun e w' => e = .returned (.bool true) ∧ Below X.heap.size X w' := fun X => holds0 3 (by omega) v f hf true (by show decide (f 0 ≤ v) = true; simp; omega) X
          have h3 : ∀ X, Calls Tryd.prog 17 #[.agg #[.int .i64 0, .int .i64 6, .int .u64 0, .int .u64 v], .agg (argsA f)] X fun e w' => e = .returned (.bool true) ∧ Below X.heap.size X w' := fun X => holds0 5 (by omega) v f hf true (by show decide (v ≤ f 0) = true; simp; omega) X
          have h4 : ∀ X, Calls Tryd.prog 17 #[.agg #[.int .i64 0, .int .i64 6, .int .u64 0, .int .u64 w], .agg (argsA f)] X fun e w' => e = .returned (.bool true) ∧ Below X.heap.size X w' := fun X => holds0 5 (by omega) w f hf true (by show decide (w ≤ f 0) = true; simp; omega) X
          clear p q
          go_wp2_with fail
          refine (h1 _).mono ?_
          rintro e w1 ⟨rfl, hB1⟩
          have ra1 := ra.below hB1 ra.lt
          have b1 := Lib.hid (b.out.trans (hB1.mono b.out.size))
          clear hB1
          have c1_0 := ra1.cell 0 (.int .u64 (f 0)) rfl
          have c1_1 := ra1.cell 1 (.int .u64 (f 1)) rfl
          have c1_2 := ra1.cell 2 (.int .u64 (f 2)) rfl
          have c1_3 := ra1.cell 3 (.int .u64 (f 3)) rfl
          have c1_4 := ra1.cell 4 (.int .u64 (f 4)) rfl
          have c1_5 := ra1.cell 5 (.int .u64 (f 5)) rfl
          go_wp2_with fail
          refine (h2 _).mono ?_
          rintro e w2 ⟨rfl, hB2⟩
          have ra2 := ra1.below hB2 ra1.lt
          have b2 := Lib.hid (b1.out.trans (hB2.mono b1.out.size))
          clear hB2
          have c2_0 := ra2.cell 0 (.int .u64 (f 0)) rfl
          have c2_1 := ra2.cell 1 (.int .u64 (f 1)) rfl
          have c2_2 := ra2.cell 2 (.int .u64 (f 2)) rfl
          have c2_3 := ra2.cell 3 (.int .u64 (f 3)) rfl
          have c2_4 := ra2.cell 4 (.int .u64 (f 4)) rfl
          have c2_5 := ra2.cell 5 (.int .u64 (f 5)) rfl
          go_wp2_with fail
          refine (h3 _).mono ?_
          rintro e w3 ⟨rfl, hB3⟩
          have ra3 := ra2.below hB3 ra2.lt
          have b3 := Lib.hid (b2.out.trans (hB3.mono b2.out.size))
          clear hB3
          have c3_0 := ra3.cell 0 (.int .u64 (f 0)) rfl
          have c3_1 := ra3.cell 1 (.int .u64 (f 1)) rfl
          have c3_2 := ra3.cell 2 (.int .u64 (f 2)) rfl
          have c3_3 := ra3.cell 3 (.int .u64 (f 3)) rfl
          have c3_4 := ra3.cell 4 (.int .u64 (f 4)) rfl
          have c3_5 := ra3.cell 5 (.int .u64 (f 5)) rfl
          go_wp2_with fail
          refine (h4 _).mono ?_
          rintro e w4 ⟨rfl, hB4⟩
          have ra4 := ra3.below hB4 ra3.lt
          have b4 := Lib.hid (b3.out.trans (hB4.mono b3.out.size))
          clear hB4
          have c4_0 := ra4.cell 0 (.int .u64 (f 0)) rfl
          have c4_1 := ra4.cell 1 (.int .u64 (f 1)) rfl
          have c4_2 := ra4.cell 2 (.int .u64 (f 2)) rfl
          have c4_3 := ra4.cell 3 (.int .u64 (f 3)) rfl
          have c4_4 := ra4.cell 4 (.int .u64 (f 4)) rfl
          have c4_5 := ra4.cell 5 (.int .u64 (f 5)) rfl
          go_wp2
          exact ⟨⟨5, by omega, by omega, by go_num, ra4, b4.out⟩, by simp [intOf]⟩
        · have h1 : ∀ X, Calls Tryd.prog 17 #[.agg #[.int .i64 0, .int .i64 4, .int .u64 0, .int .u64 w], .agg (argsA f)] X fun e w' => e = .returned (.bool true) ∧ Below X.heap.size X w' := fun X => holds0 3 (by omega) w f hf true (by show decide (f 0 ≤ w) = true; simp; omega) X
          have h2 : ∀ X, Calls Tryd.prog 17 #[.agg #[.int .i64 0, .int .i64 4, .int .u64 0, .int .u64 v], .agg (argsA f)] X fun e w' => e = .returned (.bool true) ∧ Below X.heap.size X w' := fun X => holds0 3 (by omega) v f hf true (by show decide (f 0 ≤ v) = true; simp; omega) X
          have h3 : ∀ X, Calls Tryd.prog 17 #[.agg #[.int .i64 0, .int .i64 6, .int .u64 0, .int .u64 v], .agg (argsA f)] X fun e w' => e = .returned (.bool false) ∧ Below X.heap.size X w' := fun X => holds0 5 (by omega) v f hf false (by show decide (v ≤ f 0) = false; simp; omega) X
          clear p q
          go_wp2_with fail
          refine (h1 _).mono ?_
          rintro e w1 ⟨rfl, hB1⟩
          have ra1 := ra.below hB1 ra.lt
          have b1 := Lib.hid (b.out.trans (hB1.mono b.out.size))
          clear hB1
          have c1_0 := ra1.cell 0 (.int .u64 (f 0)) rfl
          have c1_1 := ra1.cell 1 (.int .u64 (f 1)) rfl
          have c1_2 := ra1.cell 2 (.int .u64 (f 2)) rfl
          have c1_3 := ra1.cell 3 (.int .u64 (f 3)) rfl
          have c1_4 := ra1.cell 4 (.int .u64 (f 4)) rfl
          have c1_5 := ra1.cell 5 (.int .u64 (f 5)) rfl
          go_wp2_with fail
          refine (h2 _).mono ?_
          rintro e w2 ⟨rfl, hB2⟩
          have ra2 := ra1.below hB2 ra1.lt
          have b2 := Lib.hid (b1.out.trans (hB2.mono b1.out.size))
          clear hB2
          have c2_0 := ra2.cell 0 (.int .u64 (f 0)) rfl
          have c2_1 := ra2.cell 1 (.int .u64 (f 1)) rfl
          have c2_2 := ra2.cell 2 (.int .u64 (f 2)) rfl
          have c2_3 := ra2.cell 3 (.int .u64 (f 3)) rfl
          have c2_4 := ra2.cell 4 (.int .u64 (f 4)) rfl
          have c2_5 := ra2.cell 5 (.int .u64 (f 5)) rfl
          go_wp2_with fail
          refine (h3 _).mono ?_
          rintro e w3 ⟨rfl, hB3⟩
          have ra3 := ra2.below hB3 ra2.lt
          have b3 := Lib.hid (b2.out.trans (hB3.mono b2.out.size))
          clear hB3
          have c3_0 := ra3.cell 0 (.int .u64 (f 0)) rfl
          have c3_1 := ra3.cell 1 (.int .u64 (f 1)) rfl
          have c3_2 := ra3.cell 2 (.int .u64 (f 2)) rfl
          have c3_3 := ra3.cell 3 (.int .u64 (f 3)) rfl
          have c3_4 := ra3.cell 4 (.int .u64 (f 4)) rfl
          have c3_5 := ra3.cell 5 (.int .u64 (f 5)) rfl
          go_wp2
          exact ⟨⟨5, by omega, by omega, by go_num, ra3, b3.out⟩, by simp [intOf]⟩
      · by_cases q : v ≤ f 0
        · have h1 : ∀ X, Calls Tryd.prog 17 #[.agg #[.int .i64 0, .int .i64 4, .int .u64 0, .int .u64 w], .agg (argsA f)] X fun e w' => e = .returned (.bool false) ∧ Below X.heap.size X w' := fun X => holds0 3 (by omega) w f hf false (by show decide (f 0 ≤ w) = false; simp; omega) X
          have h3 : ∀ X, Calls Tryd.prog 17 #[.agg #[.int .i64 0, .int .i64 6, .int .u64 0, .int .u64 v], .agg (argsA f)] X fun e w' => e = .returned (.bool true) ∧ Below X.heap.size X w' := fun X => holds0 5 (by omega) v f hf true (by show decide (v ≤ f 0) = true; simp; omega) X
          have h4 : ∀ X, Calls Tryd.prog 17 #[.agg #[.int .i64 0, .int .i64 6, .int .u64 0, .int .u64 w], .agg (argsA f)] X fun e w' => e = .returned (.bool true) ∧ Below X.heap.size X w' := fun X => holds0 5 (by omega) w f hf true (by show decide (w ≤ f 0) = true; simp; omega) X
          clear p q
          go_wp2_with fail
          refine (h1 _).mono ?_
          rintro e w1 ⟨rfl, hB1⟩
          have ra1 := ra.below hB1 ra.lt
          have b1 := Lib.hid (b.out.trans (hB1.mono b.out.size))
          clear hB1
          have c1_0 := ra1.cell 0 (.int .u64 (f 0)) rfl
          have c1_1 := ra1.cell 1 (.int .u64 (f 1)) rfl
          have c1_2 := ra1.cell 2 (.int .u64 (f 2)) rfl
          have c1_3 := ra1.cell 3 (.int .u64 (f 3)) rfl
          have c1_4 := ra1.cell 4 (.int .u64 (f 4)) rfl
          have c1_5 := ra1.cell 5 (.int .u64 (f 5)) rfl
          go_wp2_with fail
          refine (h3 _).mono ?_
          rintro e w2 ⟨rfl, hB2⟩
          have ra2 := ra1.below hB2 ra1.lt
          have b2 := Lib.hid (b1.out.trans (hB2.mono b1.out.size))
          clear hB2
          have c2_0 := ra2.cell 0 (.int .u64 (f 0)) rfl
          have c2_1 := ra2.cell 1 (.int .u64 (f 1)) rfl
          have c2_2 := ra2.cell 2 (.int .u64 (f 2)) rfl
          have c2_3 := ra2.cell 3 (.int .u64 (f 3)) rfl
          have c2_4 := ra2.cell 4 (.int .u64 (f 4)) rfl
          have c2_5 := ra2.cell 5 (.int .u64 (f 5)) rfl
          go_wp2_with fail
          refine (h4 _).mono ?_
          rintro e w3 ⟨rfl, hB3⟩
          have ra3 := ra2.below hB3 ra2.lt
          have b3 := Lib.hid (b2.out.trans (hB3.mono b2.out.size))
          clear hB3
          have c3_0 := ra3.cell 0 (.int .u64 (f 0)) rfl
          have c3_1 := ra3.cell 1 (.int .u64 (f 1)) rfl
          have c3_2 := ra3.cell 2 (.int .u64 (f 2)) rfl
          have c3_3 := ra3.cell 3 (.int .u64 (f 3)) rfl
          have c3_4 := ra3.cell 4 (.int .u64 (f 4)) rfl
          have c3_5 := ra3.cell 5 (.int .u64 (f 5)) rfl
          go_wp2
          exact ⟨⟨5, by omega, by omega, by go_num, ra3, b3.out⟩, by simp [intOf]⟩
        · have h1 : ∀ X, Calls Tryd.prog 17 #[.agg #[.int .i64 0, .int .i64 4, .int .u64 0, .int .u64 w], .agg (argsA f)] X fun e w' => e = .returned (.bool false) ∧ Below X.heap.size X w' := fun X => holds0 3 (by omega) w f hf false (by show decide (f 0 ≤ w) = false; simp; omega) X
          have h3 : ∀ X, Calls Tryd.prog 17 #[.agg #[.int .i64 0, .int .i64 6, .int .u64 0, .int .u64 v], .agg (argsA f)] X fun e w' => e = .returned (.bool false) ∧ Below X.heap.size X w' := fun X => holds0 5 (by omega) v f hf false (by show decide (v ≤ f 0) = false; simp; omega) X
          clear p q
          go_wp2_with fail
          refine (h1 _).mono ?_
          rintro e w1 ⟨rfl, hB1⟩
          have ra1 := ra.below hB1 ra.lt
          have b1 := Lib.hid (b.out.trans (hB1.mono b.out.size))
          clear hB1
          have c1_0 := ra1.cell 0 (.int .u64 (f 0)) rfl
          have c1_1 := ra1.cell 1 (.int .u64 (f 1)) rfl
          have c1_2 := ra1.cell 2 (.int .u64 (f 2)) rfl
          have c1_3 := ra1.cell 3 (.int .u64 (f 3)) rfl
          have c1_4 := ra1.cell 4 (.int .u64 (f 4)) rfl
          have c1_5 := ra1.cell 5 (.int .u64 (f 5)) rfl
          go_wp2_with fail
          refine (h3 _).mono ?_
          rintro e w2 ⟨rfl, hB2⟩
          have ra2 := ra1.below hB2 ra1.lt
          have b2 := Lib.hid (b1.out.trans (hB2.mono b1.out.size))
          clear hB2
          have c2_0 := ra2.cell 0 (.int .u64 (f 0)) rfl
          have c2_1 := ra2.cell 1 (.int .u64 (f 1)) rfl
          have c2_2 := ra2.cell 2 (.int .u64 (f 2)) rfl
          have c2_3 := ra2.cell 3 (.int .u64 (f 3)) rfl
          have c2_4 := ra2.cell 4 (.int .u64 (f 4)) rfl
          have c2_5 := ra2.cell 5 (.int .u64 (f 5)) rfl
          go_wp2
          exact ⟨⟨5, by omega, by omega, by go_num, ra2, b2.out⟩, by simp [intOf]⟩
    · have HA := Lib.hid (awake10_any wr (tab_on HT.out b.out (Nat.le_refl _)))
      go_wp2_with (go_at_call 16; refine HA.out.mono ?_; rintro e w9 ⟨rfl, hB9⟩)
      go_ret
      exact ⟨rfl, b.out.trans (hB9.mono b.out.size)⟩

set_option maxRecDepth 100000 in
set_option maxHeartbeats 8000000 in
theorem grows_b {w0 : World} (v w : Nat) (f : Nat → Nat) (hf : ∀ i, i < 6 → f i < 18446744073709551616) (ht : TabP w0) (hvw : ¬ w < v) :
    Calls Tryd.prog 8 #[.int .u64 v, .int .u64 w, .agg (argsA f)] w0 fun e w' => e = .returned (.bool true) ∧ Below w0.heap.size w0 w' := by
  have q0 : decide ((v : Int) > (w : Int)) = false := by simp; omega
  have q1 : ¬ (w : Int) < (v : Int) := by omega
  have A0 : RowC (w0.alloc (.cells (argsA f) 37)) w0.heap.size (argsA f) 37 := RowC.new _ _ _ _ rfl
  have hb : Below w0.heap.size w0 (w0.alloc (.cells (argsA f) 37)) := (Below.refl _ _).alloc (Nat.le_refl _) _
  have HB := Lib.hid hb
  have HT := Lib.hid ht
  clear hb ht
  go_enter Tryd.func8, Tryd.ntmps8
  go_wp2_with fail
  go_loopw [7] (fun i wr => ∃ k : Nat, 3 ≤ k ∧ k ≤ 5 ∧ i = .int .i64 k ∧ RowC wr w0.heap.size (argsA f) 37 ∧ Below w0.heap.size w0 wr)
    (fun i _ => 5 - (intOf i).toNat)
  case atStart => exact ⟨3, by omega, by omega, rfl, A0, HB.out⟩
  case round =>
    obtain ⟨k, hk3, hk5, rfl, ra, hb⟩ := hrel
    have b := Lib.hid hb
    clear hb
    have c_0 := ra.cell 0 (.int .u64 (f 0)) rfl
    have c_1 := ra.cell 1 (.int .u64 (f 1)) rfl
    have c_2 := ra.cell 2 (.int .u64 (f 2)) rfl
    have c_3 := ra.cell 3 (.int .u64 (f 3)) rfl
    have c_4 := ra.cell 4 (.int .u64 (f 4)) rfl
    have c_5 := ra.cell 5 (.int .u64 (f 5)) rfl
    have hk : k = 3 ∨ k = 4 ∨ k = 5 := by omega
    rcases hk with rfl | rfl | rfl
    · by_cases p : f 0 < v
      · by_cases q : w < f 0
        · have h1 : ∀ X, Calls Tryd.prog 17 #[.agg #[.int .i64 0, .int .i64 3, .int .u64 0, .int .u64 v], .agg (argsA f)] X fun e w' => e = .returned (.bool true) ∧ Below X.heap.size X w' := fun X => holds0 2 (by omega) v f hf true (by show decide (f 0 < v) = true; simp; omega) X
          have h2 : ∀ X, Calls Tryd.prog 17 #[.agg #[.int .i64 0, .int .i64 3, .int .u64 0, .int .u64 w], .agg (argsA f)] X fun e w' => e = .returned (.bool true) ∧ Below X.heap.size X w' := fun X => holds0 2 (by omega) w f hf true (by show decide (f 0 < w) = true; simp; omega) X
          have h3 : ∀ X, Calls Tryd.prog 17 #[.agg #[.int .i64 0, .int .i64 5, .int .u64 0, .int .u64 w], .agg (argsA f)] X fun e w' => e = .returned (.bool true) ∧ Below X.heap.size X w' := fun X => holds0 4 (by omega) w f hf true (by show decide (w < f 0) = true; simp; omega) X
          have h4 : ∀ X, Calls Tryd.prog 17 #[.agg #[.int .i64 0, .int .i64 5, .int .u64 0, .int .u64 v], .agg (argsA f)] X fun e w' => e = .returned (.bool true) ∧ Below X.heap.size X w' := fun X => holds0 4 (by omega) v f hf true (by show decide (v < f 0) = true; simp; omega) X
          clear p q
          go_wp2_with fail
          refine (h1 _).mono ?_
          rintro e w1 ⟨rfl, hB1⟩
          have ra1 := ra.below hB1 ra.lt
          have b1 := Lib.hid (b.out.trans (hB1.mono b.out.size))
          clear hB1
          have c1_0 := ra1.cell 0 (.int .u64 (f 0)) rfl
          have c1_1 := ra1.cell 1 (.int .u64 (f 1)) rfl
          have c1_2 := ra1.cell 2 (.int .u64 (f 2)) rfl
          have c1_3 := ra1.cell 3 (.int .u64 (f 3)) rfl
          have c1_4 := ra1.cell 4 (.int .u64 (f 4)) rfl
          have c1_5 := ra1.cell 5 (.int .u64 (f 5)) rfl
          go_wp2_with fail
          refine (h2 _).mono ?_
          rintro e w2 ⟨rfl, hB2⟩
          have ra2 := ra1.below hB2 ra1.lt
          have b2 := Lib.hid (b1.out.trans (hB2.mono b1.out.size))
          clear hB2
          have c2_0 := ra2.cell 0 (.int .u64 (f 0)) rfl
          have c2_1 := ra2.cell 1 (.int .u64 (f 1)) rfl
          have c2_2 := ra2.cell 2 (.int .u64 (f 2)) rfl
          have c2_3 := ra2.cell 3 (.int .u64 (f 3)) rfl
          have c2_4 := ra2.cell 4 (.int .u64 (f 4)) rfl
          have c2_5 := ra2.cell 5 (.int .u64 (f 5)) rfl
          go_wp2_with fail
          refine (h3 _).mono ?_
          rintro e w3 ⟨rfl, hB3⟩
          have ra3 := ra2.below hB3 ra2.lt
          have b3 := Lib.hid (b2.out.trans (hB3.mono b2.out.size))
          clear hB3
          have c3_0 := ra3.cell 0 (.int .u64 (f 0)) rfl
          have c3_1 := ra3.cell 1 (.int .u64 (f 1)) rfl
          have c3_2 := ra3.cell 2 (.int .u64 (f 2)) rfl
          have c3_3 := ra3.cell 3 (.int .u64 (f 3)) rfl
          have c3_4 := ra3.cell 4 (.int .u64 (f 4)) rfl
          have c3_5 := ra3.cell 5 (.int .u64 (f 5)) rfl
          go_wp2_with fail
          refine (h4 _).mono ?_
          rintro e w4 ⟨rfl, hB4⟩
          have ra4 := ra3.below hB4 ra3.lt
          have b4 := Lib.hid (b3.out.trans (hB4.mono b3.out.size))
          clear hB4
          have c4_0 := ra4.cell 0 (.int .u64 (f 0)) rfl
          have c4_1 := ra4.cell 1 (.int .u64 (f 1)) rfl
          have c4_2 := ra4.cell 2 (.int .u64 (f 2)) rfl
          have c4_3 := ra4.cell 3 (.int .u64 (f 3)) rfl
          have c4_4 := ra4.cell 4 (.int .u64 (f 4)) rfl
          have c4_5 := ra4.cell 5 (.int .u64 (f 5)) rfl
          go_wp2
          exact ⟨⟨4, by omega, by omega, by go_num, ra4, b4.out⟩, by simp [intOf]⟩
        · have h1 : ∀ X, Calls Tryd.prog 17 #[.agg #[.int .i64 0, .int .i64 3, .int .u64 0, .int .u64 v], .agg (argsA f)] X fun e w' => e = .returned (.bool true) ∧ Below X.heap.size X w' := fun X => holds0 2 (by omega) v f hf true (by show decide (f 0 < v) = true; simp; omega) X
          have h2 : ∀ X, Calls Tryd.prog 17 #[.agg #[.int .i64 0, .int .i64 3, .int .u64 0, .int .u64 w], .agg (argsA f)] X fun e w' => e = .returned (.bool true) ∧ Below X.heap.size X w' := fun X => holds0 2 (by omega) w f hf true (by show decide (f 0 < w) = true; simp; omega) X
          have h3 : ∀ X, Calls Tryd.prog 17 #[.agg #[.int .i64 0, .int .i64 5, .int .u64 0, .int .u64 w], .agg (argsA f)] X fun e w' => e = .returned (.bool false) ∧ Below X.heap.size X w' := fun X => holds0 4 (by omega) w f hf false (by show decide (w < f 0) = false; simp; omega) X
          clear p q
          go_wp2_with fail
          refine (h1 _).mono ?_
          rintro e w1 ⟨rfl, hB1⟩
          have ra1 := ra.below hB1 ra.lt
          have b1 := Lib.hid (b.out.trans (hB1.mono b.out.size))
          clear hB1
          have c1_0 := ra1.cell 0 (.int .u64 (f 0)) rfl
          have c1_1 := ra1.cell 1 (.int .u64 (f 1)) rfl
          have c1_2 := ra1.cell 2 (.int .u64 (f 2)) rfl
          have c1_3 := ra1.cell 3 (.int .u64 (f 3)) rfl
          have c1_4 := ra1.cell 4 (.int .u64 (f 4)) rfl
          have c1_5 := ra1.cell 5 (.int .u64 (f 5)) rfl
          go_wp2_with fail
          refine (h2 _).mono ?_
          rintro e w2 ⟨rfl, hB2⟩
          have ra2 := ra1.below hB2 ra1.lt
          have b2 := Lib.hid (b1.out.trans (hB2.mono b1.out.size))
          clear hB2
          have c2_0 := ra2.cell 0 (.int .u64 (f 0)) rfl
          have c2_1 := ra2.cell 1 (.int .u64 (f 1)) rfl
          have c2_2 := ra2.cell 2 (.int .u64 (f 2)) rfl
          have c2_3 := ra2.cell 3 (.int .u64 (f 3)) rfl
          have c2_4 := ra2.cell 4 (.int .u64 (f 4)) rfl
          have c2_5 := ra2.cell 5 (.int .u64 (f 5)) rfl
          go_wp2_with fail
          refine (h3 _).mono ?_
          rintro e w3 ⟨rfl, hB3⟩
          have ra3 := ra2.below hB3 ra2.lt
          have b3 := Lib.hid (b2.out.trans (hB3.mono b2.out.size))
          clear hB3
          have c3_0 := ra3.cell 0 (.int .u64 (f 0)) rfl
          have c3_1 := ra3.cell 1 (.int .u64 (f 1)) rfl
          have c3_2 := ra3.cell 2 (.int .u64 (f 2)) rfl
          have c3_3 := ra3.cell 3 (.int .u64 (f 3)) rfl
          have c3_4 := ra3.cell 4 (.int .u64 (f 4)) rfl
          have c3_5 := ra3.cell 5 (.int .u64 (f 5)) rfl
          go_wp2
          exact ⟨⟨4, by omega, by omega, by go_num, ra3, b3.out⟩, by simp [intOf]⟩
      · by_cases q : w < f 0
        · have h1 : ∀ X, Calls Tryd.prog 17 #[.agg #[.int .i64 0, .int .i64 3, .int .u64 0, .int .u64 v], .agg (argsA f)] X fun e w' => e = .returned (.bool false) ∧ Below X.heap.size X w' := fun X => holds0 2 (by omega) v f hf false (by show decide (f 0 < v) = false; simp; omega) X
          have h3 : ∀ X, Calls Tryd.prog 17 #[.agg #[.int .i64 0, .int .i64 5, .int .u64 0, .int .u64 w], .agg (argsA f)] X fun e w' => e = .returned (.bool true) ∧ Below X.heap.size X w' := fun X => holds0 4 (by omega) w f hf true (by show decide (w < f 0) = true; simp; omega) X
          have h4 : ∀ X, Calls Tryd.prog 17 #[.agg #[.int .i64 0, .int .i64 5, .int .u64 0, .int .u64 v], .agg (argsA f)] X fun e w' => e = .returned (.bool true) ∧ Below X.heap.size X w' := fun X => holds0 4 (by omega) v f hf true (by show decide (v < f 0) = true; simp; omega) X
          clear p q
          go_wp2_with fail
          refine (h1 _).mono ?_
          rintro e w1 ⟨rfl, hB1⟩
          have ra1 := ra.below hB1 ra.lt
          have b1 := Lib.hid (b.out.trans (hB1.mono b.out.size))
          clear hB1
          have c1_0 := ra1.cell 0 (.int .u64 (f 0)) rfl
          have c1_1 := ra1.cell 1 (.int .u64 (f 1)) rfl
          have c1_2 := ra1.cell 2 (.int .u64 (f 2)) rfl
          have c1_3 := ra1.cell 3 (.int .u64 (f 3)) rfl
          have c1_4 := ra1.cell 4 (.int .u64 (f 4)) rfl
          have c1_5 := ra1.cell 5 (.int .u64 (f 5)) rfl
          go_wp2_with fail
          refine (h3 _).mono ?_
          rintro e w2 ⟨rfl, hB2⟩
          have ra2 := ra1.below hB2 ra1.lt
          have b2 := Lib.hid (b1.out.trans (hB2.mono b1.out.size))
          clear hB2
          have c2_0 := ra2.cell 0 (.int .u64 (f 0)) rfl
          have c2_1 := ra2.cell 1 (.int .u64 (f 1)) rfl
          have c2_2 := ra2.cell 2 (.int .u64 (f 2)) rfl
          have c2_3 := ra2.cell 3 (.int .u64 (f 3)) rfl
          have c2_4 := ra2.cell 4 (.int .u64 (f 4)) rfl
          have c2_5 := ra2.cell 5 (.int .u64 (f 5)) rfl
          go_wp2_with fail
          refine (h4 _).mono ?_
          rintro e w3 ⟨rfl, hB3⟩
          have ra3 := ra2.below hB3 ra2.lt
          have b3 := Lib.hid (b2.out.trans (hB3.mono b2.out.size))
          clear hB3
          have c3_0 := ra3.cell 0 (.int .u64 (f 0)) rfl
          have c3_1 := ra3.cell 1 (.int .u64 (f 1)) rfl
          have c3_2 := ra3.cell 2 (.int .u64 (f 2)) rfl
          have c3_3 := ra3.cell 3 (.int .u64 (f 3)) rfl
          have c3_4 := ra3.cell 4 (.int .u64 (f 4)) rfl
          have c3_5 := ra3.cell 5 (.int .u64 (f 5)) rfl
          go_wp2
          exact ⟨⟨4, by omega, by omega, by go_num, ra3, b3.out⟩, by simp [intOf]⟩
        · have h1 : ∀ X, Calls Tryd.prog 17 #[.agg #[.int .i64 0, .int .i64 3, .int .u64 0, .int .u64 v], .agg (argsA f)] X fun e w' => e = .returned (.bool false) ∧ Below X.heap.size X w' := fun X => holds0 2 (by omega) v f hf false (by show decide (f 0 < v) = false; simp; omega) X
          have h3 : ∀ X, Calls Tryd.prog 17 #[.agg #[.int .i64 0, .int .i64 5, .int .u64 0, .int .u64 w], .agg (argsA f)] X fun e w' => e = .returned (.bool false) ∧ Below X.heap.size X w' := fun X => holds0 4 (by omega) w f hf false (by show decide (w < f 0) = false; simp; omega) X
          clear p q
          go_wp2_with fail
          refine (h1 _).mono ?_
          rintro e w1 ⟨rfl, hB1⟩
          have ra1 := ra.below hB1 ra.lt
          have b1 := Lib.hid (b.out.trans (hB1.mono b.out.size))
          clear hB1
          have c1_0 := ra1.cell 0 (.int .u64 (f 0)) rfl
          have c1_1 := ra1.cell 1 (.int .u64 (f 1)) rfl
          have c1_2 := ra1.cell 2 (.int .u64 (f 2)) rfl
          have c1_3 := ra1.cell 3 (.int .u64 (f 3)) rfl
          have c1_4 := ra1.cell 4 (.int .u64 (f 4)) rfl
          have c1_5 := ra1.cell 5 (.int .u64 (f 5)) rfl
          go_wp2_with fail
          refine (h3 _).mono ?_
          rintro e w2 ⟨rfl, hB2⟩
          have ra2 := ra1.below hB2 ra1.lt
          have b2 := Lib.hid (b1.out.trans (hB2.mono b1.out.size))
          clear hB2
          have c2_0 := ra2.cell 0 (.int .u64 (f 0)) rfl
          have c2_1 := ra2.cell 1 (.int .u64 (f 1)) rfl
          have c2_2 := ra2.cell 2 (.int .u64 (f 2)) rfl
          have c2_3 := ra2.cell 3 (.int .u64 (f 3)) rfl
          have c2_4 := ra2.cell 4 (.int .u64 (f 4)) rfl
          have c2_5 := ra2.cell 5 (.int .u64 (f 5)) rfl
          go_wp2
          exact ⟨⟨4, by omega, by omega, by go_num, ra2, b2.out⟩, by simp [intOf]⟩
    · by_cases p : f 0 ≤ v
      · by_cases q : w ≤ f 0
        · have h1 : ∀ X, Calls Tryd.prog 17 #[.agg #[.int .i64 0, .int .i64 4, .int .u64 0, .int .u64 v], .agg (argsA f)] X fun e w' => e = .returned (.bool true) ∧ Below X.heap.size X w' := fun X => holds0 3 (by omega) v f hf true (by show decide (f 0 ≤ v) = true; simp; omega) X
          have h2 : ∀ X, Calls Tryd.prog 17 #[.agg #[.int .i64 0, .int .i64 4, .int .u64 0, .int .u64 w], .agg (argsA f)] X fun e w' => e = .returned (.bool true) ∧ Below X.heap.size X w' := fun X => holds0 3 (by omega) w f hf true (by show decide (f 0 ≤ w) = true; simp; omega) X
          have h3 : ∀ X, Calls Tryd.prog 17 #[.agg #[.int .i64 0, .int .i64 6, .int .u64 0, .int .u64 w], .agg (argsA f)] X fun e w' => e = .returned (.bool true) ∧ Below X.heap.size X w' := fun X => holds0 5 (by omega) w f hf true (by show decide (w ≤ f 0) = true; simp; omega) X
          have h4 : ∀ X, Calls Tryd.prog 17 #[.agg #[.int .i64 0, .int .i64 6, .int .u64 0, .int .u64 v], .agg (argsA f)] X fun e w' => e = .returned (.bool true) ∧ Below X.heap.size X w' := fun X => holds0 5 (by omega) v f hf true (by show decide (v ≤ f 0) = true; simp; omega) X
          clear p q
          go_wp2_with fail
          refine (h1 _).mono ?_
          rintro e w1 ⟨rfl, hB1⟩
          have ra1 := ra.below hB1 ra.lt
          have b1 := Lib.hid (b.out.trans (hB1.mono b.out.size))
          clear hB1
          have c1_0 := ra1.cell 0 (.int .u64 (f 0)) rfl
          have c1_1 := ra1.cell 1 (.int .u64 (f 1)) rfl
          have c1_2 := ra1.cell 2 (.int .u64 (f 2)) rfl
          have c1_3 := ra1.cell 3 (.int .u64 (f 3)) rfl
          have c1_4 := ra1.cell 4 (.int .u64 (f 4)) rfl
          have c1_5 := ra1.cell 5 (.int .u64 (f 5)) rfl
          go_wp2_with fail
          refine (h2 _).mono ?_
          rintro e w2 ⟨rfl, hB2⟩
          have ra2 := ra1.below hB2 ra1.lt
          have b2 := Lib.hid (b1.out.trans (hB2.mono b1.out.size))
          clear hB2
          have c2_0 := ra2.cell 0 (.int .u64 (f 0)) rfl
          have c2_1 := ra2.cell 1 (.int .u64 (f 1)) rfl
          have c2_2 := ra2.cell 2 (.int .u64 (f 2)) rfl
          have c2_3 := ra2.cell 3 (.int .u64 (f 3)) rfl
          have c2_4 := ra2.cell 4 (.int .u64 (f 4)) rfl
          have c2_5 := ra2.cell 5 (.int .u64 (f 5)) rfl
          go_wp2_with fail
          refine (h3 _).mono ?_
          rintro e w3 ⟨rfl, hB3⟩
          have ra3 := ra2.below hB3 ra2.lt
          have b3 := Lib.hid (b2.out.trans (hB3.mono b2.out.size))
          clear hB3
          have c3_0 := ra3.cell 0 (.int .u64 (f 0)) rfl
          have c3_1 := ra3.cell 1 (.int .u64 (f 1)) rfl
          have c3_2 := ra3.cell 2 (.int .u64 (f 2)) rfl
          have c3_3 := ra3.cell 3 (.int .u64 (f 3)) rfl
          have c3_4 := ra3.cell 4 (.int .u64 (f 4)) rfl
          have c3_5 := ra3.cell 5 (.int .u64 (f 5)) rfl
          go_wp2_with fail
          refine (h4 _).mono ?_
          rintro e w4 ⟨rfl, hB4⟩
          have ra4 := ra3.below hB4 ra3.lt
          have b4 := Lib.hid (b3.out.trans (hB4.mono b3.out.size))
          clear hB4
          have c4_0 := ra4.cell 0 (.int .u64 (f 0)) rfl
          have c4_1 := ra4.cell 1 (.int .u64 (f 1)) rfl
          have c4_2 := ra4.cell 2 (.int .u64 (f 2)) rfl
          have c4_3 := ra4.cell 3 (.int .u64 (f 3)) rfl
          have c4_4 := ra4.cell 4 (.int .u64 (f 4)) rfl
          have c4_5 := ra4.cell 5 (.int .u64 (f 5)) rfl
          go_wp2
          exact ⟨⟨5, by omega, by omega, by go_num, ra4, b4.out⟩, by simp [intOf]⟩
        · have h1 : ∀ X, Calls Tryd.prog 17 #[.agg #[.int .i64 0, .int .i64 4, .int .u64 0, .int .u64 v], .agg (argsA f)] X fun e w' => e = .returned (.bool true) ∧ Below X.heap.size X w' := fun X => holds0 3 (by omega) v f hf true (by show decide (f 0 ≤ v) = true; simp; omega) X
          have h2 : ∀ X, Calls Tryd.prog 17 #[.agg #[.int .i64 0, .int .i64 4, .int .u64 0, .int .u64 w], .agg (argsA f)] X fun e w' => e = .returned (.bool true) ∧ Below X.heap.size X w' := fun X => holds0 3 (by omega) w f hf true (by show decide (f 0 ≤ w) = true; simp; omega) X
          have h3 : ∀ X, Calls Tryd.prog 17 #[.agg #[.int .i64 0, .int .i64 6, .int .u64 0, .int .u64 w], .agg (argsA f)] X fun e w' => e = .returned (.bool false) ∧ Below X.heap.size X w' := fun X => holds0 5 (by omega) w f hf false (by show decide (w ≤ f 0) = false; simp; omega) X
          clear p q
          go_wp2_with fail
          refine (h1 _).mono ?_
          rintro e w1 ⟨rfl, hB1⟩
          have ra1 := ra.below hB1 ra.lt
          have b1 := Lib.hid (b.out.trans (hB1.mono b.out.size))
          clear hB1
          have c1_0 := ra1.cell 0 (.int .u64 (f 0)) rfl
          have c1_1 := ra1.cell 1 (.int .u64 (f 1)) rfl
          have c1_2 := ra1.cell 2 (.int .u64 (f 2)) rfl
          have c1_3 := ra1.cell 3 (.int .u64 (f 3)) rfl
          have c1_4 := ra1.cell 4 (.int .u64 (f 4)) rfl
          have c1_5 := ra1.cell 5 (.int .u64 (f 5)) rfl
          go_wp2_with fail
          refine (h2 _).mono ?_
          rintro e w2 ⟨rfl, hB2⟩
          have ra2 := ra1.below hB2 ra1.lt
          have b2 := Lib.hid (b1.out.trans (hB2.mono b1.out.size))
          clear hB2
          have c2_0 := ra2.cell 0 (.int .u64 (f 0)) rfl
          have c2_1 := ra2.cell 1 (.int .u64 (f 1)) rfl
          have c2_2 := ra2.cell 2 (.int .u64 (f 2)) rfl
          have c2_3 := ra2.cell 3 (.int .u64 (f 3)) rfl
          have c2_4 := ra2.cell 4 (.int .u64 (f 4)) rfl
          have c2_5 := ra2.cell 5 (.int .u64 (f 5)) rfl
          go_wp2_with fail
          refine (h3 _).mono ?_
          rintro e w3 ⟨rfl, hB3⟩
          have ra3 := ra2.below hB3 ra2.lt
          have b3 := Lib.hid (b2.out.trans (hB3.mono b2.out.size))
          clear hB3
          have c3_0 := ra3.cell 0 (.int .u64 (f 0)) rfl
          have c3_1 := ra3.cell 1 (.int .u64 (f 1)) rfl
          have c3_2 := ra3.cell 2 (.int .u64 (f 2)) rfl
          have c3_3 := ra3.cell 3 (.int .u64 (f 3)) rfl
          have c3_4 := ra3.cell 4 (.int .u64 (f 4)) rfl
          have c3_5 := ra3.cell 5 (.int .u64 (f 5)) rfl
          go_wp2
          exact ⟨⟨5, by omega, by omega, by go_num, ra3, b3.out⟩, by simp [intOf]⟩
      · by_cases q : w ≤ f 0
        · have h1 : ∀ X, Calls Tryd.prog 17 #[.agg #[.int .i64 0, .int .i64 4, .int .u64 0, .int .u64 v], .agg (argsA f)] X fun e w' => e = .returned (.bool false) ∧ Below X.heap.size X w' := fun X => holds0 3 (by omega) v f hf false (by show decide (f 0 ≤ v) = false; simp; omega) X
          have h3 : ∀ X, Calls Tryd.prog 17 #[.agg #[.int .i64 0, .int .i64 6, .int .u64 0, .int .u64 w], .agg (argsA f)] X fun e w' => e = .returned (.bool true) ∧ Below X.heap.size X w' := fun X => holds0 5 (by omega) w f hf true (by show decide (w ≤ f 0) = true; simp; omega) X
          have h4 : ∀ X, Calls Tryd.prog 17 #[.agg #[.int .i64 0, .int .i64 6, .int .u64 0, .int .u64 v], .agg (argsA f)] X fun e w' => e = .returned (.bool true) ∧ Below X.heap.size X w' := fun X => holds0 5 (by omega) v f hf true (by show decide (v ≤ f 0) = true; simp; omega) X
          clear p q
          go_wp2_with fail
          refine (h1 _).mono ?_
          rintro e w1 ⟨rfl, hB1⟩
          have ra1 := ra.below hB1 ra.lt
          have b1 := Lib.hid (b.out.trans (hB1.mono b.out.size))
          clear hB1
          have c1_0 := ra1.cell 0 (.int .u64 (f 0)) rfl
          have c1_1 := ra1.cell 1 (.int .u64 (f 1)) rfl
          have c1_2 := ra1.cell 2 (.int .u64 (f 2)) rfl
          have c1_3 := ra1.cell 3 (.int .u64 (f 3)) rfl
          have c1_4 := ra1.cell 4 (.int .u64 (f 4)) rfl
          have c1_5 := ra1.cell 5 (.int .u64 (f 5)) rfl
          go_wp2_with fail
          refine (h3 _).mono ?_
          rintro e w2 ⟨rfl, hB2⟩
          have ra2 := ra1.below hB2 ra1.lt
          have b2 := Lib.hid (b1.out.trans (hB2.mono b1.out.size))
          clear hB2
          have c2_0 := ra2.cell 0 (.int .u64 (f 0)) rfl
          have c2_1 := ra2.cell 1 (.int .u64 (f 1)) rfl
          have c2_2 := ra2.cell 2 (.int .u64 (f 2)) rfl
          have c2_3 := ra2.cell 3 (.int .u64 (f 3)) rfl
          have c2_4 := ra2.cell 4 (.int .u64 (f 4)) rfl
          have c2_5 := ra2.cell 5 (.int .u64 (f 5)) rfl
          go_wp2_with fail
          refine (h4 _).mono ?_
          rintro e w3 ⟨rfl, hB3⟩
          have ra3 := ra2.below hB3 ra2.lt
          have b3 := Lib.hid (b2.out.trans (hB3.mono b2.out.size))
          clear hB3
          have c3_0 := ra3.cell 0 (.int .u64 (f 0)) rfl
          have c3_1 := ra3.cell 1 (.int .u64 (f 1)) rfl
          have c3_2 := ra3.cell 2 (.int .u64 (f 2)) rfl
          have c3_3 := ra3.cell 3 (.int .u64 (f 3)) rfl
          have c3_4 := ra3.cell 4 (.int .u64 (f 4)) rfl
          have c3_5 := ra3.cell 5 (.int .u64 (f 5)) rfl
          go_wp2
          exact ⟨⟨5, by omega, by omega, by go_num, ra3, b3.out⟩, by simp [intOf]⟩
        · have h1 : ∀ X, Calls Tryd.prog 17 #[.agg #[.int .i64 0, .int .i64 4, .int .u64 0, .int .u64 v], .agg (argsA f)] X fun e w' => e = .returned (.bool false) ∧ Below X.heap.size X w' := fun X => holds0 3 (by omega) v f hf false (by show decide (f 0 ≤ v) = false; simp; omega) X
          have h3 : ∀ X, Calls Tryd.prog 17 #[.agg #[.int .i64 0, .int .i64 6, .int .u64 0, .int .u64 w], .agg (argsA f)] X fun e w' => e = .returned (.bool false) ∧ Below X.heap.size X w' := fun X => holds0 5 (by omega) w f hf false (by show decide (w ≤ f 0) = false; simp; omega) X
          clear p q
          go_wp2_with fail
          refine (h1 _).mono ?_
          rintro e w1 ⟨rfl, hB1⟩
          have ra1 := ra.below hB1 ra.lt
          have b1 := Lib.hid (b.out.trans (hB1.mono b.out.size))
          clear hB1
          have c1_0 := ra1.cell 0 (.int .u64 (f 0)) rfl
          have c1_1 := ra1.cell 1 (.int .u64 (f 1)) rfl
          have c1_2 := ra1.cell 2 (.int .u64 (f 2)) rfl
          have c1_3 := ra1.cell 3 (.int .u64 (f 3)) rfl
          have c1_4 := ra1.cell 4 (.int .u64 (f 4)) rfl
          have c1_5 := ra1.cell 5 (.int .u64 (f 5)) rfl
          go_wp2_with fail
          refine (h3 _).mono ?_
          rintro e w2 ⟨rfl, hB2⟩
          have ra2 := ra1.below hB2 ra1.lt
          have b2 := Lib.hid (b1.out.trans (hB2.mono b1.out.size))
          clear hB2
          have c2_0 := ra2.cell 0 (.int .u64 (f 0)) rfl
          have c2_1 := ra2.cell 1 (.int .u64 (f 1)) rfl
          have c2_2 := ra2.cell 2 (.int .u64 (f 2)) rfl
          have c2_3 := ra2.cell 3 (.int .u64 (f 3)) rfl
          have c2_4 := ra2.cell 4 (.int .u64 (f 4)) rfl
          have c2_5 := ra2.cell 5 (.int .u64 (f 5)) rfl
          go_wp2
          exact ⟨⟨5, by omega, by omega, by go_num, ra2, b2.out⟩, by simp [intOf]⟩
    · have HA := Lib.hid (awake10_any wr (tab_on HT.out b.out (Nat.le_refl _)))
      go_wp2_with (go_at_call 16; refine HA.out.mono ?_; rintro e w9 ⟨rfl, hB9⟩)
      go_ret
      exact ⟨rfl, b.out.trans (hB9.mono b.out.size)⟩

theorem walk_CondGrows {w0 : World} (v : Int) (hv : (Lit.int .u64 v).wf = true) (w : Int) (hw : (Lit.int .u64 w).wf = true) (f : Nat → Nat) (hf : ∀ i, i < 6 → f i < 18446744073709551616) (ht : TabP w0) :
    Calls Tryd.prog 8 #[.int .u64 v, .int .u64 w, .agg #[.int .u64 (f 0), .int .u64 (f 1), .int .u64 (f 2), .int .u64 (f 3), .int .u64 (f 4), .int .u64 (f 5)]] w0 fun e w' => e = .returned (.bool true) ∧ Below w0.heap.size w0 w' := by
  simp [Lit.wf, IntKind.min, IntKind.max, IntKind.signed, IntKind.bits] at hv hw
  obtain ⟨x, rfl⟩ := Int.eq_ofNat_of_zero_le hv.1
  obtain ⟨y, rfl⟩ := Int.eq_ofNat_of_zero_le hw.1
  by_cases h : y < x
  · exact grows_a x y f hf ht h
  · exact grows_b x y f hf ht h

theorem of_laid {W : World} (h : laidMetH Tryd.prog Rows.condGrowsRow.laid W) : TabP W := by
  rw [MakeChecks.laidMetH_plain _ _ _ (by kernel_rfl)] at h
  exact tab_of_third h

namespace condGrowsRow
open Go.ChangeShapes Go.WideShapes Go.ChangeAt Go.RowKit Go.Joins
open Go.ChangeMaps (open_string shut_string)
set_option linter.unusedVariables false
theorem own : ownKnob Tryd.prog.godebug = none := by kernel_rfl
theorem laidOut : laidOutB Tryd.prog = true := by kernel_rfl
set_option maxRecDepth 100000 in
theorem lifted (os : Os) (started : os.Started) (H : Type) (enc : TypeId × Value → H) :
    ReturnsInHanded {} Tryd.checked os 8 .any (fun w args => (Rows.condGrowsSpec.pre enc Tryd.prog Tryd.f8 [] false w args ∧ laidMetH Tryd.prog Rows.condGrowsRow.laid w) ∧ sizedMet enc Tryd.prog Tryd.f8 (OpenSpec.ofChange Rows.condGrowsSpec) false w args) (Rows.condGrowsSpec.post enc Tryd.prog Tryd.f8 false true false false) := by
  refine returnsInHanded_of_change_and (C := Tryd.checked) (X := fun w _ => laidMetH Tryd.prog Rows.condGrowsRow.laid w) (fun _ _ _ hh h => h.of_heap hh) own started (by kernel_rfl) Tryd.func8
    (ChangeSpec.witness_shaped (enc := enc) (C := Tryd.checked) (os := os) (X := fun w _ => laidMetH Tryd.prog Rows.condGrowsRow.laid w) false (World.laidAll Tryd.prog os Rows.condGrowsRow.laid) #[.int .u64 0, .int .u64 0, .agg #[.int .u64 0, .int .u64 0, .int .u64 0, .int .u64 0, .int .u64 0, .int .u64 0]] 8 (World.laidAll_os _ _ _) (World.shaped_of_ZipB (by kernel_rfl) (by kernel_rfl)) (by kernel_rfl) (by kernel_rfl) (by kernel_rfl) (by rw [MakeChecks.laidMetH_plain _ _ _ (by kernel_rfl)]; exact laidMet_laidAll _ (by kernel_rfl) (by kernel_rfl))) ?_
  intro W base args ds gs before hval0 hW _ _ hL _
  have hval : ∀ (j : Nat) t v, Tryd.f8.params[j]? = some t → args[j]? = some v → Value.okWide Tryd.prog W .any base t v := hval0
  have hW' := hW
  obtain ⟨p, q, hA0, hV, rfl, hfz, hnd⟩ := hW
  have hA : DataW.TrodAll enc Tryd.prog W 0 (fun _ => true) true Tryd.f8.params.toList args.toList ds p := hA0
  rw [Tryd.params8] at hA hval
  obtain ⟨v0, vs0, d0, ds0, p0, q0, hargs, rfl, rfl, h0, r0⟩ := trodAll_cons hA
  obtain ⟨v1, vs1, d1, ds1, p1, q1, rfl, rfl, rfl, h1, r1⟩ := trodAll_cons r0
  obtain ⟨v2, vs2, d2, ds2, p2, q2, rfl, rfl, rfl, h2, r2⟩ := trodAll_cons r1
  obtain ⟨rfl, rfl, rfl⟩ := trodAll_nil r2
  obtain rfl : args = #[v0, v1, v2] := by cases args; simp_all
  obtain ⟨rfl, rfl⟩ := trodVars_none hV
  have k0 := h0
  have lt0 : ∀ x ∈ p0, x.block < W.heap.size := by obtain ⟨m, hm⟩ := k0; exact DataW.trod_lt m _ _ _ hm
  have k1 := h1
  have lt1 : ∀ x ∈ p1, x.block < W.heap.size := by obtain ⟨m, hm⟩ := k1; exact DataW.trod_lt m _ _ _ hm
  have k2 := h2
  have lt2 : ∀ x ∈ p2, x.block < W.heap.size := by obtain ⟨m, hm⟩ := k2; exact DataW.trod_lt m _ _ _ hm
  obtain ⟨a0, rfl, rfl, rfl, w0⟩ := open_int Tryd.underlying23 (hval 0 23 v0 rfl rfl) h0
  obtain ⟨a1, rfl, rfl, rfl, w1⟩ := open_int Tryd.underlying23 (hval 1 23 v1 rfl rfl) h1
  obtain ⟨f2, rfl, g2⟩ := open_arr6 (hval 2 37 v2 rfl rfl) h2
  clear hA0 hval0
  refine (walk_CondGrows (w0 := W) a0 w0 a1 w1 f2 g2 (of_laid hL)).mono fun e W' ⟨he, bel⟩ => ?_
  subst he
  exact ⟨_, rfl, _, _, _, [], _, [], hW', trodAll_mk1 (shut_bool Tryd.underlying4 _), (trodAll_cons_mk (Below.trod laidOut (by kernel_rfl) (of_decide_eq_true (by kernel_rfl)) k0 bel lt0) (trodAll_cons_mk (Below.trod laidOut (by kernel_rfl) (of_decide_eq_true (by kernel_rfl)) k1 bel lt1) (trodAll_cons_mk (Below.trod laidOut (by kernel_rfl) (of_decide_eq_true (by kernel_rfl)) k2 bel lt2) trodAll_mk0))), rfl, bel.frame _, fun h => by cases h⟩

theorem over : Rows.condGrowsRow.holds Tryd.pinned (OpenSpec.ofChange Rows.condGrowsSpec) :=
  OpenClaim.holds_of_wide 8 Tryd.f8 rfl rfl rfl rfl rfl rfl rfl ⟨rfl, rfl, rfl, rfl, rfl⟩ rfl rfl rfl rfl rfl (by kernel_rfl) Tryd.func8 (by kernel_rfl)
    (of_decide_eq_true (by kernel_rfl)) (by unfold Func.isWrapper; first | (rw [if_pos (by decide +kernel)]; kernel_rfl) | (rw [if_neg (by decide +kernel)]; exact ⟨rfl, rfl⟩))
    (fun os started H enc _ => lifted os started H enc)
end condGrowsRow

theorem condGrows_proved : Rows.CondGrowsCardSaid :=
  Claim7.holds_tied_plain_at .later [] [.data, .data, .data, .data, .sentinel, .sentinel, .pinned] true Rows.condGrowsCard.stood.harness true
    condGrowsRow.over (fun _ h => by cases h) (by kernel_rfl) (fun _ h => by cases h) condGrows_row_tie rfl ⟨rfl, rfl⟩ (by kernel_rfl) rfl
    (fun f fn hf hfn => by
      obtain rfl : f = 8 := Option.some.inj ((show Tryd.prog.funcNamed "strainer/strainerlaw10.CondGrows" = some 8 by kernel_rfl).symm.trans hf) |>.symm
      obtain rfl : fn = Tryd.f8 := (Option.some.inj (Tryd.func8.symm.trans hfn)).symm
      exact ⟨by kernel_rfl, fun j t ht => by
        rw [Tryd.params8] at ht
        have hall : ∀ t ∈ [23, 23, 37], Tryd.prog.wantsStandIn t = false := by
          intro t ht
          simp only [List.mem_cons, List.not_mem_nil, or_false] at ht
          rcases ht with rfl | rfl | rfl <;> kernel_rfl
        exact hall t (by simpa using Array.mem_of_getElem? ht)⟩)
    (by kernel_rfl)
#print axioms condGrows_proved
end Go.Proofs.YtplnaejbfanioaaDoor
