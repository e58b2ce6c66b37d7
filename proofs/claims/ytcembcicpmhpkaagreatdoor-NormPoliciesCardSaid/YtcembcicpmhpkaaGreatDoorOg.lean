/-
  Layer 16: the order of conditions (compare), in every world.
-/
import Derived.Test.YtcembcicpmhpkaaGreatDoorOc
import Derived.Shelf.Abstract
import Derived.Sort.Grow
import Derived.RegionTactic
import Derived.Deep.RegionWith
import Derived.Deep.RegionHeld3
namespace Go.Proofs.YtcembcicpmhpkaaGreatDoor
open Go.RowKit Go.Shelf Go.Lib Go.Sort
set_option linter.unusedVariables false

def cmpZ (x y : Int) : Int := if x < y then -1 else if x > y then 1 else 0
def orF (a b c d : Int) : Int := if a ≠ 0 then a else if b ≠ 0 then b else if c ≠ 0 then c else d
set_option maxRecDepth 100000 in
set_option maxHeartbeats 2000000 in
theorem nanI_any (x : Int) (w : World) : Calls Tryz.prog 112 #[.int .i64 x] w fun e w' => e = .returned (.bool false) ∧ w' = w := by
  have q : (x != x) = false := bne_self_eq_false _
  go_enter Tryz.func112, Tryz.ntmps112
  go_wp2
  go_ret
  exact ⟨rfl, rfl⟩
set_option maxRecDepth 100000 in
set_option maxHeartbeats 2000000 in
theorem nanU_any (x : Int) (w : World) : Calls Tryz.prog 113 #[.int .u64 x] w fun e w' => e = .returned (.bool false) ∧ w' = w := by
  have q : (x != x) = false := bne_self_eq_false _
  go_enter Tryz.func113, Tryz.ntmps113
  go_wp2
  go_ret
  exact ⟨rfl, rfl⟩
set_option maxRecDepth 100000 in
set_option maxHeartbeats 2000000 in
theorem cmpI_any (x y : Int) (w : World) : Calls Tryz.prog 75 #[.int .i64 x, .int .i64 y] w fun e w' => e = .returned (.int .i64 (cmpZ x y)) ∧ w' = w := by
  by_cases h : x < y
  · rw [show cmpZ x y = -1 by unfold cmpZ; rw [if_pos h]]
    have q0 : decide (x < y) = true := decide_eq_true h
    clear h
    go_enter Tryz.func75, Tryz.ntmps75
    go_wp2_with fail
    refine (nanI_any x _).mono ?_
    rintro e w1 ⟨rfl, rfl⟩
    go_wp2_with fail
    refine (nanI_any y _).mono ?_
    rintro e w1 ⟨rfl, rfl⟩
    go_wp2
    go_ret
    exact ⟨rfl, rfl⟩
  · have q0 : decide (x < y) = false := decide_eq_false h
    by_cases h2 : x > y
    · rw [show cmpZ x y = 1 by unfold cmpZ; rw [if_neg h, if_pos h2]]
      have q1 : decide (x > y) = true := decide_eq_true h2
      clear h h2
      go_enter Tryz.func75, Tryz.ntmps75
      go_wp2_with fail
      refine (nanI_any x _).mono ?_
      rintro e w1 ⟨rfl, rfl⟩
      go_wp2_with fail
      refine (nanI_any y _).mono ?_
      rintro e w1 ⟨rfl, rfl⟩
      go_wp2
      go_ret
      exact ⟨rfl, rfl⟩
    · rw [show cmpZ x y = 0 by unfold cmpZ; rw [if_neg h, if_neg h2]]
      have q1 : decide (x > y) = false := decide_eq_false h2
      clear h h2
      go_enter Tryz.func75, Tryz.ntmps75
      go_wp2_with fail
      refine (nanI_any x _).mono ?_
      rintro e w1 ⟨rfl, rfl⟩
      go_wp2_with fail
      refine (nanI_any y _).mono ?_
      rintro e w1 ⟨rfl, rfl⟩
      go_wp2
      go_ret
      exact ⟨rfl, rfl⟩
set_option maxRecDepth 100000 in
set_option maxHeartbeats 2000000 in
theorem cmpU_any (x y : Int) (w : World) : Calls Tryz.prog 76 #[.int .u64 x, .int .u64 y] w fun e w' => e = .returned (.int .i64 (cmpZ x y)) ∧ w' = w := by
  by_cases h : x < y
  · rw [show cmpZ x y = -1 by unfold cmpZ; rw [if_pos h]]
    have q0 : decide (x < y) = true := decide_eq_true h
    clear h
    go_enter Tryz.func76, Tryz.ntmps76
    go_wp2_with fail
    refine (nanU_any x _).mono ?_
    rintro e w1 ⟨rfl, rfl⟩
    go_wp2_with fail
    refine (nanU_any y _).mono ?_
    rintro e w1 ⟨rfl, rfl⟩
    go_wp2
    go_ret
    exact ⟨rfl, rfl⟩
  · have q0 : decide (x < y) = false := decide_eq_false h
    by_cases h2 : x > y
    · rw [show cmpZ x y = 1 by unfold cmpZ; rw [if_neg h, if_pos h2]]
      have q1 : decide (x > y) = true := decide_eq_true h2
      clear h h2
      go_enter Tryz.func76, Tryz.ntmps76
      go_wp2_with fail
      refine (nanU_any x _).mono ?_
      rintro e w1 ⟨rfl, rfl⟩
      go_wp2_with fail
      refine (nanU_any y _).mono ?_
      rintro e w1 ⟨rfl, rfl⟩
      go_wp2
      go_ret
      exact ⟨rfl, rfl⟩
    · rw [show cmpZ x y = 0 by unfold cmpZ; rw [if_neg h, if_neg h2]]
      have q1 : decide (x > y) = false := decide_eq_false h2
      clear h h2
      go_enter Tryz.func76, Tryz.ntmps76
      go_wp2_with fail
      refine (nanU_any x _).mono ?_
      rintro e w1 ⟨rfl, rfl⟩
      go_wp2_with fail
      refine (nanU_any y _).mono ?_
      rintro e w1 ⟨rfl, rfl⟩
      go_wp2
      go_ret
      exact ⟨rfl, rfl⟩
set_option maxRecDepth 100000 in
set_option maxHeartbeats 4000000 in
theorem orI_any (b : Nat) (r0 r1 r2 r3 : Int) (w : World) (c0 : w.cell? ⟨b, 0, none⟩ = some (.int .i64 r0)) (c1 : w.cell? ⟨b, 1, none⟩ = some (.int .i64 r1)) (c2 : w.cell? ⟨b, 2, none⟩ = some (.int .i64 r2)) (c3 : w.cell? ⟨b, 3, none⟩ = some (.int .i64 r3)) :
    Calls Tryz.prog 74 #[.slice (some ⟨b, 0, none⟩) 4 4] w fun e w' => e = .returned (.int .i64 (orF r0 r1 r2 r3)) ∧ w' = w := by
  obtain ⟨R, hR⟩ : ∃ R, orF r0 r1 r2 r3 = R := ⟨_, rfl⟩
  rw [hR]
  have HR := Lib.hid hR
  clear hR
  go_enter Tryz.func74, Tryz.ntmps74
  go_wp2
  go_loopw [8] (fun i wr => ∃ k : Nat, k ≤ 4 ∧ i = .int .i64 k ∧ wr = w ∧ Hid ((0 < k → r0 = 0) ∧ (1 < k → r1 = 0) ∧ (2 < k → r2 = 0) ∧ (3 < k → r3 = 0))) (fun i _ => 4 - (intOf i).toNat)
  case atStart => exact ⟨0, by omega, rfl, rfl, Lib.hid ⟨fun h => by omega, fun h => by omega, fun h => by omega, fun h => by omega⟩⟩
  case round =>
    obtain ⟨k, hk, rfl, rfl, hz⟩ := hrel
    have hk' : k = 0 ∨ k = 1 ∨ k = 2 ∨ k = 3 ∨ k = 4 := by omega
    clear hk
    rcases hk' with rfl | rfl | rfl | rfl | rfl
    · by_cases h : r0 = 0
      · have q : (r0 != 0) = false := by rw [h]; rfl
        have HH := Lib.hid h
        clear h
        go_wp2
        exact ⟨⟨1, by omega, rfl, trivial, Lib.hid ⟨fun _ => HH.out, fun h => by omega, fun h => by omega, fun h => by omega⟩⟩, by simp [intOf]⟩
      · have q : (r0 != 0) = true := bne_iff_ne.2 h
        obtain rfl : r0 = R := by rw [← HR.out]; unfold orF; rw [if_pos h]
        clear h
        go_wp2
        go_ret
        exact ⟨rfl, rfl⟩
    · by_cases h : r1 = 0
      · have q : (r1 != 0) = false := by rw [h]; rfl
        have HH := Lib.hid h
        clear h
        go_wp2
        exact ⟨⟨2, by omega, rfl, trivial, Lib.hid ⟨fun _ => hz.out.1 (by omega), fun _ => HH.out, fun h => by omega, fun h => by omega⟩⟩, by simp [intOf]⟩
      · have q : (r1 != 0) = true := bne_iff_ne.2 h
        obtain rfl : r1 = R := by rw [← HR.out]; unfold orF; rw [if_neg (fun hc => hc (hz.out.1 (by omega))), if_pos h]
        clear h
        go_wp2
        go_ret
        exact ⟨rfl, rfl⟩
    · by_cases h : r2 = 0
      · have q : (r2 != 0) = false := by rw [h]; rfl
        have HH := Lib.hid h
        clear h
        go_wp2
        exact ⟨⟨3, by omega, rfl, trivial, Lib.hid ⟨fun _ => hz.out.1 (by omega), fun _ => hz.out.2.1 (by omega), fun _ => HH.out, fun h => by omega⟩⟩, by simp [intOf]⟩
      · have q : (r2 != 0) = true := bne_iff_ne.2 h
        obtain rfl : r2 = R := by rw [← HR.out]; unfold orF; rw [if_neg (fun hc => hc (hz.out.1 (by omega))), if_neg (fun hc => hc (hz.out.2.1 (by omega))), if_pos h]
        clear h
        go_wp2
        go_ret
        exact ⟨rfl, rfl⟩
    · have hR3 : r3 = R := by rw [← HR.out]; unfold orF; rw [if_neg (fun hc => hc (hz.out.1 (by omega))), if_neg (fun hc => hc (hz.out.2.1 (by omega))), if_neg (fun hc => hc (hz.out.2.2.1 (by omega)))]
      by_cases h : r3 = 0
      · have q : (r3 != 0) = false := by rw [h]; rfl
        have HH := Lib.hid h
        clear h hR3
        go_wp2
        exact ⟨⟨4, by omega, rfl, trivial, Lib.hid ⟨fun _ => hz.out.1 (by omega), fun _ => hz.out.2.1 (by omega), fun _ => hz.out.2.2.1 (by omega), fun _ => HH.out⟩⟩, by simp [intOf]⟩
      · have q : (r3 != 0) = true := bne_iff_ne.2 h
        subst hR3
        clear h
        go_wp2
        go_ret
        exact ⟨rfl, rfl⟩
    · obtain rfl : R = 0 := by
        rw [← HR.out]; unfold orF
        rw [if_neg (fun hc => hc (hz.out.1 (by omega))), if_neg (fun hc => hc (hz.out.2.1 (by omega))), if_neg (fun hc => hc (hz.out.2.2.1 (by omega)))]
        exact hz.out.2.2.2 (by omega)
      go_wp2
      go_ret
      exact ⟨rfl, rfl⟩
/-- The order of conditions. -/
def cmpC (a o : Int) (m v : Int) (a' o' : Int) (m' v' : Int) : Int := orF (cmpZ a a') (cmpZ o o') (cmpZ m m') (cmpZ v v')
set_option maxRecDepth 100000 in
set_option maxHeartbeats 8000000 in
theorem compare_any (a o m v a' o' m' v' : Int) (w : World) :
    Calls Tryz.prog 44 #[.agg #[.int .i64 a, .int .i64 o, .int .u64 m, .int .u64 v], .agg #[.int .i64 a', .int .i64 o', .int .u64 m', .int .u64 v']] w fun e w' => e = .returned (.int .i64 (cmpC a o m v a' o' m' v')) ∧ ∃ q os', w' = grow (w.drewN q) os' := by
  obtain ⟨r0, h0⟩ : ∃ r, cmpZ a a' = r := ⟨_, rfl⟩
  obtain ⟨r1, h1⟩ : ∃ r, cmpZ o o' = r := ⟨_, rfl⟩
  obtain ⟨r2, h2⟩ : ∃ r, cmpZ m m' = r := ⟨_, rfl⟩
  obtain ⟨r3, h3⟩ : ∃ r, cmpZ v v' = r := ⟨_, rfl⟩
  have g0 := fun X => cmpI_any a a' X
  have g1 := fun X => cmpI_any o o' X
  have g2 := fun X => cmpU_any m m' X
  have g3 := fun X => cmpU_any v v' X
  unfold cmpC
  rw [h0] at g0 ⊢
  rw [h1] at g1 ⊢
  rw [h2] at g2 ⊢
  rw [h3] at g3 ⊢
  have H0 := Lib.hid g0
  have H1 := Lib.hid g1
  have H2 := Lib.hid g2
  have H3 := Lib.hid g3
  have HO := Lib.hid fun (X : World) t => orI_any X.heap.size r0 r1 r2 r3 (X.alloc (.cells #[.int .i64 r0, .int .i64 r1, .int .i64 r2, .int .i64 r3] t)).drew ((RowC.new X #[.int .i64 r0, .int .i64 r1, .int .i64 r2, .int .i64 r3] t _ rfl).cell 0 _ rfl) ((RowC.new X #[.int .i64 r0, .int .i64 r1, .int .i64 r2, .int .i64 r3] t _ rfl).cell 1 _ rfl) ((RowC.new X #[.int .i64 r0, .int .i64 r1, .int .i64 r2, .int .i64 r3] t _ rfl).cell 2 _ rfl) ((RowC.new X #[.int .i64 r0, .int .i64 r1, .int .i64 r2, .int .i64 r3] t _ rfl).cell 3 _ rfl)
  clear h0 h1 h2 h3 g0 g1 g2 g3
  obtain ⟨W0, hW0⟩ : ∃ W, (w.alloc (.cells #[.int .i64 a, .int .i64 o, .int .u64 m, .int .u64 v] 62)).alloc (.cells #[.int .i64 a', .int .i64 o', .int .u64 m', .int .u64 v'] 62) = W := ⟨_, rfl⟩
  have HP := Lib.hid (show RowC W0 w.heap.size #[.int .i64 a, .int .i64 o, .int .u64 m, .int .u64 v] 62 by rw [← hW0]; exact (RowC.new _ _ _ _ rfl).alloc _)
  have HQ := Lib.hid (show RowC W0 (w.heap.size + 1) #[.int .i64 a', .int .i64 o', .int .u64 m', .int .u64 v'] 62 by rw [← hW0]; exact RowC.new _ _ _ _ (by simp))
  have HW := Lib.hid hW0
  clear hW0
  have HS0 : Hid (∀ X, Below W0.heap.size W0 X → X.cell? ⟨w.heap.size, 0, none⟩ = some (.int .i64 a) ∧ X.cell? ⟨w.heap.size, 1, none⟩ = some (.int .i64 o) ∧ X.cell? ⟨w.heap.size, 2, none⟩ = some (.int .u64 m) ∧ X.cell? ⟨w.heap.size, 3, none⟩ = some (.int .u64 v) ∧ X.cell? ⟨w.heap.size + 1, 0, none⟩ = some (.int .i64 a') ∧ X.cell? ⟨w.heap.size + 1, 1, none⟩ = some (.int .i64 o') ∧ X.cell? ⟨w.heap.size + 1, 2, none⟩ = some (.int .u64 m') ∧ X.cell? ⟨w.heap.size + 1, 3, none⟩ = some (.int .u64 v')) :=
    Lib.hid fun X hX => have h1 := HP.out.below hX HP.out.lt
      have h2 := HQ.out.below hX HQ.out.lt
      ⟨h1.cell 0 _ rfl, h1.cell 1 _ rfl, h1.cell 2 _ rfl, h1.cell 3 _ rfl, h2.cell 0 _ rfl, h2.cell 1 _ rfl, h2.cell 2 _ rfl, h2.cell 3 _ rfl⟩
  have hk0 : Below W0.heap.size W0 W0.drew := (Below.refl _ W0).drew
  have hs0 : W0.drew.heap.size = W0.heap.size := rfl
  have hk1 : ∀ C t, Below W0.heap.size W0 (W0.drew.alloc (.cells C t)) := fun C t => hk0.alloc (by rw [hs0]; exact Nat.le_refl _) _
  clear hs0
  have HK := Lib.hid hk1
  clear hk1
  go_enter Tryz.func44, Tryz.ntmps44
  go_upto_region 1 with fail
  rw [HW.out]
  go_region_held3 (fun w' => w'.cell? ⟨w.heap.size, 0, none⟩ = some (.int .i64 a) ∧ w'.cell? ⟨w.heap.size, 1, none⟩ = some (.int .i64 o) ∧ w'.cell? ⟨w.heap.size, 2, none⟩ = some (.int .u64 m) ∧ w'.cell? ⟨w.heap.size, 3, none⟩ = some (.int .u64 v) ∧ w'.cell? ⟨w.heap.size + 1, 0, none⟩ = some (.int .i64 a') ∧ w'.cell? ⟨w.heap.size + 1, 1, none⟩ = some (.int .i64 o') ∧ w'.cell? ⟨w.heap.size + 1, 2, none⟩ = some (.int .u64 m') ∧ w'.cell? ⟨w.heap.size + 1, 3, none⟩ = some (.int .u64 v'))
    (exact HS0.out _ (by first | exact hk0 | exact HK.out _ _))
    (first
      | (go_at_call 75
         (with_reducible (first | refine (H0.out _).mono ?_ | refine (H1.out _).mono ?_))
         rintro e w7 ⟨rfl, rfl⟩)
      | (go_at_call 76
         (with_reducible (first | refine (H2.out _).mono ?_ | refine (H3.out _).mono ?_))
         rintro e w7 ⟨rfl, rfl⟩)
      | (go_at_call 74
         (refine (HO.out _ _).mono ?_)
         rintro e w7 ⟨rfl, rfl⟩))
  all_goals go_wp2
  all_goals go_ret
  all_goals exact ⟨rfl, 1, _, by rw [← HW.out, alloc_eq_grow, alloc_eq_grow, alloc_eq_grow, grow_grow, grow_grow, drew_grow]; rfl⟩
end Go.Proofs.YtcembcicpmhpkaaGreatDoor
