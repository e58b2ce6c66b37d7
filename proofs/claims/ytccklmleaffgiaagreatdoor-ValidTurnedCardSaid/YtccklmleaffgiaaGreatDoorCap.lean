/-
  Layer 15: the order of conditions (compare) and SortFunc by it.
-/
import Derived.Test.YtccklmleaffgiaaGreatDoorP5
import Derived.RegionTactic
import Derived.Deep.RegionWith
import Derived.Deep.RegionHeld3
namespace Go.Proofs.YtccklmleaffgiaaGreatDoor
open Go.RowKit Go.Shelf Go.Lib Go.Sort
set_option linter.unusedVariables false

set_option maxRecDepth 100000 in
set_option maxHeartbeats 8000000 in
theorem compareV_any (a o m v a' o' m' v' : Int) (w : World) :
    Calls Tryz.prog 90 #[.agg #[.int .i64 a, .int .i64 o, .int .u64 m, .int .u64 v], .agg #[.int .i64 a', .int .i64 o', .int .u64 m', .int .u64 v']] w fun e w' => e = .returned (.int .i64 (cmpC a o m v a' o' m' v')) ∧ ∃ q os', w' = grow (w.drewN q) os' := by
  obtain ⟨r0, h0⟩ : ∃ r, cmpZ a a' = r := ⟨_, rfl⟩
  obtain ⟨r1, h1⟩ : ∃ r, cmpZ o o' = r := ⟨_, rfl⟩
  obtain ⟨r2, h2⟩ : ∃ r, cmpZ m m' = r := ⟨_, rfl⟩
  obtain ⟨r3, h3⟩ : ∃ r, cmpZ v v' = r := ⟨_, rfl⟩
  have g0 := fun X => cmpI_any a a' X
  have g1 := fun X => cmpI_any o o' X
  have g2 := fun X => cmpU_any m m' X
  have g3 := fun X => cmpU_any v v' X
  unfold cmpC
  rw [h0] at g0 ⊢
  rw [h1] at g1 ⊢
  rw [h2] at g2 ⊢
  rw [h3] at g3 ⊢
  have H0 := Lib.hid g0
  have H1 := Lib.hid g1
  have H2 := Lib.hid g2
  have H3 := Lib.hid g3
  have HO := Lib.hid fun (X : World) t => orI_any X.heap.size r0 r1 r2 r3 (X.alloc (.cells #[.int .i64 r0, .int .i64 r1, .int .i64 r2, .int .i64 r3] t)).drew ((RowC.new X #[.int .i64 r0, .int .i64 r1, .int .i64 r2, .int .i64 r3] t _ rfl).cell 0 _ rfl) ((RowC.new X #[.int .i64 r0, .int .i64 r1, .int .i64 r2, .int .i64 r3] t _ rfl).cell 1 _ rfl) ((RowC.new X #[.int .i64 r0, .int .i64 r1, .int .i64 r2, .int .i64 r3] t _ rfl).cell 2 _ rfl) ((RowC.new X #[.int .i64 r0, .int .i64 r1, .int .i64 r2, .int .i64 r3] t _ rfl).cell 3 _ rfl)
  clear h0 h1 h2 h3 g0 g1 g2 g3
  obtain ⟨W0, hW0⟩ : ∃ W, (w.alloc (.cells #[.int .i64 a, .int .i64 o, .int .u64 m, .int .u64 v] 53)).alloc (.cells #[.int .i64 a', .int .i64 o', .int .u64 m', .int .u64 v'] 53) = W := ⟨_, rfl⟩
  have HP := Lib.hid (show RowC W0 w.heap.size #[.int .i64 a, .int .i64 o, .int .u64 m, .int .u64 v] 53 by rw [← hW0]; exact (RowC.new _ _ _ _ rfl).alloc _)
  have HQ := Lib.hid (show RowC W0 (w.heap.size + 1) #[.int .i64 a', .int .i64 o', .int .u64 m', .int .u64 v'] 53 by rw [← hW0]; exact RowC.new _ _ _ _ (by simp))
  have HW := Lib.hid hW0
  clear hW0
  have HS0 : Hid (∀ X, Below W0.heap.size W0 X → X.cell? ⟨w.heap.size, 0, none⟩ = some (.int .i64 a) ∧ X.cell? ⟨w.heap.size, 1, none⟩ = some (.int .i64 o) ∧ X.cell? ⟨w.heap.size, 2, none⟩ = some (.int .u64 m) ∧ X.cell? ⟨w.heap.size, 3, none⟩ = some (.int .u64 v) ∧ X.cell? ⟨w.heap.size + 1, 0, none⟩ = some (.int .i64 a') ∧ X.cell? ⟨w.heap.size + 1, 1, none⟩ = some (.int .i64 o') ∧ X.cell? ⟨w.heap.size + 1, 2, none⟩ = some (.int .u64 m') ∧ X.cell? ⟨w.heap.size + 1, 3, none⟩ = some (.int .u64 v')) :=
    Lib.hid fun X hX => have h1 := HP.out.below hX HP.out.lt
      have h2 := HQ.out.below hX HQ.out.lt
      ⟨h1.cell 0 _ rfl, h1.cell 1 _ rfl, h1.cell 2 _ rfl, h1.cell 3 _ rfl, h2.cell 0 _ rfl, h2.cell 1 _ rfl, h2.cell 2 _ rfl, h2.cell 3 _ rfl⟩
  have hk0 : Below W0.heap.size W0 W0.drew := (Below.refl _ W0).drew
  have hs0 : W0.drew.heap.size = W0.heap.size := rfl
  have hk1 : ∀ C t, Below W0.heap.size W0 (W0.drew.alloc (.cells C t)) := fun C t => hk0.alloc (by rw [hs0]; exact Nat.le_refl _) _
  clear hs0
  have HK := Lib.hid hk1
  clear hk1
  go_enter Tryz.func90, Tryz.ntmps90
  go_upto_region 1 with fail
  rw [HW.out]
  go_region_held3 (fun w' => w'.cell? ⟨w.heap.size, 0, none⟩ = some (.int .i64 a) ∧ w'.cell? ⟨w.heap.size, 1, none⟩ = some (.int .i64 o) ∧ w'.cell? ⟨w.heap.size, 2, none⟩ = some (.int .u64 m) ∧ w'.cell? ⟨w.heap.size, 3, none⟩ = some (.int .u64 v) ∧ w'.cell? ⟨w.heap.size + 1, 0, none⟩ = some (.int .i64 a') ∧ w'.cell? ⟨w.heap.size + 1, 1, none⟩ = some (.int .i64 o') ∧ w'.cell? ⟨w.heap.size + 1, 2, none⟩ = some (.int .u64 m') ∧ w'.cell? ⟨w.heap.size + 1, 3, none⟩ = some (.int .u64 v'))
    (exact HS0.out _ (by first | exact hk0 | exact HK.out _ _))
    (first
      | (go_at_call 114
         (with_reducible (first | refine (H0.out _).mono ?_ | refine (H1.out _).mono ?_))
         rintro e w7 ⟨rfl, rfl⟩)
      | (go_at_call 115
         (with_reducible (first | refine (H2.out _).mono ?_ | refine (H3.out _).mono ?_))
         rintro e w7 ⟨rfl, rfl⟩)
      | (go_at_call 113
         (refine (HO.out _ _).mono ?_)
         rintro e w7 ⟨rfl, rfl⟩))
  all_goals go_wp2
  all_goals go_ret
  all_goals exact ⟨rfl, 1, _, by rw [← HW.out, alloc_eq_grow, alloc_eq_grow, alloc_eq_grow, grow_grow, grow_grow, drew_grow]; rfl⟩
theorem cmpLaysV (blk off size : Nat) (w : World) : CmpLays Tryz.prog 90 #[] encC 4 cfC blk off size w :=
  fun _ _ _ _ x y => compareV_any x.1 x.2.1 x.2.2.1 x.2.2.2 y.1 y.2.1 y.2.2.1 y.2.2.2 _
theorem sortV_any (blk off cap : Nat) (d : Array CV) (w : World) (hH : HoldsK encC 4 w blk off d) (hblk : blk < w.heap.size) (h12 : d.size ≤ 12) :
    Calls Tryz.prog 89 #[.slice (some ⟨blk, off, none⟩) d.size cap, .func (.func 90) #[] #[]] w fun e w' => e = .returned (.tuple #[]) ∧ ∃ d' n os, PermIn 0 d.size d d' ∧ SortedIn (ltOf cfC) 0 d.size d' ∧ w' = sortWorldK encC 4 w blk off n d' os :=
  AnyQ.slices_SortFunc_small_sorted Tryz.sortCd 4 Tryz.isAgg53 Tryz.sizeOf53 encC (fun _ => rfl) (fun x v hv => by simp [encC] at hv; rcases hv with rfl | rfl | rfl | rfl <;> rfl) cfC 90 #[] swoC blk off cap d w (enters_of Tryz.func90 (by kernel_rfl) rfl) (cmpLaysV blk off d.size w) hH hblk h12 (fun n W hn => len_12 n hn W)
end Go.Proofs.YtccklmleaffgiaaGreatDoor
