/-
  The law ListApart holds for every input: two instructions have one line just if they are the same. No condition.
-/
import Derived.Test.YticncngnggncbaaDoorRows
import Derived.Test.YticncngnggncbaaDoorCards
import Derived.Test.YticncngnggncbaaDoorTie
import Derived.Test.YticncngnggncbaaDoorPe
import Derived.Test.YticncngnggncbaaDoorPsh
import Derived.Test.YticncngnggncbaaDoorTab
import Derived.Lay
import Derived.MakeChecks
import Derived.WalkKit
import Derived.ProofKit
import Derived.OpenShut
import Derived.ShutString
import Derived.ChangeOld
import Derived.Below
import Derived.Lib.SmallJoins
import Derived.SevenTiedAt
import Derived.LaidMore
import Derived.Stop.Joined
import Derived.Deep.Cut
import Derived.RegionTactic
import Derived.Deep.RegionHeld3
import Derived.Deep.CutRange
namespace Go.Proofs.YticncngnggncbaaDoor
open Go.RowKit Go.Shelf
set_option linter.unusedVariables false

theorem bTrans {w w' w'' : World} (h : Below w.heap.size w w') (h2 : Below w'.heap.size w' w'') : Below w.heap.size w w'' := h.trans (h2.mono h.size)
set_option maxRecDepth 100000 in
set_option maxHeartbeats 16000000 in
theorem walk_ListApart {w0 : World} (c t f k : Nat) (hc : c < 65536) (ht : t < 256) (hf : f < 256) (hk : k < 4294967296) (c' t' f' k' : Nat) (hc' : c' < 65536) (ht' : t' < 256) (hf' : f' < 256) (hk' : k' < 4294967296) (he : EnvL w0) :
    Calls Tryd.prog 4 #[.agg #[.int .u16 c, .int .u8 t, .int .u8 f, .int .u32 k], .agg #[.int .u16 c', .int .u8 t', .int .u8 f', .int .u32 k']] w0 fun e w' => e = .returned (.bool true) ∧ Below w0.heap.size w0 w' := by
  obtain ⟨W0, hW0⟩ : ∃ W, (w0.alloc (.cells (instA c t f k) 25)).alloc (.cells (instA c' t' f' k') 25) = W := ⟨_, rfl⟩
  have hb0 : Below w0.heap.size w0 W0 := by rw [← hW0]; exact ((Below.refl _ _).alloc (Nat.le_refl _) _).alloc (by simp) _
  have r0 : RowC W0 w0.heap.size (instA c t f k) 25 := by rw [← hW0]; exact (RowC.new _ _ _ _ rfl).alloc _
  have r1 : RowC W0 (w0.heap.size + 1) (instA c' t' f' k') 25 := by rw [← hW0]; exact RowC.new _ _ _ _ (by simp)
  have HE := Lib.hid he
  obtain ⟨R, hR⟩ : ∃ R : ByteArray, (⟨(lineL c t f k).toArray⟩ : ByteArray) = R := ⟨_, rfl⟩
  obtain ⟨S, hS⟩ : ∃ S : ByteArray, (⟨(lineL c' t' f' k').toArray⟩ : ByteArray) = S := ⟨_, rfl⟩
  have HLA : Hid (∀ W, Below W0.heap.size W0 W → Calls Tryd.prog 5 #[.agg #[.int .u16 c, .int .u8 t, .int .u8 f, .int .u32 k]] W fun e w' => e = .returned (.string R) ∧ Below W.heap.size W w') := Lib.hid fun W hW => by
    rw [← hR]
    exact lineP_any c t f k hc ht hf hk W (env_on HE.out (hb0.trans (hW.mono hb0.size)) (Nat.le_refl _))
  have HLB : Hid (∀ W, Below W0.heap.size W0 W → Calls Tryd.prog 5 #[.agg #[.int .u16 c', .int .u8 t', .int .u8 f', .int .u32 k']] W fun e w' => e = .returned (.string S) ∧ Below W.heap.size W w') := Lib.hid fun W hW => by
    rw [← hS]
    exact lineP_any c' t' f' k' hc' ht' hf' hk' W (env_on HE.out (hb0.trans (hW.mono hb0.size)) (Nat.le_refl _))
  have HAW : Hid (∀ W, Below W0.heap.size W0 W → Calls Tryd.prog 8 #[] W fun e w' => e = .returned (.bool true) ∧ Below W.heap.size W w') := Lib.hid fun W hW => awake3_any W (env_on HE.out (hb0.trans (hW.mono hb0.size)) (Nat.le_refl _))
  have hS0 : Hid (∀ W, Below W0.heap.size W0 W → W.cell? ⟨w0.heap.size, 0, none⟩ = some (.int .u16 c) ∧ W.cell? ⟨w0.heap.size, 1, none⟩ = some (.int .u8 t) ∧ W.cell? ⟨w0.heap.size, 2, none⟩ = some (.int .u8 f) ∧ W.cell? ⟨w0.heap.size, 3, none⟩ = some (.int .u32 k) ∧ W.cell? ⟨w0.heap.size + 1, 0, none⟩ = some (.int .u16 c') ∧ W.cell? ⟨w0.heap.size + 1, 1, none⟩ = some (.int .u8 t') ∧ W.cell? ⟨w0.heap.size + 1, 2, none⟩ = some (.int .u8 f') ∧ W.cell? ⟨w0.heap.size + 1, 3, none⟩ = some (.int .u32 k')) := Lib.hid fun W hW => ⟨(r0.below hW r0.lt).cell 0 _ rfl, (r0.below hW r0.lt).cell 1 _ rfl, (r0.below hW r0.lt).cell 2 _ rfl, (r0.below hW r0.lt).cell 3 _ rfl, (r1.below hW r1.lt).cell 0 _ rfl, (r1.below hW r1.lt).cell 1 _ rfl, (r1.below hW r1.lt).cell 2 _ rfl, (r1.below hW r1.lt).cell 3 _ rfl⟩
  have hk0 : Below W0.heap.size W0 W0.drew := (Below.refl _ W0).drew
  have hne : ¬ (c = c' ∧ t = t' ∧ f = f' ∧ k = k') → (R.toList == S.toList) = false := fun hn => by
    rw [← hR, ← hS, Lib.toList_data, Lib.toList_data]
    exact beq_eq_false_iff_ne.2 fun h => hn (line_inj (show lineL c t f k = lineL c' t' f' k' from by simpa using h))
  have hcases : (R = S ∧ c = c' ∧ t = t' ∧ f = f' ∧ k = k') ∨ ((R.toList == S.toList) = false ∧ ¬ (c : Int) = (c' : Int)) ∨ ((R.toList == S.toList) = false ∧ c = c' ∧ ¬ (t : Int) = (t' : Int)) ∨ ((R.toList == S.toList) = false ∧ c = c' ∧ t = t' ∧ ¬ (f : Int) = (f' : Int)) ∨ ((R.toList == S.toList) = false ∧ c = c' ∧ t = t' ∧ f = f' ∧ ¬ (k : Int) = (k' : Int)) := by
    by_cases h1 : c = c'
    · by_cases h2 : t = t'
      · by_cases h3 : f = f'
        · by_cases h4 : k = k'
          · exact .inl ⟨by rw [← hR, ← hS, h1, h2, h3, h4], h1, h2, h3, h4⟩
          · exact .inr (.inr (.inr (.inr ⟨hne fun h => h4 h.2.2.2, h1, h2, h3, by omega⟩)))
        · exact .inr (.inr (.inr (.inl ⟨hne fun h => h3 h.2.2.1, h1, h2, by omega⟩)))
      · exact .inr (.inr (.inl ⟨hne fun h => h2 h.2.1, h1, by omega⟩))
    · exact .inr (.inl ⟨hne fun h => h1 h.1, by omega⟩)
  have HW := Lib.hid hW0
  have HB := Lib.hid hb0
  clear he hb0 r0 r1 hW0 hR hS hne
  rcases hcases with ⟨h0, h1, h2, h3, h4⟩ | ⟨h0, h1⟩ | ⟨h0, h1, h2⟩ | ⟨h0, h1, h2, h3⟩ | ⟨h0, h1, h2, h3, h4⟩
  · subst h0 h1 h2 h3 h4
    go_enter Tryd.func4, Tryd.ntmps4
    go_upto_region 1 with fail
    rw [HW.out]
    go_region_held3 (fun w' => w'.cell? ⟨w0.heap.size, 0, none⟩ = some (.int .u16 c) ∧ w'.cell? ⟨w0.heap.size, 1, none⟩ = some (.int .u8 t) ∧ w'.cell? ⟨w0.heap.size, 2, none⟩ = some (.int .u8 f) ∧ w'.cell? ⟨w0.heap.size, 3, none⟩ = some (.int .u32 k) ∧ w'.cell? ⟨w0.heap.size + 1, 0, none⟩ = some (.int .u16 c) ∧ w'.cell? ⟨w0.heap.size + 1, 1, none⟩ = some (.int .u8 t) ∧ w'.cell? ⟨w0.heap.size + 1, 2, none⟩ = some (.int .u8 f) ∧ w'.cell? ⟨w0.heap.size + 1, 3, none⟩ = some (.int .u32 k))
      (exact hS0.out _ (by first | with_reducible assumption | exact hk0))
      (first
        | (go_at_call 6
           (with_reducible refine (of3_any _ _ _ _ _).mono ?_)
           rintro e w7 ⟨rfl, hB7⟩
           have hk1 := bTrans (by first | with_reducible assumption | exact hk0) hB7)
        | (go_at_call 5
           (first
             | (with_reducible refine (HLA.out _ (by first | with_reducible assumption | exact hk0)).mono ?_)
             | (with_reducible refine (HLB.out _ (by first | with_reducible assumption | exact hk0)).mono ?_))
           rintro e w7 ⟨rfl, hB7⟩
           have hk1 := bTrans (by first | with_reducible assumption | exact hk0) hB7)
        | (go_at_call 8
           (with_reducible refine (HAW.out _ (by first | with_reducible assumption | exact hk0)).mono ?_)
           rintro e w7 ⟨rfl, hB7⟩
           have hk1 := bTrans (by first | with_reducible assumption | exact hk0) hB7))
    all_goals go_wp2
    all_goals go_ret
    all_goals exact ⟨rfl, HB.out.trans ((by with_reducible assumption : Below W0.heap.size W0 _).mono HB.out.size)⟩
  · have h1b : ((c : Int) == (c' : Int)) = false := beq_eq_false_iff_ne.2 h1
    go_enter Tryd.func4, Tryd.ntmps4
    go_upto_region 1 with fail
    rw [HW.out]
    go_region_held3 (fun w' => w'.cell? ⟨w0.heap.size, 0, none⟩ = some (.int .u16 c) ∧ w'.cell? ⟨w0.heap.size, 1, none⟩ = some (.int .u8 t) ∧ w'.cell? ⟨w0.heap.size, 2, none⟩ = some (.int .u8 f) ∧ w'.cell? ⟨w0.heap.size, 3, none⟩ = some (.int .u32 k) ∧ w'.cell? ⟨w0.heap.size + 1, 0, none⟩ = some (.int .u16 c') ∧ w'.cell? ⟨w0.heap.size + 1, 1, none⟩ = some (.int .u8 t') ∧ w'.cell? ⟨w0.heap.size + 1, 2, none⟩ = some (.int .u8 f') ∧ w'.cell? ⟨w0.heap.size + 1, 3, none⟩ = some (.int .u32 k'))
      (exact hS0.out _ (by first | with_reducible assumption | exact hk0))
      (first
        | (go_at_call 6
           (with_reducible refine (of3_any _ _ _ _ _).mono ?_)
           rintro e w7 ⟨rfl, hB7⟩
           have hk1 := bTrans (by first | with_reducible assumption | exact hk0) hB7)
        | (go_at_call 5
           (first
             | (with_reducible refine (HLA.out _ (by first | with_reducible assumption | exact hk0)).mono ?_)
             | (with_reducible refine (HLB.out _ (by first | with_reducible assumption | exact hk0)).mono ?_))
           rintro e w7 ⟨rfl, hB7⟩
           have hk1 := bTrans (by first | with_reducible assumption | exact hk0) hB7)
        | (go_at_call 8
           (with_reducible refine (HAW.out _ (by first | with_reducible assumption | exact hk0)).mono ?_)
           rintro e w7 ⟨rfl, hB7⟩
           have hk1 := bTrans (by first | with_reducible assumption | exact hk0) hB7))
    all_goals go_wp2
    all_goals go_ret
    all_goals exact ⟨rfl, HB.out.trans ((by with_reducible assumption : Below W0.heap.size W0 _).mono HB.out.size)⟩
  · subst h1
    have h1b : ((t : Int) == (t' : Int)) = false := beq_eq_false_iff_ne.2 h2
    go_enter Tryd.func4, Tryd.ntmps4
    go_upto_region 1 with fail
    rw [HW.out]
    go_region_held3 (fun w' => w'.cell? ⟨w0.heap.size, 0, none⟩ = some (.int .u16 c) ∧ w'.cell? ⟨w0.heap.size, 1, none⟩ = some (.int .u8 t) ∧ w'.cell? ⟨w0.heap.size, 2, none⟩ = some (.int .u8 f) ∧ w'.cell? ⟨w0.heap.size, 3, none⟩ = some (.int .u32 k) ∧ w'.cell? ⟨w0.heap.size + 1, 0, none⟩ = some (.int .u16 c) ∧ w'.cell? ⟨w0.heap.size + 1, 1, none⟩ = some (.int .u8 t') ∧ w'.cell? ⟨w0.heap.size + 1, 2, none⟩ = some (.int .u8 f') ∧ w'.cell? ⟨w0.heap.size + 1, 3, none⟩ = some (.int .u32 k'))
      (exact hS0.out _ (by first | with_reducible assumption | exact hk0))
      (first
        | (go_at_call 6
           (with_reducible refine (of3_any _ _ _ _ _).mono ?_)
           rintro e w7 ⟨rfl, hB7⟩
           have hk1 := bTrans (by first | with_reducible assumption | exact hk0) hB7)
        | (go_at_call 5
           (first
             | (with_reducible refine (HLA.out _ (by first | with_reducible assumption | exact hk0)).mono ?_)
             | (with_reducible refine (HLB.out _ (by first | with_reducible assumption | exact hk0)).mono ?_))
           rintro e w7 ⟨rfl, hB7⟩
           have hk1 := bTrans (by first | with_reducible assumption | exact hk0) hB7)
        | (go_at_call 8
           (with_reducible refine (HAW.out _ (by first | with_reducible assumption | exact hk0)).mono ?_)
           rintro e w7 ⟨rfl, hB7⟩
           have hk1 := bTrans (by first | with_reducible assumption | exact hk0) hB7))
    all_goals go_wp2
    all_goals go_ret
    all_goals exact ⟨rfl, HB.out.trans ((by with_reducible assumption : Below W0.heap.size W0 _).mono HB.out.size)⟩
  · subst h1 h2
    have h1b : ((f : Int) == (f' : Int)) = false := beq_eq_false_iff_ne.2 h3
    go_enter Tryd.func4, Tryd.ntmps4
    go_upto_region 1 with fail
    rw [HW.out]
    go_region_held3 (fun w' => w'.cell? ⟨w0.heap.size, 0, none⟩ = some (.int .u16 c) ∧ w'.cell? ⟨w0.heap.size, 1, none⟩ = some (.int .u8 t) ∧ w'.cell? ⟨w0.heap.size, 2, none⟩ = some (.int .u8 f) ∧ w'.cell? ⟨w0.heap.size, 3, none⟩ = some (.int .u32 k) ∧ w'.cell? ⟨w0.heap.size + 1, 0, none⟩ = some (.int .u16 c) ∧ w'.cell? ⟨w0.heap.size + 1, 1, none⟩ = some (.int .u8 t) ∧ w'.cell? ⟨w0.heap.size + 1, 2, none⟩ = some (.int .u8 f') ∧ w'.cell? ⟨w0.heap.size + 1, 3, none⟩ = some (.int .u32 k'))
      (exact hS0.out _ (by first | with_reducible assumption | exact hk0))
      (first
        | (go_at_call 6
           (with_reducible refine (of3_any _ _ _ _ _).mono ?_)
           rintro e w7 ⟨rfl, hB7⟩
           have hk1 := bTrans (by first | with_reducible assumption | exact hk0) hB7)
        | (go_at_call 5
           (first
             | (with_reducible refine (HLA.out _ (by first | with_reducible assumption | exact hk0)).mono ?_)
             | (with_reducible refine (HLB.out _ (by first | with_reducible assumption | exact hk0)).mono ?_))
           rintro e w7 ⟨rfl, hB7⟩
           have hk1 := bTrans (by first | with_reducible assumption | exact hk0) hB7)
        | (go_at_call 8
           (with_reducible refine (HAW.out _ (by first | with_reducible assumption | exact hk0)).mono ?_)
           rintro e w7 ⟨rfl, hB7⟩
           have hk1 := bTrans (by first | with_reducible assumption | exact hk0) hB7))
    all_goals go_wp2
    all_goals go_ret
    all_goals exact ⟨rfl, HB.out.trans ((by with_reducible assumption : Below W0.heap.size W0 _).mono HB.out.size)⟩
  · subst h1 h2 h3
    have h1b : ((k : Int) == (k' : Int)) = false := beq_eq_false_iff_ne.2 h4
    go_enter Tryd.func4, Tryd.ntmps4
    go_upto_region 1 with fail
    rw [HW.out]
    go_region_held3 (fun w' => w'.cell? ⟨w0.heap.size, 0, none⟩ = some (.int .u16 c) ∧ w'.cell? ⟨w0.heap.size, 1, none⟩ = some (.int .u8 t) ∧ w'.cell? ⟨w0.heap.size, 2, none⟩ = some (.int .u8 f) ∧ w'.cell? ⟨w0.heap.size, 3, none⟩ = some (.int .u32 k) ∧ w'.cell? ⟨w0.heap.size + 1, 0, none⟩ = some (.int .u16 c) ∧ w'.cell? ⟨w0.heap.size + 1, 1, none⟩ = some (.int .u8 t) ∧ w'.cell? ⟨w0.heap.size + 1, 2, none⟩ = some (.int .u8 f) ∧ w'.cell? ⟨w0.heap.size + 1, 3, none⟩ = some (.int .u32 k'))
      (exact hS0.out _ (by first | with_reducible assumption | exact hk0))
      (first
        | (go_at_call 6
           (with_reducible refine (of3_any _ _ _ _ _).mono ?_)
           rintro e w7 ⟨rfl, hB7⟩
           have hk1 := bTrans (by first | with_reducible assumption | exact hk0) hB7)
        | (go_at_call 5
           (first
             | (with_reducible refine (HLA.out _ (by first | with_reducible assumption | exact hk0)).mono ?_)
             | (with_reducible refine (HLB.out _ (by first | with_reducible assumption | exact hk0)).mono ?_))
           rintro e w7 ⟨rfl, hB7⟩
           have hk1 := bTrans (by first | with_reducible assumption | exact hk0) hB7)
        | (go_at_call 8
           (with_reducible refine (HAW.out _ (by first | with_reducible assumption | exact hk0)).mono ?_)
           rintro e w7 ⟨rfl, hB7⟩
           have hk1 := bTrans (by first | with_reducible assumption | exact hk0) hB7))
    all_goals go_wp2
    all_goals go_ret
    all_goals exact ⟨rfl, HB.out.trans ((by with_reducible assumption : Below W0.heap.size W0 _).mono HB.out.size)⟩
theorem of_laid {W : World} (h : laidMetH Tryd.prog Rows.listApartRow.laid W) (hSh : W.ShapedOpen Tryd.prog) : EnvL W := by
  rw [MakeChecks.laidMetH_plain _ _ _ (by kernel_rfl)] at h
  exact env_of (tab_of_third h) hSh

namespace listApartRow
open Go.ChangeShapes Go.WideShapes Go.ChangeAt Go.RowKit Go.Joins
open Go.ChangeMaps (open_string shut_string)
set_option linter.unusedVariables false
theorem own : ownKnob Tryd.prog.godebug = none := by kernel_rfl
theorem laidOut : laidOutB Tryd.prog = true := by kernel_rfl
set_option maxRecDepth 100000 in
theorem lifted (os : Os) (started : os.Started) (H : Type) (enc : TypeId × Value → H) :
    ReturnsInHanded {} Tryd.checked os 4 .any (fun w args => (Rows.listApartSpec.pre enc Tryd.prog Tryd.f4 [] false w args ∧ laidMetH Tryd.prog Rows.listApartRow.laid w) ∧ sizedMet enc Tryd.prog Tryd.f4 (OpenSpec.ofChange Rows.listApartSpec) false w args) (Rows.listApartSpec.post enc Tryd.prog Tryd.f4 false true false false) := by
  refine returnsInHanded_and_shaped (C := Tryd.checked) (X := fun w _ => laidMetH Tryd.prog Rows.listApartRow.laid w) (fun _ _ _ hh h => h.of_heap hh) own started (by kernel_rfl) Tryd.func4
    (ChangeSpec.witness_shaped (enc := enc) (C := Tryd.checked) (os := os) (X := fun w _ => laidMetH Tryd.prog Rows.listApartRow.laid w) false (World.laidAll Tryd.prog os Rows.listApartRow.laid) #[.agg #[.int .u16 0, .int .u8 0, .int .u8 0, .int .u32 0], .agg #[.int .u16 0, .int .u8 0, .int .u8 0, .int .u32 0]] 8 (World.laidAll_os _ _ _) (World.shaped_of_ZipB (by kernel_rfl) (by kernel_rfl)) (by kernel_rfl) (by kernel_rfl) (by kernel_rfl) (by rw [MakeChecks.laidMetH_plain _ _ _ (by kernel_rfl)]; exact laidMet_laidAll _ (by kernel_rfl) (by kernel_rfl))) ?_
  intro W base args ds gs before hval0 hW _ _ hL hSh _
  have hval : ∀ (j : Nat) t v, Tryd.f4.params[j]? = some t → args[j]? = some v → Value.okWide Tryd.prog W .any base t v := hval0
  have hW' := hW
  obtain ⟨p, q, hA0, hV, rfl, hfz, hnd⟩ := hW
  have hA : DataW.TrodAll enc Tryd.prog W 0 (fun _ => true) true Tryd.f4.params.toList args.toList ds p := hA0
  rw [Tryd.params4] at hA hval
  obtain ⟨v0, vs0, d0, ds0, p0, q0, hargs, rfl, rfl, h0, r0⟩ := trodAll_cons hA
  obtain ⟨v1, vs1, d1, ds1, p1, q1, rfl, rfl, rfl, h1, r1⟩ := trodAll_cons r0
  obtain ⟨rfl, rfl, rfl⟩ := trodAll_nil r1
  obtain rfl : args = #[v0, v1] := by cases args; simp_all
  obtain ⟨rfl, rfl⟩ := trodVars_none hV
  have k0 := h0
  have lt0 : ∀ x ∈ p0, x.block < W.heap.size := by obtain ⟨m, hm⟩ := k0; exact DataW.trod_lt m _ _ _ hm
  have k1 := h1
  have lt1 : ∀ x ∈ p1, x.block < W.heap.size := by obtain ⟨m, hm⟩ := k1; exact DataW.trod_lt m _ _ _ hm
  obtain ⟨cc00, cc01, cc02, cc03, yy00, yy01, yy02, yy03, mm0, rfl, _, _, hyy00, hyy01, hyy02, hyy03⟩ := open_agg4 Tryd.underlying25 (by kernel_rfl) (show Tryd.prog.cellsOf 25 = 4 by kernel_rfl) (hval 0 25 v0 rfl rfl) h0
  obtain ⟨n00, ee00, _, u00⟩ := DataW.trod_int Tryd.underlying22 hyy00
  obtain ⟨n01, ee01, _, u01⟩ := DataW.trod_int Tryd.underlying5 hyy01
  obtain ⟨n02, ee02, _, u02⟩ := DataW.trod_int Tryd.underlying5 hyy02
  obtain ⟨n03, ee03, _, u03⟩ := DataW.trod_int Tryd.underlying23 hyy03
  simp only [List.cons.injEq, and_true] at ee00 ee01 ee02 ee03
  subst ee00 ee01 ee02 ee03
  simp [Lit.wf, IntKind.min, IntKind.max, IntKind.signed, IntKind.bits] at u00 u01 u02 u03
  obtain ⟨x00, rfl⟩ := Int.eq_ofNat_of_zero_le u00.1
  obtain ⟨x01, rfl⟩ := Int.eq_ofNat_of_zero_le u01.1
  obtain ⟨x02, rfl⟩ := Int.eq_ofNat_of_zero_le u02.1
  obtain ⟨x03, rfl⟩ := Int.eq_ofNat_of_zero_le u03.1
  obtain ⟨cc10, cc11, cc12, cc13, yy10, yy11, yy12, yy13, mm1, rfl, _, _, hyy10, hyy11, hyy12, hyy13⟩ := open_agg4 Tryd.underlying25 (by kernel_rfl) (show Tryd.prog.cellsOf 25 = 4 by kernel_rfl) (hval 1 25 v1 rfl rfl) h1
  obtain ⟨n10, ee10, _, u10⟩ := DataW.trod_int Tryd.underlying22 hyy10
  obtain ⟨n11, ee11, _, u11⟩ := DataW.trod_int Tryd.underlying5 hyy11
  obtain ⟨n12, ee12, _, u12⟩ := DataW.trod_int Tryd.underlying5 hyy12
  obtain ⟨n13, ee13, _, u13⟩ := DataW.trod_int Tryd.underlying23 hyy13
  simp only [List.cons.injEq, and_true] at ee10 ee11 ee12 ee13
  subst ee10 ee11 ee12 ee13
  simp [Lit.wf, IntKind.min, IntKind.max, IntKind.signed, IntKind.bits] at u10 u11 u12 u13
  obtain ⟨x10, rfl⟩ := Int.eq_ofNat_of_zero_le u10.1
  obtain ⟨x11, rfl⟩ := Int.eq_ofNat_of_zero_le u11.1
  obtain ⟨x12, rfl⟩ := Int.eq_ofNat_of_zero_le u12.1
  obtain ⟨x13, rfl⟩ := Int.eq_ofNat_of_zero_le u13.1
  clear hA0 hval0
  refine (walk_ListApart (w0 := W) x00 x01 x02 x03 (by omega) (by omega) (by omega) (by omega) x10 x11 x12 x13 (by omega) (by omega) (by omega) (by omega) (of_laid hL hSh)).mono fun e W' ⟨he, bel⟩ => ?_
  subst he
  exact ⟨_, rfl, _, _, _, [], _, [], hW', trodAll_mk1 (shut_bool Tryd.underlying4 _), (trodAll_cons_mk (Below.trod laidOut (by kernel_rfl) (of_decide_eq_true (by kernel_rfl)) k0 bel lt0) (trodAll_cons_mk (Below.trod laidOut (by kernel_rfl) (of_decide_eq_true (by kernel_rfl)) k1 bel lt1) trodAll_mk0)), rfl, bel.frame _, fun h => by cases h⟩

theorem over : Rows.listApartRow.holds Tryd.pinned (OpenSpec.ofChange Rows.listApartSpec) :=
  OpenClaim.holds_of_wide 4 Tryd.f4 rfl rfl rfl rfl rfl rfl rfl ⟨rfl, rfl, rfl, rfl, rfl⟩ rfl rfl rfl rfl rfl (by kernel_rfl) Tryd.func4 (by kernel_rfl)
    (of_decide_eq_true (by kernel_rfl)) (by unfold Func.isWrapper; first | (rw [if_pos (by decide +kernel)]; kernel_rfl) | (rw [if_neg (by decide +kernel)]; exact ⟨rfl, rfl⟩))
    (fun os started H enc _ => lifted os started H enc)
end listApartRow

theorem listApart_proved : Rows.ListApartCardSaid :=
  Claim7.holds_tied_plain_at .later [] [.data, .data, .data, .data, .pinned] true Rows.listApartCard.stood.harness false
    listApartRow.over (fun _ h => by cases h) (by kernel_rfl) (fun _ h => by cases h) listApart_row_tie rfl ⟨rfl, rfl⟩ (by kernel_rfl) rfl
    (fun f fn hf hfn => by
      obtain rfl : f = 4 := Option.some.inj ((show Tryd.prog.funcNamed "strainer/strainerlaw03.ListApart" = some 4 by kernel_rfl).symm.trans hf) |>.symm
      obtain rfl : fn = Tryd.f4 := (Option.some.inj (Tryd.func4.symm.trans hfn)).symm
      exact ⟨by kernel_rfl, fun j t ht => by
        rw [Tryd.params4] at ht
        have hall : ∀ t ∈ [25, 25], Tryd.prog.wantsStandIn t = false := by
          intro t ht
          simp only [List.mem_cons, List.not_mem_nil, or_false] at ht
          rcases ht with rfl | rfl <;> kernel_rfl
        exact hall t (by simpa using Array.mem_of_getElem? ht)⟩)
    (by kernel_rfl)
#print axioms listApart_proved
end Go.Proofs.YticncngnggncbaaDoor
