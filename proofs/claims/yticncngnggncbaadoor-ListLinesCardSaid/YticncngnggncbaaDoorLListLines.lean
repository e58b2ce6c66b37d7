/-
  The law ListLines holds for every input: any instruction's line is the document's. No condition.
-/
import Derived.Test.YticncngnggncbaaDoorRows
import Derived.Test.YticncngnggncbaaDoorCards
import Derived.Test.YticncngnggncbaaDoorTie
import Derived.Test.YticncngnggncbaaDoorPe
import Derived.Test.YticncngnggncbaaDoorPh
import Derived.Test.YticncngnggncbaaDoorPsh
import Derived.Test.YticncngnggncbaaDoorTab
import Derived.Lay
import Derived.MakeChecks
import Derived.WalkKit
import Derived.ProofKit
import Derived.OpenShut
import Derived.ShutString
import Derived.ChangeOld
import Derived.Below
import Derived.Lib.SmallJoins
import Derived.SevenTiedAt
import Derived.LaidMore
import Derived.Stop.Joined
import Derived.Deep.Cut
import Derived.RegionTactic
import Derived.Deep.RegionHeld3
import Derived.Deep.CutRange
namespace Go.Proofs.YticncngnggncbaaDoor
open Go.RowKit Go.Shelf
set_option linter.unusedVariables false

theorem bTrans {w w' w'' : World} (h : Below w.heap.size w w') (h2 : Below w'.heap.size w' w'') : Below w.heap.size w w'' := h.trans (h2.mono h.size)
set_option maxRecDepth 100000 in
set_option maxHeartbeats 16000000 in
theorem walk_ListLines {w0 : World} (c t f k : Nat) (hc : c < 65536) (ht : t < 256) (hf : f < 256) (hk : k < 4294967296) (he : EnvL w0) :
    Calls Tryd.prog 3 #[.agg #[.int .u16 c, .int .u8 t, .int .u8 f, .int .u32 k]] w0 fun e w' => e = .returned (.bool true) ∧ Below w0.heap.size w0 w' := by
  obtain ⟨W0, hW0⟩ : ∃ W, w0.alloc (.cells (instA c t f k) 25) = W := ⟨_, rfl⟩
  have hb0 : Below w0.heap.size w0 W0 := by rw [← hW0]; exact (Below.refl _ _).alloc (Nat.le_refl _) _
  have r0 : RowC W0 w0.heap.size (instA c t f k) 25 := by rw [← hW0]; exact RowC.new _ _ _ _ rfl
  have HE := Lib.hid he
  obtain ⟨R, hR⟩ : ∃ R : ByteArray, (⟨(lineL c t f k).toArray⟩ : ByteArray) = R := ⟨_, rfl⟩
  obtain ⟨K, X, hK, h1, h2, h3⟩ := ofF_nat c hc t f k
  have HLA : Hid (∀ W, Below W0.heap.size W0 W → Calls Tryd.prog 5 #[.agg #[.int .u16 c, .int .u8 t, .int .u8 f, .int .u32 k]] W fun e w' => e = .returned (.string R) ∧ Below W.heap.size W w') := Lib.hid fun W hW => by
    rw [← hR]
    exact lineP_any c t f k hc ht hf hk W (env_on HE.out (hb0.trans (hW.mono hb0.size)) (Nat.le_refl _))
  have HLB : Hid (∀ W, Calls Tryd.prog 7 #[.agg #[.int .u16 c, .int .u8 t, .int .u8 f, .int .u32 k]] W fun e w' => e = .returned (.string R) ∧ Below W.heap.size W w') := Lib.hid fun W => by
    rw [← hR, h3]
    refine refLine_any K hK X c t f k hc ht hf hk (fun W => ?_) W
    have h := refOf_any (c : Int) W (by omega) (by omega)
    rw [h1, h2] at h
    exact h
  have HAW : Hid (∀ W, Below W0.heap.size W0 W → Calls Tryd.prog 8 #[] W fun e w' => e = .returned (.bool true) ∧ Below W.heap.size W w') := Lib.hid fun W hW => awake3_any W (env_on HE.out (hb0.trans (hW.mono hb0.size)) (Nat.le_refl _))
  have hS0 : Hid (∀ W, Below W0.heap.size W0 W → W.cell? ⟨w0.heap.size, 0, none⟩ = some (.int .u16 c) ∧ W.cell? ⟨w0.heap.size, 1, none⟩ = some (.int .u8 t) ∧ W.cell? ⟨w0.heap.size, 2, none⟩ = some (.int .u8 f) ∧ W.cell? ⟨w0.heap.size, 3, none⟩ = some (.int .u32 k)) := Lib.hid fun W hW => ⟨(r0.below hW r0.lt).cell 0 _ rfl, (r0.below hW r0.lt).cell 1 _ rfl, (r0.below hW r0.lt).cell 2 _ rfl, (r0.below hW r0.lt).cell 3 _ rfl⟩
  have hk0 : Below W0.heap.size W0 W0.drew := (Below.refl _ W0).drew
  have HW := Lib.hid hW0
  have HB := Lib.hid hb0
  clear he hb0 r0 hW0 hR h1 h2 h3
  go_enter Tryd.func3, Tryd.ntmps3
  go_upto_region 1 with fail
  rw [HW.out]
  go_region_held3 (fun w' => w'.cell? ⟨w0.heap.size, 0, none⟩ = some (.int .u16 c) ∧ w'.cell? ⟨w0.heap.size, 1, none⟩ = some (.int .u8 t) ∧ w'.cell? ⟨w0.heap.size, 2, none⟩ = some (.int .u8 f) ∧ w'.cell? ⟨w0.heap.size, 3, none⟩ = some (.int .u32 k))
    (exact hS0.out _ (by first | with_reducible assumption | exact hk0))
    (first
      | (go_at_call 6
         (with_reducible refine (of3_any _ _ _ _ _).mono ?_)
         rintro e w7 ⟨rfl, hB7⟩
         have hk1 := bTrans (by first | with_reducible assumption | exact hk0) hB7)
      | (go_at_call 5
         (with_reducible refine (HLA.out _ (by first | with_reducible assumption | exact hk0)).mono ?_)
         rintro e w7 ⟨rfl, hB7⟩
         have hk1 := bTrans (by first | with_reducible assumption | exact hk0) hB7)
      | (go_at_call 7
         (with_reducible refine (HLB.out _).mono ?_)
         rintro e w7 ⟨rfl, hB7⟩
         have hk1 := bTrans (by first | with_reducible assumption | exact hk0) hB7)
      | (go_at_call 8
         (with_reducible refine (HAW.out _ (by first | with_reducible assumption | exact hk0)).mono ?_)
         rintro e w7 ⟨rfl, hB7⟩
         have hk1 := bTrans (by first | with_reducible assumption | exact hk0) hB7))
  all_goals go_wp2
  all_goals go_ret
  all_goals exact ⟨rfl, HB.out.trans ((by with_reducible assumption : Below W0.heap.size W0 _).mono HB.out.size)⟩
theorem of_laid {W : World} (h : laidMetH Tryd.prog Rows.listLinesRow.laid W) (hSh : W.ShapedOpen Tryd.prog) : EnvL W := by
  rw [MakeChecks.laidMetH_plain _ _ _ (by kernel_rfl)] at h
  exact env_of (tab_of_third h) hSh

namespace listLinesRow
open Go.ChangeShapes Go.WideShapes Go.ChangeAt Go.RowKit Go.Joins
open Go.ChangeMaps (open_string shut_string)
set_option linter.unusedVariables false
theorem own : ownKnob Tryd.prog.godebug = none := by kernel_rfl
theorem laidOut : laidOutB Tryd.prog = true := by kernel_rfl
set_option maxRecDepth 100000 in
theorem lifted (os : Os) (started : os.Started) (H : Type) (enc : TypeId × Value → H) :
    ReturnsInHanded {} Tryd.checked os 3 .any (fun w args => (Rows.listLinesSpec.pre enc Tryd.prog Tryd.f3 [] false w args ∧ laidMetH Tryd.prog Rows.listLinesRow.laid w) ∧ sizedMet enc Tryd.prog Tryd.f3 (OpenSpec.ofChange Rows.listLinesSpec) false w args) (Rows.listLinesSpec.post enc Tryd.prog Tryd.f3 false true false false) := by
  refine returnsInHanded_and_shaped (C := Tryd.checked) (X := fun w _ => laidMetH Tryd.prog Rows.listLinesRow.laid w) (fun _ _ _ hh h => h.of_heap hh) own started (by kernel_rfl) Tryd.func3
    (ChangeSpec.witness_shaped (enc := enc) (C := Tryd.checked) (os := os) (X := fun w _ => laidMetH Tryd.prog Rows.listLinesRow.laid w) false (World.laidAll Tryd.prog os Rows.listLinesRow.laid) #[.agg #[.int .u16 0, .int .u8 0, .int .u8 0, .int .u32 0]] 8 (World.laidAll_os _ _ _) (World.shaped_of_ZipB (by kernel_rfl) (by kernel_rfl)) (by kernel_rfl) (by kernel_rfl) (by kernel_rfl) (by rw [MakeChecks.laidMetH_plain _ _ _ (by kernel_rfl)]; exact laidMet_laidAll _ (by kernel_rfl) (by kernel_rfl))) ?_
  intro W base args ds gs before hval0 hW _ _ hL hSh _
  have hval : ∀ (j : Nat) t v, Tryd.f3.params[j]? = some t → args[j]? = some v → Value.okWide Tryd.prog W .any base t v := hval0
  have hW' := hW
  obtain ⟨p, q, hA0, hV, rfl, hfz, hnd⟩ := hW
  have hA : DataW.TrodAll enc Tryd.prog W 0 (fun _ => true) true Tryd.f3.params.toList args.toList ds p := hA0
  rw [Tryd.params3] at hA hval
  obtain ⟨v0, vs0, d0, ds0, p0, q0, hargs, rfl, rfl, h0, r0⟩ := trodAll_cons hA
  obtain ⟨rfl, rfl, rfl⟩ := trodAll_nil r0
  obtain rfl : args = #[v0] := by cases args; simp_all
  obtain ⟨rfl, rfl⟩ := trodVars_none hV
  have k0 := h0
  have lt0 : ∀ x ∈ p0, x.block < W.heap.size := by obtain ⟨m, hm⟩ := k0; exact DataW.trod_lt m _ _ _ hm
  obtain ⟨cc00, cc01, cc02, cc03, yy00, yy01, yy02, yy03, mm0, rfl, _, _, hyy00, hyy01, hyy02, hyy03⟩ := open_agg4 Tryd.underlying25 (by kernel_rfl) (show Tryd.prog.cellsOf 25 = 4 by kernel_rfl) (hval 0 25 v0 rfl rfl) h0
  obtain ⟨n00, ee00, _, u00⟩ := DataW.trod_int Tryd.underlying22 hyy00
  obtain ⟨n01, ee01, _, u01⟩ := DataW.trod_int Tryd.underlying5 hyy01
  obtain ⟨n02, ee02, _, u02⟩ := DataW.trod_int Tryd.underlying5 hyy02
  obtain ⟨n03, ee03, _, u03⟩ := DataW.trod_int Tryd.underlying23 hyy03
  simp only [List.cons.injEq, and_true] at ee00 ee01 ee02 ee03
  subst ee00 ee01 ee02 ee03
  simp [Lit.wf, IntKind.min, IntKind.max, IntKind.signed, IntKind.bits] at u00 u01 u02 u03
  obtain ⟨x00, rfl⟩ := Int.eq_ofNat_of_zero_le u00.1
  obtain ⟨x01, rfl⟩ := Int.eq_ofNat_of_zero_le u01.1
  obtain ⟨x02, rfl⟩ := Int.eq_ofNat_of_zero_le u02.1
  obtain ⟨x03, rfl⟩ := Int.eq_ofNat_of_zero_le u03.1
  clear hA0 hval0
  refine (walk_ListLines (w0 := W) x00 x01 x02 x03 (by omega) (by omega) (by omega) (by omega) (of_laid hL hSh)).mono fun e W' ⟨he, bel⟩ => ?_
  subst he
  exact ⟨_, rfl, _, _, _, [], _, [], hW', trodAll_mk1 (shut_bool Tryd.underlying4 _), (trodAll_cons_mk (Below.trod laidOut (by kernel_rfl) (of_decide_eq_true (by kernel_rfl)) k0 bel lt0) trodAll_mk0), rfl, bel.frame _, fun h => by cases h⟩

theorem over : Rows.listLinesRow.holds Tryd.pinned (OpenSpec.ofChange Rows.listLinesSpec) :=
  OpenClaim.holds_of_wide 3 Tryd.f3 rfl rfl rfl rfl rfl rfl rfl ⟨rfl, rfl, rfl, rfl, rfl⟩ rfl rfl rfl rfl rfl (by kernel_rfl) Tryd.func3 (by kernel_rfl)
    (of_decide_eq_true (by kernel_rfl)) (by unfold Func.isWrapper; first | (rw [if_pos (by decide +kernel)]; kernel_rfl) | (rw [if_neg (by decide +kernel)]; exact ⟨rfl, rfl⟩))
    (fun os started H enc _ => lifted os started H enc)
end listLinesRow

theorem listLines_proved : Rows.ListLinesCardSaid :=
  Claim7.holds_tied_plain_at .later [] [.data, .data, .data, .data, .pinned] true Rows.listLinesCard.stood.harness false
    listLinesRow.over (fun _ h => by cases h) (by kernel_rfl) (fun _ h => by cases h) listLines_row_tie rfl ⟨rfl, rfl⟩ (by kernel_rfl) rfl
    (fun f fn hf hfn => by
      obtain rfl : f = 3 := Option.some.inj ((show Tryd.prog.funcNamed "strainer/strainerlaw03.ListLines" = some 3 by kernel_rfl).symm.trans hf) |>.symm
      obtain rfl : fn = Tryd.f3 := (Option.some.inj (Tryd.func3.symm.trans hfn)).symm
      exact ⟨by kernel_rfl, fun j t ht => by
        rw [Tryd.params3] at ht
        have hall : ∀ t ∈ [25], Tryd.prog.wantsStandIn t = false := by
          intro t ht
          simp only [List.mem_cons, List.not_mem_nil, or_false] at ht
          rcases ht with rfl <;> kernel_rfl
        exact hall t (by simpa using Array.mem_of_getElem? ht)⟩)
    (by kernel_rfl)
#print axioms listLines_proved
end Go.Proofs.YticncngnggncbaaDoor
