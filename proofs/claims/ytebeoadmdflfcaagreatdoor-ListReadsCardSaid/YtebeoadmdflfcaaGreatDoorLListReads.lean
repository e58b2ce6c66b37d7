/-
  The law ListReads holds for every line: list.Read tells what the document's Read tells of every line of at most 100 bytes. No condition.
-/
import Derived.Test.YtebeoadmdflfcaaGreatDoorRows
import Derived.Test.YtebeoadmdflfcaaGreatDoorCards
import Derived.Test.YtebeoadmdflfcaaGreatDoorTie
import Derived.Test.YtebeoadmdflfcaaGreatDoorPe
import Derived.Test.YtebeoadmdflfcaaGreatDoorQh
import Derived.Test.YtebeoadmdflfcaaGreatDoorPsh
import Derived.Test.YtebeoadmdflfcaaGreatDoorTab
import Derived.Stop.LaidErr
import Derived.LaidLaws
import Derived.Lay
import Derived.MakeChecks
import Derived.WalkKit
import Derived.ProofKit
import Derived.OpenShut
import Derived.ShutString
import Derived.ChangeOld
import Derived.Below
import Derived.Lib.SmallJoins
import Derived.SevenTiedAt
import Derived.LaidMore
import Derived.Stop.Joined
import Derived.Deep.Cut
import Derived.RegionTactic
import Derived.Deep.RegionHeld3
import Derived.Deep.CutRange
namespace Go.Proofs.YtebeoadmdflfcaaGreatDoor
open Go.RowKit Go.Shelf
set_option linter.unusedVariables false

theorem bTrans {w w' w'' : World} (h : Below w.heap.size w w') (h2 : Below w'.heap.size w' w'') : Below w.heap.size w w'' := h.trans (h2.mono h.size)
set_option maxRecDepth 100000 in
set_option maxHeartbeats 16000000 in
theorem walk_ListReads {w0 : World} (s : ByteArray) (_hs : s.size ≤ maxLen) (he : EnvN w0) :
    Calls Tryz.prog 3 #[.string s] w0 fun e w' => e = .returned (.bool true) ∧ Below w0.heap.size w0 w' := by
  by_cases hl : s.size ≤ 100
  · have q1 : ¬ (s.size : Int) > 100 := by omega
    have q2 : decide ((s.size : Int) > 100) = false := decide_eq_false q1
    obtain ⟨c, t, f, k, x, ⟨hp, hr⟩, _, _⟩ := reads3_same s hl
    have HP := Lib.hid (hp w0 he)
    have HRF := Lib.hid hr
    have HAW : Hid (∀ X, Below w0.heap.size w0 X → Calls Tryz.prog 9 #[] X fun e w' => e = .returned (.bool true) ∧ Below X.heap.size X w') := Lib.hid fun X hX => awake3_any X (env_on he.r.env hX (Nat.le_refl _))
    clear hp hr he hl
    go_enter Tryz.func3, Tryz.ntmps3
    go_wp2_with fail
    refine HP.out.mono ?_
    rintro e w1 ⟨rfl, hB1⟩
    obtain ⟨W1, hW1⟩ : ∃ X, w1.alloc (.cells (instA c t f k) 25) = X := ⟨_, rfl⟩
    have hb1 : Below w1.heap.size w1 W1 := by rw [← hW1]; exact (Below.refl _ _).alloc (Nat.le_refl _) _
    have r1 : RowC W1 w1.heap.size (instA c t f k) 25 := by rw [← hW1]; exact RowC.new _ _ _ _ rfl
    have HB1 := Lib.hid (bTrans hB1 hb1)
    have HR1 := Lib.hid r1
    have HW1 := Lib.hid hW1
    clear hB1 hb1 r1 hW1
    go_upto_region 4 with fail
    rw [HW1.out]
    clear HW1
    go_wp2_with fail
    refine (HRF.out _).mono ?_
    rintro e w2 ⟨rfl, hB2⟩
    obtain ⟨W2, hW2⟩ : ∃ X, w2.alloc (.cells (instA c t f k) 29) = X := ⟨_, rfl⟩
    have hb2 : Below w2.heap.size w2 W2 := by rw [← hW2]; exact (Below.refl _ _).alloc (Nat.le_refl _) _
    have r2 : RowC W2 w2.heap.size (instA c t f k) 29 := by rw [← hW2]; exact RowC.new _ _ _ _ rfl
    have hb12 := bTrans hB2 hb2
    have r12 := HR1.out.below hb12 HR1.out.lt
    have HBB := Lib.hid (bTrans HB1.out hb12)
    have HW2 := Lib.hid hW2
    have HS0 : Hid (∀ X, Below W2.heap.size W2 X → X.cell? ⟨w1.heap.size, 0, none⟩ = some (.int .u16 c) ∧ X.cell? ⟨w1.heap.size, 1, none⟩ = some (.int .u8 t) ∧ X.cell? ⟨w1.heap.size, 2, none⟩ = some (.int .u8 f) ∧ X.cell? ⟨w1.heap.size, 3, none⟩ = some (.int .u32 k) ∧ X.cell? ⟨w2.heap.size, 0, none⟩ = some (.int .u16 c) ∧ X.cell? ⟨w2.heap.size, 1, none⟩ = some (.int .u8 t) ∧ X.cell? ⟨w2.heap.size, 2, none⟩ = some (.int .u8 f) ∧ X.cell? ⟨w2.heap.size, 3, none⟩ = some (.int .u32 k)) := Lib.hid fun X hX => ⟨(r12.below hX r12.lt).cell 0 _ rfl, (r12.below hX r12.lt).cell 1 _ rfl, (r12.below hX r12.lt).cell 2 _ rfl, (r12.below hX r12.lt).cell 3 _ rfl, (r2.below hX r2.lt).cell 0 _ rfl, (r2.below hX r2.lt).cell 1 _ rfl, (r2.below hX r2.lt).cell 2 _ rfl, (r2.below hX r2.lt).cell 3 _ rfl⟩
    have HAW2 : Hid (∀ X, Below W2.heap.size W2 X → Calls Tryz.prog 9 #[] X fun e w' => e = .returned (.bool true) ∧ Below X.heap.size X w') := Lib.hid fun X hX => HAW.out X (bTrans HBB.out hX)
    clear hB2 hb2 r2 hb12 r12 hW2 HAW HRF
    go_upto_region 5 with fail
    rw [HW2.out]
    have hk0 : Below W2.heap.size W2 W2.drew := (Below.refl _ W2).drew
    clear HW2
    go_region_held3 (fun w' => w'.cell? ⟨w1.heap.size, 0, none⟩ = some (.int .u16 c) ∧ w'.cell? ⟨w1.heap.size, 1, none⟩ = some (.int .u8 t) ∧ w'.cell? ⟨w1.heap.size, 2, none⟩ = some (.int .u8 f) ∧ w'.cell? ⟨w1.heap.size, 3, none⟩ = some (.int .u32 k) ∧ w'.cell? ⟨w2.heap.size, 0, none⟩ = some (.int .u16 c) ∧ w'.cell? ⟨w2.heap.size, 1, none⟩ = some (.int .u8 t) ∧ w'.cell? ⟨w2.heap.size, 2, none⟩ = some (.int .u8 f) ∧ w'.cell? ⟨w2.heap.size, 3, none⟩ = some (.int .u32 k))
      (exact HS0.out _ (by first | with_reducible assumption | exact hk0))
      (first
        | (go_at_call 8
           (with_reducible refine (of3_any _ _ _ _ _).mono ?_)
           rintro e w7 ⟨rfl, hB7⟩
           have hk1 := bTrans (by first | with_reducible assumption | exact hk0) hB7)
        | (go_at_call 9
           (with_reducible refine (HAW2.out _ (by first | with_reducible assumption | exact hk0)).mono ?_)
           rintro e w7 ⟨rfl, hB7⟩
           have hk1 := bTrans (by first | with_reducible assumption | exact hk0) hB7))
    all_goals go_wp2
    all_goals go_ret
    all_goals exact ⟨rfl, bTrans HBB.out (by with_reducible assumption)⟩
  · have q1 : (s.size : Int) > 100 := by omega
    have q2 : decide ((s.size : Int) > 100) = true := decide_eq_true q1
    go_enter Tryz.func3, Tryz.ntmps3
    go_wp2
    go_ret
    exact ⟨rfl, Below.refl _ _⟩
theorem space_datum : (Rows.laid_strings_asciiSpace : DataW Unit) = Lib.tabData .u8 Lib.asciiSpaceTab := by kernel_rfl
theorem starE : "*" ++ "errors.errorString" = "*errors.errorString" := by decide
theorem rowE (u : TypeId) (h : Tryz.prog.typeName? 3 u = some "*errors.errorString") : u = 162 :=
  typeName_ptr_named (nm := "errors.errorString") (by rw [starE]; kernel_rfl) (by kernel_rfl) (by decide) u (by rw [starE]; exact h)
theorem of_laid {W : World} (h : laidMetH Tryz.prog Rows.listReadsRow.laid W) (hSh : W.ShapedOpen Tryz.prog) : EnvN W := by
  rw [MakeChecks.laidMetH_plain _ _ _ (by kernel_rfl)] at h
  have h3 := h.tail.tail.tail.tail
  have h4 := h.tail.tail.tail.tail.tail
  have h7 := h.tail.tail.tail.tail.tail.tail.tail
  rw [space_datum] at h7
  obtain ⟨x, sx, hx, _, _, _⟩ := laid_sentinel (g := 7) (ti := 65) (tp := 162) (te := 164) (ts := 9) h3 (by kernel_rfl) (by kernel_rfl) Tryz.underlying65 rowE Tryz.underlying162 Tryz.underlying164 rfl rfl Tryz.underlying9 (by kernel_rfl) (by kernel_rfl)
  obtain ⟨y, sy, hy, _, _, _⟩ := laid_sentinel (g := 6) (ti := 65) (tp := 162) (te := 164) (ts := 9) h4 (by kernel_rfl) (by kernel_rfl) Tryz.underlying65 rowE Tryz.underlying162 Tryz.underlying164 rfl rfl Tryz.underlying9 (by kernel_rfl) (by kernel_rfl)
  exact ⟨⟨env_of (tab_of_third h) hSh, Lib.tabIs_of_head (t := 103) (e := 5) (n := 256) (g := 0) (by kernel_rfl) (by kernel_rfl) Tryz.underlying103 Tryz.underlying5 (by kernel_rfl) (by kernel_rfl) h7⟩, ⟨_, _, hy⟩, ⟨_, _, hx⟩⟩

namespace listReadsRow
open Go.ChangeShapes Go.WideShapes Go.ChangeAt Go.RowKit Go.Joins
open Go.ChangeMaps (open_string shut_string)
set_option linter.unusedVariables false
theorem own : ownKnob Tryz.prog.godebug = none := by kernel_rfl
theorem laidOut : laidOutB Tryz.prog = true := by kernel_rfl
set_option maxRecDepth 100000 in
theorem lifted (os : Os) (started : os.Started) (H : Type) (enc : TypeId × Value → H) :
    ReturnsInHanded {} Tryz.checked os 3 .any (fun w args => (Rows.listReadsSpec.pre enc Tryz.prog Tryz.f3 [] false w args ∧ laidMetH Tryz.prog Rows.listReadsRow.laid w) ∧ sizedMet enc Tryz.prog Tryz.f3 (OpenSpec.ofChange Rows.listReadsSpec) false w args) (Rows.listReadsSpec.post enc Tryz.prog Tryz.f3 false true false false) := by
  refine returnsInHanded_and_shaped (C := Tryz.checked) (X := fun w _ => laidMetH Tryz.prog Rows.listReadsRow.laid w) (fun _ _ _ hh h => h.of_heap hh) own started (by kernel_rfl) Tryz.func3
    (ChangeSpec.witness_shaped (enc := enc) (C := Tryz.checked) (os := os) (X := fun w _ => laidMetH Tryz.prog Rows.listReadsRow.laid w) false (World.laidAll Tryz.prog os Rows.listReadsRow.laid) #[.string ⟨#[]⟩] 8 (World.laidAll_os _ _ _) (World.shaped_of_ZipB (by kernel_rfl) (by kernel_rfl)) (by kernel_rfl) (by kernel_rfl) (by kernel_rfl) (by rw [MakeChecks.laidMetH_plain _ _ _ (by kernel_rfl)]; exact laidMet_laidAll _ (by kernel_rfl) (by kernel_rfl))) ?_
  intro W base args ds gs before hval0 hW _ _ hL hSh _
  have hval : ∀ (j : Nat) t v, Tryz.f3.params[j]? = some t → args[j]? = some v → Value.okWide Tryz.prog W .any base t v := hval0
  have hW' := hW
  obtain ⟨p, q, hA0, hV, rfl, hfz, hnd⟩ := hW
  have hA : DataW.TrodAll enc Tryz.prog W 0 (fun _ => true) true Tryz.f3.params.toList args.toList ds p := hA0
  rw [Tryz.params3] at hA hval
  obtain ⟨v0, vs0, d0, ds0, p0, q0, hargs, rfl, rfl, h0, r0⟩ := trodAll_cons hA
  obtain ⟨rfl, rfl, rfl⟩ := trodAll_nil r0
  obtain rfl : args = #[v0] := by cases args; simp_all
  obtain ⟨rfl, rfl⟩ := trodVars_none hV
  have k0 := h0
  have lt0 : ∀ x ∈ p0, x.block < W.heap.size := by obtain ⟨m, hm⟩ := k0; exact DataW.trod_lt m _ _ _ hm
  obtain ⟨s0, rfl, rfl, rfl, w0⟩ := open_string Tryz.underlying9 (hval 0 9 v0 rfl rfl) h0
  clear hA0 hval0
  refine (walk_ListReads (w0 := W) s0 w0 (of_laid hL hSh)).mono fun e W' ⟨he, bel⟩ => ?_
  subst he
  exact ⟨_, rfl, _, _, _, [], _, [], hW', trodAll_mk1 (shut_bool Tryz.underlying4 _), (trodAll_cons_mk (Below.trod laidOut (by kernel_rfl) (of_decide_eq_true (by kernel_rfl)) k0 bel lt0) trodAll_mk0), rfl, bel.frame _, fun h => by cases h⟩

theorem over : Rows.listReadsRow.holds Tryz.pinned (OpenSpec.ofChange Rows.listReadsSpec) :=
  OpenClaim.holds_of_wide 3 Tryz.f3 rfl rfl rfl rfl rfl rfl rfl ⟨rfl, rfl, rfl, rfl, rfl⟩ rfl rfl rfl rfl rfl (by kernel_rfl) Tryz.func3 (by kernel_rfl)
    (of_decide_eq_true (by kernel_rfl)) (by unfold Func.isWrapper; first | (rw [if_pos (by decide +kernel)]; kernel_rfl) | (rw [if_neg (by decide +kernel)]; exact ⟨rfl, rfl⟩))
    (fun os started H enc _ => lifted os started H enc)
end listReadsRow

theorem listReads_proved : Rows.ListReadsCardSaid :=
  Claim7.holds_tied_plain_at .later [] [.data, .data, .data, .data, .sentinel, .sentinel, .listed, .data, .pinned] true Rows.listReadsCard.stood.harness true
    listReadsRow.over (fun _ h => by cases h) (by kernel_rfl) (fun _ h => by cases h) listReads_row_tie rfl ⟨rfl, rfl⟩ (by kernel_rfl) rfl
    (fun f fn hf hfn => by
      obtain rfl : f = 3 := Option.some.inj ((show Tryz.prog.funcNamed "strainer/strainerlaw03.ListReads" = some 3 by kernel_rfl).symm.trans hf) |>.symm
      obtain rfl : fn = Tryz.f3 := (Option.some.inj (Tryz.func3.symm.trans hfn)).symm
      exact ⟨by kernel_rfl, fun j t ht => by
        rw [Tryz.params3] at ht
        have hall : ∀ t ∈ [9], Tryz.prog.wantsStandIn t = false := by
          intro t ht
          simp only [List.mem_cons, List.not_mem_nil, or_false] at ht
          rcases ht with rfl <;> kernel_rfl
        exact hall t (by simpa using Array.mem_of_getElem? ht)⟩)
    (by kernel_rfl)
#print axioms listReads_proved
end Go.Proofs.YtebeoadmdflfcaaGreatDoor
