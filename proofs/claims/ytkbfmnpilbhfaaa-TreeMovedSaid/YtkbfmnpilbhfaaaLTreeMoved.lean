/-
  The law TreeMoved holds for every input: numbers that are all so much greater have the same places.
-/
import Derived.Test.YtkbfmnpilbhfaaaXf
import Derived.Test.YtkbfmnpilbhfaaaRows
import Derived.Below
import Derived.ChangeOld
import Derived.ShutString
import Derived.Lib.SmallJoins
import Derived.OpenShut
import Derived.ProofKit
import Derived.WalkKit
import Derived.Deep.Grids
import Derived.Deep.RegionHeld3
namespace Go.Proofs.Ytkbfmnpilbhfaaa
open Go.RowKit

theorem infoU32 : (Try.prog.info? 30).map (fun i => (i.zero, i.size, i.bytes)) = some (some (.int .u32 0), 1, 4) := by kernel_rfl
def gB (g : Nat → Nat) (b i : Nat) : Nat := g i + b
theorem lit_u32 (w : World) (x : Nat) (E : TypeId) : Cel (w.alloc (.cells #[.int .u32 x] E)) (w.heap.size + 1) 1 (some ⟨w.heap.size, 0, none⟩) 1 1 (fun _ => .int .u32 x) :=
  Cel.mk_ (by omega) (Nat.le_refl _) (by decide) (fun i hi => by
    obtain rfl : i = 0 := by omega
    exact (RowC.new w #[.int .u32 x] _ _ rfl).cell 0 _ rfl)
theorem risB_moved (g : Nat → Nat) (b n : Nat) : risB (gB g b) n = risB g n := by
  unfold risB gB
  congr 1
  funext i
  exact decide_eq_decide.2 (by omega)

set_option maxRecDepth 100000 in
set_option maxHeartbeats 8000000 in
theorem walk_TreeMoved {w0 : World} (A : Option Addr) (n c : Nat) (g : Nat → Nat) (hU : U32a w0 A n c g) (z : Int) (hz : (Lit.int .u16 z).wf = true) :
    Calls Try.prog 6 #[.slice A n c, .int .u16 z] w0 fun e w' => e = .returned (.bool true) ∧ Below w0.heap.size w0 w' := by
  simp [Lit.wf, IntKind.min, IntKind.max, IntKind.signed, IntKind.bits] at hz
  obtain ⟨z0, z1⟩ := hz
  obtain ⟨b, rfl⟩ := Int.eq_ofNat_of_zero_le z0
  have hb : b ≤ 65535 := by omega
  have HU := Lib.hid hU
  clear hU z0 z1
  by_cases h1 : n > 300
  · have i1 : (n : Int) > 300 := by omega
    go_enter Try.func6, Try.ntmps6
    go_wp2
    go_ret
    exact ⟨rfl, Below.refl _ _⟩
  have i1 : ¬ (n : Int) > 300 := by omega
  go_enter Try.func6, Try.ntmps6
  go_wp2
  go_loopw [5, 6] (fun mv iv wr => ∃ (k : Nat) (A' : Option Addr) (c' : Nat), k ≤ n ∧ iv = .int .i64 k ∧ mv = .slice A' k c' ∧ Hid (OwnC wr w0.heap.size 30 1 A' k c' (fun i => .int .u32 (gB g b i : Nat)) ∧ Below w0.heap.size w0 wr ∧ ∀ j, j < k → g j < 2147483648)) (fun _ iv _ => n - (intOf iv).toNat)
  case atStart => exact ⟨0, none, 0, by omega, rfl, rfl, Lib.hid ⟨OwnC.nil_, Below.refl _ _, fun j hj => by omega⟩⟩
  case round =>
    obtain ⟨k, A', c', hk, rfl, rfl, HI⟩ := hrel
    by_cases hlt : k < n
    · obtain ⟨bb, o, rfl, hbb, _, _, hc⟩ := (HU.out.below HI.out.2.1).at_ (by omega)
      have j1 : (k : Int) < (n : Int) := by omega
      have j2 : (0 : Int) ≤ (k : Int) := by omega
      have q0 := hc k hlt
      by_cases hg : g k ≥ 2147483648
      · have d : (g k : Int) ≥ 2147483648 := by omega
        clear hc
        go_wp2
        go_ret
        exact ⟨rfl, HI.out.2.1⟩
      · have d : ¬ (g k : Int) ≥ 2147483648 := by omega
        obtain ⟨x, hx⟩ : ∃ x, g k + b = x := ⟨_, rfl⟩
        have v1 : IntKind.u32.wrap ((g k : Int) + (b : Int)) = (x : Int) := by rw [IntKind.wrap_u32]; omega
        have v2 : (g k : Int) + (b : Int) = (x : Int) := by omega
        have HXX := Lib.hid (show gB g b k = x from hx)
        clear hc
        go_wp2_with (at_builtin; refine Hid.out ?_)
        refine Lib.hid ?_
        refine app_cells (zv := .int .u32 0) (z := 1) (by_ := 4) _ rfl _ _ 22 30 rfl Try.underlying22 infoU32 rfl (by omega) (base := w0.heap.size) rfl (HI.out.1.alloc _) rfl (lit_u32 wr x _) (fun i _ => rfl) (by unfold maxLen; omega) (by omega) (by simp; exact Nat.le_succ_of_le HI.out.2.1.size) (k + 1) rfl (fun i => .int .u32 (gB g b i : Nat)) (fun i hi => by
          unfold catC
          split
          · rfl
          · rw [show i = k from by omega, HXX.out]) ?_
        intro A1 c1 w1 hown1 hB1
        have HB1 := Lib.hid ((HI.out.2.1.alloc HI.out.2.1.size (.cells #[.int .u32 x] 30)).trans hB1)
        clear hB1
        go_wp2
        exact ⟨⟨k + 1, A1, c1, by omega, by go_num, rfl, Lib.hid ⟨hown1, HB1.out, fun j hj => by
          by_cases e : j = k
          · subst e; omega
          · exact HI.out.2.2 j (by omega)⟩⟩, by simp [intOf]; omega⟩
    obtain rfl : k = n := by omega
    have j1 : ¬ (k : Int) < (k : Int) := by omega
    have HU1 := Lib.hid (HU.out.below HI.out.2.1)
    have HM := Lib.hid (show U32a wr A' k c' (gB g b) from ⟨HI.out.1.cel, fun i hi => by have := HI.out.2.2 i hi; unfold gB; omega⟩)
    have HB := Lib.hid HI.out.2.1
    cases hr : risB g k with
    | false =>
      have HR := Lib.hid hr
      clear hr
      go_wp2_with fail
      refine (build_no _ _ _ _ _ HU1.out HR.out).mono ?_
      rintro e w1 ⟨rfl, hB1⟩
      go_wp2_with fail
      refine (build_no _ _ _ _ _ (HM.out.below hB1) (by rw [risB_moved]; exact HR.out)).mono ?_
      rintro e w2 ⟨rfl, hB2⟩
      have HB2 := Lib.hid ((HB.out.trans (hB1.mono HB.out.size)).trans (hB2.mono (Nat.le_trans HB.out.size hB1.size)))
      clear hB1 hB2
      go_wp2
      go_loopw [11] (fun iv wx => iv = .int .i64 0 ∧ Below w0.heap.size w0 wx) (fun _ _ => 0)
      case atStart => exact ⟨rfl, HB2.out⟩
      case round =>
        obtain ⟨rfl, hBx⟩ := hrel
        go_wp2_with (go_at_call 9; refine (awake19_any _).mono ?_; rintro e w6 ⟨rfl, hB6⟩)
        all_goals
          go_ret
          exact ⟨rfl, hBx.trans (hB6.mono hBx.size)⟩
    | true =>
      have HR := Lib.hid hr
      clear hr
      go_wp2_with fail
      refine (build_ok _ _ _ _ _ HU1.out HR.out (by omega)).mono ?_
      rintro e w1 ⟨⟨A1, N1, c1, T1, D1, rfl, hT1⟩, hB1⟩
      go_wp2_with fail
      refine (build_ok _ _ _ _ _ (HM.out.below hB1) (by rw [risB_moved]; exact HR.out) (by omega)).mono ?_
      rintro e w2 ⟨⟨A2, N2, c2, T2, D2, rfl, hT2⟩, hB2⟩
      have hN : N1 = N2 := hT1.tree.size.trans hT2.tree.size.symm
      subst hN
      have HB2 := Lib.hid ((HB.out.trans (hB1.mono HB.out.size)).trans (hB2.mono (Nat.le_trans HB.out.size hB1.size)))
      have HT1 := Lib.hid (hT1.below hB2)
      have HT2 := Lib.hid hT2
      have HM2 := Lib.hid ((HM.out.below hB1).below hB2)
      clear hB1 hB2 hT1 hT2
      have d0 : ((N1 : Int) != (N1 : Int)) = false := by simp
      go_wp2
      go_loopw [11] (fun iv wx => ∃ p : Nat, p ≤ k ∧ iv = .int .i64 p ∧ Hid (TreeW g k T1 D1 A1 N1 c1 wx ∧ TreeW (gB g b) k T2 D2 A2 N1 c2 wx ∧ U32a wx A' k c' (gB g b) ∧ Below w0.heap.size w0 wx)) (fun iv _ => k - (intOf iv).toNat)
      case atStart => exact ⟨0, by omega, rfl, Lib.hid ⟨HT1.out, HT2.out, HM2.out, HB2.out⟩⟩
      case round =>
        obtain ⟨p, hp, rfl, HJ⟩ := hrel
        by_cases hlt2 : p < k
        · obtain ⟨bb, o, rfl, _, _, _, hc⟩ := (HU.out.below HJ.out.2.2.2).at_ (by omega)
          obtain ⟨bb2, o2, rfl, _, _, _, hc2⟩ := HJ.out.2.2.1.at_ (by omega)
          have j3 : decide ((p : Int) < (k : Int)) = true := by simp; omega
          have j3' : (p : Int) < (k : Int) := by omega
          have j4 : (0 : Int) ≤ (p : Int) := by omega
          have q0 := hc p hlt2
          have q1 := hc2 p hlt2
          obtain ⟨y, hy⟩ : ∃ y, gB g b p = y := ⟨_, rfl⟩
          have KF : Hid (∀ q, Calls Try.prog 10 #[.slice A1 N1 c1, .int .u32 (g p)] (wr.drewN q) fun e w' => e = .returned (.int .i64 p) ∧ w' = wr.drewN q) := Lib.hid fun q => (HJ.out.1.drewN q).findIs _ _ (.inl ⟨p, by omega, by omega, rfl, rfl⟩)
          have KG : Hid (∀ q, Calls Try.prog 10 #[.slice A2 N1 c2, .int .u32 y] (wr.drewN q) fun e w' => e = .returned (.int .i64 p) ∧ w' = wr.drewN q) := Lib.hid fun q => (HJ.out.2.1.drewN q).findIs _ _ (.inl ⟨p, by omega, by omega, hy, rfl⟩)
          rw [hy] at q1
          have d : ((p : Int) != (p : Int)) = false := by simp
          clear hc hc2 hy
          go_wp2_with fail
          go_quiet ((go_at_call 10; first | (with_reducible exact Calls.quiet_of_same (KF.out _)) | (with_reducible exact Calls.quiet_of_same (KG.out _))))
          go_wp2
          exact ⟨⟨p + 1, by omega, by go_num, Lib.hid ⟨HJ.out.1.drewN nq, HJ.out.2.1.drewN nq, HJ.out.2.2.1.drewN nq, HJ.out.2.2.2.trans (bdn (Below.refl _ _) nq)⟩⟩, by simp [intOf]; omega⟩
        · have j3 : decide ((p : Int) < (k : Int)) = false := by simp; omega
          go_wp2_with (go_at_call 9; refine (awake19_any _).mono ?_; rintro e w6 ⟨rfl, hB6⟩)
          go_ret
          exact ⟨rfl, HJ.out.2.2.2.trans (hB6.mono HJ.out.2.2.2.size)⟩

namespace treeMovedRow
open Go.ChangeShapes Go.WideShapes Go.ChangeAt Go.RowKit Go.Joins
open Go.ChangeMaps (open_string shut_string)
set_option linter.unusedVariables false
theorem own : ownKnob Try.prog.godebug = none := by kernel_rfl
theorem laidOut : laidOutB Try.prog = true := by kernel_rfl
set_option maxRecDepth 100000 in
theorem lifted (os : Os) (started : os.Started) (H : Type) (enc : TypeId × Value → H) :
    ReturnsInHanded {} Try.checked os 6 .any (Rows.treeMovedSpec.pre6 enc Try.prog Try.f6 Rows.treeMovedRow.domain false) (Rows.treeMovedSpec.post enc Try.prog Try.f6 false true false false) := by
  refine returnsInHanded_of_change (C := Try.checked) own started (by kernel_rfl) Try.func6
    (ChangeSpec.witness6 (enc := enc) (C := Try.checked) false ⟨#[], #[.slice none 0 0, .int .u16 0], []⟩ 8 (by kernel_rfl) (by kernel_rfl) (by kernel_rfl) (by kernel_rfl)) ?_
  intro W base args ds gs before hval0 hW hcnd _
  have hval : ∀ (j : Nat) t v, Try.f6.params[j]? = some t → args[j]? = some v → Value.okWide Try.prog W .any base t v := hval0
  have hW' := hW
  obtain ⟨p, q, hA0, hV, rfl, hfz, hnd⟩ := hW
  have hA : DataW.TrodAll enc Try.prog W 0 (fun _ => true) true Try.f6.params.toList args.toList ds p := hA0
  rw [Try.params6] at hA hval
  obtain ⟨v0, vs0, d0, ds0, p0, q0, hargs, rfl, rfl, h0, r0⟩ := trodAll_cons hA
  obtain ⟨v1, vs1, d1, ds1, p1, q1, rfl, rfl, rfl, h1, r1⟩ := trodAll_cons r0
  obtain ⟨rfl, rfl, rfl⟩ := trodAll_nil r1
  obtain rfl : args = #[v0, v1] := by cases args; simp_all
  obtain ⟨rfl, rfl⟩ := trodVars_none hV
  have k0 := h0
  have lt0 : ∀ x ∈ p0, x.block < W.heap.size := by obtain ⟨m, hm⟩ := k0; exact DataW.trod_lt m _ _ _ hm
  have k1 := h1
  have lt1 : ∀ x ∈ p1, x.block < W.heap.size := by obtain ⟨m, hm⟩ := k1; exact DataW.trod_lt m _ _ _ hm
  obtain ⟨a0, len0, cap0, rfl⟩ := okWide_slice Try.underlying22 (hval 0 22 v0 rfl rfl)
  obtain ⟨f0, w0⟩ : ∃ f, U32a W a0 len0 cap0 f := by
    obtain ⟨fuel, hf⟩ := h0
    rcases open_ints Try.underlying22 Try.underlying30 (by kernel_rfl) hf with ⟨hcs, _⟩ | ⟨x, l, c, zs, hcs, _, hl, hm, hz, _, hcell, hwz⟩
    · simp [Value.cells] at hcs
      obtain ⟨rfl, rfl, rfl⟩ := hcs
      exact ⟨fun _ => 0, Cel.nil_, fun i h => by omega⟩
    · simp [Value.cells] at hcs
      obtain ⟨rfl, rfl, rfl⟩ := hcs
      exact ⟨_, u32_of_ints hl hm (by have : zs.length = cap0 := by simpa using hz
                                      omega) hcell hwz⟩
  obtain ⟨a1, rfl, rfl, rfl, w1⟩ := open_int Try.underlying40 (hval 1 40 v1 rfl rfl) h1
  clear hA0 hval0
  refine (walk_TreeMoved (w0 := W) a0 len0 cap0 f0 w0 a1 w1).mono fun e W' ⟨he, bel⟩ => ?_
  subst he
  exact ⟨_, rfl, _, _, _, [], _, [], hW', trodAll_mk1 (shut_bool Try.underlying4 _), (trodAll_cons_mk (Below.trod laidOut (by kernel_rfl) (of_decide_eq_true (by kernel_rfl)) k0 bel lt0) (trodAll_cons_mk (Below.trod laidOut (by kernel_rfl) (of_decide_eq_true (by kernel_rfl)) k1 bel lt1) trodAll_mk0)), rfl, bel.frame _, fun h => by cases h⟩

theorem over : Rows.treeMovedRow.holds Try.pinned (OpenSpec.ofChange Rows.treeMovedSpec) :=
  OpenClaim.holds_of_wide 6 Try.f6 rfl rfl rfl rfl rfl rfl rfl ⟨rfl, rfl, rfl, rfl, rfl⟩ rfl rfl rfl rfl rfl (by kernel_rfl) Try.func6 (by kernel_rfl)
    (of_decide_eq_true (by kernel_rfl)) (by unfold Func.isWrapper; first | (rw [if_pos (by decide +kernel)]; kernel_rfl) | (rw [if_neg (by decide +kernel)]; exact ⟨rfl, rfl⟩))
    (fun os started H enc _ => lifted os started H enc)
end treeMovedRow

theorem treeMoved_proved : Rows.TreeMovedSaid := treeMovedRow.over
#print axioms treeMoved_proved
end Go.Proofs.Ytkbfmnpilbhfaaa
