/-
  The law TreeFinds holds for every input: which place any number has in the tree of any numbers, or why there is none.
-/
import Derived.Test.YtkbfmnpilbhfaaaXf
import Derived.Test.YtkbfmnpilbhfaaaRows
import Derived.Below
import Derived.ChangeOld
import Derived.ShutString
import Derived.Lib.SmallJoins
import Derived.OpenShut
import Derived.ProofKit
import Derived.WalkKit
import Derived.Deep.Grids
import Derived.Deep.RegionHeld3
namespace Go.Proofs.Ytkbfmnpilbhfaaa
open Go.RowKit

theorem infoU32 : (Try.prog.info? 30).map (fun i => (i.zero, i.size, i.bytes)) = some (some (.int .u32 0), 1, 4) := by kernel_rfl
theorem own_lit0 (w : World) {F : Nat → Value} : OwnC (w.alloc (.cells #[] 30)) w.heap.size 30 1 (some ⟨w.heap.size, 0, none⟩) 0 0 F :=
  ⟨by simp, .inr ⟨w.heap.size, 0, _, rfl, Nat.le_refl _, heap_alloc_last w _, Nat.le_refl _, by unfold maxLen; omega, by simp, by simp⟩⟩
theorem wrong_cases (g : Nat → Nat) (n : Nat) (hn : n ≤ 4096) : (risB g n = true ∧ wrongF g n = 0) ∨ (risB g n = false ∧ wrongF g n = 15) := by
  unfold wrongF
  cases risB g n
  · exact .inr ⟨rfl, rfl⟩
  · exact .inl ⟨rfl, by rw [if_pos rfl, if_neg (by omega)]⟩

set_option maxRecDepth 100000 in
set_option maxHeartbeats 8000000 in
theorem walk_TreeFinds {w0 : World} (A : Option Addr) (n c : Nat) (g : Nat → Nat) (hU : U32a w0 A n c g) (A2 : Option Addr) (m c2 : Nat) (a : Nat → Nat) (hV : U32a w0 A2 m c2 a) :
    Calls Try.prog 3 #[.slice A n c, .slice A2 m c2] w0 fun e w' => e = .returned (.bool true) ∧ Below w0.heap.size w0 w' := by
  have HU := Lib.hid hU
  have HV := Lib.hid hV
  clear hU hV
  by_cases h1 : n > 300
  · have i1 : decide ((n : Int) > 300) = true := by simp; omega
    go_enter Try.func3, Try.ntmps3
    go_wp2
    go_ret
    exact ⟨rfl, Below.refl _ _⟩
  have i1 : decide ((n : Int) > 300) = false := by simp; omega
  by_cases h2 : m > 300
  · have i2 : (m : Int) > 300 := by omega
    go_enter Try.func3, Try.ntmps3
    go_wp2
    go_ret
    exact ⟨rfl, Below.refl _ _⟩
  have i2 : ¬ (m : Int) > 300 := by omega
  rcases wrong_cases g n (by omega) with ⟨hr, hw⟩ | ⟨hr, hw⟩
  case inr =>
    have HR := Lib.hid hr
    have HW := Lib.hid hw
    clear hr hw
    go_enter Try.func3, Try.ntmps3
    go_wp2_with (first
      | (at_builtin
         refine app_cells (zv := .int .u32 0) (z := 1) (by_ := 4) _ rfl _ _ 22 30 rfl Try.underlying22 infoU32 rfl (by omega) (base := w0.heap.size) rfl (own_lit0 w0 (F := fun _ => .int .u32 0)) rfl (HU.out.below ((Below.refl _ _).alloc (Nat.le_refl _) _)).1 (fun i _ => rfl) (by unfold maxLen; omega) (by omega) (by simp) n (by omega) (fun i => .int .u32 (g i : Nat)) (fun i _ => by simp [catC]) ?_
         intro A1 c1 w1 hown hB1
         have HU1 := Lib.hid (show U32a w1 A1 n c1 g from ⟨hown.cel, HU.out.2⟩)
         have HB1 := Lib.hid (((Below.refl w0.heap.size w0).alloc (Nat.le_refl _) (.cells #[] 30)).trans hB1)
         clear hown hB1)
      | (go_at_call 7
         refine (build_no _ _ _ _ _ HU1.out HR.out).mono ?_
         rintro e w2 ⟨rfl, hB2⟩
         have HB2 := Lib.hid (HB1.out.trans (hB2.mono HB1.out.size))
         clear hB2)
      | (go_at_call 8
         refine (wrong_any _ _ _ _ _ (HU.out.below HB2.out)).mono ?_
         rw [HW.out]
         rintro e w3 ⟨rfl, hB3⟩
         have HB3 := Lib.hid (HB2.out.trans (hB3.mono HB2.out.size))
         clear hB3)
      | (go_at_call 9
         refine (awake19_any _).mono ?_
         rintro e w4 ⟨rfl, hB4⟩
         have HB4 := Lib.hid (HB3.out.trans (hB4.mono HB3.out.size))
         clear hB4))
    go_ret
    exact ⟨rfl, HB4.out⟩
  case inl =>
    have HR := Lib.hid hr
    have HW := Lib.hid hw
    clear hr hw
    go_enter Try.func3, Try.ntmps3
    go_wp2_with (first
      | (at_builtin
         refine app_cells (zv := .int .u32 0) (z := 1) (by_ := 4) _ rfl _ _ 22 30 rfl Try.underlying22 infoU32 rfl (by omega) (base := w0.heap.size) rfl (own_lit0 w0 (F := fun _ => .int .u32 0)) rfl (HU.out.below ((Below.refl _ _).alloc (Nat.le_refl _) _)).1 (fun i _ => rfl) (by unfold maxLen; omega) (by omega) (by simp) n (by omega) (fun i => .int .u32 (g i : Nat)) (fun i _ => by simp [catC]) ?_
         intro A1 c1 w1 hown hB1
         have HU1 := Lib.hid (show U32a w1 A1 n c1 g from ⟨hown.cel, HU.out.2⟩)
         have HB1 := Lib.hid (((Below.refl w0.heap.size w0).alloc (Nat.le_refl _) (.cells #[] 30)).trans hB1)
         clear hown hB1)
      | (go_at_call 7
         refine (build_ok _ _ _ _ _ HU1.out HR.out (by omega)).mono ?_
         rintro e w2 ⟨⟨A', N, c', T, D, rfl, hT⟩, hB2⟩
         have HT := Lib.hid hT
         have hN0 : ((N : Int) == 0) = false := by have := hT.lo; simp; omega
         have HB2 := Lib.hid (HB1.out.trans (hB2.mono HB1.out.size))
         clear hB2 hT)
      | (go_at_call 8
         refine (wrong_any _ _ _ _ _ (HU.out.below HB2.out)).mono ?_
         rw [HW.out]
         rintro e w3 ⟨rfl, hB3⟩
         have HT3 := Lib.hid (HT.out.below hB3)
         have HB3 := Lib.hid (HB2.out.trans (hB3.mono HB2.out.size))
         clear hB3 HT))
    go_loopw [8] (fun iv wr => ∃ k : Nat, k ≤ m ∧ iv = .int .i64 k ∧ Hid (TreeW g n T D A' N c' wr ∧ Below w0.heap.size w0 wr)) (fun iv _ => m - (intOf iv).toNat)
    case atStart => exact ⟨0, by omega, rfl, Lib.hid ⟨HT3.out, HB3.out⟩⟩
    case round =>
      obtain ⟨k, hk, rfl, HI⟩ := hrel
      by_cases hlt : k < m
      · obtain ⟨b, o, rfl, _, _, _, hc⟩ := (HV.out.below HI.out.2).at_ (by omega)
        have j1 : (k : Int) < (m : Int) := by omega
        have j2 : (0 : Int) ≤ (k : Int) := by omega
        have q0 := hc k hlt
        obtain ⟨r, hf, hp⟩ := HI.out.1.tree.finds HI.out.1.ris (a k)
        have KF : Hid (∀ q, Calls Try.prog 10 #[.slice A' N c', .int .u32 (a k)] (wr.drewN q) fun e w' => e = .returned (.int .i64 r) ∧ w' = wr.drewN q) := Lib.hid fun q => (HI.out.1.drewN q).findIs _ _ hp
        have KP : Hid (∀ q, Calls Try.prog 11 #[.slice A n c, .int .u32 (a k)] (wr.drewN q) fun e w' => e = .returned (.int .i64 r) ∧ w' = wr.drewN q) := Lib.hid fun q => place_is _ _ _ _ _ _ _ ((HU.out.below HI.out.2).drewN q) HI.out.1.ris hp
        have d : (r != r) = false := by simp
        clear hc hf hp
        go_wp2_with fail
        go_quiet ((first | (go_at_call 10; exact Calls.quiet_of_same (KF.out _)) | (go_at_call 11; exact Calls.quiet_of_same (KP.out _))))
        go_wp2
        exact ⟨⟨k + 1, by omega, by go_num, Lib.hid ⟨HI.out.1.drewN nq, HI.out.2.trans (bdn (Below.refl _ _) nq)⟩⟩, by simp [intOf]; omega⟩
      · have j1 : ¬ (k : Int) < (m : Int) := by omega
        go_wp2
        go_loopw [9] (fun iv wr => ∃ k : Nat, k ≤ n ∧ iv = .int .i64 k ∧ Hid (TreeW g n T D A' N c' wr ∧ Below w0.heap.size w0 wr)) (fun iv _ => n - (intOf iv).toNat)
        case atStart => exact ⟨0, by omega, rfl, HI⟩
        case round =>
          obtain ⟨p, hp, rfl, HJ⟩ := hrel
          by_cases hlt2 : p < n
          · obtain ⟨b, o, rfl, _, _, _, hc⟩ := (HU.out.below HJ.out.2).at_ (by omega)
            have j3 : (p : Int) < (n : Int) := by omega
            have j4 : (0 : Int) ≤ (p : Int) := by omega
            have q0 := hc p hlt2
            have KF := Lib.hid (HJ.out.1.findIs (g p) p (.inl ⟨p, by omega, by omega, rfl, rfl⟩))
            have d : ((p : Int) != (p : Int)) = false := by simp
            clear hc
            go_wp2_with (go_at_call 10; refine KF.out.mono ?_; rintro e w5 ⟨rfl, rfl⟩)
            exact ⟨⟨p + 1, by omega, by go_num, HJ⟩, by simp [intOf]; omega⟩
          · have j3 : ¬ (p : Int) < (n : Int) := by omega
            go_wp2_with (go_at_call 9; refine (awake19_any _).mono ?_; rintro e w6 ⟨rfl, hB6⟩)
            go_ret
            exact ⟨rfl, HJ.out.2.trans (hB6.mono HJ.out.2.size)⟩

namespace treeFindsRow
open Go.ChangeShapes Go.WideShapes Go.ChangeAt Go.RowKit Go.Joins
open Go.ChangeMaps (open_string shut_string)
set_option linter.unusedVariables false
theorem own : ownKnob Try.prog.godebug = none := by kernel_rfl
theorem laidOut : laidOutB Try.prog = true := by kernel_rfl
set_option maxRecDepth 100000 in
theorem lifted (os : Os) (started : os.Started) (H : Type) (enc : TypeId × Value → H) :
    ReturnsInHanded {} Try.checked os 3 .any (Rows.treeFindsSpec.pre6 enc Try.prog Try.f3 Rows.treeFindsRow.domain false) (Rows.treeFindsSpec.post enc Try.prog Try.f3 false true false false) := by
  refine returnsInHanded_of_change (C := Try.checked) own started (by kernel_rfl) Try.func3
    (ChangeSpec.witness6 (enc := enc) (C := Try.checked) false ⟨#[], #[.slice none 0 0, .slice none 0 0], []⟩ 8 (by kernel_rfl) (by kernel_rfl) (by kernel_rfl) (by kernel_rfl)) ?_
  intro W base args ds gs before hval0 hW hcnd _
  have hval : ∀ (j : Nat) t v, Try.f3.params[j]? = some t → args[j]? = some v → Value.okWide Try.prog W .any base t v := hval0
  have hW' := hW
  obtain ⟨p, q, hA0, hV, rfl, hfz, hnd⟩ := hW
  have hA : DataW.TrodAll enc Try.prog W 0 (fun _ => true) true Try.f3.params.toList args.toList ds p := hA0
  rw [Try.params3] at hA hval
  obtain ⟨v0, vs0, d0, ds0, p0, q0, hargs, rfl, rfl, h0, r0⟩ := trodAll_cons hA
  obtain ⟨v1, vs1, d1, ds1, p1, q1, rfl, rfl, rfl, h1, r1⟩ := trodAll_cons r0
  obtain ⟨rfl, rfl, rfl⟩ := trodAll_nil r1
  obtain rfl : args = #[v0, v1] := by cases args; simp_all
  obtain ⟨rfl, rfl⟩ := trodVars_none hV
  have k0 := h0
  have lt0 : ∀ x ∈ p0, x.block < W.heap.size := by obtain ⟨m, hm⟩ := k0; exact DataW.trod_lt m _ _ _ hm
  have k1 := h1
  have lt1 : ∀ x ∈ p1, x.block < W.heap.size := by obtain ⟨m, hm⟩ := k1; exact DataW.trod_lt m _ _ _ hm
  obtain ⟨a0, len0, cap0, rfl⟩ := okWide_slice Try.underlying22 (hval 0 22 v0 rfl rfl)
  obtain ⟨f0, w0⟩ : ∃ f, U32a W a0 len0 cap0 f := by
    obtain ⟨fuel, hf⟩ := h0
    rcases open_ints Try.underlying22 Try.underlying30 (by kernel_rfl) hf with ⟨hcs, _⟩ | ⟨x, l, c, zs, hcs, _, hl, hm, hz, _, hcell, hwz⟩
    · simp [Value.cells] at hcs
      obtain ⟨rfl, rfl, rfl⟩ := hcs
      exact ⟨fun _ => 0, Cel.nil_, fun i h => by omega⟩
    · simp [Value.cells] at hcs
      obtain ⟨rfl, rfl, rfl⟩ := hcs
      exact ⟨_, u32_of_ints hl hm (by have : zs.length = cap0 := by simpa using hz
                                      omega) hcell hwz⟩
  obtain ⟨a1, len1, cap1, rfl⟩ := okWide_slice Try.underlying22 (hval 1 22 v1 rfl rfl)
  obtain ⟨f1, w1⟩ : ∃ f, U32a W a1 len1 cap1 f := by
    obtain ⟨fuel, hf⟩ := h1
    rcases open_ints Try.underlying22 Try.underlying30 (by kernel_rfl) hf with ⟨hcs, _⟩ | ⟨x, l, c, zs, hcs, _, hl, hm, hz, _, hcell, hwz⟩
    · simp [Value.cells] at hcs
      obtain ⟨rfl, rfl, rfl⟩ := hcs
      exact ⟨fun _ => 0, Cel.nil_, fun i h => by omega⟩
    · simp [Value.cells] at hcs
      obtain ⟨rfl, rfl, rfl⟩ := hcs
      exact ⟨_, u32_of_ints hl hm (by have : zs.length = cap1 := by simpa using hz
                                      omega) hcell hwz⟩
  clear hA0 hval0
  refine (walk_TreeFinds (w0 := W) a0 len0 cap0 f0 w0 a1 len1 cap1 f1 w1).mono fun e W' ⟨he, bel⟩ => ?_
  subst he
  exact ⟨_, rfl, _, _, _, [], _, [], hW', trodAll_mk1 (shut_bool Try.underlying4 _), (trodAll_cons_mk (Below.trod laidOut (by kernel_rfl) (of_decide_eq_true (by kernel_rfl)) k0 bel lt0) (trodAll_cons_mk (Below.trod laidOut (by kernel_rfl) (of_decide_eq_true (by kernel_rfl)) k1 bel lt1) trodAll_mk0)), rfl, bel.frame _, fun h => by cases h⟩

theorem over : Rows.treeFindsRow.holds Try.pinned (OpenSpec.ofChange Rows.treeFindsSpec) :=
  OpenClaim.holds_of_wide 3 Try.f3 rfl rfl rfl rfl rfl rfl rfl ⟨rfl, rfl, rfl, rfl, rfl⟩ rfl rfl rfl rfl rfl (by kernel_rfl) Try.func3 (by kernel_rfl)
    (of_decide_eq_true (by kernel_rfl)) (by unfold Func.isWrapper; first | (rw [if_pos (by decide +kernel)]; kernel_rfl) | (rw [if_neg (by decide +kernel)]; exact ⟨rfl, rfl⟩))
    (fun os started H enc _ => lifted os started H enc)
end treeFindsRow

theorem treeFinds_proved : Rows.TreeFindsSaid := treeFindsRow.over
#print axioms treeFinds_proved
end Go.Proofs.Ytkbfmnpilbhfaaa
