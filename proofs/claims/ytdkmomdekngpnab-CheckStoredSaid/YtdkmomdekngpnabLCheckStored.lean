/-
  The law CheckStored holds for every input: which cells are stored on every way to each instruction is told as the reference says it. No condition (the law itself lets programs of more than 200 instructions go).
-/
import Derived.Test.YtdkmomdekngpnabKr
import Derived.Test.YtdkmomdekngpnabIf
import Derived.Test.YtdkmomdekngpnabRows
import Derived.Below
import Derived.ChangeOld
import Derived.ShutString
import Derived.Lib.SmallJoins
import Derived.OpenShut
import Derived.ProofKit
import Derived.WalkKit
namespace Go.Proofs.Ytdkmomdekngpnab
open Go.RowKit

set_option maxRecDepth 100000 in
set_option maxHeartbeats 8000000 in
theorem walk_CheckStored {w0 : World} (A : Option Addr) (n c : Nat) (g : Nat → IV) (hr : Ins w0 w0.heap.size A n c g) :
    Calls Try.prog 4 #[.slice A n c] w0 fun e w' => e = .returned (.bool true) ∧ Below w0.heap.size w0 w' := by
  have hmx := hr.1.le
  unfold maxLen at hmx
  obtain ⟨m1, m2⟩ := hmx
  have HR := Lib.hid hr
  clear hr
  by_cases h1 : 200 < n
  · go_enter Try.func4, Try.ntmps4
    go_wp2
    go_ret
    exact ⟨rfl, Below.refl _ _⟩
  · by_cases hq : (formedF g n).2 = 0
    · obtain ⟨h0, h4, hal, hlast, hff⟩ := formedF_ok hq
      have hif : (if (formedF g n).2 = 0 then n else 0) = n := by rw [if_pos hq]
      have HIF := Lib.hid hif
      have HALL := Lib.hid hal
      have HLAST := Lib.hid hlast
      have HFF := Lib.hid hff
      have HQ := Lib.hid hq
      have t1 : (((0 : Nat) : Int) != 0) = false := rfl
      have t2 : ((n : Int) != (n : Int)) = false := by simp
      clear hq hal hlast hff hif
      go_enter Try.func4, Try.ntmps4
      go_wp2_with (first
        | (go_at_call 11
           refine (all4_any A n c g _ (by omega) HR.out).mono ?_
           rintro e w1 ⟨A1, c1, rfl, hown1, hB1⟩
           have hi1 : Ins w1 w1.heap.size A1 n c1 g := ⟨hown1.cel, HR.out.2⟩
           have HI1 := Lib.hid hi1
           clear hown1 hi1)
        | (go_at_call 14
           refine (storedF_any _ _ _ g _ HI1.out).mono ?_
           rw [HIF.out]
           rintro e w2 ⟨A2, c2, rfl, ho2, hB2⟩
           have HO2 := Lib.hid (ho2 HQ.out)
           have hb2 := hB1.trans (hB2.mono hB1.size)
           clear ho2)
        | (go_at_call 15
           refine (refFormed_any A n c g _ ((HR.out.below hb2).more hb2.size) (by omega)).mono ?_
           rw [HFF.out]
           rintro e w3 ⟨rfl, hB3⟩
           have hb3 := hb2.trans (hB3.mono hb2.size))
        | (go_at_call 16
           refine (refStored_any A n c g _ ((HR.out.below hb3).more hb3.size) h0 h4 HALL.out HLAST.out).mono ?_
           rintro e w5 ⟨A5, c5, rfl, ho5, hB5⟩
           have HC5 := Lib.hid ho5.cel
           have HC2 := Lib.hid (((HO2.out.below hB3 (Nat.le_refl _)).below hB5 (Nat.le_refl _)).cel)
           have hb5 := hb3.trans (hB5.mono hb3.size)
           clear ho5))
      go_loopw [7] (fun i wr => ∃ k : Nat, k ≤ n ∧ i = .int .i64 k ∧ Below w5.heap.size w5 wr)
        (fun i _ => n - (intOf i).toNat)
      case atStart => exact ⟨0, by omega, rfl, Below.refl _ _⟩
      case round =>
        obtain ⟨k, hk, rfl, hB⟩ := hrel
        have hb := hb5.trans (hB.mono hb5.size)
        by_cases hlt : k < n
        · obtain ⟨b2, off2, rfl, hl2, hc2⟩ := (HC2.out.below hB).at_ (by omega)
          obtain ⟨b5, off5, rfl, hl5, hc5⟩ := (HC5.out.below hB).at_ (by omega)
          have c2' : wr.cell? ⟨b2, off2 + k, none⟩ = some (.int .u16 (storedT g n k : Nat)) := hc2 k (by omega)
          have c5' : wr.cell? ⟨b5, off5 + k, none⟩ = some (.int .u16 (storedT g n k : Nat)) := hc5 k (by omega)
          clear hc2 hc5
          generalize storedT g n k = s0 at c2' c5'
          have t3 : ((s0 : Int) != (s0 : Int)) = false := by simp
          go_wp2
          go_quiet (fail)
          all_goals go_wp2
          all_goals exact ⟨⟨k + 1, by omega, by go_num, bdn hB _⟩, by simp [intOf]; omega⟩
        · obtain rfl : k = n := by omega
          go_wp2_with (go_at_call 13
                       refine (awake4_any _).mono ?_
                       rintro e w6 ⟨rfl, hB6⟩)
          go_ret
          exact ⟨rfl, hb.trans (hB6.mono hb.size)⟩
    · obtain ⟨FR, hFR⟩ : ∃ z, formedF g n = z := ⟨_, rfl⟩
      have HFR := Lib.hid hFR
      have hif : (if (formedF g n).2 = 0 then n else 0) = 0 := by rw [if_neg hq]
      have HIF := Lib.hid hif
      rw [hFR] at hq
      have t1 : ((FR.2 : Int) != 0) = true := by simpa using hq
      clear hq hFR hif
      go_enter Try.func4, Try.ntmps4
      go_wp2_with (first
        | (go_at_call 11
           refine (all4_any A n c g _ (by omega) HR.out).mono ?_
           rintro e w1 ⟨A1, c1, rfl, hown1, hB1⟩
           have hi1 : Ins w1 w1.heap.size A1 n c1 g := ⟨hown1.cel, HR.out.2⟩
           have HI1 := Lib.hid hi1
           clear hown1 hi1)
        | (go_at_call 14
           refine (storedF_any _ _ _ g _ HI1.out).mono ?_
           rw [HIF.out]
           rintro e w2 ⟨A2, c2, rfl, _, hB2⟩
           have hb2 := hB1.trans (hB2.mono hB1.size))
        | (go_at_call 15
           refine (refFormed_any A n c g _ ((HR.out.below hb2).more hb2.size) (by omega)).mono ?_
           rw [HFR.out]
           rintro e w3 ⟨rfl, hB3⟩
           have hb3 := hb2.trans (hB3.mono hb2.size))
        | (go_at_call 13
           refine (awake4_any _).mono ?_
           rintro e w4 ⟨rfl, hB4⟩
           have hb4 := hb3.trans (hB4.mono hb3.size)))
      go_ret
      exact ⟨rfl, hb4⟩

namespace checkStoredRow
open Go.ChangeShapes Go.WideShapes Go.ChangeAt Go.RowKit Go.Joins
open Go.ChangeMaps (open_string shut_string)
set_option linter.unusedVariables false
theorem own : ownKnob Try.prog.godebug = none := by kernel_rfl
theorem laidOut : laidOutB Try.prog = true := by kernel_rfl
set_option maxRecDepth 100000 in
theorem lifted (os : Os) (started : os.Started) (H : Type) (enc : TypeId × Value → H) :
    ReturnsInHanded {} Try.checked os 4 .any (Rows.checkStoredSpec.pre6 enc Try.prog Try.f4 Rows.checkStoredRow.domain false) (Rows.checkStoredSpec.post enc Try.prog Try.f4 false true false false) := by
  refine returnsInHanded_of_change (C := Try.checked) own started (by kernel_rfl) Try.func4
    (ChangeSpec.witness6 (enc := enc) (C := Try.checked) false ⟨#[], #[.slice none 0 0], []⟩ 8 (by kernel_rfl) (by kernel_rfl) (by kernel_rfl) (by kernel_rfl)) ?_
  intro W base args ds gs before hval0 hW hcnd _
  have hval : ∀ (j : Nat) t v, Try.f4.params[j]? = some t → args[j]? = some v → Value.okWide Try.prog W .any base t v := hval0
  have hW' := hW
  obtain ⟨p, q, hA0, hV, rfl, hfz, hnd⟩ := hW
  have hA : DataW.TrodAll enc Try.prog W 0 (fun _ => true) true Try.f4.params.toList args.toList ds p := hA0
  rw [Try.params4] at hA hval
  obtain ⟨v0, vs0, d0, ds0, p0, q0, hargs, rfl, rfl, h0, r0⟩ := trodAll_cons hA
  obtain ⟨rfl, rfl, rfl⟩ := trodAll_nil r0
  obtain rfl : args = #[v0] := by cases args; simp_all
  obtain ⟨rfl, rfl⟩ := trodVars_none hV
  have k0 := h0
  have lt0 : ∀ x ∈ p0, x.block < W.heap.size := by obtain ⟨m, hm⟩ := k0; exact DataW.trod_lt m _ _ _ hm
  obtain ⟨a0, len0, cap0, rfl⟩ := okWide_slice Try.underlying22 (hval 0 22 v0 rfl rfl)
  obtain ⟨g0, w0⟩ := open_ins h0
  clear hA0 hval0
  refine (walk_CheckStored (w0 := W) a0 len0 cap0 g0 w0).mono fun e W' ⟨he, bel⟩ => ?_
  subst he
  exact ⟨_, rfl, _, _, _, [], _, [], hW', trodAll_mk1 (shut_bool Try.underlying4 _), (trodAll_cons_mk (Below.trod laidOut (by kernel_rfl) (of_decide_eq_true (by kernel_rfl)) k0 bel lt0) trodAll_mk0), rfl, bel.frame _, fun h => by cases h⟩

theorem over : Rows.checkStoredRow.holds Try.pinned (OpenSpec.ofChange Rows.checkStoredSpec) :=
  OpenClaim.holds_of_wide 4 Try.f4 rfl rfl rfl rfl rfl rfl rfl ⟨rfl, rfl, rfl, rfl, rfl⟩ rfl rfl rfl rfl rfl (by kernel_rfl) Try.func4 (by kernel_rfl)
    (of_decide_eq_true (by kernel_rfl)) (by unfold Func.isWrapper; first | (rw [if_pos (by decide +kernel)]; kernel_rfl) | (rw [if_neg (by decide +kernel)]; exact ⟨rfl, rfl⟩))
    (fun os started H enc _ => lifted os started H enc)
end checkStoredRow

theorem checkStored_proved : Rows.CheckStoredSaid := checkStoredRow.over
#print axioms checkStored_proved
end Go.Proofs.Ytdkmomdekngpnab
