/-
  The law CheckAhead holds for every input: a program that may run may, too, with an instruction more ahead of it that neither jumps, nor is wrong alone, nor loads a cell, nor returns. No condition (the law itself lets programs of more than 200 instructions go).
-/
import Derived.Test.YtdkmomdekngpnabKs
import Derived.Test.YtdkmomdekngpnabIf
import Derived.Test.YtdkmomdekngpnabRows
import Derived.Below
import Derived.ChangeOld
import Derived.ShutString
import Derived.Lib.SmallJoins
import Derived.OpenShut
import Derived.ProofKit
import Derived.WalkKit
namespace Go.Proofs.Ytdkmomdekngpnab
open Go.RowKit

set_option maxRecDepth 100000 in
set_option maxHeartbeats 16000000 in
theorem walk_CheckAhead {w0 : World} (A : Option Addr) (n c : Nat) (g : Nat → IV) (hr : Ins w0 w0.heap.size A n c g) (v : IV) (hv : v.ok) :
    Calls Try.prog 6 #[.slice A n c, iv4 v] w0 fun e w' => e = .returned (.bool true) ∧ Below w0.heap.size w0 w' := by
  have hmx := hr.1.le
  unfold maxLen at hmx
  obtain ⟨m1, m2⟩ := hmx
  have HR := Lib.hid hr
  have HV := Lib.hid hv
  have hz : Below w0.heap.size w0 (w0.alloc (.cells #[.int .u16 v.c, .int .u8 v.t, .int .u8 v.f, .int .u32 v.k] 40)) := (Below.refl _ _).alloc (Nat.le_refl _) _
  obtain ⟨K, hK⟩ : ∃ K, kd v = K := ⟨_, rfl⟩
  have hkr := kd_range v
  rw [hK] at hkr
  have HK := Lib.hid hK
  obtain ⟨al, hal⟩ : ∃ al, alone v n = al := ⟨_, rfl⟩
  have HA := Lib.hid hal
  obtain ⟨⟨fp, fe⟩, hFR⟩ : ∃ z, checkF g n = z := ⟨_, rfl⟩
  have HF := Lib.hid hFR
  clear hr hv hK hal hFR
  by_cases h1 : 200 < n
  · go_enter Try.func6, Try.ntmps6
    go_wp2
    go_ret
    exact ⟨rfl, hz⟩
  · by_cases he : fe = 0
    · have t0 : ((fe : Int) != 0) = false := by rw [he]; rfl
      cases t3 : (K == 3)
      case true =>
        clear he
        go_enter Try.func6, Try.ntmps6
        go_wp2_with (first
          | (go_at_call 18
             refine (refOf_v v HV.out _).mono ?_
             rw [HK.out]
             rintro e w1 ⟨rfl, hB1⟩
             have hb1 := hB1)
          | (go_at_call 11
             refine (all4_any A n c g _ (by omega) ((HR.out.below (hz.trans (hb1.mono hz.size))).more (hz.trans (hb1.mono hz.size)).size)).mono ?_
             rintro e w2 ⟨A2, c2, rfl, hown2, hB2⟩
             have HI2 : Hid (Ins w2 w2.heap.size A2 n c2 g) := Lib.hid ⟨hown2.cel, HR.out.2⟩
             have hb2 := hb1.trans (hB2.mono hb1.size)
             clear hown2)
          | (go_at_call 10
             refine (check_any _ _ _ g _ HI2.out).mono ?_
             rw [HF.out]
             rintro e w3 ⟨rfl, hB3⟩
             have hb3 := hb2.trans (hB3.mono hb2.size)
             obtain ⟨r0, r1, r2, r3⟩ := cell4 _ _ _ _ _ _ _ hb3)
          | (go_at_call 13
             refine (awake4_any _).mono ?_
             rintro e w9 ⟨rfl, hB9⟩
             have hb9 := hb3.trans (hB9.mono hb3.size)))
        go_ret
        exact ⟨rfl, hz.trans (hb9.mono hz.size)⟩
      case false =>
        cases t6 : (K == 6)
        case true =>
          clear he
          go_enter Try.func6, Try.ntmps6
          go_wp2_with (first
            | (go_at_call 18
               refine (refOf_v v HV.out _).mono ?_
               rw [HK.out]
               rintro e w1 ⟨rfl, hB1⟩
               have hb1 := hB1)
            | (go_at_call 11
               refine (all4_any A n c g _ (by omega) ((HR.out.below (hz.trans (hb1.mono hz.size))).more (hz.trans (hb1.mono hz.size)).size)).mono ?_
               rintro e w2 ⟨A2, c2, rfl, hown2, hB2⟩
               have HI2 : Hid (Ins w2 w2.heap.size A2 n c2 g) := Lib.hid ⟨hown2.cel, HR.out.2⟩
               have hb2 := hb1.trans (hB2.mono hb1.size)
               clear hown2)
            | (go_at_call 10
               refine (check_any _ _ _ g _ HI2.out).mono ?_
               rw [HF.out]
               rintro e w3 ⟨rfl, hB3⟩
               have hb3 := hb2.trans (hB3.mono hb2.size)
               obtain ⟨r0, r1, r2, r3⟩ := cell4 _ _ _ _ _ _ _ hb3)
            | (go_at_call 13
               refine (awake4_any _).mono ?_
               rintro e w9 ⟨rfl, hB9⟩
               have hb9 := hb3.trans (hB9.mono hb3.size)))
          go_ret
          exact ⟨rfl, hz.trans (hb9.mono hz.size)⟩
        case false =>
          cases t13 : (K == 13)
          case true =>
            clear he
            go_enter Try.func6, Try.ntmps6
            go_wp2_with (first
              | (go_at_call 18
                 refine (refOf_v v HV.out _).mono ?_
                 rw [HK.out]
                 rintro e w1 ⟨rfl, hB1⟩
                 have hb1 := hB1)
              | (go_at_call 11
                 refine (all4_any A n c g _ (by omega) ((HR.out.below (hz.trans (hb1.mono hz.size))).more (hz.trans (hb1.mono hz.size)).size)).mono ?_
                 rintro e w2 ⟨A2, c2, rfl, hown2, hB2⟩
                 have HI2 : Hid (Ins w2 w2.heap.size A2 n c2 g) := Lib.hid ⟨hown2.cel, HR.out.2⟩
                 have hb2 := hb1.trans (hB2.mono hb1.size)
                 clear hown2)
              | (go_at_call 10
                 refine (check_any _ _ _ g _ HI2.out).mono ?_
                 rw [HF.out]
                 rintro e w3 ⟨rfl, hB3⟩
                 have hb3 := hb2.trans (hB3.mono hb2.size)
                 obtain ⟨r0, r1, r2, r3⟩ := cell4 _ _ _ _ _ _ _ hb3)
              | (go_at_call 13
                 refine (awake4_any _).mono ?_
                 rintro e w9 ⟨rfl, hB9⟩
                 have hb9 := hb3.trans (hB9.mono hb3.size)))
            go_ret
            exact ⟨rfl, hz.trans (hb9.mono hz.size)⟩
          case false =>
            by_cases t25 : K ≥ 25
            · clear he
              go_enter Try.func6, Try.ntmps6
              go_wp2_with (first
                | (go_at_call 18
                   refine (refOf_v v HV.out _).mono ?_
                   rw [HK.out]
                   rintro e w1 ⟨rfl, hB1⟩
                   have hb1 := hB1)
                | (go_at_call 11
                   refine (all4_any A n c g _ (by omega) ((HR.out.below (hz.trans (hb1.mono hz.size))).more (hz.trans (hb1.mono hz.size)).size)).mono ?_
                   rintro e w2 ⟨A2, c2, rfl, hown2, hB2⟩
                   have HI2 : Hid (Ins w2 w2.heap.size A2 n c2 g) := Lib.hid ⟨hown2.cel, HR.out.2⟩
                   have hb2 := hb1.trans (hB2.mono hb1.size)
                   clear hown2)
                | (go_at_call 10
                   refine (check_any _ _ _ g _ HI2.out).mono ?_
                   rw [HF.out]
                   rintro e w3 ⟨rfl, hB3⟩
                   have hb3 := hb2.trans (hB3.mono hb2.size)
                   obtain ⟨r0, r1, r2, r3⟩ := cell4 _ _ _ _ _ _ _ hb3)
                | (go_at_call 13
                   refine (awake4_any _).mono ?_
                   rintro e w9 ⟨rfl, hB9⟩
                   have hb9 := hb3.trans (hB9.mono hb3.size)))
              go_ret
              exact ⟨rfl, hz.trans (hb9.mono hz.size)⟩
            · skip
              cases t14 : (K == 14)
              case true =>
                clear he
                go_enter Try.func6, Try.ntmps6
                go_wp2_with (first
                  | (go_at_call 18
                     refine (refOf_v v HV.out _).mono ?_
                     rw [HK.out]
                     rintro e w1 ⟨rfl, hB1⟩
                     have hb1 := hB1)
                  | (go_at_call 11
                     refine (all4_any A n c g _ (by omega) ((HR.out.below (hz.trans (hb1.mono hz.size))).more (hz.trans (hb1.mono hz.size)).size)).mono ?_
                     rintro e w2 ⟨A2, c2, rfl, hown2, hB2⟩
                     have HI2 : Hid (Ins w2 w2.heap.size A2 n c2 g) := Lib.hid ⟨hown2.cel, HR.out.2⟩
                     have hb2 := hb1.trans (hB2.mono hb1.size)
                     clear hown2)
                  | (go_at_call 10
                     refine (check_any _ _ _ g _ HI2.out).mono ?_
                     rw [HF.out]
                     rintro e w3 ⟨rfl, hB3⟩
                     have hb3 := hb2.trans (hB3.mono hb2.size)
                     obtain ⟨r0, r1, r2, r3⟩ := cell4 _ _ _ _ _ _ _ hb3)
                  | (go_at_call 13
                     refine (awake4_any _).mono ?_
                     rintro e w9 ⟨rfl, hB9⟩
                     have hb9 := hb3.trans (hB9.mono hb3.size)))
                go_ret
                exact ⟨rfl, hz.trans (hb9.mono hz.size)⟩
              case false =>
                cases t15 : (K == 15)
                case true =>
                  clear he
                  go_enter Try.func6, Try.ntmps6
                  go_wp2_with (first
                    | (go_at_call 18
                       refine (refOf_v v HV.out _).mono ?_
                       rw [HK.out]
                       rintro e w1 ⟨rfl, hB1⟩
                       have hb1 := hB1)
                    | (go_at_call 11
                       refine (all4_any A n c g _ (by omega) ((HR.out.below (hz.trans (hb1.mono hz.size))).more (hz.trans (hb1.mono hz.size)).size)).mono ?_
                       rintro e w2 ⟨A2, c2, rfl, hown2, hB2⟩
                       have HI2 : Hid (Ins w2 w2.heap.size A2 n c2 g) := Lib.hid ⟨hown2.cel, HR.out.2⟩
                       have hb2 := hb1.trans (hB2.mono hb1.size)
                       clear hown2)
                    | (go_at_call 10
                       refine (check_any _ _ _ g _ HI2.out).mono ?_
                       rw [HF.out]
                       rintro e w3 ⟨rfl, hB3⟩
                       have hb3 := hb2.trans (hB3.mono hb2.size)
                       obtain ⟨r0, r1, r2, r3⟩ := cell4 _ _ _ _ _ _ _ hb3)
                    | (go_at_call 13
                       refine (awake4_any _).mono ?_
                       rintro e w9 ⟨rfl, hB9⟩
                       have hb9 := hb3.trans (hB9.mono hb3.size)))
                  go_ret
                  exact ⟨rfl, hz.trans (hb9.mono hz.size)⟩
                case false =>
                  by_cases ha : al = 0
                  · have ta : ((al : Int) != 0) = false := by rw [ha]; rfl
                    have h2 : (checkF (consG v g) (1 + n)).2 = 0 := cons_check v g n (by omega) (by rw [HF.out]; exact he) (by rw [HA.out]; exact ha) (by
                      have k1 : isLd v = false := by unfold isLd; rw [HK.out, t3, t6]; rfl
                      have k2 : isRet v = false := by unfold isRet; rw [HK.out, t14, t15]; rfl
                      have k3 : isBr v = false := by
                        unfold isBr
                        rw [HK.out]
                        have q1 : (K == 25) = false := by simp; omega
                        have q2 : (K == 26) = false := by simp; omega
                        have q3 : (K == 27) = false := by simp; omega
                        have q4 : (K == 28) = false := by simp; omega
                        rw [q1, q2, q3, q4]; rfl
                      have k4 : ¬ kd v = 13 := by rw [HK.out]; simpa using t13
                      exact ⟨k1, k2, k3, k4⟩)
                    obtain ⟨F2, hF2⟩ : ∃ z, checkF (consG v g) (1 + n) = z := ⟨_, rfl⟩
                    have HF2 := Lib.hid hF2
                    rw [hF2] at h2
                    have tb : ((F2.2 : Int) == 0) = true := by rw [h2]; rfl
                    clear hF2 h2 he ha
                    go_enter Try.func6, Try.ntmps6
                    go_wp2_with (first
                      | (go_at_call 18
                         refine (refOf_v v HV.out _).mono ?_
                         rw [HK.out]
                         rintro e w1 ⟨rfl, hB1⟩
                         have hb1 := hB1)
                      | (go_at_call 11
                         refine (all4_any A n c g _ (by omega) ((HR.out.below (hz.trans (hb1.mono hz.size))).more (hz.trans (hb1.mono hz.size)).size)).mono ?_
                         rintro e w2 ⟨A2, c2, rfl, hown2, hB2⟩
                         have HI2 : Hid (Ins w2 w2.heap.size A2 n c2 g) := Lib.hid ⟨hown2.cel, HR.out.2⟩
                         have hb2 := hb1.trans (hB2.mono hb1.size)
                         clear hown2)
                      | (go_at_call 10
                         refine (check_any _ _ _ g _ HI2.out).mono ?_
                         rw [HF.out]
                         rintro e w3 ⟨rfl, hB3⟩
                         have hb3 := hb2.trans (hB3.mono hb2.size)
                         obtain ⟨r0, r1, r2, r3⟩ := cell4 _ _ _ _ _ _ _ hb3))
                    refine (refAlone_any v HV.out n (by omega) _ rfl _).mono ?_
                    rw [HA.out]
                    rintro e w4 ⟨rfl, hB4⟩
                    have hb4 := hb3.trans (hB4.mono hb3.size)
                    obtain ⟨s0, s1, s2, s3⟩ := cell4 _ _ _ _ _ _ _ hb4
                    have hown4 := lit_own w4 v 40
                    have hl4 := ((HR.out.below (hz.trans (hb4.mono hz.size))).more (hz.trans (hb4.mono hz.size)).size).below ((Below.refl _ _).alloc (Nat.le_refl _) (.cells #[.int .u16 v.c, .int .u8 v.t, .int .u8 v.f, .int .u32 v.k] 40))
                    have n200 : n ≤ 200 := by omega
                    clear hB1 hB2 hB3 hB4 r0 r1 r2 r3
                    go_wp2_with (at_builtin; go_must (refine app_cells _ rfl _ _ _ 40 rfl Try.underlying22 infoR rfl (by decide) rfl hown4 rfl hl4.1 (fun i _ => icell_one _ i) (by unfold maxLen; omega) (by omega) (by simp) (1 + n) rfl (icell (consG v g)) (fun i _ => cons_cells v g i) ?_; rintro A5 c5 w5 hown5 hB5))
                    have HI5 : Hid (Ins w5 w5.heap.size A5 (1 + n) c5 (consG v g)) := Lib.hid ⟨hown5.cel, fun i hi => cons_ok HV.out HR.out.2 i hi⟩
                    have hb5 := (hb4.alloc hb4.size (.cells #[.int .u16 v.c, .int .u8 v.t, .int .u8 v.f, .int .u32 v.k] 40)).trans (hB5.mono hb4.size)
                    clear hown4 hl4 hown5
                    refine (all4_any A5 (1 + n) c5 (consG v g) _ (by omega) HI5.out).mono ?_
                    rintro e w6 ⟨A6, c6, rfl, hown6, hB6⟩
                    have HI6 : Hid (Ins w6 w6.heap.size A6 (1 + n) c6 (consG v g)) := Lib.hid ⟨hown6.cel, HI5.out.2⟩
                    have hb6 := hb5.trans (hB6.mono hb5.size)
                    clear hown6
                    go_wp2_with (first
                      | (go_at_call 10
                         refine (check_any _ _ _ (consG v g) _ HI6.out).mono ?_
                         rw [HF2.out]
                         rintro e w7 ⟨rfl, hB7⟩
                         have hb7 := hb6.trans (hB7.mono hb6.size))
                      | (go_at_call 13
                         refine (awake4_any _).mono ?_
                         rintro e w9 ⟨rfl, hB9⟩
                         have hb9 := hb7.trans (hB9.mono hb7.size)))
                    go_ret
                    exact ⟨rfl, hz.trans (hb9.mono hz.size)⟩
                  · have ta : ((al : Int) != 0) = true := by simpa using ha
                    clear he ha
                    go_enter Try.func6, Try.ntmps6
                    go_wp2_with (first
                      | (go_at_call 18
                         refine (refOf_v v HV.out _).mono ?_
                         rw [HK.out]
                         rintro e w1 ⟨rfl, hB1⟩
                         have hb1 := hB1)
                      | (go_at_call 11
                         refine (all4_any A n c g _ (by omega) ((HR.out.below (hz.trans (hb1.mono hz.size))).more (hz.trans (hb1.mono hz.size)).size)).mono ?_
                         rintro e w2 ⟨A2, c2, rfl, hown2, hB2⟩
                         have HI2 : Hid (Ins w2 w2.heap.size A2 n c2 g) := Lib.hid ⟨hown2.cel, HR.out.2⟩
                         have hb2 := hb1.trans (hB2.mono hb1.size)
                         clear hown2)
                      | (go_at_call 10
                         refine (check_any _ _ _ g _ HI2.out).mono ?_
                         rw [HF.out]
                         rintro e w3 ⟨rfl, hB3⟩
                         have hb3 := hb2.trans (hB3.mono hb2.size)
                         obtain ⟨r0, r1, r2, r3⟩ := cell4 _ _ _ _ _ _ _ hb3)
                      | (go_at_call 19
                         refine (refAlone_any v HV.out n (by omega) _ rfl _).mono ?_
                         rw [HA.out]
                         rintro e w4 ⟨rfl, hB4⟩
                         have hb4 := hb3.trans (hB4.mono hb3.size)
                         obtain ⟨s0, s1, s2, s3⟩ := cell4 _ _ _ _ _ _ _ hb4)
                      | (go_at_call 13
                         refine (awake4_any _).mono ?_
                         rintro e w9 ⟨rfl, hB9⟩
                         have hb9 := hb4.trans (hB9.mono hb4.size)))
                    go_ret
                    exact ⟨rfl, hz.trans (hb9.mono hz.size)⟩
    · have t0 : ((fe : Int) != 0) = true := by simpa using he
      clear he
      go_enter Try.func6, Try.ntmps6
      go_wp2_with (first
        | (go_at_call 18
           refine (refOf_v v HV.out _).mono ?_
           rw [HK.out]
           rintro e w1 ⟨rfl, hB1⟩
           have hb1 := hB1)
        | (go_at_call 11
           refine (all4_any A n c g _ (by omega) ((HR.out.below (hz.trans (hb1.mono hz.size))).more (hz.trans (hb1.mono hz.size)).size)).mono ?_
           rintro e w2 ⟨A2, c2, rfl, hown2, hB2⟩
           have HI2 : Hid (Ins w2 w2.heap.size A2 n c2 g) := Lib.hid ⟨hown2.cel, HR.out.2⟩
           have hb2 := hb1.trans (hB2.mono hb1.size)
           clear hown2)
        | (go_at_call 10
           refine (check_any _ _ _ g _ HI2.out).mono ?_
           rw [HF.out]
           rintro e w3 ⟨rfl, hB3⟩
           have hb3 := hb2.trans (hB3.mono hb2.size)
           obtain ⟨r0, r1, r2, r3⟩ := cell4 _ _ _ _ _ _ _ hb3)
        | (go_at_call 13
           refine (awake4_any _).mono ?_
           rintro e w9 ⟨rfl, hB9⟩
           have hb9 := hb3.trans (hB9.mono hb3.size)))
      go_ret
      exact ⟨rfl, hz.trans (hb9.mono hz.size)⟩

namespace checkAheadRow
open Go.ChangeShapes Go.WideShapes Go.ChangeAt Go.RowKit Go.Joins
open Go.ChangeMaps (open_string shut_string)
set_option linter.unusedVariables false
theorem own : ownKnob Try.prog.godebug = none := by kernel_rfl
theorem laidOut : laidOutB Try.prog = true := by kernel_rfl
set_option maxRecDepth 100000 in
theorem lifted (os : Os) (started : os.Started) (H : Type) (enc : TypeId × Value → H) :
    ReturnsInHanded {} Try.checked os 6 .any (Rows.checkAheadSpec.pre6 enc Try.prog Try.f6 Rows.checkAheadRow.domain false) (Rows.checkAheadSpec.post enc Try.prog Try.f6 false true false false) := by
  refine returnsInHanded_of_change (C := Try.checked) own started (by kernel_rfl) Try.func6
    (ChangeSpec.witness6 (enc := enc) (C := Try.checked) false ⟨#[], #[.slice none 0 0, .agg #[.int .u16 0, .int .u8 0, .int .u8 0, .int .u32 0]], []⟩ 8 (by kernel_rfl) (by kernel_rfl) (by kernel_rfl) (by kernel_rfl)) ?_
  intro W base args ds gs before hval0 hW hcnd _
  have hval : ∀ (j : Nat) t v, Try.f6.params[j]? = some t → args[j]? = some v → Value.okWide Try.prog W .any base t v := hval0
  have hW' := hW
  obtain ⟨p, q, hA0, hV, rfl, hfz, hnd⟩ := hW
  have hA : DataW.TrodAll enc Try.prog W 0 (fun _ => true) true Try.f6.params.toList args.toList ds p := hA0
  rw [Try.params6] at hA hval
  obtain ⟨v0, vs0, d0, ds0, p0, q0, hargs, rfl, rfl, h0, r0⟩ := trodAll_cons hA
  obtain ⟨v1, vs1, d1, ds1, p1, q1, rfl, rfl, rfl, h1, r1⟩ := trodAll_cons r0
  obtain ⟨rfl, rfl, rfl⟩ := trodAll_nil r1
  obtain rfl : args = #[v0, v1] := by cases args; simp_all
  obtain ⟨rfl, rfl⟩ := trodVars_none hV
  have k0 := h0
  have lt0 : ∀ x ∈ p0, x.block < W.heap.size := by obtain ⟨m, hm⟩ := k0; exact DataW.trod_lt m _ _ _ hm
  have k1 := h1
  have lt1 : ∀ x ∈ p1, x.block < W.heap.size := by obtain ⟨m, hm⟩ := k1; exact DataW.trod_lt m _ _ _ hm
  obtain ⟨a0, len0, cap0, rfl⟩ := okWide_slice Try.underlying22 (hval 0 22 v0 rfl rfl)
  obtain ⟨g0, w0⟩ := open_ins h0
  obtain ⟨cc0, cc1, cc2, cc3, yy0, yy1, yy2, yy3, mm, rfl, _, _, hyy0, hyy1, hyy2, hyy3⟩ := open_agg4 Try.underlying40 (by kernel_rfl) (show Try.prog.cellsOf 40 = 4 by kernel_rfl) (hval 1 40 v1 rfl rfl) h1
  obtain ⟨n0, ee0, _, u0⟩ := DataW.trod_int Try.underlying35 hyy0
  obtain ⟨n1, ee1, _, u1⟩ := DataW.trod_int Try.underlying5 hyy1
  obtain ⟨n2, ee2, _, u2⟩ := DataW.trod_int Try.underlying5 hyy2
  obtain ⟨n3, ee3, _, u3⟩ := DataW.trod_int Try.underlying38 hyy3
  simp only [List.cons.injEq, and_true] at ee0 ee1 ee2 ee3
  subst ee0 ee1 ee2 ee3
  simp [Lit.wf, IntKind.min, IntKind.max, IntKind.signed, IntKind.bits] at u0 u1 u2 u3
  obtain ⟨x0, rfl⟩ := Int.eq_ofNat_of_zero_le u0.1
  obtain ⟨x1, rfl⟩ := Int.eq_ofNat_of_zero_le u1.1
  obtain ⟨x2, rfl⟩ := Int.eq_ofNat_of_zero_le u2.1
  obtain ⟨x3, rfl⟩ := Int.eq_ofNat_of_zero_le u3.1
  have hok1 : IV.ok ⟨x0, x1, x2, x3⟩ := ⟨by show x0 < 65536; omega, by show x1 < 256; omega, by show x2 < 256; omega, by show x3 < 4294967296; omega⟩
  clear hA0 hval0
  refine (walk_CheckAhead (w0 := W) a0 len0 cap0 g0 w0 ⟨x0, x1, x2, x3⟩ hok1).mono fun e W' ⟨he, bel⟩ => ?_
  subst he
  exact ⟨_, rfl, _, _, _, [], _, [], hW', trodAll_mk1 (shut_bool Try.underlying4 _), (trodAll_cons_mk (Below.trod laidOut (by kernel_rfl) (of_decide_eq_true (by kernel_rfl)) k0 bel lt0) (trodAll_cons_mk (Below.trod laidOut (by kernel_rfl) (of_decide_eq_true (by kernel_rfl)) k1 bel lt1) trodAll_mk0)), rfl, bel.frame _, fun h => by cases h⟩

theorem over : Rows.checkAheadRow.holds Try.pinned (OpenSpec.ofChange Rows.checkAheadSpec) :=
  OpenClaim.holds_of_wide 6 Try.f6 rfl rfl rfl rfl rfl rfl rfl ⟨rfl, rfl, rfl, rfl, rfl⟩ rfl rfl rfl rfl rfl (by kernel_rfl) Try.func6 (by kernel_rfl)
    (of_decide_eq_true (by kernel_rfl)) (by unfold Func.isWrapper; first | (rw [if_pos (by decide +kernel)]; kernel_rfl) | (rw [if_neg (by decide +kernel)]; exact ⟨rfl, rfl⟩))
    (fun os started H enc _ => lifted os started H enc)
end checkAheadRow

theorem checkAhead_proved : Rows.CheckAheadSaid := checkAheadRow.over
#print axioms checkAhead_proved
end Go.Proofs.Ytdkmomdekngpnab
