/-
  The law CheckLong holds for every input: a program of more than 4096 instructions is too long; one of at most 4096 that returns may run. No condition.
-/
import Derived.Test.YtdkmomdekngpnabKl
import Derived.Test.YtdkmomdekngpnabRows
import Derived.Below
import Derived.ChangeOld
import Derived.ShutString
import Derived.Lib.SmallJoins
import Derived.OpenShut
import Derived.ProofKit
import Derived.WalkKit
namespace Go.Proofs.Ytdkmomdekngpnab
open Go.RowKit
def gr : Nat → IV := fun _ => ⟨22, 0, 0, 0⟩
theorem gr_alone (i r : Nat) : alone (gr i) r = 0 := by
  have h1 : kd (gr i) = 15 := by show (ofF 22).1 = 15; decide +kernel
  have h2 : isLd (gr i) = false := by unfold isLd; rw [h1]; rfl
  have h3 : isSt (gr i) = false := by unfold isSt; rw [h1]; rfl
  have h4 : isBr (gr i) = false := by unfold isBr; rw [h1]; rfl
  unfold alone
  rw [h1, h2, h3, h4]
  simp
theorem gr_formed (n : Nat) (h0 : 0 < n) (h1 : n ≤ 4096) : formedF gr n = (0, 0) := by
  unfold formedF
  rw [if_neg (by omega), if_neg (by omega), pick_none _ (fun i _ => gr_alone i _)]
  have h : isRet (gr (n - 1)) = true := by show isRet ⟨22, 0, 0, 0⟩ = true; decide +kernel
  rw [if_pos h]
theorem gr_check (n : Nat) (h0 : 0 < n) (h1 : n ≤ 4096) : checkF gr n = (0, 0) := by
  have hf : (formedF gr n).2 = 0 := by rw [gr_formed n h0 h1]
  rw [checkF_ok hf, pick_none]
  intro i _
  exact initE_no gr n i (by show isLd ⟨22, 0, 0, 0⟩ = false; decide +kernel)
theorem gr_long (n : Nat) (h1 : 4096 < n) : checkF gr n = (0, 3) ∧ (formedF gr n).2 = 3 := by
  have h : formedF gr n = (0, 3) := by unfold formedF; rw [if_neg (by omega), if_pos h1]
  refine ⟨?_, by rw [h]⟩
  unfold checkF; rw [h]; rfl

set_option maxRecDepth 100000 in
set_option maxHeartbeats 4000000 in
theorem walk_CheckLong {w0 : World} (a : Int) (ha : (Lit.int .u8 a).wf = true) :
    Calls Try.prog 7 #[.int .u8 a] w0 fun e w' => e = .returned (.bool true) ∧ Below w0.heap.size w0 w' := by
  simp [Lit.wf, IntKind.min, IntKind.max, IntKind.signed, IntKind.bits] at ha
  obtain ⟨a0, a1⟩ := ha
  obtain ⟨r, hr⟩ : ∃ r : Nat, a % 10 = (r : Int) := ⟨(a % 10).toNat, by omega⟩
  have hr9 : r ≤ 9 := by omega
  obtain ⟨w1, hmk, hown1, hB1⟩ := mk_insts (4091 + r) (by omega) w0
  obtain ⟨N, hN⟩ : ∃ N, 4091 + r = N := ⟨_, rfl⟩
  have ho1 : OwnC w1 w0.heap.size 46 4 (some ⟨w0.heap.size, 0, none⟩) N N (part gr 0) := by
    rw [← hN]; exact hown1.congr (fun i _ => by unfold part; rw [if_neg (by omega)])
  rw [hN] at hmk
  have HO := Lib.hid ho1
  have ec : 4091 + (r : Int) = (N : Int) := by omega
  have hn0 : 0 < N := by omega
  have hn1 : N ≤ 4100 := by omega
  clear hown1 ho1
  go_enter Try.func7, Try.ntmps7
  go_wp2_with fail
  go_loopw [5] (fun i wr => ∃ k : Nat, k ≤ N ∧ i = .int .i64 k ∧ OwnC wr w0.heap.size 46 4 (some ⟨w0.heap.size, 0, none⟩) N N (part gr k) ∧ Below w0.heap.size w0 wr)
    (fun i _ => N - (intOf i).toNat)
  case atStart => exact ⟨0, Nat.zero_le _, rfl, HO.out, hB1⟩
  case round =>
    obtain ⟨k, hk, rfl, hown, hB⟩ := hrel
    by_cases hlt : k < N
    · obtain ⟨bb, eb, hbb, _, hcs⟩ := hown.at_ (by omega)
      obtain rfl : w0.heap.size = bb := by injection eb with eb; injection eb
      obtain ⟨p0, f0⟩ := hcs (k * 4) (by omega)
      obtain ⟨p1, f1⟩ := hcs (k * 4 + 1) (by omega)
      obtain ⟨p2, f2⟩ := hcs (k * 4 + 2) (by omega)
      obtain ⟨p3, f3⟩ := hcs (k * 4 + 3) (by omega)
      clear hcs eb hmk
      go_wp2
      refine ⟨⟨k + 1, by omega, by go_num, ((((hown.set_ _).set_ _).set_ _).set_ _).congr (fun i _ => part_step gr k i), ?_⟩, by simp [intOf]; omega⟩
      exact (((hB.setCell (p := ⟨w0.heap.size, k * 4, none⟩) (Nat.le_refl _) _).setCell (p := ⟨w0.heap.size, k * 4 + 1, none⟩) (Nat.le_refl _) _).setCell (p := ⟨w0.heap.size, k * 4 + 2, none⟩) (Nat.le_refl _) _).setCell (p := ⟨w0.heap.size, k * 4 + 3, none⟩) (Nat.le_refl _) _
    obtain rfl : k = N := by omega
    have hcel : Cel wr wr.heap.size 4 (some ⟨w0.heap.size, 0, none⟩) k k (icell gr) := (hown.congr (fun i hi => by unfold part; rw [if_pos hi])).cel
    have HI : Hid (Ins wr wr.heap.size (some ⟨w0.heap.size, 0, none⟩) k k gr) := Lib.hid ⟨hcel, fun i _ => by show IV.ok ⟨22, 0, 0, 0⟩; unfold IV.ok; decide⟩
    clear hcel hown hmk
    by_cases h4 : k ≤ 4096
    · have HC := Lib.hid (gr_check k hn0 h4)
      have hf : (if (formedF gr k).2 = 0 then k else 0) = k := by rw [gr_formed k hn0 h4]; rfl
      have HF := Lib.hid hf
      have t1 : ¬ (k : Int) > 4096 := by omega
      clear hf
      go_wp2_with (first
        | (go_at_call 10
           refine (check_any _ _ _ _ _ HI.out).mono ?_
           rw [HC.out]
           rintro e w2 ⟨rfl, hB2⟩
           have hb2 := hB.trans (hB2.mono hB.size))
        | (go_at_call 14
           refine (storedF_any _ _ _ _ _ ((HI.out.below hB2).more hB2.size)).mono ?_
           rw [HF.out]
           rintro e w3 ⟨A3, c3, rfl, _, hB3⟩
           have hb3 := hb2.trans (hB3.mono hb2.size))
        | (go_at_call 13
           refine (awake4_any _).mono ?_
           rintro e w4 ⟨rfl, hB4⟩
           have hb4 := hb3.trans (hB4.mono hb3.size)))
      go_ret
      exact ⟨rfl, hb4⟩
    · have HC := Lib.hid (gr_long k (by omega)).1
      have hf : (if (formedF gr k).2 = 0 then k else 0) = 0 := by rw [(gr_long k (by omega)).2]; rfl
      have HF := Lib.hid hf
      have t1 : (k : Int) > 4096 := by omega
      clear hf
      go_wp2_with (first
        | (go_at_call 10
           refine (check_any _ _ _ _ _ HI.out).mono ?_
           rw [HC.out]
           rintro e w2 ⟨rfl, hB2⟩
           have hb2 := hB.trans (hB2.mono hB.size))
        | (go_at_call 14
           refine (storedF_any _ _ _ _ _ ((HI.out.below hB2).more hB2.size)).mono ?_
           rw [HF.out]
           rintro e w3 ⟨A3, c3, rfl, _, hB3⟩
           have hb3 := hb2.trans (hB3.mono hb2.size))
        | (go_at_call 13
           refine (awake4_any _).mono ?_
           rintro e w4 ⟨rfl, hB4⟩
           have hb4 := hb3.trans (hB4.mono hb3.size)))
      go_ret
      exact ⟨rfl, hb4⟩

namespace checkLongRow
open Go.ChangeShapes Go.WideShapes Go.ChangeAt Go.RowKit Go.Joins
open Go.ChangeMaps (open_string shut_string)
set_option linter.unusedVariables false
theorem own : ownKnob Try.prog.godebug = none := by kernel_rfl
theorem laidOut : laidOutB Try.prog = true := by kernel_rfl
set_option maxRecDepth 100000 in
theorem lifted (os : Os) (started : os.Started) (H : Type) (enc : TypeId × Value → H) :
    ReturnsInHanded {} Try.checked os 7 .any (Rows.checkLongSpec.pre6 enc Try.prog Try.f7 Rows.checkLongRow.domain false) (Rows.checkLongSpec.post enc Try.prog Try.f7 false true false false) := by
  refine returnsInHanded_of_change (C := Try.checked) own started (by kernel_rfl) Try.func7
    (ChangeSpec.witness6 (enc := enc) (C := Try.checked) false ⟨#[], #[.int .u8 0], []⟩ 8 (by kernel_rfl) (by kernel_rfl) (by kernel_rfl) (by kernel_rfl)) ?_
  intro W base args ds gs before hval0 hW hcnd _
  have hval : ∀ (j : Nat) t v, Try.f7.params[j]? = some t → args[j]? = some v → Value.okWide Try.prog W .any base t v := hval0
  have hW' := hW
  obtain ⟨p, q, hA0, hV, rfl, hfz, hnd⟩ := hW
  have hA : DataW.TrodAll enc Try.prog W 0 (fun _ => true) true Try.f7.params.toList args.toList ds p := hA0
  rw [Try.params7] at hA hval
  obtain ⟨v0, vs0, d0, ds0, p0, q0, hargs, rfl, rfl, h0, r0⟩ := trodAll_cons hA
  obtain ⟨rfl, rfl, rfl⟩ := trodAll_nil r0
  obtain rfl : args = #[v0] := by cases args; simp_all
  obtain ⟨rfl, rfl⟩ := trodVars_none hV
  have k0 := h0
  have lt0 : ∀ x ∈ p0, x.block < W.heap.size := by obtain ⟨m, hm⟩ := k0; exact DataW.trod_lt m _ _ _ hm
  obtain ⟨a0, rfl, rfl, rfl, w0⟩ := open_int Try.underlying5 (hval 0 5 v0 rfl rfl) h0
  clear hA0 hval0
  refine (walk_CheckLong (w0 := W) a0 w0).mono fun e W' ⟨he, bel⟩ => ?_
  subst he
  exact ⟨_, rfl, _, _, _, [], _, [], hW', trodAll_mk1 (shut_bool Try.underlying4 _), (trodAll_cons_mk (Below.trod laidOut (by kernel_rfl) (of_decide_eq_true (by kernel_rfl)) k0 bel lt0) trodAll_mk0), rfl, bel.frame _, fun h => by cases h⟩

theorem over : Rows.checkLongRow.holds Try.pinned (OpenSpec.ofChange Rows.checkLongSpec) :=
  OpenClaim.holds_of_wide 7 Try.f7 rfl rfl rfl rfl rfl rfl rfl ⟨rfl, rfl, rfl, rfl, rfl⟩ rfl rfl rfl rfl rfl (by kernel_rfl) Try.func7 (by kernel_rfl)
    (of_decide_eq_true (by kernel_rfl)) (by unfold Func.isWrapper; first | (rw [if_pos (by decide +kernel)]; kernel_rfl) | (rw [if_neg (by decide +kernel)]; exact ⟨rfl, rfl⟩))
    (fun os started H enc _ => lifted os started H enc)
end checkLongRow

theorem checkLong_proved : Rows.CheckLongSaid := checkLongRow.over
#print axioms checkLong_proved
end Go.Proofs.Ytdkmomdekngpnab
