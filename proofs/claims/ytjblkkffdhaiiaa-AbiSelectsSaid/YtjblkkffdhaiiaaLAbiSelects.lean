/-
  The law AbiSelects holds for every input: the ABI of any token and number, and a call's own number, are the document's. No condition.
-/
import Derived.Test.YtjblkkffdhaiiaaRows
import Derived.Test.YtjblkkffdhaiiaaAf
import Derived.WalkKit
import Derived.ProofKit
import Derived.OpenShut
import Derived.ShutString
import Derived.ChangeOld
import Derived.Below
import Derived.Lib.SmallJoins
namespace Go.Proofs.Ytjblkkffdhaiiaa
open Go.RowKit

theorem sel_no (arch num : Nat) (h : (selA arch num).2 = false) : selA arch num = (0, false) := by
  unfold selA at h ⊢
  split at h <;> (try split at h) <;> (try split at h) <;> (try split at h) <;> simp_all
set_option maxRecDepth 100000 in
set_option maxHeartbeats 2000000 in
theorem walk_AbiSelects {w0 : World} (x : Int) (hx : (Lit.int .u32 x).wf = true) (y : Int) (hy : (Lit.int .u32 y).wf = true) (a : Int) (_ha : (Lit.int .i64 a).wf = true) :
    Calls Try.prog 4 #[.int .u32 x, .int .u32 y, .int .i64 a] w0 fun e w' => e = .returned (.bool true) ∧ Below w0.heap.size w0 w' := by
  simp [Lit.wf, IntKind.min, IntKind.max, IntKind.signed, IntKind.bits] at hx hy
  obtain ⟨arch, rfl⟩ := Int.eq_ofNat_of_zero_le hx.1
  obtain ⟨num, rfl⟩ := Int.eq_ofNat_of_zero_le hy.1
  have hn : num < 4294967296 := by omega
  have hs := fun W => select_ok arch num W (by omega) hn
  have hr := fun W => refSelect_any arch num W (by omega) hn
  have HO := Lib.hid fun W => own_any a num W hn
  have HP := Lib.hid fun W => refOwn_any a num W hn
  cases h : (selA arch num).2
  · have e := sel_no arch num h
    have e2 : refA arch num = -1 := by unfold refA; rw [h]; rfl
    rw [e] at hs
    rw [e2] at hr
    have HS := Lib.hid hs
    have HR := Lib.hid hr
    clear hs hr h e e2
    go_enter Try.func4, Try.ntmps4
    go_wp2_with (first
      | (go_at_call 14; refine (HS.out _).mono ?_; rintro e w1 ⟨rfl, hB1⟩; have hz1 := hB1.size)
      | (go_at_call 15; refine (HR.out _).mono ?_; rintro e w2 ⟨rfl, rfl⟩)
      | (go_at_call 16; refine (HO.out _).mono ?_; rintro e w3 ⟨rfl, hB3⟩; have hz3 := hB3.size)
      | (go_at_call 17; refine (HP.out _).mono ?_; rintro e w4 ⟨rfl, rfl⟩)
      | (go_at_call 12; refine (awake8_any _).mono ?_; rintro e w5 ⟨rfl, hB5⟩))
    go_ret
    exact ⟨rfl, (hB1.trans (hB3.mono (by omega))).trans (hB5.mono (by omega))⟩
  · obtain ⟨k, hk⟩ : ∃ k, (selA arch num).1 = k := ⟨_, rfl⟩
    have e2 : refA arch num = (k : Int) := by unfold refA; rw [h, hk]; rfl
    simp only [hk, h] at hs
    rw [e2] at hr
    have HS := Lib.hid hs
    have HR := Lib.hid hr
    have t1 : decide ((k : Int) ≥ 0) = true := decide_eq_true (by omega)
    have t2 : (0 : Int) ≤ (k : Int) := by omega
    clear hs hr h e2 hk
    go_enter Try.func4, Try.ntmps4
    go_wp2_with (first
      | (go_at_call 14; refine (HS.out _).mono ?_; rintro e w1 ⟨rfl, hB1⟩; have hz1 := hB1.size)
      | (go_at_call 15; refine (HR.out _).mono ?_; rintro e w2 ⟨rfl, rfl⟩)
      | (go_at_call 16; refine (HO.out _).mono ?_; rintro e w3 ⟨rfl, hB3⟩; have hz3 := hB3.size)
      | (go_at_call 17; refine (HP.out _).mono ?_; rintro e w4 ⟨rfl, rfl⟩)
      | (go_at_call 12; refine (awake8_any _).mono ?_; rintro e w5 ⟨rfl, hB5⟩))
    all_goals go_ret
    all_goals exact ⟨rfl, (hB1.trans (hB3.mono (by omega))).trans (hB5.mono (by omega))⟩

namespace abiSelectsRow
open Go.ChangeShapes Go.WideShapes Go.ChangeAt Go.RowKit Go.Joins
open Go.ChangeMaps (open_string shut_string)
set_option linter.unusedVariables false
theorem own : ownKnob Try.prog.godebug = none := by kernel_rfl
theorem laidOut : laidOutB Try.prog = true := by kernel_rfl
set_option maxRecDepth 100000 in
theorem lifted (os : Os) (started : os.Started) (H : Type) (enc : TypeId × Value → H) :
    ReturnsInHanded {} Try.checked os 4 .any (Rows.abiSelectsSpec.pre6 enc Try.prog Try.f4 Rows.abiSelectsRow.domain false) (Rows.abiSelectsSpec.post enc Try.prog Try.f4 false true false false) := by
  refine returnsInHanded_of_change (C := Try.checked) own started (by kernel_rfl) Try.func4
    (ChangeSpec.witness6 (enc := enc) (C := Try.checked) false ⟨#[], #[.int .u32 0, .int .u32 0, .int .i64 0], []⟩ 8 (by kernel_rfl) (by kernel_rfl) (by kernel_rfl) (by kernel_rfl)) ?_
  intro W base args ds gs before hval0 hW hcnd _
  have hval : ∀ (j : Nat) t v, Try.f4.params[j]? = some t → args[j]? = some v → Value.okWide Try.prog W .any base t v := hval0
  have hW' := hW
  obtain ⟨p, q, hA0, hV, rfl, hfz, hnd⟩ := hW
  have hA : DataW.TrodAll enc Try.prog W 0 (fun _ => true) true Try.f4.params.toList args.toList ds p := hA0
  rw [Try.params4] at hA hval
  obtain ⟨v0, vs0, d0, ds0, p0, q0, hargs, rfl, rfl, h0, r0⟩ := trodAll_cons hA
  obtain ⟨v1, vs1, d1, ds1, p1, q1, rfl, rfl, rfl, h1, r1⟩ := trodAll_cons r0
  obtain ⟨v2, vs2, d2, ds2, p2, q2, rfl, rfl, rfl, h2, r2⟩ := trodAll_cons r1
  obtain ⟨rfl, rfl, rfl⟩ := trodAll_nil r2
  obtain rfl : args = #[v0, v1, v2] := by cases args; simp_all
  obtain ⟨rfl, rfl⟩ := trodVars_none hV
  have k0 := h0
  have lt0 : ∀ x ∈ p0, x.block < W.heap.size := by obtain ⟨m, hm⟩ := k0; exact DataW.trod_lt m _ _ _ hm
  have k1 := h1
  have lt1 : ∀ x ∈ p1, x.block < W.heap.size := by obtain ⟨m, hm⟩ := k1; exact DataW.trod_lt m _ _ _ hm
  have k2 := h2
  have lt2 : ∀ x ∈ p2, x.block < W.heap.size := by obtain ⟨m, hm⟩ := k2; exact DataW.trod_lt m _ _ _ hm
  obtain ⟨a0, rfl, rfl, rfl, w0⟩ := open_int Try.underlying22 (hval 0 22 v0 rfl rfl) h0
  obtain ⟨a1, rfl, rfl, rfl, w1⟩ := open_int Try.underlying22 (hval 1 22 v1 rfl rfl) h1
  obtain ⟨a2, rfl, rfl, rfl, w2⟩ := open_int Try.underlying3 (hval 2 3 v2 rfl rfl) h2
  clear hA0 hval0
  refine (walk_AbiSelects (w0 := W) a0 w0 a1 w1 a2 w2).mono fun e W' ⟨he, bel⟩ => ?_
  subst he
  exact ⟨_, rfl, _, _, _, [], _, [], hW', trodAll_mk1 (shut_bool Try.underlying4 _), (trodAll_cons_mk (Below.trod laidOut (by kernel_rfl) (of_decide_eq_true (by kernel_rfl)) k0 bel lt0) (trodAll_cons_mk (Below.trod laidOut (by kernel_rfl) (of_decide_eq_true (by kernel_rfl)) k1 bel lt1) (trodAll_cons_mk (Below.trod laidOut (by kernel_rfl) (of_decide_eq_true (by kernel_rfl)) k2 bel lt2) trodAll_mk0))), rfl, bel.frame _, fun h => by cases h⟩

theorem over : Rows.abiSelectsRow.holds Try.pinned (OpenSpec.ofChange Rows.abiSelectsSpec) :=
  OpenClaim.holds_of_wide 4 Try.f4 rfl rfl rfl rfl rfl rfl rfl ⟨rfl, rfl, rfl, rfl, rfl⟩ rfl rfl rfl rfl rfl (by kernel_rfl) Try.func4 (by kernel_rfl)
    (of_decide_eq_true (by kernel_rfl)) (by unfold Func.isWrapper; first | (rw [if_pos (by decide +kernel)]; kernel_rfl) | (rw [if_neg (by decide +kernel)]; exact ⟨rfl, rfl⟩))
    (fun os started H enc _ => lifted os started H enc)
end abiSelectsRow

theorem abiSelects_proved : Rows.AbiSelectsSaid := abiSelectsRow.over
#print axioms abiSelects_proved
end Go.Proofs.Ytjblkkffdhaiiaa
