/-
  The statement of InstReads is proved: for every bytes the law returns true. No condition.
-/
import Derived.Test.YtfdfngljfilomaaRows
import Derived.Test.YtfdfngljfilomaaIj
import Derived.WalkKit
import Derived.ProofKit
import Derived.OpenShut
import Derived.ShutString
import Derived.ChangeOld
import Derived.Below
import Derived.Lib.SmallJoins
namespace Go.Proofs.Ytfdfngljfilomaa
open Go.RowKit

set_option maxRecDepth 100000 in
set_option maxHeartbeats 4000000 in
theorem walk_InstReads {w0 : World} (A : Option Addr) (n c : Nat) (f : Nat → Nat) (hr : Byt w0 w0.heap.size A n c f) :
    Calls Try.prog 11 #[.slice A n c] w0 fun e w' => e = .returned (.bool true) ∧ Below w0.heap.size w0 w' := by
  have hmx := hr.le
  unfold maxLen at hmx
  obtain ⟨m1, m2⟩ := hmx
  by_cases h : 3000 < n
  · go_enter Try.func11, Try.ntmps11
    go_wp2
    go_ret
    exact ⟨rfl, Below.refl _ _⟩
  · by_cases h8 : n % 8 = 0
    · obtain ⟨m, rfl⟩ : ∃ m, n = 8 * m := ⟨n / 8, by omega⟩
      have HR := Lib.hid (fun (W : World) A c h => read_ok A (8 * m) c f W (by omega) h8 h)
      have e8 : 8 * m / 8 = m := by omega
      rw [e8] at HR
      have HO : Hid (∀ i, i < m → (rg f i).ok) := fun i hi => rg_ok hr i (by omega)
      clear h8 e8
      go_enter Try.func11, Try.ntmps11
      go_wp2_with (
        at_builtin
        refine app_bytes _ rfl _ _ _ 5 rfl Try.underlying22 infoB rfl (emptyB _ _ f w0.heap.size rfl) rfl (hr.below ((Below.refl _ _).alloc (Nat.le_refl _) _)) (by omega) (by simp) ?_
        rintro A1 c1 w1 hown1 hg1 hB1
        rw [Nat.zero_add] at hown1
        have hown2 := hown1.congr (g := f) (fun i _ => by simp [cat])
        have hb1 : Below w0.heap.size w0 w1 := ((Below.refl _ w0).alloc (Nat.le_refl _) _).trans hB1
        clear hown1 hg1 hB1)
      refine (HR.out _ _ _ hown2.byt).mono ?_
      rintro e w2 ⟨A2, c2, rfl, hown3, hB2⟩
      have hb2 := hb1.trans (hB2.mono hb1.size)
      go_wp2_with fail
      refine (refRead_ok _ _ _ f _ (by omega) ((hr.below hb2).more hb2.size)).mono ?_
      rintro e w3 ⟨A3, c3, rfl, hown4, hB3⟩
      have hb3 := hb2.trans (hB3.mono hb2.size)
      go_wp2_with fail
      refine (told_yes _ _ _ _ _ (rg f) _ ⟨(hown3.cel.below hB3).more hB3.size, HO.out⟩ ⟨hown4.cel, HO.out⟩).mono ?_
      rintro e w4 ⟨rfl, hB4⟩
      have hb4 := hb3.trans (hB4.mono hb3.size)
      go_wp2_with fail
      refine (awake2_any _).mono ?_
      rintro e w5 ⟨rfl, hB5⟩
      go_wp2
      go_ret
      exact ⟨rfl, hb4.trans (hB5.mono hb4.size)⟩
    · have HR := Lib.hid (fun (W : World) A c => read_short A n c W (by omega) h8)
      have HS := Lib.hid (fun (W : World) => refRead_short A n c W (by omega) h8)
      clear h8
      go_enter Try.func11, Try.ntmps11
      go_wp2_with (
        at_builtin
        refine app_bytes _ rfl _ _ _ 5 rfl Try.underlying22 infoB rfl (emptyB _ _ f w0.heap.size rfl) rfl (hr.below ((Below.refl _ _).alloc (Nat.le_refl _) _)) (by omega) (by simp) ?_
        rintro A1 c1 w1 hown1 hg1 hB1
        rw [Nat.zero_add] at hown1
        have hb1 : Below w0.heap.size w0 w1 := ((Below.refl _ w0).alloc (Nat.le_refl _) _).trans hB1
        clear hown1 hg1 hB1)
      refine (HR.out _ _ _).mono ?_
      rintro e w2 ⟨rfl, rfl⟩
      go_wp2_with fail
      refine (HS.out _).mono ?_
      rintro e w3 ⟨rfl, rfl⟩
      go_wp2_with fail
      refine (told_nil _).mono ?_
      rintro e w4 ⟨rfl, hB4⟩
      have hb4 := hb1.trans (hB4.mono hb1.size)
      go_wp2_with fail
      refine (awake2_any _).mono ?_
      rintro e w5 ⟨rfl, hB5⟩
      go_wp2
      go_ret
      exact ⟨rfl, hb4.trans (hB5.mono hb4.size)⟩

namespace instReadsRow
open Go.ChangeShapes Go.WideShapes Go.ChangeAt Go.RowKit Go.Joins
open Go.ChangeMaps (open_string shut_string)
set_option linter.unusedVariables false
theorem own : ownKnob Try.prog.godebug = none := by kernel_rfl
theorem laidOut : laidOutB Try.prog = true := by kernel_rfl
set_option maxRecDepth 100000 in
theorem lifted (os : Os) (started : os.Started) (H : Type) (enc : TypeId × Value → H) :
    ReturnsInHanded {} Try.checked os 11 .any (Rows.instReadsSpec.pre6 enc Try.prog Try.f11 Rows.instReadsRow.domain false) (Rows.instReadsSpec.post enc Try.prog Try.f11 false true false false) := by
  refine returnsInHanded_of_change (C := Try.checked) own started (by kernel_rfl) Try.func11
    (ChangeSpec.witness6 (enc := enc) (C := Try.checked) false ⟨#[], #[.slice none 0 0], []⟩ 8 (by kernel_rfl) (by kernel_rfl) (by kernel_rfl) (by kernel_rfl)) ?_
  intro W base args ds gs before hval0 hW hcnd _
  have hval : ∀ (j : Nat) t v, Try.f11.params[j]? = some t → args[j]? = some v → Value.okWide Try.prog W .any base t v := hval0
  have hW' := hW
  obtain ⟨p, q, hA0, hV, rfl, hfz, hnd⟩ := hW
  have hA : DataW.TrodAll enc Try.prog W 0 (fun _ => true) true Try.f11.params.toList args.toList ds p := hA0
  rw [Try.params11] at hA hval
  obtain ⟨v0, vs0, d0, ds0, p0, q0, hargs, rfl, rfl, h0, r0⟩ := trodAll_cons hA
  obtain ⟨rfl, rfl, rfl⟩ := trodAll_nil r0
  obtain rfl : args = #[v0] := by cases args; simp_all
  obtain ⟨rfl, rfl⟩ := trodVars_none hV
  have k0 := h0
  have lt0 : ∀ x ∈ p0, x.block < W.heap.size := by obtain ⟨m, hm⟩ := k0; exact DataW.trod_lt m _ _ _ hm
  obtain ⟨a0, len0, cap0, rfl⟩ := okWide_slice Try.underlying22 (hval 0 22 v0 rfl rfl)
  obtain ⟨f0, w0⟩ : ∃ f, Byt W W.heap.size a0 len0 cap0 f := by
    obtain ⟨fuel, hf⟩ := h0
    rcases open_ints Try.underlying22 Try.underlying5 (by kernel_rfl) hf with ⟨hcs, _⟩ | ⟨x, l, c, zs, hcs, _, hl, hm, hz, _, hcell, hwz⟩
    · simp [Value.cells] at hcs
      obtain ⟨rfl, rfl, rfl⟩ := hcs
      exact ⟨fun _ => 0, Byt.nil_⟩
    · simp [Value.cells] at hcs
      obtain ⟨rfl, rfl, rfl⟩ := hcs
      exact ⟨_, byt_of_ints hl hm (by have : zs.length = cap0 := by simpa using hz
                                      omega) hcell hwz⟩
  clear hA0 hval0
  refine (walk_InstReads (w0 := W) a0 len0 cap0 f0 w0).mono fun e W' ⟨he, bel⟩ => ?_
  subst he
  exact ⟨_, rfl, _, _, _, [], _, [], hW', trodAll_mk1 (shut_bool Try.underlying4 _), (trodAll_cons_mk (Below.trod laidOut (by kernel_rfl) (of_decide_eq_true (by kernel_rfl)) k0 bel lt0) trodAll_mk0), rfl, bel.frame _, fun h => by cases h⟩

theorem over : Rows.instReadsRow.holds Try.pinned (OpenSpec.ofChange Rows.instReadsSpec) :=
  OpenClaim.holds_of_wide 11 Try.f11 rfl rfl rfl rfl rfl rfl rfl ⟨rfl, rfl, rfl, rfl, rfl⟩ rfl rfl rfl rfl rfl (by kernel_rfl) Try.func11 (by kernel_rfl)
    (of_decide_eq_true (by kernel_rfl)) (by unfold Func.isWrapper; first | (rw [if_pos (by decide +kernel)]; kernel_rfl) | (rw [if_neg (by decide +kernel)]; exact ⟨rfl, rfl⟩))
    (fun os started H enc _ => lifted os started H enc)
end instReadsRow

theorem instReads_proved : Rows.InstReadsSaid := instReadsRow.over
#print axioms instReads_proved
end Go.Proofs.Ytfdfngljfilomaa
