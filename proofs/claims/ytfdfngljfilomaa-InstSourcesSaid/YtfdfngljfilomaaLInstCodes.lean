/-
  The statement of InstCodes is proved: for every code the law returns true. No condition.
-/
import Derived.Test.YtfdfngljfilomaaRows
import Derived.Test.YtfdfngljfilomaaId
import Derived.WalkKit
import Derived.ProofKit
import Derived.OpenShut
import Derived.ShutString
import Derived.ChangeOld
import Derived.Below
import Derived.Lib.SmallJoins
namespace Go.Proofs.Ytfdfngljfilomaa
open Go.RowKit

theorem assoc_pos : ∀ p ∈ codesKV, 1 ≤ p.2 := by decide +kernel
theorem of_is (code : Int) : (ofF code).2.2 = ((ofF code).1 != 0) := by
  have hp : ∀ c k, assoc codesKV c = some k → 1 ≤ k := fun c k h => by
    unfold assoc at h
    obtain ⟨p, hf, rfl⟩ := Option.map_eq_some_iff.1 h
    exact assoc_pos p (List.mem_of_find?_eq_some hf)
  unfold ofF
  rcases h : assoc codesKV code with _ | k
  · dsimp only
    split
    · have h16 : 16 ≤ (assoc codesKV ((code - 8) % 65536)).getD 0 := by assumption
      simp; omega
    · rfl
  · have := hp _ _ h
    simp; omega

set_option maxRecDepth 100000 in
set_option maxHeartbeats 4000000 in
theorem walk_InstCodes {w0 : World} (a : Int) (ha : (Lit.int .u16 a).wf = true) :
    Calls Try.prog 9 #[.int .u16 a] w0 fun e w' => e = .returned (.bool true) ∧ Below w0.heap.size w0 w' := by
  simp [Lit.wf, IntKind.min, IntKind.max, IntKind.signed, IntKind.bits] at ha
  obtain ⟨h0, h1⟩ := ha
  have HO := Lib.hid (fun W => of_any a W h0 h1)
  have HR := Lib.hid (fun W => refOf_any a W h0 h1)
  have his := of_is a
  generalize (ofF a).1 = k at *
  generalize (ofF a).2.1 = x at *
  rw [his] at HO
  clear his
  go_enter Try.func9, Try.ntmps9
  go_wp2_with fail
  refine (HO.out _).mono ?_
  rintro e w1 ⟨rfl, hB1⟩
  go_wp2_with fail
  refine (HR.out _).mono ?_
  rintro e w2 ⟨rfl, hB2⟩
  go_wp2_with fail
  refine (awake2_any _).mono ?_
  rintro e w3 ⟨rfl, hB3⟩
  go_wp2
  go_ret
  have hb2 := hB1.trans (hB2.mono hB1.size)
  exact ⟨rfl, hb2.trans (hB3.mono hb2.size)⟩

namespace instCodesRow
open Go.ChangeShapes Go.WideShapes Go.ChangeAt Go.RowKit Go.Joins
open Go.ChangeMaps (open_string shut_string)
set_option linter.unusedVariables false
theorem own : ownKnob Try.prog.godebug = none := by kernel_rfl
theorem laidOut : laidOutB Try.prog = true := by kernel_rfl
set_option maxRecDepth 100000 in
theorem lifted (os : Os) (started : os.Started) (H : Type) (enc : TypeId × Value → H) :
    ReturnsInHanded {} Try.checked os 9 .any (Rows.instCodesSpec.pre6 enc Try.prog Try.f9 Rows.instCodesRow.domain false) (Rows.instCodesSpec.post enc Try.prog Try.f9 false true false false) := by
  refine returnsInHanded_of_change (C := Try.checked) own started (by kernel_rfl) Try.func9
    (ChangeSpec.witness6 (enc := enc) (C := Try.checked) false ⟨#[], #[.int .u16 0], []⟩ 8 (by kernel_rfl) (by kernel_rfl) (by kernel_rfl) (by kernel_rfl)) ?_
  intro W base args ds gs before hval0 hW hcnd _
  have hval : ∀ (j : Nat) t v, Try.f9.params[j]? = some t → args[j]? = some v → Value.okWide Try.prog W .any base t v := hval0
  have hW' := hW
  obtain ⟨p, q, hA0, hV, rfl, hfz, hnd⟩ := hW
  have hA : DataW.TrodAll enc Try.prog W 0 (fun _ => true) true Try.f9.params.toList args.toList ds p := hA0
  rw [Try.params9] at hA hval
  obtain ⟨v0, vs0, d0, ds0, p0, q0, hargs, rfl, rfl, h0, r0⟩ := trodAll_cons hA
  obtain ⟨rfl, rfl, rfl⟩ := trodAll_nil r0
  obtain rfl : args = #[v0] := by cases args; simp_all
  obtain ⟨rfl, rfl⟩ := trodVars_none hV
  have k0 := h0
  have lt0 : ∀ x ∈ p0, x.block < W.heap.size := by obtain ⟨m, hm⟩ := k0; exact DataW.trod_lt m _ _ _ hm
  obtain ⟨a0, rfl, rfl, rfl, w0⟩ := open_int Try.underlying48 (hval 0 48 v0 rfl rfl) h0
  clear hA0 hval0
  refine (walk_InstCodes (w0 := W) a0 w0).mono fun e W' ⟨he, bel⟩ => ?_
  subst he
  exact ⟨_, rfl, _, _, _, [], _, [], hW', trodAll_mk1 (shut_bool Try.underlying4 _), (trodAll_cons_mk (Below.trod laidOut (by kernel_rfl) (of_decide_eq_true (by kernel_rfl)) k0 bel lt0) trodAll_mk0), rfl, bel.frame _, fun h => by cases h⟩

theorem over : Rows.instCodesRow.holds Try.pinned (OpenSpec.ofChange Rows.instCodesSpec) :=
  OpenClaim.holds_of_wide 9 Try.f9 rfl rfl rfl rfl rfl rfl rfl ⟨rfl, rfl, rfl, rfl, rfl⟩ rfl rfl rfl rfl rfl (by kernel_rfl) Try.func9 (by kernel_rfl)
    (of_decide_eq_true (by kernel_rfl)) (by unfold Func.isWrapper; first | (rw [if_pos (by decide +kernel)]; kernel_rfl) | (rw [if_neg (by decide +kernel)]; exact ⟨rfl, rfl⟩))
    (fun os started H enc _ => lifted os started H enc)
end instCodesRow

theorem instCodes_proved : Rows.InstCodesSaid := instCodesRow.over
#print axioms instCodes_proved
end Go.Proofs.Ytfdfngljfilomaa
