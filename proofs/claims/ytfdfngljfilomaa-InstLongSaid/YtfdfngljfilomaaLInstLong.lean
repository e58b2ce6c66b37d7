/-
  The statement of InstLong is proved: for every number the law returns true. No condition.
-/
import Derived.Test.YtfdfngljfilomaaRows
import Derived.Test.YtfdfngljfilomaaIg
import Derived.WalkKit
import Derived.ProofKit
import Derived.OpenShut
import Derived.ShutString
import Derived.ChangeOld
import Derived.Below
import Derived.Lib.SmallJoins
namespace Go.Proofs.Ytfdfngljfilomaa
open Go.RowKit

theorem mk_bytes (m : Nat) (hm : m ≤ 1000000) (w : World) : ∃ W', (Instr.makeSlice 22 (.int .i64 (m : Int)) (.int .i64 (m : Int))).run Try.prog w = .ok (.slice (some ⟨w.heap.size, 0, none⟩) m m) W' ∧
    Own_ W' w.heap.size 5 (some ⟨w.heap.size, 0, none⟩) m m (fun _ => 0) ∧ Below w.heap.size w W' := by
  obtain ⟨i0, hi0, hz0, hz1, hz2⟩ := info_parts infoB
  have hr := run_make (P := Try.prog) w 22 5 i0 _ Try.underlying22 hi0 hz0 .i64 .i64 m m (by omega) (Int.le_refl _) (by rw [hz2]; omega) (by omega)
  rw [hz1] at hr
  simp only [Int.toNat_natCast, Nat.mul_one] at hr
  refine ⟨_, hr, ⟨?_, fun i _ => (by show 0 < 256; decide)⟩, (Below.refl _ _).alloc (Nat.le_refl _) _⟩
  have hl := World.ownsRow_lit (base := w.heap.size) (e := 5) (size := 1) w (madeCells (Value.int .u8 0).cells m) m (Nat.le_refl _) (by unfold maxLen; omega) (by rw [size_madeCells, Nat.mul_one])
  have e : (madeCells (Value.int .u8 0).cells m).toList = (List.range m).map (fun _ => bv 0) := by
    apply List.ext_getElem (by simp [madeCells])
    intro i h1 h2
    simp [madeCells, Value.cells, Nat.mod_one]
  rw [e] at hl
  exact hl

set_option maxRecDepth 100000 in
set_option maxHeartbeats 4000000 in
theorem walk_InstLong {w0 : World} (a : Int) (ha : (Lit.int .u16 a).wf = true) :
    Calls Try.prog 13 #[.int .u16 a] w0 fun e w' => e = .returned (.bool true) ∧ Below w0.heap.size w0 w' := by
  simp [Lit.wf, IntKind.min, IntKind.max, IntKind.signed, IntKind.bits] at ha
  obtain ⟨a0, a1⟩ := ha
  obtain ⟨r, hr⟩ : ∃ r : Nat, a % 40 = (r : Int) := ⟨(a % 40).toNat, by omega⟩
  have hr39 : r ≤ 39 := by omega
  obtain ⟨w1, hmk, hown, hB1⟩ := mk_bytes (32748 + r) (by omega) w0
  have ec : ((32748 + r : Nat) : Int) = 32748 + (r : Int) := by omega
  rw [ec] at hmk
  have hby := hown.byt
  clear ec hown
  by_cases hl : 20 < r
  · have HL := Lib.hid (read_long (some ⟨w0.heap.size, 0, none⟩) (32748 + r) (32748 + r) w1 (by omega) (by unfold maxLen; omega))
    go_enter Try.func13, Try.ntmps13
    go_wp2_with fail
    refine (HL.out).mono ?_
    rintro e w2 ⟨rfl, rfl⟩
    go_wp2_with fail
    refine (awake2_any _).mono ?_
    rintro e w3 ⟨rfl, hB3⟩
    go_wp2
    go_ret
    exact ⟨rfl, hB1.trans (hB3.mono hB1.size)⟩
  · by_cases h8 : (32748 + r) % 8 = 0
    · have HL := Lib.hid (read_ok (some ⟨w0.heap.size, 0, none⟩) (32748 + r) (32748 + r) (fun _ => 0) w1 (by omega) h8 hby)
      have t1 : (((32748 + (r : Int)) % 8) != 0) = false := by
        have : (32748 + (r : Int)) % 8 = 0 := by omega
        rw [this]; rfl
      have t2 : ((((32748 + r) / 8 : Nat) : Int) == (32748 + (r : Int)) / 8) = true := by rw [beq_iff_eq]; omega
      obtain ⟨q, hq⟩ : ∃ q, (32748 + r) / 8 = q := ⟨_, rfl⟩
      have HQ := Lib.hid hq
      rw [hq] at t2
      clear h8 hq
      go_enter Try.func13, Try.ntmps13
      go_wp2_with fail
      refine (HL.out).mono ?_
      rw [HQ.out]
      rintro e w2 ⟨A2, c2, rfl, hown2, hB2⟩
      go_wp2_with fail
      refine (awake2_any _).mono ?_
      rintro e w3 ⟨rfl, hB3⟩
      go_wp2
      go_ret
      have hb2 := hB1.trans (hB2.mono hB1.size)
      exact ⟨rfl, hb2.trans (hB3.mono hb2.size)⟩
    · have HL := Lib.hid (read_short (some ⟨w0.heap.size, 0, none⟩) (32748 + r) (32748 + r) w1 (by omega) h8)
      have t1 : (((32748 + (r : Int)) % 8) != 0) = true := by rw [bne_iff_ne]; omega
      clear h8
      go_enter Try.func13, Try.ntmps13
      go_wp2_with fail
      refine (HL.out).mono ?_
      rintro e w2 ⟨rfl, rfl⟩
      go_wp2_with fail
      refine (awake2_any _).mono ?_
      rintro e w3 ⟨rfl, hB3⟩
      go_wp2
      go_ret
      exact ⟨rfl, hB1.trans (hB3.mono hB1.size)⟩

namespace instLongRow
open Go.ChangeShapes Go.WideShapes Go.ChangeAt Go.RowKit Go.Joins
open Go.ChangeMaps (open_string shut_string)
set_option linter.unusedVariables false
theorem own : ownKnob Try.prog.godebug = none := by kernel_rfl
theorem laidOut : laidOutB Try.prog = true := by kernel_rfl
set_option maxRecDepth 100000 in
theorem lifted (os : Os) (started : os.Started) (H : Type) (enc : TypeId × Value → H) :
    ReturnsInHanded {} Try.checked os 13 .any (Rows.instLongSpec.pre6 enc Try.prog Try.f13 Rows.instLongRow.domain false) (Rows.instLongSpec.post enc Try.prog Try.f13 false true false false) := by
  refine returnsInHanded_of_change (C := Try.checked) own started (by kernel_rfl) Try.func13
    (ChangeSpec.witness6 (enc := enc) (C := Try.checked) false ⟨#[], #[.int .u16 0], []⟩ 8 (by kernel_rfl) (by kernel_rfl) (by kernel_rfl) (by kernel_rfl)) ?_
  intro W base args ds gs before hval0 hW hcnd _
  have hval : ∀ (j : Nat) t v, Try.f13.params[j]? = some t → args[j]? = some v → Value.okWide Try.prog W .any base t v := hval0
  have hW' := hW
  obtain ⟨p, q, hA0, hV, rfl, hfz, hnd⟩ := hW
  have hA : DataW.TrodAll enc Try.prog W 0 (fun _ => true) true Try.f13.params.toList args.toList ds p := hA0
  rw [Try.params13] at hA hval
  obtain ⟨v0, vs0, d0, ds0, p0, q0, hargs, rfl, rfl, h0, r0⟩ := trodAll_cons hA
  obtain ⟨rfl, rfl, rfl⟩ := trodAll_nil r0
  obtain rfl : args = #[v0] := by cases args; simp_all
  obtain ⟨rfl, rfl⟩ := trodVars_none hV
  have k0 := h0
  have lt0 : ∀ x ∈ p0, x.block < W.heap.size := by obtain ⟨m, hm⟩ := k0; exact DataW.trod_lt m _ _ _ hm
  obtain ⟨a0, rfl, rfl, rfl, w0⟩ := open_int Try.underlying48 (hval 0 48 v0 rfl rfl) h0
  clear hA0 hval0
  refine (walk_InstLong (w0 := W) a0 w0).mono fun e W' ⟨he, bel⟩ => ?_
  subst he
  exact ⟨_, rfl, _, _, _, [], _, [], hW', trodAll_mk1 (shut_bool Try.underlying4 _), (trodAll_cons_mk (Below.trod laidOut (by kernel_rfl) (of_decide_eq_true (by kernel_rfl)) k0 bel lt0) trodAll_mk0), rfl, bel.frame _, fun h => by cases h⟩

theorem over : Rows.instLongRow.holds Try.pinned (OpenSpec.ofChange Rows.instLongSpec) :=
  OpenClaim.holds_of_wide 13 Try.f13 rfl rfl rfl rfl rfl rfl rfl ⟨rfl, rfl, rfl, rfl, rfl⟩ rfl rfl rfl rfl rfl (by kernel_rfl) Try.func13 (by kernel_rfl)
    (of_decide_eq_true (by kernel_rfl)) (by unfold Func.isWrapper; first | (rw [if_pos (by decide +kernel)]; kernel_rfl) | (rw [if_neg (by decide +kernel)]; exact ⟨rfl, rfl⟩))
    (fun os started H enc _ => lifted os started H enc)
end instLongRow

theorem instLong_proved : Rows.InstLongSaid := instLongRow.over
#print axioms instLong_proved
end Go.Proofs.Ytfdfngljfilomaa
