/-
  The law AbiBack holds for every input: whole and own again a number below 2^30 is the same, and it is that ABI's call. No condition.
-/
import Derived.Test.YtjblkkffdhaiiaaRows
import Derived.Test.YtjblkkffdhaiiaaAf
import Derived.WalkKit
import Derived.ProofKit
import Derived.OpenShut
import Derived.ShutString
import Derived.ChangeOld
import Derived.Below
import Derived.Lib.SmallJoins
namespace Go.Proofs.Ytjblkkffdhaiiaa
open Go.RowKit

theorem own_whole (n k : Nat) (hk : k < 1073741824) : ownF n (wholeF n k) = k := by
  have hb : bit30 k = false := by unfold bit30; rw [show k / 1073741824 = 0 from by omega]; rfl
  have hb2 : bit30 (k + 1073741824) = true := by unfold bit30; rw [show (k + 1073741824) / 1073741824 = 1 from by omega]; rfl
  unfold ownF wholeF
  by_cases h : (n : Int) = 1
  · simp [h, hb, hb2]
  · simp [h]
theorem whole_lt (n : Int) (k : Nat) (hk : k < 1073741824) : wholeF n k < 4294967296 := by unfold wholeF; split <;> (try split) <;> omega
theorem sel_back (n k : Nat) (hn : n < 5) (hk : k < 1073741824) : selA (tkA n) (wholeF n k) = (n, true) := by
  have hb : bit30 k = false := by unfold bit30; rw [show k / 1073741824 = 0 from by omega]; rfl
  have hb2 : bit30 (k + 1073741824) = true := by unfold bit30; rw [show (k + 1073741824) / 1073741824 = 1 from by omega]; rfl
  match n, hn with
  | 0, _ => simp [selA, tkA, wholeF, hbF, hb]
  | 1, _ =>
    have : k ≠ 3221225471 := by omega
    simp [selA, tkA, wholeF, hbF, hb, hb2, this]
  | 2, _ => simp [selA, tkA]
  | 3, _ => simp [selA, tkA]
  | 4, _ => simp [selA, tkA]
  | n + 5, h => omega

set_option maxRecDepth 100000 in
set_option maxHeartbeats 2000000 in
theorem walk_AbiBack {w0 : World} (a : Int) (ha : (Lit.int .u8 a).wf = true) (o : Int) (ho : (Lit.int .u32 o).wf = true) :
    Calls Try.prog 6 #[.int .u8 a, .int .u32 o] w0 fun e w' => e = .returned (.bool true) ∧ Below w0.heap.size w0 w' := by
  simp [Lit.wf, IntKind.min, IntKind.max, IntKind.signed, IntKind.bits] at ha ho
  obtain ⟨a0, a1⟩ := ha
  obtain ⟨o0, o1⟩ := ho
  obtain ⟨n, en⟩ := Int.eq_ofNat_of_zero_le (show 0 ≤ a % 5 by omega)
  obtain ⟨k, ek⟩ := Int.eq_ofNat_of_zero_le (show 0 ≤ o % 1073741824 by omega)
  have hn : n < 5 := by omega
  have hk : k < 1073741824 := by omega
  have HO : ∀ W, Calls Try.prog 9 #[.int .i64 n] W fun e w' => e = .returned (.tuple #[.agg (infA n), .int .i64 0]) ∧ Below W.heap.size W w' := fun W => of_ok n W hn n rfl
  have HO := Lib.hid HO
  have HW := Lib.hid fun W => whole_any n k W (by omega)
  have HS : ∀ W, Calls Try.prog 14 #[.int .u32 (tkA n), .int .u32 (wholeF n k)] W fun e w' => e = .returned (.tuple #[.int .i64 n, .bool true]) ∧ Below W.heap.size W w' := fun W => by
    have := select_ok (tkA n) (wholeF n k) W (tkA_lt n) (whole_lt n k hk)
    rwa [sel_back n k hn hk] at this
  have HS := Lib.hid HS
  have HN : ∀ W, Calls Try.prog 16 #[.int .i64 n, .int .u32 (wholeF n k)] W fun e w' => e = .returned (.int .u32 k) ∧ Below W.heap.size W w' := fun W => by
    have := own_any n (wholeF n k) W (whole_lt n k hk)
    rwa [own_whole n k hk] at this
  have HN := Lib.hid HN
  go_enter Try.func6, Try.ntmps6
  go_wp2_with (first
    | (go_at_call 9; refine (HO.out _).mono ?_; rintro e w1 ⟨rfl, hB1⟩; have hz1 := hB1.size)
    | (go_at_call 20; refine (HW.out _).mono ?_; rintro e w2 ⟨rfl, hB2⟩; have q2 := (hB2.cell (p := ⟨w1.heap.size, 1, none⟩) (by simp)).trans (show (w1.alloc (.cells (infA n) 24)).cell? ⟨w1.heap.size, 1, none⟩ = some (.int .u32 (tkA n)) by rw [World.cell?_alloc_at _ _ _ _ rfl]; rfl); have hz2 := hB2.size)
    | (go_at_call 14; refine (HS.out _).mono ?_; rintro e w3 ⟨rfl, hB3⟩; have hz3 := hB3.size)
    | (go_at_call 16; refine (HN.out _).mono ?_; rintro e w4 ⟨rfl, hB4⟩; have hz4 := hB4.size)
    | (go_at_call 12; refine (awake8_any _).mono ?_; rintro e w5 ⟨rfl, hB5⟩))
  go_ret
  simp at hz2
  exact ⟨rfl, ((((hB1.alloc hz1 _).trans (hB2.mono (by simp; omega))).trans (hB3.mono (by omega))).trans (hB4.mono (by omega))).trans (hB5.mono (by omega))⟩

namespace abiBackRow
open Go.ChangeShapes Go.WideShapes Go.ChangeAt Go.RowKit Go.Joins
open Go.ChangeMaps (open_string shut_string)
set_option linter.unusedVariables false
theorem own : ownKnob Try.prog.godebug = none := by kernel_rfl
theorem laidOut : laidOutB Try.prog = true := by kernel_rfl
set_option maxRecDepth 100000 in
theorem lifted (os : Os) (started : os.Started) (H : Type) (enc : TypeId × Value → H) :
    ReturnsInHanded {} Try.checked os 6 .any (Rows.abiBackSpec.pre6 enc Try.prog Try.f6 Rows.abiBackRow.domain false) (Rows.abiBackSpec.post enc Try.prog Try.f6 false true false false) := by
  refine returnsInHanded_of_change (C := Try.checked) own started (by kernel_rfl) Try.func6
    (ChangeSpec.witness6 (enc := enc) (C := Try.checked) false ⟨#[], #[.int .u8 0, .int .u32 0], []⟩ 8 (by kernel_rfl) (by kernel_rfl) (by kernel_rfl) (by kernel_rfl)) ?_
  intro W base args ds gs before hval0 hW hcnd _
  have hval : ∀ (j : Nat) t v, Try.f6.params[j]? = some t → args[j]? = some v → Value.okWide Try.prog W .any base t v := hval0
  have hW' := hW
  obtain ⟨p, q, hA0, hV, rfl, hfz, hnd⟩ := hW
  have hA : DataW.TrodAll enc Try.prog W 0 (fun _ => true) true Try.f6.params.toList args.toList ds p := hA0
  rw [Try.params6] at hA hval
  obtain ⟨v0, vs0, d0, ds0, p0, q0, hargs, rfl, rfl, h0, r0⟩ := trodAll_cons hA
  obtain ⟨v1, vs1, d1, ds1, p1, q1, rfl, rfl, rfl, h1, r1⟩ := trodAll_cons r0
  obtain ⟨rfl, rfl, rfl⟩ := trodAll_nil r1
  obtain rfl : args = #[v0, v1] := by cases args; simp_all
  obtain ⟨rfl, rfl⟩ := trodVars_none hV
  have k0 := h0
  have lt0 : ∀ x ∈ p0, x.block < W.heap.size := by obtain ⟨m, hm⟩ := k0; exact DataW.trod_lt m _ _ _ hm
  have k1 := h1
  have lt1 : ∀ x ∈ p1, x.block < W.heap.size := by obtain ⟨m, hm⟩ := k1; exact DataW.trod_lt m _ _ _ hm
  obtain ⟨a0, rfl, rfl, rfl, w0⟩ := open_int Try.underlying5 (hval 0 5 v0 rfl rfl) h0
  obtain ⟨a1, rfl, rfl, rfl, w1⟩ := open_int Try.underlying22 (hval 1 22 v1 rfl rfl) h1
  clear hA0 hval0
  refine (walk_AbiBack (w0 := W) a0 w0 a1 w1).mono fun e W' ⟨he, bel⟩ => ?_
  subst he
  exact ⟨_, rfl, _, _, _, [], _, [], hW', trodAll_mk1 (shut_bool Try.underlying4 _), (trodAll_cons_mk (Below.trod laidOut (by kernel_rfl) (of_decide_eq_true (by kernel_rfl)) k0 bel lt0) (trodAll_cons_mk (Below.trod laidOut (by kernel_rfl) (of_decide_eq_true (by kernel_rfl)) k1 bel lt1) trodAll_mk0)), rfl, bel.frame _, fun h => by cases h⟩

theorem over : Rows.abiBackRow.holds Try.pinned (OpenSpec.ofChange Rows.abiBackSpec) :=
  OpenClaim.holds_of_wide 6 Try.f6 rfl rfl rfl rfl rfl rfl rfl ⟨rfl, rfl, rfl, rfl, rfl⟩ rfl rfl rfl rfl rfl (by kernel_rfl) Try.func6 (by kernel_rfl)
    (of_decide_eq_true (by kernel_rfl)) (by unfold Func.isWrapper; first | (rw [if_pos (by decide +kernel)]; kernel_rfl) | (rw [if_neg (by decide +kernel)]; exact ⟨rfl, rfl⟩))
    (fun os started H enc _ => lifted os started H enc)
end abiBackRow

theorem abiBack_proved : Rows.AbiBackSaid := abiBackRow.over
#print axioms abiBack_proved
end Go.Proofs.Ytjblkkffdhaiiaa
