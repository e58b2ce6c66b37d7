/-
  The law AbiApart holds for every input: no two ABIs have a token and a number in common; the number of no call is x86_64's. No condition.
-/
import Derived.Test.YtjblkkffdhaiiaaRows
import Derived.Test.YtjblkkffdhaiiaaAf
import Derived.WalkKit
import Derived.ProofKit
import Derived.OpenShut
import Derived.ShutString
import Derived.ChangeOld
import Derived.Below
import Derived.Lib.SmallJoins
namespace Go.Proofs.Ytjblkkffdhaiiaa
open Go.RowKit

theorem whole_apart (n m x y : Nat) (hn : n < 5) (hm : m < 5) (hx : x < 1073741824) (hy : y < 1073741824) (h : n ≠ m) (ht : tkA n = tkA m) : wholeF n x ≠ wholeF m y := by
  have b1 : bit30 x = false := by unfold bit30; rw [show x / 1073741824 = 0 from by omega]; rfl
  have b2 : bit30 y = false := by unfold bit30; rw [show y / 1073741824 = 0 from by omega]; rfl
  have hc : (n = 0 ∧ m = 1) ∨ (n = 1 ∧ m = 0) := by
    have e1 : n = 0 ∨ n = 1 ∨ n = 2 ∨ n = 3 ∨ n = 4 := by omega
    have e2 : m = 0 ∨ m = 1 ∨ m = 2 ∨ m = 3 ∨ m = 4 := by omega
    rcases e1 with rfl | rfl | rfl | rfl | rfl <;> rcases e2 with rfl | rfl | rfl | rfl | rfl <;> first | (exact absurd rfl h) | (left; exact ⟨rfl, rfl⟩) | (right; exact ⟨rfl, rfl⟩) | (exact absurd ht (by decide))
  rcases hc with ⟨rfl, rfl⟩ | ⟨rfl, rfl⟩
  · simp [wholeF, b2]; omega
  · simp [wholeF, b1]; omega

set_option maxRecDepth 100000 in
set_option maxHeartbeats 4000000 in
theorem walk_AbiApart {w0 : World} (a b x y : Nat) (_ha : a < 256) (_hb : b < 256) (hx : x < 4294967296) (hy : y < 4294967296) :
    Calls Try.prog 7 #[.agg #[.int .u8 a, .int .u8 b, .int .u32 x, .int .u32 y]] w0 fun e w' => e = .returned (.bool true) ∧ Below w0.heap.size w0 w' := by
  obtain ⟨n, en⟩ : ∃ n : Nat, (a : Int) % 5 = n := Int.eq_ofNat_of_zero_le (by omega)
  obtain ⟨m, em⟩ : ∃ n : Nat, (b : Int) % 5 = n := Int.eq_ofNat_of_zero_le (by omega)
  obtain ⟨k, ek⟩ : ∃ n : Nat, (x : Int) % 1073741824 = n := Int.eq_ofNat_of_zero_le (by omega)
  obtain ⟨l, el⟩ : ∃ n : Nat, (y : Int) % 1073741824 = n := Int.eq_ofNat_of_zero_le (by omega)
  have hn : n < 5 := by omega
  have hm : m < 5 := by omega
  have hk : k < 1073741824 := by omega
  have hl : l < 1073741824 := by omega
  have HO : ∀ W, Calls Try.prog 9 #[.int .i64 n] W fun e w' => e = .returned (.tuple #[.agg (infA n), .int .i64 0]) ∧ Below W.heap.size W w' := fun W => of_ok n W hn n rfl
  have HO := Lib.hid HO
  have HP : ∀ W, Calls Try.prog 9 #[.int .i64 m] W fun e w' => e = .returned (.tuple #[.agg (infA m), .int .i64 0]) ∧ Below W.heap.size W w' := fun W => of_ok m W hm m rfl
  have HP := Lib.hid HP
  have HW := Lib.hid fun W => whole_any n k W (by omega)
  have HV := Lib.hid fun W => whole_any m l W (by omega)
  have HS : ∀ W, Calls Try.prog 14 #[.int .u32 3221225534, .int .u32 4294967295] W fun e w' => e = .returned (.tuple #[.int .i64 0, .bool true]) ∧ Below W.heap.size W w' := fun W => by
    have := select_ok 3221225534 4294967295 W (by decide) (by decide)
    exact this
  have HS := Lib.hid HS
  have HX := Lib.hid fun (h : n ≠ m) (ht : tkA n = tkA m) => whole_apart n m k l hn hm hk hl h ht
  have HT := Lib.hid (tkA_lt)
  clear hn hm hk hl
  go_enter Try.func7, Try.ntmps7
  go_wp2
  go_quiet (fail)
  go_wp2_with fail
  refine (HO.out _).mono ?_
  rintro e w1 ⟨rfl, hB1⟩
  have hz1 := hB1.size
  simp at hz1
  go_wp2_with fail
  refine (HP.out _).mono ?_
  rintro e w2 ⟨rfl, hB2⟩
  have hz2 := hB2.size
  simp at hz2
  have q1 : w2.cell? ⟨w1.heap.size, 1, none⟩ = some (.int .u32 (tkA n)) := (hB2.cell (p := ⟨w1.heap.size, 1, none⟩) (by simp)).trans ((RowB.new w1 (infA n) 24 _ rfl).cell 1 _ rfl)
  have q2 : (w2.alloc (.cells (infA m) 24)).cell? ⟨w1.heap.size, 1, none⟩ = some (.int .u32 (tkA n)) := (((Below.refl w2.heap.size w2).alloc (Nat.le_refl _) _).cell (p := ⟨w1.heap.size, 1, none⟩) (by show w1.heap.size < _; omega)).trans q1
  have q3 : (w2.alloc (.cells (infA m) 24)).cell? ⟨w2.heap.size, 1, none⟩ = some (.int .u32 (tkA m)) := (RowB.new w2 (infA m) 24 _ rfl).cell 1 _ rfl
  have hb : Below w0.heap.size w0 (w2.alloc (.cells (infA m) 24)) := (((((Below.refl _ w0).alloc (Nat.le_refl _) _).trans ((bdn (Below.refl (w0.heap.size + 1) (w0.alloc (.cells #[.int .u8 a, .int .u8 b, .int .u32 x, .int .u32 y] 49))) nq).mono (by omega))).trans (hB1.mono (by simp))).alloc (by omega) _).trans (hB2.mono (by simp; omega)) |>.alloc (by omega) _
  have HB := Lib.hid hb
  clear hb hB1 hB2
  by_cases h1 : n = m
  · have t1 : ((n : Int) != (m : Int)) = false := by simp; omega
    clear h1
    go_wp2_with (first
      | (go_at_call 14; refine (HS.out _).mono ?_; rintro e w3 ⟨rfl, hB3⟩; have hz3 := hB3.size)
      | (go_at_call 12; refine (awake8_any _).mono ?_; rintro e w5 ⟨rfl, hB5⟩))
    go_ret
    exact ⟨rfl, (HB.out.trans (hB3.mono HB.out.size)).trans (hB5.mono (Nat.le_trans HB.out.size hz3))⟩
  · have t1 : ((n : Int) != (m : Int)) = true := by simp; omega
    by_cases h2 : tkA n = tkA m
    · have t2 : (((tkA n : Nat) : Int) == ((tkA m : Nat) : Int)) = true := by simp; omega
      have t3 : (((wholeF n k : Nat) : Int) == ((wholeF m l : Nat) : Int)) = false := by
        have := HX.out h1 h2
        simp; omega
      clear h1 h2
      go_wp2_with fail
      refine (HW.out _).mono ?_
      rintro e w3 ⟨rfl, hB3⟩
      have hz3 := hB3.size
      simp at hz3
      go_wp2_with fail
      refine (HV.out _).mono ?_
      rintro e w4 ⟨rfl, hB4⟩
      have hz4 := hB4.size
      go_wp2_with (first
        | (go_at_call 14; refine (HS.out _).mono ?_; rintro e w6 ⟨rfl, hB6⟩; have hz6 := hB6.size)
        | (go_at_call 12; refine (awake8_any _).mono ?_; rintro e w5 ⟨rfl, hB5⟩))
      go_ret
      have hbs := HB.out.size
      simp at hbs
      exact ⟨rfl, (((HB.out.trans (hB3.mono HB.out.size)).trans (hB4.mono (by omega))).trans (hB6.mono (by omega))).trans (hB5.mono (by omega))⟩
    · have t2 : (((tkA n : Nat) : Int) == ((tkA m : Nat) : Int)) = false := by simp; omega
      clear h1 h2
      go_wp2_with (first
        | (go_at_call 14; refine (HS.out _).mono ?_; rintro e w3 ⟨rfl, hB3⟩; have hz3 := hB3.size)
        | (go_at_call 12; refine (awake8_any _).mono ?_; rintro e w5 ⟨rfl, hB5⟩))
      go_ret
      exact ⟨rfl, (HB.out.trans (hB3.mono HB.out.size)).trans (hB5.mono (Nat.le_trans HB.out.size hz3))⟩

namespace abiApartRow
open Go.ChangeShapes Go.WideShapes Go.ChangeAt Go.RowKit Go.Joins
open Go.ChangeMaps (open_string shut_string)
set_option linter.unusedVariables false
theorem own : ownKnob Try.prog.godebug = none := by kernel_rfl
theorem laidOut : laidOutB Try.prog = true := by kernel_rfl
set_option maxRecDepth 100000 in
theorem lifted (os : Os) (started : os.Started) (H : Type) (enc : TypeId × Value → H) :
    ReturnsInHanded {} Try.checked os 7 .any (Rows.abiApartSpec.pre6 enc Try.prog Try.f7 Rows.abiApartRow.domain false) (Rows.abiApartSpec.post enc Try.prog Try.f7 false true false false) := by
  refine returnsInHanded_of_change (C := Try.checked) own started (by kernel_rfl) Try.func7
    (ChangeSpec.witness6 (enc := enc) (C := Try.checked) false ⟨#[], #[.agg #[.int .u8 0, .int .u8 0, .int .u32 0, .int .u32 0]], []⟩ 8 (by kernel_rfl) (by kernel_rfl) (by kernel_rfl) (by kernel_rfl)) ?_
  intro W base args ds gs before hval0 hW hcnd _
  have hval : ∀ (j : Nat) t v, Try.f7.params[j]? = some t → args[j]? = some v → Value.okWide Try.prog W .any base t v := hval0
  have hW' := hW
  obtain ⟨p, q, hA0, hV, rfl, hfz, hnd⟩ := hW
  have hA : DataW.TrodAll enc Try.prog W 0 (fun _ => true) true Try.f7.params.toList args.toList ds p := hA0
  rw [Try.params7] at hA hval
  obtain ⟨v0, vs0, d0, ds0, p0, q0, hargs, rfl, rfl, h0, r0⟩ := trodAll_cons hA
  obtain ⟨rfl, rfl, rfl⟩ := trodAll_nil r0
  obtain rfl : args = #[v0] := by cases args; simp_all
  obtain ⟨rfl, rfl⟩ := trodVars_none hV
  have k0 := h0
  have lt0 : ∀ x ∈ p0, x.block < W.heap.size := by obtain ⟨m, hm⟩ := k0; exact DataW.trod_lt m _ _ _ hm
  obtain ⟨cc0, cc1, cc2, cc3, yy0, yy1, yy2, yy3, mm, rfl, _, _, hyy0, hyy1, hyy2, hyy3⟩ := open_agg4 Try.underlying49 (by kernel_rfl) (show Try.prog.cellsOf 49 = 4 by kernel_rfl) (hval 0 49 v0 rfl rfl) h0
  obtain ⟨n0, ee0, _, u0⟩ := DataW.trod_int Try.underlying5 hyy0
  obtain ⟨n1, ee1, _, u1⟩ := DataW.trod_int Try.underlying5 hyy1
  obtain ⟨n2, ee2, _, u2⟩ := DataW.trod_int Try.underlying22 hyy2
  obtain ⟨n3, ee3, _, u3⟩ := DataW.trod_int Try.underlying22 hyy3
  simp only [List.cons.injEq, and_true] at ee0 ee1 ee2 ee3
  subst ee0 ee1 ee2 ee3
  simp [Lit.wf, IntKind.min, IntKind.max, IntKind.signed, IntKind.bits] at u0 u1 u2 u3
  obtain ⟨x0, rfl⟩ := Int.eq_ofNat_of_zero_le u0.1
  obtain ⟨x1, rfl⟩ := Int.eq_ofNat_of_zero_le u1.1
  obtain ⟨x2, rfl⟩ := Int.eq_ofNat_of_zero_le u2.1
  obtain ⟨x3, rfl⟩ := Int.eq_ofNat_of_zero_le u3.1
  clear hA0 hval0
  refine (walk_AbiApart (w0 := W) x0 x1 x2 x3 (by omega) (by omega) (by omega) (by omega)).mono fun e W' ⟨he, bel⟩ => ?_
  subst he
  exact ⟨_, rfl, _, _, _, [], _, [], hW', trodAll_mk1 (shut_bool Try.underlying4 _), (trodAll_cons_mk (Below.trod laidOut (by kernel_rfl) (of_decide_eq_true (by kernel_rfl)) k0 bel lt0) trodAll_mk0), rfl, bel.frame _, fun h => by cases h⟩

theorem over : Rows.abiApartRow.holds Try.pinned (OpenSpec.ofChange Rows.abiApartSpec) :=
  OpenClaim.holds_of_wide 7 Try.f7 rfl rfl rfl rfl rfl rfl rfl ⟨rfl, rfl, rfl, rfl, rfl⟩ rfl rfl rfl rfl rfl (by kernel_rfl) Try.func7 (by kernel_rfl)
    (of_decide_eq_true (by kernel_rfl)) (by unfold Func.isWrapper; first | (rw [if_pos (by decide +kernel)]; kernel_rfl) | (rw [if_neg (by decide +kernel)]; exact ⟨rfl, rfl⟩))
    (fun os started H enc _ => lifted os started H enc)
end abiApartRow

theorem abiApart_proved : Rows.AbiApartSaid := abiApartRow.over
#print axioms abiApart_proved
end Go.Proofs.Ytjblkkffdhaiiaa
