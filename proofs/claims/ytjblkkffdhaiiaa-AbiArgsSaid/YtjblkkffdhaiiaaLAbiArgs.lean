/-
  The law AbiArgs holds for every input: the arguments of any record are as the document says any ABI sees them. No condition.
-/
import Derived.Test.YtjblkkffdhaiiaaRows
import Derived.Test.YtjblkkffdhaiiaaAf
import Derived.WalkKit
import Derived.ProofKit
import Derived.OpenShut
import Derived.ShutString
import Derived.ChangeOld
import Derived.Below
import Derived.Lib.SmallJoins
namespace Go.Proofs.Ytjblkkffdhaiiaa
open Go.RowKit

section
open Go.ChangeShapes Go.WideShapes
variable {H : Type} {enc : TypeId × Value → H}
/-- An argument that is an array of six words. -/
theorem open_arr6 {r : Reach} {w : World} {b0 base : Nat} {spare : Nat → Bool} {held : Bool} {v : Value} {d : DataW H} {p : List MemPlace} (hv : Value.okWide Try.prog w r b0 41 v) (h : DataW.Trod enc Try.prog w base spare held 41 v d p) :
    ∃ f : Nat → Nat, v = .agg #[.int .u64 (f 0), .int .u64 (f 1), .int .u64 (f 2), .int .u64 (f 3), .int .u64 (f 4), .int .u64 (f 5)] ∧ ∀ i, i < 6 → f i < 18446744073709551616 := by
  obtain ⟨fuel, hf⟩ := h
  obtain ⟨xs, m, _, _, hlen, hxl, hat⟩ := DataW.trod_array Try.underlying41 hf
  have hC : Try.prog.cellsOf 41 = 6 := by kernel_rfl
  have hc1 : Try.prog.cellsOf 40 = 1 := by kernel_rfl
  rw [hC] at hlen
  obtain ⟨cs, rfl, hsz⟩ : ∃ cs, v = .agg cs ∧ cs.size = 6 := by
    simp only [Value.okWide, Try.underlying41] at hv
    obtain ⟨cs, h1, h2, _⟩ := hv
    exact ⟨cs, h1, h2.trans hC⟩
  obtain ⟨l⟩ := cs
  match l, hsz with
  | [c0, c1, c2, c3, c4, c5], _ =>
    have hk : ∀ i : Nat, i < 6 → ∃ n : Nat, ([c0, c1, c2, c3, c4, c5] : List Value)[i]? = some (.int .u64 n) ∧ n < 18446744073709551616 := fun i hi => by
      have hx := hat i hi
      rw [hc1] at hx
      have hxs : xs[i]? = some (xs[i]'(by omega)) := List.getElem?_eq_getElem (by omega)
      rw [hxs] at hx
      obtain ⟨z, hz, _, hw⟩ := DataW.trod_int Try.underlying40 hx
      simp [Lit.wf, IntKind.min, IntKind.max, IntKind.signed, IntKind.bits] at hw
      refine ⟨z.toNat, ?_, by omega⟩
      have hh := congrArg List.head? hz
      simp only [List.head?_take, Nat.mul_one, List.head?_cons] at hh
      rw [if_neg (by decide), List.head?_drop] at hh
      rw [Int.toNat_of_nonneg hw.1]
      exact hh
    obtain ⟨n0, e0, l0⟩ := hk 0 (by decide)
    obtain ⟨n1, e1, l1⟩ := hk 1 (by decide)
    obtain ⟨n2, e2, l2⟩ := hk 2 (by decide)
    obtain ⟨n3, e3, l3⟩ := hk 3 (by decide)
    obtain ⟨n4, e4, l4⟩ := hk 4 (by decide)
    obtain ⟨n5, e5, l5⟩ := hk 5 (by decide)
    simp only [List.getElem?_cons_zero, List.getElem?_cons_succ, Option.some.injEq] at e0 e1 e2 e3 e4 e5
    subst e0 e1 e2 e3 e4 e5
    refine ⟨fun i => [n0, n1, n2, n3, n4, n5].getD i 0, rfl, fun i hi => ?_⟩
    match i, hi with
    | 0, _ => exact l0
    | 1, _ => exact l1
    | 2, _ => exact l2
    | 3, _ => exact l3
    | 4, _ => exact l4
    | 5, _ => exact l5
end

set_option maxRecDepth 100000 in
set_option maxHeartbeats 4000000 in
theorem walk_AbiArgs {w0 : World} (a : Int) (_ha : (Lit.int .i64 a).wf = true) (q : Nat → Nat) (hq : ∀ i, i < 6 → q i < 18446744073709551616) (n : Int) (_hn : (Lit.int .u32 n).wf = true) :
    Calls Try.prog 5 #[.int .i64 a, .agg #[.int .u64 (q 0), .int .u64 (q 1), .int .u64 (q 2), .int .u64 (q 3), .int .u64 (q 4), .int .u64 (q 5)], .int .u32 n] w0 fun e w' => e = .returned (.bool true) ∧ Below w0.heap.size w0 w' := by
  obtain ⟨g, hg⟩ : ∃ g : Nat → Nat, (fun i => argF a (q i)) = g := ⟨_, rfl⟩
  have hA := fun W => args_any a n 0 0 q W hq
  rw [hg] at hA
  have HA := Lib.hid hA
  have HG := Lib.hid hg
  have HQ := Lib.hid hq
  have HI := Lib.hid (infoS g)
  have H1 := Lib.hid (six_one g)
  clear hA hg hq
  go_enter Try.func5, Try.ntmps5
  go_wp2_with (first
    | (go_at_call 18; refine (HA.out _).mono ?_; rintro e w1 ⟨rfl, hB1⟩; have hz1 := hB1.size; have HB1 := Lib.hid hB1; clear hB1)
    | (refine wpList_store_row (by rfl) 41 _ _ (by rfl) w1.heap.size (sixA g) (by rfl) (by rfl) _ _ (heap_alloc_last _ _) HI.out (by rfl) H1.out ?_; rw [World.setRow_alloc_new]))
  have hb0 : Below w0.heap.size w0 (w1.alloc (.cells (sixA g) 41)) := (((Below.refl _ _).alloc (Nat.le_refl _) _).trans (HB1.out.mono (by simp))).alloc (by simp at hz1; omega) _
  have r0 : RowB (w1.alloc (.cells (sixA g) 41)) w0.heap.size (sixA q) 41 := ((show RowB _ w0.heap.size (sixA q) 41 from RowB.new w0 _ _ _ rfl).below HB1.out (by simp)).alloc _
  have r1 : RowB (w1.alloc (.cells (sixA g) 41)) w1.heap.size (sixA g) 41 := RowB.new _ _ _ _ rfl
  have R0 := Lib.hid r0
  have R1 := Lib.hid r1
  have HB0 := Lib.hid hb0
  clear r0 r1 hb0
  generalize hW : (w1.alloc (.cells (sixA g) 41)) = W1 at *
  clear hW
  go_loopw [8] (fun i wr => ∃ k : Nat, k ≤ 6 ∧ i = .int .i64 k ∧ RowB wr w0.heap.size (sixA q) 41 ∧ RowB wr w1.heap.size (sixA g) 41 ∧ Below w0.heap.size w0 wr) (fun i _ => 6 - (intOf i).toNat)
  case atStart => exact ⟨0, by omega, rfl, R0.out, R1.out, HB0.out⟩
  case round =>
    obtain ⟨k, hk, rfl, r0, r1, hB⟩ := hrel
    by_cases hlt : k < 6
    · have i1 : (0 : Int) ≤ (k : Int) := by omega
      have i2 : (k : Int) < 6 := by omega
      have c0 := r0.cell k _ (six_at q k hlt)
      have c1 := r1.cell k _ (six_at g k hlt)
      have hgk : g k = argF a (q k) := by rw [← HG.out]
      have HC : Hid (∀ W, Calls Try.prog 19 #[.int .i64 a, .int .u64 (q k)] W fun e w' => e = .returned (.int .u64 (g k)) ∧ w' = W) := Lib.hid fun W => (refArg_any a (q k) W (HQ.out k hlt)).mono fun _ _ ⟨he, hw⟩ => ⟨by rw [hgk]; exact he, hw.symm⟩
      clear hgk
      have ht : (((g k : Nat) : Int) != (g k : Int)) = false := by simp
      have R0' := Lib.hid r0
      have R1' := Lib.hid r1
      have HB' := Lib.hid hB
      clear r0 r1 hB
      go_wp2
      go_quiet ((go_at_call 19; exact Calls.quiet_of_same (HC.out _)))
      go_wp2
      exact ⟨⟨k + 1, by omega, by go_num, R0'.out, R1'.out, bdn HB'.out _⟩, by simp [intOf]; omega⟩
    · obtain rfl : k = 6 := by omega
      have HA8 := Lib.hid (awake8_any wr)
      go_wp2_with (go_at_call 12; refine HA8.out.mono ?_; rintro e w5 ⟨rfl, hB5⟩)
      go_ret
      exact ⟨rfl, hB.trans (hB5.mono hB.size)⟩

namespace abiArgsRow
open Go.ChangeShapes Go.WideShapes Go.ChangeAt Go.RowKit Go.Joins
open Go.ChangeMaps (open_string shut_string)
set_option linter.unusedVariables false
theorem own : ownKnob Try.prog.godebug = none := by kernel_rfl
theorem laidOut : laidOutB Try.prog = true := by kernel_rfl
set_option maxRecDepth 100000 in
theorem lifted (os : Os) (started : os.Started) (H : Type) (enc : TypeId × Value → H) :
    ReturnsInHanded {} Try.checked os 5 .any (Rows.abiArgsSpec.pre6 enc Try.prog Try.f5 Rows.abiArgsRow.domain false) (Rows.abiArgsSpec.post enc Try.prog Try.f5 false true false false) := by
  refine returnsInHanded_of_change (C := Try.checked) own started (by kernel_rfl) Try.func5
    (ChangeSpec.witness6 (enc := enc) (C := Try.checked) false ⟨#[], #[.int .i64 0, .agg #[.int .u64 0, .int .u64 0, .int .u64 0, .int .u64 0, .int .u64 0, .int .u64 0], .int .u32 0], []⟩ 8 (by kernel_rfl) (by kernel_rfl) (by kernel_rfl) (by kernel_rfl)) ?_
  intro W base args ds gs before hval0 hW hcnd _
  have hval : ∀ (j : Nat) t v, Try.f5.params[j]? = some t → args[j]? = some v → Value.okWide Try.prog W .any base t v := hval0
  have hW' := hW
  obtain ⟨p, q, hA0, hV, rfl, hfz, hnd⟩ := hW
  have hA : DataW.TrodAll enc Try.prog W 0 (fun _ => true) true Try.f5.params.toList args.toList ds p := hA0
  rw [Try.params5] at hA hval
  obtain ⟨v0, vs0, d0, ds0, p0, q0, hargs, rfl, rfl, h0, r0⟩ := trodAll_cons hA
  obtain ⟨v1, vs1, d1, ds1, p1, q1, rfl, rfl, rfl, h1, r1⟩ := trodAll_cons r0
  obtain ⟨v2, vs2, d2, ds2, p2, q2, rfl, rfl, rfl, h2, r2⟩ := trodAll_cons r1
  obtain ⟨rfl, rfl, rfl⟩ := trodAll_nil r2
  obtain rfl : args = #[v0, v1, v2] := by cases args; simp_all
  obtain ⟨rfl, rfl⟩ := trodVars_none hV
  have k0 := h0
  have lt0 : ∀ x ∈ p0, x.block < W.heap.size := by obtain ⟨m, hm⟩ := k0; exact DataW.trod_lt m _ _ _ hm
  have k1 := h1
  have lt1 : ∀ x ∈ p1, x.block < W.heap.size := by obtain ⟨m, hm⟩ := k1; exact DataW.trod_lt m _ _ _ hm
  have k2 := h2
  have lt2 : ∀ x ∈ p2, x.block < W.heap.size := by obtain ⟨m, hm⟩ := k2; exact DataW.trod_lt m _ _ _ hm
  obtain ⟨a0, rfl, rfl, rfl, w0⟩ := open_int Try.underlying3 (hval 0 3 v0 rfl rfl) h0
  obtain ⟨f1, rfl, g1⟩ := open_arr6 (hval 1 41 v1 rfl rfl) h1
  obtain ⟨a2, rfl, rfl, rfl, w2⟩ := open_int Try.underlying22 (hval 2 22 v2 rfl rfl) h2
  clear hA0 hval0
  refine (walk_AbiArgs (w0 := W) a0 w0 f1 g1 a2 w2).mono fun e W' ⟨he, bel⟩ => ?_
  subst he
  exact ⟨_, rfl, _, _, _, [], _, [], hW', trodAll_mk1 (shut_bool Try.underlying4 _), (trodAll_cons_mk (Below.trod laidOut (by kernel_rfl) (of_decide_eq_true (by kernel_rfl)) k0 bel lt0) (trodAll_cons_mk (Below.trod laidOut (by kernel_rfl) (of_decide_eq_true (by kernel_rfl)) k1 bel lt1) (trodAll_cons_mk (Below.trod laidOut (by kernel_rfl) (of_decide_eq_true (by kernel_rfl)) k2 bel lt2) trodAll_mk0))), rfl, bel.frame _, fun h => by cases h⟩

theorem over : Rows.abiArgsRow.holds Try.pinned (OpenSpec.ofChange Rows.abiArgsSpec) :=
  OpenClaim.holds_of_wide 5 Try.f5 rfl rfl rfl rfl rfl rfl rfl ⟨rfl, rfl, rfl, rfl, rfl⟩ rfl rfl rfl rfl rfl (by kernel_rfl) Try.func5 (by kernel_rfl)
    (of_decide_eq_true (by kernel_rfl)) (by unfold Func.isWrapper; first | (rw [if_pos (by decide +kernel)]; kernel_rfl) | (rw [if_neg (by decide +kernel)]; exact ⟨rfl, rfl⟩))
    (fun os started H enc _ => lifted os started H enc)
end abiArgsRow

theorem abiArgs_proved : Rows.AbiArgsSaid := abiArgsRow.over
#print axioms abiArgs_proved
end Go.Proofs.Ytjblkkffdhaiiaa
