/-
  The statement of WordSplits is proved: for every eight bytes, both ways round, the law returns true. No condition.
-/
import Derived.Test.YtfdfngljfilomaaRows
import Derived.Test.YtfdfngljfilomaaWd
import Derived.WalkKit
import Derived.ProofKit
import Derived.OpenShut
import Derived.ShutString
import Derived.ChangeOld
import Derived.Below
import Derived.Lib.SmallJoins
import Derived.Deep.RegionHeld3
namespace Go.Proofs.Ytfdfngljfilomaa
open Go.RowKit

/-- A box of eight bytes reads as them. -/
theorem arr_byt (w : World) (f : Nat → Nat) (hf : ∀ i, i < 8 → f i < 256) (t : TypeId) :
    Byt (w.alloc (.cells #[bv (f 0), bv (f 1), bv (f 2), bv (f 3), bv (f 4), bv (f 5), bv (f 6), bv (f 7)] t)) (w.heap.size + 1) (some ⟨w.heap.size, 0, none⟩) 8 8 f :=
  Byt.mk_ (by omega) (by decide) (by decide) (fun i hi => by
    refine ⟨?_, hf i hi⟩
    match i, hi with
    | 0, _ => simp
    | 1, _ => simp
    | 2, _ => simp
    | 3, _ => simp
    | 4, _ => simp
    | 5, _ => simp
    | 6, _ => simp
    | 7, _ => simp)
theorem num_split (g : Nat → Nat) : num g 8 = num (fun i => g (4 + i)) 4 * 4294967296 + num g 4 := by
  simp [num]; omega

theorem split_nums (f : Nat → Nat) (hf : ∀ i, i < 8 → f i < 256) (big : Bool) : ∃ x y n : Nat, num (fun i => f (pln big 0 8 i)) 8 = n ∧ num (fun i => f (pln big 0 4 i)) 4 = x ∧ num (fun i => f (pln big 4 4 i)) 4 = y ∧ x ≤ 4294967295 ∧ y ≤ 4294967295 ∧ n ≤ 18446744073709551615 ∧
    n = (if big then x else y) * 4294967296 + (if big then y else x) := by
  refine ⟨_, _, _, rfl, rfl, rfl, ?_, ?_, ?_, ?_⟩
  · have := num_lt (fun i => f (pln big 0 4 i)) 4 (fun i hi => hf _ (pln_lt big 0 4 i 8 hi (by decide))); omega
  · have := num_lt (fun i => f (pln big 4 4 i)) 4 (fun i hi => hf _ (pln_lt big 4 4 i 8 hi (by decide))); omega
  · have := num_lt8 (fun i => f (pln big 0 8 i)) 8 (by decide) (fun i hi => hf _ (pln_lt big 0 8 i 8 hi (by decide))); omega
  · rw [num_split]
    cases big <;> simp [num, pln] <;> omega

set_option maxRecDepth 100000 in
set_option maxHeartbeats 4000000 in
theorem walk_WordSplits {w0 : World} (f : Nat → Nat) (hf : ∀ i, i < 8 → f i < 256) (big : Bool) :
    Calls Try.prog 8 #[.agg #[bv (f 0), bv (f 1), bv (f 2), bv (f 3), bv (f 4), bv (f 5), bv (f 6), bv (f 7)], .bool big] w0 fun e w' => e = .returned (.bool true) ∧ Below w0.heap.size w0 w' := by
  have hB0 : Below w0.heap.size w0 (w0.alloc (.cells #[bv (f 0), bv (f 1), bv (f 2), bv (f 3), bv (f 4), bv (f 5), bv (f 6), bv (f 7)] 44)) := (Below.refl _ _).alloc (Nat.le_refl _) _
  have ha := arr_byt w0 f hf 44
  obtain ⟨x, y, n, e8, e0, e4, hx, hy, hn, hnn⟩ := split_nums f hf big
  have HG8 : Hid (∀ W : World, Byt W W.heap.size (some ⟨w0.heap.size, 0, none⟩) 8 8 f → Calls Try.prog 15 #[.slice (some ⟨w0.heap.size, 0, none⟩) 8 8, .int .i64 0, .int .i64 8, .bool big] W fun e w' => e = .returned (.tuple #[.int .u64 (n : Int), .int .i64 0]) ∧ Below W.heap.size W w') :=
    fun W h => e8 ▸ get_ok big (some ⟨w0.heap.size, 0, none⟩) 8 8 0 8 f W (by decide) (by decide) (by decide) h
  have HG0 : Hid (∀ W : World, Byt W W.heap.size (some ⟨w0.heap.size, 0, none⟩) 8 8 f → Calls Try.prog 15 #[.slice (some ⟨w0.heap.size, 0, none⟩) 8 8, .int .i64 0, .int .i64 4, .bool big] W fun e w' => e = .returned (.tuple #[.int .u64 (x : Int), .int .i64 0]) ∧ Below W.heap.size W w') :=
    fun W h => e0 ▸ get_ok big (some ⟨w0.heap.size, 0, none⟩) 8 8 0 4 f W (by decide) (by decide) (by decide) h
  have HG4 : Hid (∀ W : World, Byt W W.heap.size (some ⟨w0.heap.size, 0, none⟩) 8 8 f → Calls Try.prog 15 #[.slice (some ⟨w0.heap.size, 0, none⟩) 8 8, .int .i64 4, .int .i64 4, .bool big] W fun e w' => e = .returned (.tuple #[.int .u64 (y : Int), .int .i64 0]) ∧ Below W.heap.size W w') :=
    fun W h => e4 ▸ get_ok big (some ⟨w0.heap.size, 0, none⟩) 8 8 4 4 f W (by decide) (by decide) (by decide) h
  clear e8 e0 e4
  rcases big with _ | _
  all_goals simp only [if_true, if_false, Bool.false_eq_true] at hnn
  · have hq : ((y : Int) * 4294967296 + (x : Int) == (n : Int)) = true := by rw [beq_iff_eq]; omega
    clear hnn
    go_enter Try.func8, Try.ntmps8
    go_wp2_with fail
    refine (HG8.out _ (ha.more (by simp))).mono ?_
    rintro e w1 ⟨rfl, hB1⟩
    have hb1 := hB0.trans (hB1.mono (by simp))
    have ha1 := (ha.below (hB1.mono (by simp))).more (B' := w1.heap.size) (by have := hB1.size; simp at this; omega)
    go_wp2_with fail
    refine (HG0.out _ ha1).mono ?_
    rintro e w2 ⟨rfl, hB2⟩
    have hb2 := hb1.trans (hB2.mono hb1.size)
    have ha2 := (ha1.below hB2).more hB2.size
    go_wp2_with fail
    refine (HG4.out _ ha2).mono ?_
    rintro e w3 ⟨rfl, hB3⟩
    have hb3 := hb2.trans (hB3.mono hb2.size)
    go_wp2_with fail
    refine (join_any _ _ _ (by omega) (by omega) (by omega) (by omega)).mono ?_
    rintro e w' ⟨rfl, rfl⟩
    go_wp2_with fail
    refine (awake_any _).mono ?_
    rintro e w4 ⟨rfl, hB4⟩
    go_wp2
    go_ret
    exact ⟨rfl, hb3.trans (hB4.mono hb3.size)⟩
  · have hq : ((x : Int) * 4294967296 + (y : Int) == (n : Int)) = true := by rw [beq_iff_eq]; omega
    clear hnn
    go_enter Try.func8, Try.ntmps8
    go_wp2_with fail
    refine (HG8.out _ (ha.more (by simp))).mono ?_
    rintro e w1 ⟨rfl, hB1⟩
    have hb1 := hB0.trans (hB1.mono (by simp))
    have ha1 := (ha.below (hB1.mono (by simp))).more (B' := w1.heap.size) (by have := hB1.size; simp at this; omega)
    go_wp2_with fail
    refine (HG0.out _ ha1).mono ?_
    rintro e w2 ⟨rfl, hB2⟩
    have hb2 := hb1.trans (hB2.mono hb1.size)
    have ha2 := (ha1.below hB2).more hB2.size
    go_wp2_with fail
    refine (HG4.out _ ha2).mono ?_
    rintro e w3 ⟨rfl, hB3⟩
    have hb3 := hb2.trans (hB3.mono hb2.size)
    go_wp2_with fail
    refine (join_any _ _ _ (by omega) (by omega) (by omega) (by omega)).mono ?_
    rintro e w' ⟨rfl, rfl⟩
    go_wp2_with fail
    refine (awake_any _).mono ?_
    rintro e w4 ⟨rfl, hB4⟩
    go_wp2
    go_ret
    exact ⟨rfl, hb3.trans (hB4.mono hb3.size)⟩

section
open Go.ChangeShapes Go.WideShapes
variable {H : Type} {enc : TypeId × Value → H}
/-- An argument that is an array of eight bytes. -/
theorem open_arr8 {r : Reach} {w : World} {b0 base : Nat} {spare : Nat → Bool} {held : Bool} {v : Value} {d : DataW H} {p : List MemPlace} (hv : Value.okWide Try.prog w r b0 44 v) (h : DataW.Trod enc Try.prog w base spare held 44 v d p) :
    ∃ f : Nat → Nat, v = .agg #[bv (f 0), bv (f 1), bv (f 2), bv (f 3), bv (f 4), bv (f 5), bv (f 6), bv (f 7)] ∧ ∀ i, i < 8 → f i < 256 := by
  obtain ⟨fuel, hf⟩ := h
  obtain ⟨xs, m, _, _, hlen, hxl, hat⟩ := DataW.trod_array Try.underlying44 hf
  have hC : Try.prog.cellsOf 44 = 8 := by kernel_rfl
  have hc1 : Try.prog.cellsOf 5 = 1 := by kernel_rfl
  rw [hC] at hlen
  obtain ⟨cs, rfl, hsz⟩ : ∃ cs, v = .agg cs ∧ cs.size = 8 := by
    simp only [Value.okWide, Try.underlying44] at hv
    obtain ⟨cs, h1, h2, _⟩ := hv
    exact ⟨cs, h1, h2.trans hC⟩
  obtain ⟨l⟩ := cs
  match l, hsz with
  | [c0, c1, c2, c3, c4, c5, c6, c7], _ =>
    have hk : ∀ i : Nat, i < 8 → ∃ n : Nat, ([c0, c1, c2, c3, c4, c5, c6, c7] : List Value)[i]? = some (bv n) ∧ n < 256 := fun i hi => by
      have hx := hat i hi
      rw [hc1] at hx
      have hxs : xs[i]? = some (xs[i]'(by omega)) := List.getElem?_eq_getElem (by omega)
      rw [hxs] at hx
      obtain ⟨z, hz, _, hw⟩ := DataW.trod_int Try.underlying5 hx
      simp [Lit.wf, IntKind.min, IntKind.max, IntKind.signed, IntKind.bits] at hw
      refine ⟨z.toNat, ?_, by omega⟩
      have hh := congrArg List.head? hz
      simp only [List.head?_take, Nat.mul_one, List.head?_cons] at hh
      rw [if_neg (by decide), List.head?_drop] at hh
      rw [show bv z.toNat = Value.int .u8 z from by unfold bv; rw [Int.toNat_of_nonneg hw.1]]
      exact hh
    obtain ⟨n0, e0, l0⟩ := hk 0 (by decide)
    obtain ⟨n1, e1, l1⟩ := hk 1 (by decide)
    obtain ⟨n2, e2, l2⟩ := hk 2 (by decide)
    obtain ⟨n3, e3, l3⟩ := hk 3 (by decide)
    obtain ⟨n4, e4, l4⟩ := hk 4 (by decide)
    obtain ⟨n5, e5, l5⟩ := hk 5 (by decide)
    obtain ⟨n6, e6, l6⟩ := hk 6 (by decide)
    obtain ⟨n7, e7, l7⟩ := hk 7 (by decide)
    simp only [List.getElem?_cons_zero, List.getElem?_cons_succ, Option.some.injEq] at e0 e1 e2 e3 e4 e5 e6 e7
    subst e0 e1 e2 e3 e4 e5 e6 e7
    refine ⟨fun i => [n0, n1, n2, n3, n4, n5, n6, n7].getD i 0, rfl, fun i hi => ?_⟩
    match i, hi with
    | 0, _ => exact l0
    | 1, _ => exact l1
    | 2, _ => exact l2
    | 3, _ => exact l3
    | 4, _ => exact l4
    | 5, _ => exact l5
    | 6, _ => exact l6
    | 7, _ => exact l7
end

namespace wordSplitsRow
open Go.ChangeShapes Go.WideShapes Go.ChangeAt Go.RowKit Go.Joins
open Go.ChangeMaps (open_string shut_string)
set_option linter.unusedVariables false
theorem own : ownKnob Try.prog.godebug = none := by kernel_rfl
theorem laidOut : laidOutB Try.prog = true := by kernel_rfl
set_option maxRecDepth 100000 in
theorem lifted (os : Os) (started : os.Started) (H : Type) (enc : TypeId × Value → H) :
    ReturnsInHanded {} Try.checked os 8 .any (Rows.wordSplitsSpec.pre6 enc Try.prog Try.f8 Rows.wordSplitsRow.domain false) (Rows.wordSplitsSpec.post enc Try.prog Try.f8 false true false false) := by
  refine returnsInHanded_of_change (C := Try.checked) own started (by kernel_rfl) Try.func8
    (ChangeSpec.witness6 (enc := enc) (C := Try.checked) false ⟨#[], #[.agg #[.int .u8 0, .int .u8 0, .int .u8 0, .int .u8 0, .int .u8 0, .int .u8 0, .int .u8 0, .int .u8 0], .bool false], []⟩ 8 (by kernel_rfl) (by kernel_rfl) (by kernel_rfl) (by kernel_rfl)) ?_
  intro W base args ds gs before hval0 hW hcnd _
  have hval : ∀ (j : Nat) t v, Try.f8.params[j]? = some t → args[j]? = some v → Value.okWide Try.prog W .any base t v := hval0
  have hW' := hW
  obtain ⟨p, q, hA0, hV, rfl, hfz, hnd⟩ := hW
  have hA : DataW.TrodAll enc Try.prog W 0 (fun _ => true) true Try.f8.params.toList args.toList ds p := hA0
  rw [Try.params8] at hA hval
  obtain ⟨v0, vs0, d0, ds0, p0, q0, hargs, rfl, rfl, h0, r0⟩ := trodAll_cons hA
  obtain ⟨v1, vs1, d1, ds1, p1, q1, rfl, rfl, rfl, h1, r1⟩ := trodAll_cons r0
  obtain ⟨rfl, rfl, rfl⟩ := trodAll_nil r1
  obtain rfl : args = #[v0, v1] := by cases args; simp_all
  obtain ⟨rfl, rfl⟩ := trodVars_none hV
  have k0 := h0
  have lt0 : ∀ x ∈ p0, x.block < W.heap.size := by obtain ⟨m, hm⟩ := k0; exact DataW.trod_lt m _ _ _ hm
  have k1 := h1
  have lt1 : ∀ x ∈ p1, x.block < W.heap.size := by obtain ⟨m, hm⟩ := k1; exact DataW.trod_lt m _ _ _ hm
  obtain ⟨f0, rfl, g0⟩ := open_arr8 (hval 0 44 v0 rfl rfl) h0
  obtain ⟨a1, rfl, rfl, rfl⟩ := open_bool Try.underlying4 (hval 1 4 v1 rfl rfl) h1
  clear hA0 hval0
  refine (walk_WordSplits (w0 := W) f0 g0 a1).mono fun e W' ⟨he, bel⟩ => ?_
  subst he
  exact ⟨_, rfl, _, _, _, [], _, [], hW', trodAll_mk1 (shut_bool Try.underlying4 _), (trodAll_cons_mk (Below.trod laidOut (by kernel_rfl) (of_decide_eq_true (by kernel_rfl)) k0 bel lt0) (trodAll_cons_mk (Below.trod laidOut (by kernel_rfl) (of_decide_eq_true (by kernel_rfl)) k1 bel lt1) trodAll_mk0)), rfl, bel.frame _, fun h => by cases h⟩

theorem over : Rows.wordSplitsRow.holds Try.pinned (OpenSpec.ofChange Rows.wordSplitsSpec) :=
  OpenClaim.holds_of_wide 8 Try.f8 rfl rfl rfl rfl rfl rfl rfl ⟨rfl, rfl, rfl, rfl, rfl⟩ rfl rfl rfl rfl rfl (by kernel_rfl) Try.func8 (by kernel_rfl)
    (of_decide_eq_true (by kernel_rfl)) (by unfold Func.isWrapper; first | (rw [if_pos (by decide +kernel)]; kernel_rfl) | (rw [if_neg (by decide +kernel)]; exact ⟨rfl, rfl⟩))
    (fun os started H enc _ => lifted os started H enc)
end wordSplitsRow

theorem wordSplits_proved : Rows.WordSplitsSaid := wordSplitsRow.over
#print axioms wordSplits_proved
end Go.Proofs.Ytfdfngljfilomaa
