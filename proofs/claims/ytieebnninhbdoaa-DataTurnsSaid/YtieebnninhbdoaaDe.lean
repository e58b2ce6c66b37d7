/-
  How an argument that is the document's record, or an array of 64 bytes, is opened.
-/
import Derived.Test.YtieebnninhbdoaaDd
import Derived.WalkKit
import Derived.ProofKit
import Derived.OpenShut
import Derived.ChangeArms
import Derived.Lib.SmallJoins
import Derived.Laws.StructEq
namespace Go.Proofs.Ytieebnninhbdoaa
open Go.ChangeShapes Go.WideShapes Go.RowKit

section
variable {H : Type} {enc : TypeId × Value → H}
/-- The numbers of an array that was read. -/
theorem arr_ints {P : Program} {w : World} {base : Nat} {spare : Nat → Bool} {held : Bool} {k : IntKind} {t e : TypeId} {n fuel : Nat} {cs : List Value} {x : DataW H × List MemPlace} (ht : P.underlying t = some (.array n e)) (he : P.underlying e = some (.int k)) (hc1 : P.cellsOf e = 1)
    (h : DataW.trod enc P w base spare held fuel t cs = some x) : ∀ i, i < n → ∃ z : Int, cs[i]? = some (.int k z) ∧ (Lit.int k z).wf = true := by
  obtain ⟨xs, m, _, _, _, hxl, hat⟩ := DataW.trod_array ht h
  intro i hi
  have hx := hat i hi
  rw [hc1] at hx
  have hxs : xs[i]? = some (xs[i]'(by omega)) := List.getElem?_eq_getElem (by omega)
  rw [hxs] at hx
  obtain ⟨z, hz, _, hw⟩ := DataW.trod_int he hx
  refine ⟨z, ?_, hw⟩
  have hh := congrArg List.head? hz
  simp only [List.head?_take, Nat.mul_one, List.head?_cons] at hh
  rw [if_neg (by decide), List.head?_drop] at hh
  exact hh

theorem arr_of (cs : Array Value) (n : Nat) (f : Nat → Nat) (hsz : cs.size = n) (hfi : ∀ i, i < n → cs[i]? = some (bv (f i))) : cs = arrB n f := by
  apply Array.ext
  · rw [hsz, arrB_size]
  · intro i h1 h2
    rw [hsz] at h1
    have e1 := hfi i h1
    have e2 := arrB_get n f i h1
    rw [Array.getElem?_eq_getElem (by omega)] at e1
    rw [Array.getElem?_eq_getElem (by rw [arrB_size]; omega)] at e2
    injection e1 with e1
    injection e2 with e2
    rw [e1, e2]
set_option maxRecDepth 100000 in
theorem open_arrB {r : Reach} {w : World} {b0 base : Nat} {spare : Nat → Bool} {held : Bool} {v : Value} {d : DataW H} {p : List MemPlace} (hv : Value.okWide Try.prog w r b0 49 v) (h : DataW.Trod enc Try.prog w base spare held 49 v d p) :
    ∃ f : Nat → Nat, v = .agg (arrB 64 f) ∧ ∀ i, i < 64 → f i < 256 := by
  have hC : Try.prog.cellsOf 49 = 64 := by kernel_rfl
  have hc1 : Try.prog.cellsOf 5 = 1 := by kernel_rfl
  obtain ⟨fuel, hf⟩ := h
  have hat := arr_ints Try.underlying49 Try.underlying5 hc1 hf
  obtain ⟨cs, rfl, hsz⟩ : ∃ cs, v = .agg cs ∧ cs.size = 64 := by
    simp only [Value.okWide, Try.underlying49] at hv
    obtain ⟨cs, h1, h2, _⟩ := hv
    exact ⟨cs, h1, h2.trans hC⟩
  have hex : ∃ f : Nat → Nat, ∀ i, i < 64 → (cs[i]? = some (bv (f i)) ∧ f i < 256) := by
    have hel : ∀ i, i < 64 → ∃ n : Nat, cs[i]? = some (bv n) ∧ n < 256 := fun i hi => by
      obtain ⟨z, hz, hw⟩ := hat i hi
      simp [Lit.wf, IntKind.min, IntKind.max, IntKind.signed, IntKind.bits] at hw
      refine ⟨z.toNat, ?_, by omega⟩
      rw [show bv z.toNat = Value.int .u8 z from by unfold bv; rw [Int.toNat_of_nonneg hw.1]]
      simpa [Value.cells] using hz
    exact ⟨fun i => if h : i < 64 then Classical.choose (hel i h) else 0, fun i hi => by
      have := Classical.choose_spec (hel i hi)
      simpa [hi] using this⟩
  obtain ⟨f, hfi⟩ := hex
  exact ⟨f, by rw [arr_of cs 64 f hsz fun i hi => (hfi i hi).1], fun i hi => (hfi i hi).2⟩

set_option maxRecDepth 100000 in
theorem open_rec {r : Reach} {w : World} {b0 base : Nat} {spare : Nat → Bool} {held : Bool} {v : Value} {d : DataW H} {p : List MemPlace} (hv : Value.okWide Try.prog w r b0 48 v) (h : DataW.Trod enc Try.prog w base spare held 48 v d p) :
    ∃ g : RV, v = .agg (rcells g) ∧ g.ok := by
  have hC : Try.prog.cellsOf 48 = 9 := by kernel_rfl
  obtain ⟨cs, rfl, hsz⟩ := okWide_struct Try.underlying48 hv
  obtain ⟨l⟩ := cs
  match l, hsz.trans hC with
  | [c0, c1, c2, c3, c4, c5, c6, c7, c8], _ =>
    obtain ⟨fuel, hf⟩ := h
    obtain ⟨xs, n, _, _, _, hlen, hg⟩ := DataW.trod_struct Try.underlying48 hf
    have k0 : Try.prog.cellsOf 44 = 1 := by kernel_rfl
    have k1 : Try.prog.cellsOf 45 = 1 := by kernel_rfl
    have k2 : Try.prog.cellsOf 46 = 6 := by kernel_rfl
    have hx : ∀ j, j < 4 → ∃ y, xs[j]? = some y := fun j hj => ⟨xs[j]'(by rw [hlen]; exact hj), List.getElem?_eq_getElem _⟩
    obtain ⟨y0, z0⟩ := hx 0 (by decide)
    obtain ⟨y1, z1⟩ := hx 1 (by decide)
    obtain ⟨y2, z2⟩ := hx 2 (by decide)
    obtain ⟨y3, z3⟩ := hx 3 (by decide)
    have g0 : DataW.trod enc Try.prog w base spare held n 44 [c0] = some y0 := by
      have h : DataW.trod enc Try.prog w base spare held n 44 (([c0, c1, c2, c3, c4, c5, c6, c7, c8].drop 0).take (Try.prog.cellsOf 44)) = xs[0]? := hg 0 _ rfl
      rw [k0, z0] at h
      exact h
    have g1 : DataW.trod enc Try.prog w base spare held n 44 [c1] = some y1 := by
      have h : DataW.trod enc Try.prog w base spare held n 44 (([c0, c1, c2, c3, c4, c5, c6, c7, c8].drop 1).take (Try.prog.cellsOf 44)) = xs[1]? := hg 1 _ rfl
      rw [k0, z1] at h
      exact h
    have g2 : DataW.trod enc Try.prog w base spare held n 45 [c2] = some y2 := by
      have h : DataW.trod enc Try.prog w base spare held n 45 (([c0, c1, c2, c3, c4, c5, c6, c7, c8].drop 2).take (Try.prog.cellsOf 45)) = xs[2]? := hg 2 _ rfl
      rw [k1, z2] at h
      exact h
    have g3 : DataW.trod enc Try.prog w base spare held n 46 [c3, c4, c5, c6, c7, c8] = some y3 := by
      have h : DataW.trod enc Try.prog w base spare held n 46 (([c0, c1, c2, c3, c4, c5, c6, c7, c8].drop 3).take (Try.prog.cellsOf 46)) = xs[3]? := hg 3 _ rfl
      rw [k2, z3] at h
      exact h
    obtain ⟨n0, e0, _, w0⟩ := DataW.trod_int Try.underlying44 g0
    obtain ⟨n1, e1, _, w1⟩ := DataW.trod_int Try.underlying44 g1
    obtain ⟨n2, e2, _, w2⟩ := DataW.trod_int Try.underlying45 g2
    have hq := arr_ints Try.underlying46 Try.underlying45 k1 g3
    obtain ⟨n3, e3, w3⟩ := hq 0 (by decide)
    obtain ⟨n4, e4, w4⟩ := hq 1 (by decide)
    obtain ⟨n5, e5, w5⟩ := hq 2 (by decide)
    obtain ⟨n6, e6, w6⟩ := hq 3 (by decide)
    obtain ⟨n7, e7, w7⟩ := hq 4 (by decide)
    obtain ⟨n8, e8, w8⟩ := hq 5 (by decide)
    simp only [List.cons.injEq, and_true] at e0 e1 e2
    simp only [List.getElem?_cons_zero, List.getElem?_cons_succ, Option.some.injEq] at e3 e4 e5 e6 e7 e8
    subst e0 e1 e2 e3 e4 e5 e6 e7 e8
    simp [Lit.wf, IntKind.min, IntKind.max, IntKind.signed, IntKind.bits] at w0 w1 w2 w3 w4 w5 w6 w7 w8
    obtain ⟨x0, rfl⟩ := Int.eq_ofNat_of_zero_le w0.1
    obtain ⟨x1, rfl⟩ := Int.eq_ofNat_of_zero_le w1.1
    obtain ⟨x2, rfl⟩ := Int.eq_ofNat_of_zero_le w2.1
    obtain ⟨x3, rfl⟩ := Int.eq_ofNat_of_zero_le w3.1
    obtain ⟨x4, rfl⟩ := Int.eq_ofNat_of_zero_le w4.1
    obtain ⟨x5, rfl⟩ := Int.eq_ofNat_of_zero_le w5.1
    obtain ⟨x6, rfl⟩ := Int.eq_ofNat_of_zero_le w6.1
    obtain ⟨x7, rfl⟩ := Int.eq_ofNat_of_zero_le w7.1
    obtain ⟨x8, rfl⟩ := Int.eq_ofNat_of_zero_le w8.1
    refine ⟨⟨x0, x1, x2, fun i => if i = 0 then x3 else if i = 1 then x4 else if i = 2 then x5 else if i = 3 then x6 else if i = 4 then x7 else if i = 5 then x8 else 0⟩, rfl, by show x0 < _; omega, by show x1 < _; omega, by show x2 < _; omega, fun i => ?_⟩
    dsimp only
    repeat' split
    all_goals omega
end

theorem all_range_int : ∀ (xs ys : List Int), xs.length = ys.length → ((List.range xs.length).all fun i => xs.getD i 0 == ys.getD i 0) = (xs == ys)
  | [], [], _ => rfl
  | x :: xs, y :: ys, h => by
    have ih := all_range_int xs ys (by simpa using h)
    rw [List.length_cons, List.range_succ_eq_map, List.all_cons, List.all_map]
    simp only [List.getD_cons_zero, Function.comp_def, List.getD_cons_succ, ih]
    simp [List.cons_beq_cons]
  | [], _ :: _, h => by simp at h
  | _ :: _, [], h => by simp at h
/-- Are two arrays of numbers the same? -/
theorem run_equalIn_ints {P : Program} (w : World) (d : Nat) (t e : TypeId) (n : Nat) (k : IntKind) (ht : P.underlying t = some (.array n e)) (he : P.underlying e = some (.int k)) (hsz : ∀ w, (sizeOf e).run P w = .ok 1 w)
    (xs ys : List Int) (hx : xs.length = n) (hy : ys.length = n) :
    (Op.equalIn (d + 2) t (.agg (xs.map (Value.int k)).toArray) (.agg (ys.map (Value.int k)).toArray)).run P w = .ok (xs == ys) w := by
  rw [← all_range_int xs ys (hx.trans hy.symm), hx, List.range_eq_range', Op.equalIn]
  simp only [Sem.run_bind, run_underlying ht, Result.andThen_ok, hsz, Std.Legacy.Range.forIn_eq_forIn_range', Std.Legacy.Range.size, Nat.sub_zero, Nat.add_sub_cancel, Nat.div_one]
  have hl : ∀ i ∈ List.range' 0 n 1, i < n := fun i hi => by simpa using (List.mem_range'_1.1 hi).2
  generalize List.range' 0 n 1 = l at hl ⊢
  induction l with
  | nil => simp
  | cons i l ih =>
    have hi : i < n := hl i (by simp)
    have px : (part e (xs.map (Value.int k)).toArray (i * 1)).run P w = .ok (.int k (xs.getD i 0)) w := by
      simp [part, isAgg, run_underlying he, List.getD, List.getElem?_eq_getElem (show i < xs.length by omega)]
    have py : (part e (ys.map (Value.int k)).toArray (i * 1)).run P w = .ok (.int k (ys.getD i 0)) w := by
      simp [part, isAgg, run_underlying he, List.getD, List.getElem?_eq_getElem (show i < ys.length by omega)]
    have pe : (Op.equalIn (d + 1) e (.int k (xs.getD i 0)) (.int k (ys.getD i 0))).run P w = .ok (xs.getD i 0 == ys.getD i 0) w := run_equalIn_int w d e k k _ _ he
    simp only [List.forIn_cons, Sem.run_bind, px, py, pe, Result.andThen_ok, List.all_cons]
    cases hb : (xs.getD i 0 == ys.getD i 0)
    · simp
    · simp only [Bool.not_true, Bool.false_eq_true, if_false, Sem.run_pure, Result.andThen_ok, Bool.true_and]
      exact ih fun j hj => hl j (by simp [hj])
theorem eq24 (a0 a1 a2 a3 a4 a5 b0 b1 b2 b3 b4 b5 : Int) (W : World) : (Op.equalIn 9999 46 (.agg #[.int .u64 a0, .int .u64 a1, .int .u64 a2, .int .u64 a3, .int .u64 a4, .int .u64 a5]) (.agg #[.int .u64 b0, .int .u64 b1, .int .u64 b2, .int .u64 b3, .int .u64 b4, .int .u64 b5])).run Try.prog W = .ok ([a0, a1, a2, a3, a4, a5] == [b0, b1, b2, b3, b4, b5]) W :=
  run_equalIn_ints W 9997 46 45 6 .u64 Try.underlying46 Try.underlying45 (fun _ => by kernel_rfl) [a0, a1, a2, a3, a4, a5] [b0, b1, b2, b3, b4, b5] rfl rfl
theorem arrB_ints (n : Nat) (C : Nat → Nat) : (((List.range n).map fun i => (C i : Int)).map (Value.int .u8)).toArray = arrB n C := by
  apply Array.toList_inj.1
  rw [arrB_list, List.map_map]; rfl
theorem alike_ints (n : Nat) (C D : Nat → Nat) : (((List.range n).map fun i => (C i : Int)) == ((List.range n).map fun i => (D i : Int))) = alike C D n := by
  unfold alike
  rw [Bool.eq_iff_iff, beq_iff_eq, List.all_eq_true]
  constructor
  · intro h i hi
    have := congrArg (·[i]?) h
    have hi' : i < n := List.mem_range.1 hi
    simp [hi'] at this
    rw [beq_iff_eq]; omega
  · intro h
    exact List.map_congr_left fun i hi => by rw [beq_iff_eq.1 (h i hi)]
theorem eqArr {P : Program} (n : Nat) (t e : TypeId) (ht : P.underlying t = some (.array n e)) (he : P.underlying e = some (.int .u8)) (hsz : ∀ w, (sizeOf e).run P w = .ok 1 w) (C D : Nat → Nat) (W : World) : (binOp .eql t (.agg (arrB n C)) (.agg (arrB n D))).run P W = .ok (.bool (alike C D n)) W := by
  have h := run_equalIn_ints W 9998 t e n .u8 ht he hsz ((List.range n).map fun i => (C i : Int)) ((List.range n).map fun i => (D i : Int)) (by simp) (by simp)
  rw [arrB_ints, arrB_ints, alike_ints] at h
  rw [run_eql_struct, h]
  rfl
theorem eq64 (C D : Nat → Nat) (W : World) : (binOp .eql 49 (.agg (arrB 64 C)) (.agg (arrB 64 D))).run Try.prog W = .ok (.bool (alike C D 64)) W :=
  eqArr 64 49 5 Try.underlying49 Try.underlying5 (fun _ => by kernel_rfl) C D W
/-- Are two records the same? -/
def req (r s : RV) : Bool := (r.n == s.n) && ((r.a == s.a) && ((r.p == s.p) && alike r.q s.q 6))
theorem num_digits (x : Nat) : ∀ k, num (fun i => x / 256 ^ i % 256) k = x % 256 ^ k := by
  intro k
  induction k with
  | zero => simp [num, Nat.mod_one]
  | succ k ih =>
    unfold num
    rw [ih, Nat.pow_succ, Nat.mod_mul, show (2 : Nat) ^ (8 * k) = 256 ^ k from by rw [Nat.pow_mul], Nat.mul_comm]

end Go.Proofs.Ytieebnninhbdoaa
