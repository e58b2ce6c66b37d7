/-
  How a record, six numbers, and a record with a table are opened.
-/
import Derived.Test.YtlninlempefjcaaSp
import Derived.ChangeShapes
import Derived.WideShapes
namespace Go.Proofs.Ytlninlempefjcaa
open Go.ChangeShapes Go.WideShapes Go.RowKit Go.Deep
set_option linter.unusedVariables false

structure RV where
  n : Nat
  a : Nat
  p : Nat
  q : Nat → Nat
def RV.ok (r : RV) : Prop := r.n < 4294967296 ∧ r.a < 4294967296 ∧ r.p < 18446744073709551616 ∧ ∀ i, r.q i < 18446744073709551616
def rcells (r : RV) : Array Value := #[.int .u32 r.n, .int .u32 r.a, .int .u64 r.p, .int .u64 (r.q 0), .int .u64 (r.q 1), .int .u64 (r.q 2), .int .u64 (r.q 3), .int .u64 (r.q 4), .int .u64 (r.q 5)]
section
variable {H : Type} {enc : TypeId × Value → H}
theorem arr_ints {P : Program} {w : World} {base : Nat} {spare : Nat → Bool} {held : Bool} {k : IntKind} {t e : TypeId} {n fuel : Nat} {cs : List Value} {x : DataW H × List MemPlace} (ht : P.underlying t = some (.array n e)) (he : P.underlying e = some (.int k)) (hc1 : P.cellsOf e = 1)
    (h : DataW.trod enc P w base spare held fuel t cs = some x) : ∀ i, i < n → ∃ z : Int, cs[i]? = some (.int k z) ∧ (Lit.int k z).wf = true := by
  obtain ⟨xs, m, _, _, _, hxl, hat⟩ := DataW.trod_array ht h
  intro i hi
  have hx := hat i hi
  rw [hc1] at hx
  have hxs : xs[i]? = some (xs[i]'(by omega)) := List.getElem?_eq_getElem (by omega)
  rw [hxs] at hx
  obtain ⟨z, hz, _, hw⟩ := DataW.trod_int he hx
  refine ⟨z, ?_, hw⟩
  have hh := congrArg List.head? hz
  simp only [List.head?_take, Nat.mul_one, List.head?_cons] at hh
  rw [if_neg (by decide), List.head?_drop] at hh
  exact hh
set_option maxRecDepth 100000 in
theorem open_rec {r : Reach} {w : World} {b0 base : Nat} {spare : Nat → Bool} {held : Bool} {v : Value} {d : DataW H} {p : List MemPlace} (hv : Value.okWide Try.prog w r b0 51 v) (h : DataW.Trod enc Try.prog w base spare held 51 v d p) :
    ∃ g : RV, v = .agg (rcells g) ∧ g.ok := by
  have hC : Try.prog.cellsOf 51 = 9 := by kernel_rfl
  obtain ⟨cs, rfl, hsz⟩ := okWide_struct Try.underlying51 hv
  obtain ⟨l⟩ := cs
  match l, hsz.trans hC with
  | [c0, c1, c2, c3, c4, c5, c6, c7, c8], _ =>
    obtain ⟨fuel, hf⟩ := h
    obtain ⟨xs, n, _, _, _, hlen, hg⟩ := DataW.trod_struct Try.underlying51 hf
    have k0 : Try.prog.cellsOf 47 = 1 := by kernel_rfl
    have k1 : Try.prog.cellsOf 48 = 1 := by kernel_rfl
    have k2 : Try.prog.cellsOf 49 = 6 := by kernel_rfl
    have hx : ∀ j, j < 4 → ∃ y, xs[j]? = some y := fun j hj => ⟨xs[j]'(by rw [hlen]; exact hj), List.getElem?_eq_getElem _⟩
    obtain ⟨y0, z0⟩ := hx 0 (by decide)
    obtain ⟨y1, z1⟩ := hx 1 (by decide)
    obtain ⟨y2, z2⟩ := hx 2 (by decide)
    obtain ⟨y3, z3⟩ := hx 3 (by decide)
    have g0 : DataW.trod enc Try.prog w base spare held n 47 [c0] = some y0 := by
      have h : DataW.trod enc Try.prog w base spare held n 47 (([c0, c1, c2, c3, c4, c5, c6, c7, c8].drop 0).take (Try.prog.cellsOf 47)) = xs[0]? := hg 0 _ rfl
      rw [k0, z0] at h
      exact h
    have g1 : DataW.trod enc Try.prog w base spare held n 47 [c1] = some y1 := by
      have h : DataW.trod enc Try.prog w base spare held n 47 (([c0, c1, c2, c3, c4, c5, c6, c7, c8].drop 1).take (Try.prog.cellsOf 47)) = xs[1]? := hg 1 _ rfl
      rw [k0, z1] at h
      exact h
    have g2 : DataW.trod enc Try.prog w base spare held n 48 [c2] = some y2 := by
      have h : DataW.trod enc Try.prog w base spare held n 48 (([c0, c1, c2, c3, c4, c5, c6, c7, c8].drop 2).take (Try.prog.cellsOf 48)) = xs[2]? := hg 2 _ rfl
      rw [k1, z2] at h
      exact h
    have g3 : DataW.trod enc Try.prog w base spare held n 49 [c3, c4, c5, c6, c7, c8] = some y3 := by
      have h : DataW.trod enc Try.prog w base spare held n 49 (([c0, c1, c2, c3, c4, c5, c6, c7, c8].drop 3).take (Try.prog.cellsOf 49)) = xs[3]? := hg 3 _ rfl
      rw [k2, z3] at h
      exact h
    obtain ⟨n0, e0, _, w0⟩ := DataW.trod_int Try.underlying47 g0
    obtain ⟨n1, e1, _, w1⟩ := DataW.trod_int Try.underlying47 g1
    obtain ⟨n2, e2, _, w2⟩ := DataW.trod_int Try.underlying48 g2
    have hq := arr_ints Try.underlying49 Try.underlying48 k1 g3
    obtain ⟨n3, e3, w3⟩ := hq 0 (by decide)
    obtain ⟨n4, e4, w4⟩ := hq 1 (by decide)
    obtain ⟨n5, e5, w5⟩ := hq 2 (by decide)
    obtain ⟨n6, e6, w6⟩ := hq 3 (by decide)
    obtain ⟨n7, e7, w7⟩ := hq 4 (by decide)
    obtain ⟨n8, e8, w8⟩ := hq 5 (by decide)
    simp only [List.cons.injEq, and_true] at e0 e1 e2
    simp only [List.getElem?_cons_zero, List.getElem?_cons_succ, Option.some.injEq] at e3 e4 e5 e6 e7 e8
    subst e0 e1 e2 e3 e4 e5 e6 e7 e8
    simp [Lit.wf, IntKind.min, IntKind.max, IntKind.signed, IntKind.bits] at w0 w1 w2 w3 w4 w5 w6 w7 w8
    obtain ⟨x0, rfl⟩ := Int.eq_ofNat_of_zero_le w0.1
    obtain ⟨x1, rfl⟩ := Int.eq_ofNat_of_zero_le w1.1
    obtain ⟨x2, rfl⟩ := Int.eq_ofNat_of_zero_le w2.1
    obtain ⟨x3, rfl⟩ := Int.eq_ofNat_of_zero_le w3.1
    obtain ⟨x4, rfl⟩ := Int.eq_ofNat_of_zero_le w4.1
    obtain ⟨x5, rfl⟩ := Int.eq_ofNat_of_zero_le w5.1
    obtain ⟨x6, rfl⟩ := Int.eq_ofNat_of_zero_le w6.1
    obtain ⟨x7, rfl⟩ := Int.eq_ofNat_of_zero_le w7.1
    obtain ⟨x8, rfl⟩ := Int.eq_ofNat_of_zero_le w8.1
    refine ⟨⟨x0, x1, x2, fun i => if i = 0 then x3 else if i = 1 then x4 else if i = 2 then x5 else if i = 3 then x6 else if i = 4 then x7 else if i = 5 then x8 else 0⟩, rfl, by show x0 < _; omega, by show x1 < _; omega, by show x2 < _; omega, fun i => ?_⟩
    dsimp only
    repeat' split
    all_goals omega
theorem open_arr6 {r : Reach} {w : World} {b0 base : Nat} {spare : Nat → Bool} {held : Bool} {v : Value} {d : DataW H} {p : List MemPlace} (hv : Value.okWide Try.prog w r b0 49 v) (h : DataW.Trod enc Try.prog w base spare held 49 v d p) :
    ∃ f : Nat → Nat, v = .agg #[.int .u64 (f 0), .int .u64 (f 1), .int .u64 (f 2), .int .u64 (f 3), .int .u64 (f 4), .int .u64 (f 5)] ∧ ∀ i, i < 6 → f i < 18446744073709551616 := by
  obtain ⟨fuel, hf⟩ := h
  obtain ⟨xs, m, _, _, hlen, hxl, hat⟩ := DataW.trod_array Try.underlying49 hf
  have hC : Try.prog.cellsOf 49 = 6 := by kernel_rfl
  have hc1 : Try.prog.cellsOf 48 = 1 := by kernel_rfl
  rw [hC] at hlen
  obtain ⟨cs, rfl, hsz⟩ : ∃ cs, v = .agg cs ∧ cs.size = 6 := by
    simp only [Value.okWide, Try.underlying49] at hv
    obtain ⟨cs, h1, h2, _⟩ := hv
    exact ⟨cs, h1, h2.trans hC⟩
  obtain ⟨l⟩ := cs
  match l, hsz with
  | [c0, c1, c2, c3, c4, c5], _ =>
    have hk : ∀ i : Nat, i < 6 → ∃ n : Nat, ([c0, c1, c2, c3, c4, c5] : List Value)[i]? = some (.int .u64 n) ∧ n < 18446744073709551616 := fun i hi => by
      have hx := hat i hi
      rw [hc1] at hx
      have hxs : xs[i]? = some (xs[i]'(by omega)) := List.getElem?_eq_getElem (by omega)
      rw [hxs] at hx
      obtain ⟨z, hz, _, hw⟩ := DataW.trod_int Try.underlying48 hx
      simp [Lit.wf, IntKind.min, IntKind.max, IntKind.signed, IntKind.bits] at hw
      refine ⟨z.toNat, ?_, by omega⟩
      have hh := congrArg List.head? hz
      simp only [List.head?_take, Nat.mul_one, List.head?_cons] at hh
      rw [if_neg (by decide), List.head?_drop] at hh
      rw [Int.toNat_of_nonneg hw.1]
      exact hh
    obtain ⟨n0, e0, l0⟩ := hk 0 (by decide)
    obtain ⟨n1, e1, l1⟩ := hk 1 (by decide)
    obtain ⟨n2, e2, l2⟩ := hk 2 (by decide)
    obtain ⟨n3, e3, l3⟩ := hk 3 (by decide)
    obtain ⟨n4, e4, l4⟩ := hk 4 (by decide)
    obtain ⟨n5, e5, l5⟩ := hk 5 (by decide)
    simp only [List.getElem?_cons_zero, List.getElem?_cons_succ, Option.some.injEq] at e0 e1 e2 e3 e4 e5
    subst e0 e1 e2 e3 e4 e5
    refine ⟨fun i => [n0, n1, n2, n3, n4, n5].getD i 0, rfl, fun i hi => ?_⟩
    match i, hi with
    | 0, _ => exact l0
    | 1, _ => exact l1
    | 2, _ => exact l2
    | 3, _ => exact l3
    | 4, _ => exact l4
    | 5, _ => exact l5
theorem rec_cells {w : World} {base : Nat} {spare : Nat → Bool} {held : Bool} {q : Nat} {cs : List Value} {y : DataW H × List MemPlace} (h : DataW.trod enc Try.prog w base spare held q 51 cs = some y) : ∃ g : RV, cs = (rcells g).toList ∧ g.ok := by
  have hC : Try.prog.cellsOf 51 = 9 := by kernel_rfl
  obtain ⟨xs, n, _, _, hl, hlen, hg⟩ := DataW.trod_struct Try.underlying51 h
  rw [hC] at hl
  match cs, hl with
  | [c0, c1, c2, c3, c4, c5, c6, c7, c8], _ =>
    have k0 : Try.prog.cellsOf 47 = 1 := by kernel_rfl
    have k1 : Try.prog.cellsOf 48 = 1 := by kernel_rfl
    have k2 : Try.prog.cellsOf 49 = 6 := by kernel_rfl
    have hx : ∀ j, j < 4 → ∃ y, xs[j]? = some y := fun j hj => ⟨xs[j]'(by rw [hlen]; exact hj), List.getElem?_eq_getElem _⟩
    obtain ⟨y0, z0⟩ := hx 0 (by decide)
    obtain ⟨y1, z1⟩ := hx 1 (by decide)
    obtain ⟨y2, z2⟩ := hx 2 (by decide)
    obtain ⟨y3, z3⟩ := hx 3 (by decide)
    have g0 : DataW.trod enc Try.prog w base spare held n 47 [c0] = some y0 := by
      have h : DataW.trod enc Try.prog w base spare held n 47 (([c0, c1, c2, c3, c4, c5, c6, c7, c8].drop 0).take (Try.prog.cellsOf 47)) = xs[0]? := hg 0 _ rfl
      rw [k0, z0] at h
      exact h
    have g1 : DataW.trod enc Try.prog w base spare held n 47 [c1] = some y1 := by
      have h : DataW.trod enc Try.prog w base spare held n 47 (([c0, c1, c2, c3, c4, c5, c6, c7, c8].drop 1).take (Try.prog.cellsOf 47)) = xs[1]? := hg 1 _ rfl
      rw [k0, z1] at h
      exact h
    have g2 : DataW.trod enc Try.prog w base spare held n 48 [c2] = some y2 := by
      have h : DataW.trod enc Try.prog w base spare held n 48 (([c0, c1, c2, c3, c4, c5, c6, c7, c8].drop 2).take (Try.prog.cellsOf 48)) = xs[2]? := hg 2 _ rfl
      rw [k1, z2] at h
      exact h
    have g3 : DataW.trod enc Try.prog w base spare held n 49 [c3, c4, c5, c6, c7, c8] = some y3 := by
      have h : DataW.trod enc Try.prog w base spare held n 49 (([c0, c1, c2, c3, c4, c5, c6, c7, c8].drop 3).take (Try.prog.cellsOf 49)) = xs[3]? := hg 3 _ rfl
      rw [k2, z3] at h
      exact h
    obtain ⟨n0, e0, _, w0⟩ := DataW.trod_int Try.underlying47 g0
    obtain ⟨n1, e1, _, w1⟩ := DataW.trod_int Try.underlying47 g1
    obtain ⟨n2, e2, _, w2⟩ := DataW.trod_int Try.underlying48 g2
    have hq := arr_ints Try.underlying49 Try.underlying48 k1 g3
    obtain ⟨n3, e3, w3⟩ := hq 0 (by decide)
    obtain ⟨n4, e4, w4⟩ := hq 1 (by decide)
    obtain ⟨n5, e5, w5⟩ := hq 2 (by decide)
    obtain ⟨n6, e6, w6⟩ := hq 3 (by decide)
    obtain ⟨n7, e7, w7⟩ := hq 4 (by decide)
    obtain ⟨n8, e8, w8⟩ := hq 5 (by decide)
    simp only [List.cons.injEq, and_true] at e0 e1 e2
    simp only [List.getElem?_cons_zero, List.getElem?_cons_succ, Option.some.injEq] at e3 e4 e5 e6 e7 e8
    subst e0 e1 e2 e3 e4 e5 e6 e7 e8
    simp [Lit.wf, IntKind.min, IntKind.max, IntKind.signed, IntKind.bits] at w0 w1 w2 w3 w4 w5 w6 w7 w8
    obtain ⟨x0, rfl⟩ := Int.eq_ofNat_of_zero_le w0.1
    obtain ⟨x1, rfl⟩ := Int.eq_ofNat_of_zero_le w1.1
    obtain ⟨x2, rfl⟩ := Int.eq_ofNat_of_zero_le w2.1
    obtain ⟨x3, rfl⟩ := Int.eq_ofNat_of_zero_le w3.1
    obtain ⟨x4, rfl⟩ := Int.eq_ofNat_of_zero_le w4.1
    obtain ⟨x5, rfl⟩ := Int.eq_ofNat_of_zero_le w5.1
    obtain ⟨x6, rfl⟩ := Int.eq_ofNat_of_zero_le w6.1
    obtain ⟨x7, rfl⟩ := Int.eq_ofNat_of_zero_le w7.1
    obtain ⟨x8, rfl⟩ := Int.eq_ofNat_of_zero_le w8.1
    refine ⟨⟨x0, x1, x2, fun i => if i = 0 then x3 else if i = 1 then x4 else if i = 2 then x5 else if i = 3 then x6 else if i = 4 then x7 else if i = 5 then x8 else 0⟩, rfl, by show x0 < _; omega, by show x1 < _; omega, by show x2 < _; omega, fun i => ?_⟩
    dsimp only
    repeat' split
    all_goals omega
set_option maxRecDepth 100000 in
set_option maxHeartbeats 1000000 in
theorem open_blind {r : Reach} {w : World} {b0 base : Nat} {spare : Nat → Bool} {held : Bool} {v : Value} {d : DataW H} {p : List MemPlace} (hv : Value.okWide Try.prog w r b0 66 v) (h : DataW.Trod enc Try.prog w base spare held 66 v d p) :
    ∃ (A : Option Addr) (n c : Nat) (T : Nat → SR) (g : RV) (x : Nat) (f : Nat → Nat), v = .agg #[.slice A n c, .int .u32 g.n, .int .u32 g.a, .int .u64 g.p, .int .u64 (g.q 0), .int .u64 (g.q 1), .int .u64 (g.q 2), .int .u64 (g.q 3), .int .u64 (g.q 4), .int .u64 (g.q 5), .int .u64 x, .int .u64 (f 0), .int .u64 (f 1), .int .u64 (f 2), .int .u64 (f 3), .int .u64 (f 4), .int .u64 (f 5)] ∧ TbA w A n T ∧ g.ok ∧ x < 18446744073709551616 ∧ ∀ i, f i < 18446744073709551616 := by
  have hC : Try.prog.cellsOf 66 = 17 := by kernel_rfl
  obtain ⟨cs, rfl, hsz⟩ := okWide_struct Try.underlying66 hv
  obtain ⟨l⟩ := cs
  match l, hsz.trans hC with
  | [c0, c1, c2, c3, c4, c5, c6, c7, c8, c9, c10, c11, c12, c13, c14, c15, c16], _ =>
    obtain ⟨fuel, hf⟩ := h
    obtain ⟨xs, n, _, _, _, hlen, hg⟩ := DataW.trod_struct Try.underlying66 hf
    have k0 : Try.prog.cellsOf 22 = 1 := by kernel_rfl
    have k1 : Try.prog.cellsOf 51 = 9 := by kernel_rfl
    have k2 : Try.prog.cellsOf 48 = 1 := by kernel_rfl
    have k3 : Try.prog.cellsOf 49 = 6 := by kernel_rfl
    have hx : ∀ j, j < 4 → ∃ y, xs[j]? = some y := fun j hj => ⟨xs[j]'(by rw [hlen]; exact hj), List.getElem?_eq_getElem _⟩
    obtain ⟨y0, z0⟩ := hx 0 (by decide)
    obtain ⟨y1, z1⟩ := hx 1 (by decide)
    obtain ⟨y2, z2⟩ := hx 2 (by decide)
    obtain ⟨y3, z3⟩ := hx 3 (by decide)
    have g0 : DataW.trod enc Try.prog w base spare held n 22 [c0] = some y0 := by
      have h : DataW.trod enc Try.prog w base spare held n 22 (([c0, c1, c2, c3, c4, c5, c6, c7, c8, c9, c10, c11, c12, c13, c14, c15, c16].drop 0).take (Try.prog.cellsOf 22)) = xs[0]? := hg 0 _ rfl
      rw [k0, z0] at h
      exact h
    have g1 : DataW.trod enc Try.prog w base spare held n 51 [c1, c2, c3, c4, c5, c6, c7, c8, c9] = some y1 := by
      have h : DataW.trod enc Try.prog w base spare held n 51 (([c0, c1, c2, c3, c4, c5, c6, c7, c8, c9, c10, c11, c12, c13, c14, c15, c16].drop 1).take (Try.prog.cellsOf 51)) = xs[1]? := hg 1 _ rfl
      rw [k1, z1] at h
      exact h
    have g2 : DataW.trod enc Try.prog w base spare held n 48 [c10] = some y2 := by
      have h : DataW.trod enc Try.prog w base spare held n 48 (([c0, c1, c2, c3, c4, c5, c6, c7, c8, c9, c10, c11, c12, c13, c14, c15, c16].drop 10).take (Try.prog.cellsOf 48)) = xs[2]? := hg 2 _ rfl
      rw [k2, z2] at h
      exact h
    have g3 : DataW.trod enc Try.prog w base spare held n 49 [c11, c12, c13, c14, c15, c16] = some y3 := by
      have h : DataW.trod enc Try.prog w base spare held n 49 (([c0, c1, c2, c3, c4, c5, c6, c7, c8, c9, c10, c11, c12, c13, c14, c15, c16].drop 11).take (Try.prog.cellsOf 49)) = xs[3]? := hg 3 _ rfl
      rw [k3, z3] at h
      exact h
    obtain ⟨A, m, c, hA⟩ : ∃ A m c, c0 = .slice A m c := by
      rcases open_slice Try.underlying22 g0 with ⟨hcs, _⟩ | ⟨a, len, cap, m, k, D, Pl, hcs, _⟩
      · exact ⟨_, _, _, (List.cons.injEq _ _ _ _ ▸ hcs).1⟩
      · exact ⟨_, _, _, (List.cons.injEq _ _ _ _ ▸ hcs).1⟩
    subst hA
    obtain ⟨T, hT⟩ := open_rows (A := A) (n := m) (c := c) ⟨n, g0⟩
    obtain ⟨g, hgc, hgo⟩ := rec_cells g1
    simp only [rcells, List.cons.injEq, and_true] at hgc
    obtain ⟨rfl, rfl, rfl, rfl, rfl, rfl, rfl, rfl, rfl⟩ := hgc
    obtain ⟨n2, e2, _, w2⟩ := DataW.trod_int Try.underlying48 g2
    simp only [List.cons.injEq, and_true] at e2
    subst e2
    have hq := arr_ints Try.underlying49 Try.underlying48 k2 g3
    obtain ⟨n3, e3, w3⟩ := hq 0 (by decide)
    obtain ⟨n4, e4, w4⟩ := hq 1 (by decide)
    obtain ⟨n5, e5, w5⟩ := hq 2 (by decide)
    obtain ⟨n6, e6, w6⟩ := hq 3 (by decide)
    obtain ⟨n7, e7, w7⟩ := hq 4 (by decide)
    obtain ⟨n8, e8, w8⟩ := hq 5 (by decide)
    simp only [List.getElem?_cons_zero, List.getElem?_cons_succ, Option.some.injEq] at e3 e4 e5 e6 e7 e8
    subst e3 e4 e5 e6 e7 e8
    simp [Lit.wf, IntKind.min, IntKind.max, IntKind.signed, IntKind.bits] at w2 w3 w4 w5 w6 w7 w8
    obtain ⟨x2, rfl⟩ := Int.eq_ofNat_of_zero_le w2.1
    obtain ⟨x3, rfl⟩ := Int.eq_ofNat_of_zero_le w3.1
    obtain ⟨x4, rfl⟩ := Int.eq_ofNat_of_zero_le w4.1
    obtain ⟨x5, rfl⟩ := Int.eq_ofNat_of_zero_le w5.1
    obtain ⟨x6, rfl⟩ := Int.eq_ofNat_of_zero_le w6.1
    obtain ⟨x7, rfl⟩ := Int.eq_ofNat_of_zero_le w7.1
    obtain ⟨x8, rfl⟩ := Int.eq_ofNat_of_zero_le w8.1
    refine ⟨A, m, c, T, g, x2, fun i => if i = 0 then x3 else if i = 1 then x4 else if i = 2 then x5 else if i = 3 then x6 else if i = 4 then x7 else x8, rfl, hT, hgo, by omega, fun i => ?_⟩
    dsimp only
    repeat' split
    all_goals omega
end
end Go.Proofs.Ytlninlempefjcaa
