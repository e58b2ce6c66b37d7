/-
  An argument that is law 10's Masks.
-/
import Derived.Test.YtplnaejbfanioaaDoorGl
import Derived.Lib.SmallJoins
import Derived.ChangeArms
import Derived.Laws.StructEq
namespace Go.Proofs.YtplnaejbfanioaaDoor
open Go.ChangeShapes Go.WideShapes Go.RowKit
set_option linter.unusedVariables false
set_option maxRecDepth 100000
section
variable {H : Type} {enc : TypeId × Value → H}
/-- The numbers of an array that was read. -/
theorem arr_ints {P : Program} {w : World} {base : Nat} {spare : Nat → Bool} {held : Bool} {k : IntKind} {t e : TypeId} {n fuel : Nat} {cs : List Value} {x : DataW H × List MemPlace} (ht : P.underlying t = some (.array n e)) (he : P.underlying e = some (.int k)) (hc1 : P.cellsOf e = 1)
    (h : DataW.trod enc P w base spare held fuel t cs = some x) : ∀ i, i < n → ∃ z : Int, cs[i]? = some (.int k z) ∧ (Lit.int k z).wf = true := by
  obtain ⟨xs, m, _, _, _, hxl, hat⟩ := DataW.trod_array ht h
  intro i hi
  have hx := hat i hi
  rw [hc1] at hx
  have hxs : xs[i]? = some (xs[i]'(by omega)) := List.getElem?_eq_getElem (by omega)
  rw [hxs] at hx
  obtain ⟨z, hz, _, hw⟩ := DataW.trod_int he hx
  refine ⟨z, ?_, hw⟩
  have hh := congrArg List.head? hz
  simp only [List.head?_take, Nat.mul_one, List.head?_cons] at hh
  rw [if_neg (by decide), List.head?_drop] at hh
  exact hh

theorem open_masks {r : Reach} {w : World} {b0 base : Nat} {spare : Nat → Bool} {held : Bool} {v : Value} {d : DataW H} {p : List MemPlace} (hv : Value.okWide Tryd.prog w r b0 45 v) (h : DataW.Trod enc Tryd.prog w base spare held 45 v d p) :
    ∃ (x0 m v0 : Nat) (f : Nat → Nat), v = .agg #[.int .u8 x0, .int .u64 m, .int .u64 v0, .int .u64 (f 0), .int .u64 (f 1), .int .u64 (f 2), .int .u64 (f 3), .int .u64 (f 4), .int .u64 (f 5)] ∧ x0 < 256 ∧ m < 18446744073709551616 ∧ v0 < 18446744073709551616 ∧ ∀ i, i < 6 → f i < 18446744073709551616 := by
  have hC : Tryd.prog.cellsOf 45 = 9 := by kernel_rfl
  obtain ⟨cs, rfl, hsz⟩ := okWide_struct Tryd.underlying45 hv
  obtain ⟨l⟩ := cs
  match l, hsz.trans hC with
  | [c0, c1, c2, c3, c4, c5, c6, c7, c8], _ =>
    obtain ⟨fuel, hf⟩ := h
    obtain ⟨xs, n, _, _, _, hlen, hg⟩ := DataW.trod_struct Tryd.underlying45 hf
    have k0 : Tryd.prog.cellsOf 5 = 1 := by kernel_rfl
    have k1 : Tryd.prog.cellsOf 23 = 1 := by kernel_rfl
    have k2 : Tryd.prog.cellsOf 37 = 6 := by kernel_rfl
    have hx : ∀ j, j < 4 → ∃ y, xs[j]? = some y := fun j hj => ⟨xs[j]'(by rw [hlen]; exact hj), List.getElem?_eq_getElem _⟩
    obtain ⟨y0, z0⟩ := hx 0 (by decide)
    obtain ⟨y1, z1⟩ := hx 1 (by decide)
    obtain ⟨y2, z2⟩ := hx 2 (by decide)
    obtain ⟨y3, z3⟩ := hx 3 (by decide)
    have g0 : DataW.trod enc Tryd.prog w base spare held n 5 [c0] = some y0 := by
      have h : DataW.trod enc Tryd.prog w base spare held n 5 (([c0, c1, c2, c3, c4, c5, c6, c7, c8].drop 0).take (Tryd.prog.cellsOf 5)) = xs[0]? := hg 0 _ rfl
      rw [k0, z0] at h
      exact h
    have g1 : DataW.trod enc Tryd.prog w base spare held n 23 [c1] = some y1 := by
      have h : DataW.trod enc Tryd.prog w base spare held n 23 (([c0, c1, c2, c3, c4, c5, c6, c7, c8].drop 1).take (Tryd.prog.cellsOf 23)) = xs[1]? := hg 1 _ rfl
      rw [k1, z1] at h
      exact h
    have g2 : DataW.trod enc Tryd.prog w base spare held n 23 [c2] = some y2 := by
      have h : DataW.trod enc Tryd.prog w base spare held n 23 (([c0, c1, c2, c3, c4, c5, c6, c7, c8].drop 2).take (Tryd.prog.cellsOf 23)) = xs[2]? := hg 2 _ rfl
      rw [k1, z2] at h
      exact h
    have g3 : DataW.trod enc Tryd.prog w base spare held n 37 [c3, c4, c5, c6, c7, c8] = some y3 := by
      have h : DataW.trod enc Tryd.prog w base spare held n 37 (([c0, c1, c2, c3, c4, c5, c6, c7, c8].drop 3).take (Tryd.prog.cellsOf 37)) = xs[3]? := hg 3 _ rfl
      rw [k2, z3] at h
      exact h
    obtain ⟨n0, e0, _, w0⟩ := DataW.trod_int Tryd.underlying5 g0
    obtain ⟨n1, e1, _, w1⟩ := DataW.trod_int Tryd.underlying23 g1
    obtain ⟨n2, e2, _, w2⟩ := DataW.trod_int Tryd.underlying23 g2
    have hq := arr_ints Tryd.underlying37 Tryd.underlying23 k1 g3
    obtain ⟨n3, e3, w3⟩ := hq 0 (by decide)
    obtain ⟨n4, e4, w4⟩ := hq 1 (by decide)
    obtain ⟨n5, e5, w5⟩ := hq 2 (by decide)
    obtain ⟨n6, e6, w6⟩ := hq 3 (by decide)
    obtain ⟨n7, e7, w7⟩ := hq 4 (by decide)
    obtain ⟨n8, e8, w8⟩ := hq 5 (by decide)
    simp only [List.cons.injEq, and_true] at e0 e1 e2
    simp only [List.getElem?_cons_zero, List.getElem?_cons_succ, Option.some.injEq] at e3 e4 e5 e6 e7 e8
    subst e0 e1 e2 e3 e4 e5 e6 e7 e8
    simp [Lit.wf, IntKind.min, IntKind.max, IntKind.signed, IntKind.bits] at w0 w1 w2 w3 w4 w5 w6 w7 w8
    obtain ⟨x0, rfl⟩ := Int.eq_ofNat_of_zero_le w0.1
    obtain ⟨x1, rfl⟩ := Int.eq_ofNat_of_zero_le w1.1
    obtain ⟨x2, rfl⟩ := Int.eq_ofNat_of_zero_le w2.1
    obtain ⟨x3, rfl⟩ := Int.eq_ofNat_of_zero_le w3.1
    obtain ⟨x4, rfl⟩ := Int.eq_ofNat_of_zero_le w4.1
    obtain ⟨x5, rfl⟩ := Int.eq_ofNat_of_zero_le w5.1
    obtain ⟨x6, rfl⟩ := Int.eq_ofNat_of_zero_le w6.1
    obtain ⟨x7, rfl⟩ := Int.eq_ofNat_of_zero_le w7.1
    obtain ⟨x8, rfl⟩ := Int.eq_ofNat_of_zero_le w8.1
    refine ⟨x0, x1, x2, fun i => if i = 0 then x3 else if i = 1 then x4 else if i = 2 then x5 else if i = 3 then x6 else if i = 4 then x7 else if i = 5 then x8 else 0, rfl, by omega, by omega, by omega, fun i _ => ?_⟩
    dsimp only
    repeat' split
    all_goals omega
end
end Go.Proofs.YtplnaejbfanioaaDoor
