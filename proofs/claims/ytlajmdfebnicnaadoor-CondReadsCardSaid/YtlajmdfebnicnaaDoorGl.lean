/-
  What a tied card's listed tables give the walk; an argument that is an array of six words (laws of layer 10).
-/
import Derived.Test.YtlajmdfebnicnaaDoorGf
import Derived.Test.YtlajmdfebnicnaaDoorRows
import Derived.Test.YtlajmdfebnicnaaDoorCards
import Derived.WalkKit
import Derived.ProofKit
import Derived.OpenShut
import Derived.Lay
import Derived.MakeChecks
import Derived.Lib.LaidTab
import Derived.Stop.LaidErr
namespace Go.Proofs.YtlajmdfebnicnaaDoor
open Go.RowKit
set_option linter.unusedVariables false
set_option maxRecDepth 100000
theorem pow_datum : (Rows.laid_internal_strconv_uint64pow10 : DataW Unit) = Lib.tabData .u64 Lib.pow10Tab := by kernel_rfl
theorem tab_of_third {x y : String × DataW Unit} {rest : List (String × DataW Unit)} {W : World} (h : laidMet Tryd.prog (x :: y :: ("internal/strconv.uint64pow10", Rows.laid_internal_strconv_uint64pow10) :: rest) W) : TabP W := by
  have h2 := h.tail.tail
  rw [pow_datum] at h2
  obtain ⟨g, hg⟩ := gPow
  have : g = 2 := (Option.some.inj ((show Tryd.prog.globalNamed "internal/strconv.uint64pow10" = some 2 by kernel_rfl).symm.trans hg)).symm
  subst this
  exact Lib.tabIs_of_head (t := 94) (e := 23) (n := 20) hg (by kernel_rfl) Tryd.underlying94 Tryd.underlying23 (by kernel_rfl) (by kernel_rfl) h2

section
open Go.ChangeShapes Go.WideShapes
variable {H : Type} {enc : TypeId × Value → H}
/-- An argument that is an array of six words. -/
theorem open_arr6 {r : Reach} {w : World} {b0 base : Nat} {spare : Nat → Bool} {held : Bool} {v : Value} {d : DataW H} {p : List MemPlace} (hv : Value.okWide Tryd.prog w r b0 56 v) (h : DataW.Trod enc Tryd.prog w base spare held 56 v d p) :
    ∃ f : Nat → Nat, v = .agg #[.int .u64 (f 0), .int .u64 (f 1), .int .u64 (f 2), .int .u64 (f 3), .int .u64 (f 4), .int .u64 (f 5)] ∧ ∀ i, i < 6 → f i < 18446744073709551616 := by
  obtain ⟨fuel, hf⟩ := h
  obtain ⟨xs, m, _, _, hlen, hxl, hat⟩ := DataW.trod_array Tryd.underlying56 hf
  have hC : Tryd.prog.cellsOf 56 = 6 := by kernel_rfl
  have hc1 : Tryd.prog.cellsOf 23 = 1 := by kernel_rfl
  rw [hC] at hlen
  obtain ⟨cs, rfl, hsz⟩ : ∃ cs, v = .agg cs ∧ cs.size = 6 := by
    simp only [Value.okWide, Tryd.underlying56] at hv
    obtain ⟨cs, h1, h2, _⟩ := hv
    exact ⟨cs, h1, h2.trans hC⟩
  obtain ⟨l⟩ := cs
  match l, hsz with
  | [c0, c1, c2, c3, c4, c5], _ =>
    have hk : ∀ i : Nat, i < 6 → ∃ n : Nat, ([c0, c1, c2, c3, c4, c5] : List Value)[i]? = some (.int .u64 n) ∧ n < 18446744073709551616 := fun i hi => by
      have hx := hat i hi
      rw [hc1] at hx
      have hxs : xs[i]? = some (xs[i]'(by omega)) := List.getElem?_eq_getElem (by omega)
      rw [hxs] at hx
      obtain ⟨z, hz, _, hw⟩ := DataW.trod_int Tryd.underlying23 hx
      simp [Lit.wf, IntKind.min, IntKind.max, IntKind.signed, IntKind.bits] at hw
      refine ⟨z.toNat, ?_, by omega⟩
      have hh := congrArg List.head? hz
      simp only [List.head?_take, Nat.mul_one, List.head?_cons] at hh
      rw [if_neg (by decide), List.head?_drop] at hh
      rw [Int.toNat_of_nonneg hw.1]
      exact hh
    obtain ⟨n0, e0, l0⟩ := hk 0 (by decide)
    obtain ⟨n1, e1, l1⟩ := hk 1 (by decide)
    obtain ⟨n2, e2, l2⟩ := hk 2 (by decide)
    obtain ⟨n3, e3, l3⟩ := hk 3 (by decide)
    obtain ⟨n4, e4, l4⟩ := hk 4 (by decide)
    obtain ⟨n5, e5, l5⟩ := hk 5 (by decide)
    simp only [List.getElem?_cons_zero, List.getElem?_cons_succ, Option.some.injEq] at e0 e1 e2 e3 e4 e5
    subst e0 e1 e2 e3 e4 e5
    refine ⟨fun i => [n0, n1, n2, n3, n4, n5].getD i 0, rfl, fun i hi => ?_⟩
    match i, hi with
    | 0, _ => exact l0
    | 1, _ => exact l1
    | 2, _ => exact l2
    | 3, _ => exact l3
    | 4, _ => exact l4
    | 5, _ => exact l5
end
end Go.Proofs.YtlajmdfebnicnaaDoor
