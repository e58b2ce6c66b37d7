/-
  How an argument that is an array of 64 bytes is opened. (The first part of De, for a seat without records.)
-/
import Derived.Test.YtmndolojfdekdaaDa
import Derived.WalkKit
import Derived.ProofKit
import Derived.OpenShut
import Derived.ChangeArms
import Derived.Lib.SmallJoins
import Derived.Laws.StructEq
namespace Go.Proofs.Ytmndolojfdekdaa
open Go.ChangeShapes Go.WideShapes Go.RowKit

section
variable {H : Type} {enc : TypeId × Value → H}
/-- The numbers of an array that was read. -/
theorem arr_ints {P : Program} {w : World} {base : Nat} {spare : Nat → Bool} {held : Bool} {k : IntKind} {t e : TypeId} {n fuel : Nat} {cs : List Value} {x : DataW H × List MemPlace} (ht : P.underlying t = some (.array n e)) (he : P.underlying e = some (.int k)) (hc1 : P.cellsOf e = 1)
    (h : DataW.trod enc P w base spare held fuel t cs = some x) : ∀ i, i < n → ∃ z : Int, cs[i]? = some (.int k z) ∧ (Lit.int k z).wf = true := by
  obtain ⟨xs, m, _, _, _, hxl, hat⟩ := DataW.trod_array ht h
  intro i hi
  have hx := hat i hi
  rw [hc1] at hx
  have hxs : xs[i]? = some (xs[i]'(by omega)) := List.getElem?_eq_getElem (by omega)
  rw [hxs] at hx
  obtain ⟨z, hz, _, hw⟩ := DataW.trod_int he hx
  refine ⟨z, ?_, hw⟩
  have hh := congrArg List.head? hz
  simp only [List.head?_take, Nat.mul_one, List.head?_cons] at hh
  rw [if_neg (by decide), List.head?_drop] at hh
  exact hh

theorem arr_of (cs : Array Value) (n : Nat) (f : Nat → Nat) (hsz : cs.size = n) (hfi : ∀ i, i < n → cs[i]? = some (bv (f i))) : cs = arrB n f := by
  apply Array.ext
  · rw [hsz, arrB_size]
  · intro i h1 h2
    rw [hsz] at h1
    have e1 := hfi i h1
    have e2 := arrB_get n f i h1
    rw [Array.getElem?_eq_getElem (by omega)] at e1
    rw [Array.getElem?_eq_getElem (by rw [arrB_size]; omega)] at e2
    injection e1 with e1
    injection e2 with e2
    rw [e1, e2]
set_option maxRecDepth 100000 in
theorem open_arrB {r : Reach} {w : World} {b0 base : Nat} {spare : Nat → Bool} {held : Bool} {v : Value} {d : DataW H} {p : List MemPlace} (hv : Value.okWide Try.prog w r b0 60 v) (h : DataW.Trod enc Try.prog w base spare held 60 v d p) :
    ∃ f : Nat → Nat, v = .agg (arrB 64 f) ∧ ∀ i, i < 64 → f i < 256 := by
  have hC : Try.prog.cellsOf 60 = 64 := by kernel_rfl
  have hc1 : Try.prog.cellsOf 5 = 1 := by kernel_rfl
  obtain ⟨fuel, hf⟩ := h
  have hat := arr_ints Try.underlying60 Try.underlying5 hc1 hf
  obtain ⟨cs, rfl, hsz⟩ : ∃ cs, v = .agg cs ∧ cs.size = 64 := by
    simp only [Value.okWide, Try.underlying60] at hv
    obtain ⟨cs, h1, h2, _⟩ := hv
    exact ⟨cs, h1, h2.trans hC⟩
  have hex : ∃ f : Nat → Nat, ∀ i, i < 64 → (cs[i]? = some (bv (f i)) ∧ f i < 256) := by
    have hel : ∀ i, i < 64 → ∃ n : Nat, cs[i]? = some (bv n) ∧ n < 256 := fun i hi => by
      obtain ⟨z, hz, hw⟩ := hat i hi
      simp [Lit.wf, IntKind.min, IntKind.max, IntKind.signed, IntKind.bits] at hw
      refine ⟨z.toNat, ?_, by omega⟩
      rw [show bv z.toNat = Value.int .u8 z from by unfold bv; rw [Int.toNat_of_nonneg hw.1]]
      simpa [Value.cells] using hz
    exact ⟨fun i => if h : i < 64 then Classical.choose (hel i h) else 0, fun i hi => by
      have := Classical.choose_spec (hel i hi)
      simpa [hi] using this⟩
  obtain ⟨f, hfi⟩ := hex
  exact ⟨f, by rw [arr_of cs 64 f hsz fun i hi => (hfi i hi).1], fun i hi => (hfi i hi).2⟩
end
end Go.Proofs.Ytmndolojfdekdaa
