/-
  How an argument that is a slice of the document's rows is opened.
-/
import Derived.Test.YtcembcicpmhpkaaGreatDoorSd
import Derived.WalkKit
import Derived.ProofKit
import Derived.OpenShut
import Derived.Deep.Slices
import Derived.Deep.Fields
namespace Go.Proofs.YtcembcicpmhpkaaGreatDoor
open Go.ChangeShapes Go.WideShapes Go.RowKit Go.Deep
set_option linter.unusedVariables false

theorem addQ (b o j : Nat) : (⟨b, o, none⟩ : Addr).add j = ⟨b, o + j, none⟩ := by unfold Addr.add; split <;> simp_all
section
variable {H : Type} {enc : TypeId × Value → H}
theorem trod_str {w : World} {base : Nat} {spare : Nat → Bool} {held : Bool} {q : Nat} {c : Value} {y : DataW H × List MemPlace} (h : DataW.trod enc Tryz.prog w base spare held q 9 [c] = some y) : ∃ s : ByteArray, c = .string s := by
  obtain ⟨s, e, _, _⟩ := DataW.trod_string Tryz.underlying9 h
  simp only [List.cons.injEq, and_true] at e
  exact ⟨s, e⟩
theorem trod_i64 {w : World} {base : Nat} {spare : Nat → Bool} {held : Bool} {q : Nat} {c : Value} {y : DataW H × List MemPlace} (h : DataW.trod enc Tryz.prog w base spare held q 3 [c] = some y) : ∃ n : Int, c = .int .i64 n := by
  obtain ⟨s, e, _, _⟩ := DataW.trod_int Tryz.underlying3 h
  simp only [List.cons.injEq, and_true] at e
  exact ⟨s, e⟩
set_option maxRecDepth 100000 in
theorem trod_arr5 {w : World} {base : Nat} {spare : Nat → Bool} {held : Bool} {q : Nat} {c0 c1 c2 c3 c4 : Value} {y : DataW H × List MemPlace} (h : DataW.trod enc Tryz.prog w base spare held q 157 [c0, c1, c2, c3, c4] = some y) :
    ∃ n0 n1 n2 n3 n4 : Int, c0 = .int .i64 n0 ∧ c1 = .int .i64 n1 ∧ c2 = .int .i64 n2 ∧ c3 = .int .i64 n3 ∧ c4 = .int .i64 n4 := by
  obtain ⟨xs, m, _, _, _, hxl, hat⟩ := DataW.trod_array Tryz.underlying157 h
  have hc1 : Tryz.prog.cellsOf 3 = 1 := by kernel_rfl
  have hk : ∀ i : Nat, i < 5 → ∃ (c : Value) (n : Int), ([c0, c1, c2, c3, c4] : List Value)[i]? = some c ∧ c = .int .i64 n := fun i hi => by
    have hx := hat i hi
    rw [hc1, Nat.mul_one] at hx
    have hxs : xs[i]? = some (xs[i]'(by omega)) := List.getElem?_eq_getElem (by omega)
    rw [hxs] at hx
    obtain ⟨c, hc⟩ : ∃ c, ([c0, c1, c2, c3, c4] : List Value)[i]? = some c := ⟨_, List.getElem?_eq_getElem (by simpa using hi)⟩
    have hd : (([c0, c1, c2, c3, c4] : List Value).drop i).take 1 = [c] := by
      have hl : i < ([c0, c1, c2, c3, c4] : List Value).length := (List.getElem?_eq_some_iff.1 hc).1
      have he := (List.getElem?_eq_some_iff.1 hc).2
      rw [List.drop_eq_getElem_cons hl, he]
      rfl
    rw [hd] at hx
    obtain ⟨n, hn⟩ := trod_i64 hx
    exact ⟨c, n, hc, hn⟩
  obtain ⟨d0, n0, e0, l0⟩ := hk 0 (by decide)
  obtain ⟨d1, n1, e1, l1⟩ := hk 1 (by decide)
  obtain ⟨d2, n2, e2, l2⟩ := hk 2 (by decide)
  obtain ⟨d3, n3, e3, l3⟩ := hk 3 (by decide)
  obtain ⟨d4, n4, e4, l4⟩ := hk 4 (by decide)
  simp only [List.getElem?_cons_zero, List.getElem?_cons_succ, Option.some.injEq] at e0 e1 e2 e3 e4
  subst e0 e1 e2 e3 e4
  exact ⟨n0, n1, n2, n3, n4, l0, l1, l2, l3, l4⟩
end
end Go.Proofs.YtcembcicpmhpkaaGreatDoor
