/-
  How an argument that is a slice of the document's rows is opened.
-/
import Derived.Test.YtlpcallgkciklaaGreatDoorSd
import Derived.WalkKit
import Derived.ProofKit
import Derived.OpenShut
import Derived.Deep.Slices
import Derived.Deep.Fields
namespace Go.Proofs.YtlpcallgkciklaaGreatDoor
open Go.ChangeShapes Go.WideShapes Go.RowKit Go.Deep
set_option linter.unusedVariables false

theorem addQ (b o j : Nat) : (⟨b, o, none⟩ : Addr).add j = ⟨b, o + j, none⟩ := by unfold Addr.add; split <;> simp_all
section
variable {H : Type} {enc : TypeId × Value → H}
theorem trod_str {w : World} {base : Nat} {spare : Nat → Bool} {held : Bool} {q : Nat} {c : Value} {y : DataW H × List MemPlace} (h : DataW.trod enc Tryz.prog w base spare held q 9 [c] = some y) : ∃ s : ByteArray, c = .string s := by
  obtain ⟨s, e, _, _⟩ := DataW.trod_string Tryz.underlying9 h
  simp only [List.cons.injEq, and_true] at e
  exact ⟨s, e⟩
theorem trod_i64 {w : World} {base : Nat} {spare : Nat → Bool} {held : Bool} {q : Nat} {c : Value} {y : DataW H × List MemPlace} (h : DataW.trod enc Tryz.prog w base spare held q 3 [c] = some y) : ∃ n : Int, c = .int .i64 n := by
  obtain ⟨s, e, _, _⟩ := DataW.trod_int Tryz.underlying3 h
  simp only [List.cons.injEq, and_true] at e
  exact ⟨s, e⟩
set_option maxRecDepth 100000 in
theorem trod_arr5 {w : World} {base : Nat} {spare : Nat → Bool} {held : Bool} {q : Nat} {c0 c1 c2 c3 c4 : Value} {y : DataW H × List MemPlace} (h : DataW.trod enc Tryz.prog w base spare held q 63 [c0, c1, c2, c3, c4] = some y) :
    ∃ n0 n1 n2 n3 n4 : Int, c0 = .int .i64 n0 ∧ c1 = .int .i64 n1 ∧ c2 = .int .i64 n2 ∧ c3 = .int .i64 n3 ∧ c4 = .int .i64 n4 := by
  obtain ⟨xs, m, _, _, _, hxl, hat⟩ := DataW.trod_array Tryz.underlying63 h
  have hc1 : Tryz.prog.cellsOf 3 = 1 := by kernel_rfl
  have hk : ∀ i : Nat, i < 5 → ∃ (c : Value) (n : Int), ([c0, c1, c2, c3, c4] : List Value)[i]? = some c ∧ c = .int .i64 n := fun i hi => by
    have hx := hat i hi
    rw [hc1, Nat.mul_one] at hx
    have hxs : xs[i]? = some (xs[i]'(by omega)) := List.getElem?_eq_getElem (by omega)
    rw [hxs] at hx
    obtain ⟨c, hc⟩ : ∃ c, ([c0, c1, c2, c3, c4] : List Value)[i]? = some c := ⟨_, List.getElem?_eq_getElem (by simpa using hi)⟩
    have hd : (([c0, c1, c2, c3, c4] : List Value).drop i).take 1 = [c] := by
      have hl : i < ([c0, c1, c2, c3, c4] : List Value).length := (List.getElem?_eq_some_iff.1 hc).1
      have he := (List.getElem?_eq_some_iff.1 hc).2
      rw [List.drop_eq_getElem_cons hl, he]
      rfl
    rw [hd] at hx
    obtain ⟨n, hn⟩ := trod_i64 hx
    exact ⟨c, n, hc, hn⟩
  obtain ⟨d0, n0, e0, l0⟩ := hk 0 (by decide)
  obtain ⟨d1, n1, e1, l1⟩ := hk 1 (by decide)
  obtain ⟨d2, n2, e2, l2⟩ := hk 2 (by decide)
  obtain ⟨d3, n3, e3, l3⟩ := hk 3 (by decide)
  obtain ⟨d4, n4, e4, l4⟩ := hk 4 (by decide)
  simp only [List.getElem?_cons_zero, List.getElem?_cons_succ, Option.some.injEq] at e0 e1 e2 e3 e4
  subst e0 e1 e2 e3 e4
  exact ⟨n0, n1, n2, n3, n4, l0, l1, l2, l3, l4⟩
set_option maxRecDepth 100000 in
set_option maxHeartbeats 1000000 in
theorem open_rows {w : World} {base : Nat} {spare : Nat → Bool} {held : Bool} {A : Option Addr} {n c : Nat} {d : DataW H} {p : List MemPlace} (h : DataW.Trod enc Tryz.prog w base spare held 45 (.slice A n c) d p) :
    ∃ T : Nat → SR, TbA w A n T := by
  obtain ⟨fuel, hf⟩ := h
  have hC : Tryz.prog.cellsOf 65 = 8 := by kernel_rfl
  have hCs : Tryz.prog.cellsOf 9 = 1 := by kernel_rfl
  have hCi : Tryz.prog.cellsOf 3 = 1 := by kernel_rfl
  have hCa : Tryz.prog.cellsOf 63 = 5 := by kernel_rfl
  rcases open_slice Tryz.underlying45 hf with ⟨hcs, _⟩ | ⟨a, len, cap, m, k, D, Pl, hcs, _, hl, hm, hmm, _, hi⟩
  · simp [Value.cells] at hcs
    obtain ⟨rfl, rfl, rfl⟩ := hcs
    exact ⟨fun _ => ⟨⟨#[]⟩, 0, 0, 0, 0, 0, 0, 0⟩, .inl rfl⟩
  · simp [Value.cells] at hcs
    obtain ⟨rfl, rfl, rfl⟩ := hcs
    rcases Nat.eq_zero_or_pos n with h0 | hpos
    · exact ⟨fun _ => ⟨⟨#[]⟩, 0, 0, 0, 0, 0, 0, 0⟩, .inl h0⟩
    have hel : ∀ i, i < n → ∃ r : SR, ∀ j, j < 8 → w.cell? ((a.add (i * 8)).add j) = (srow r)[j]? := fun i hin => by
      obtain ⟨cs', hc, ht⟩ := hi i (by rw [hmm]; split <;> omega)
      rw [hC] at hc
      obtain ⟨_, hlen, hat⟩ := World.cells?_some hc
      obtain ⟨xs, q, _, _, _, hxl, hg⟩ := DataW.trod_struct Tryz.underlying65 ht
      match cs', hlen with
      | [c0, c1, c2, c3, c4, c5, c6, c7], _ =>
        have hx : ∀ j, j < 4 → ∃ y, xs[j]? = some y := fun j hj => ⟨xs[j]'(by rw [hxl]; exact hj), List.getElem?_eq_getElem _⟩
        obtain ⟨y0, z0⟩ := hx 0 (by decide)
        obtain ⟨y1, z1⟩ := hx 1 (by decide)
        obtain ⟨y2, z2⟩ := hx 2 (by decide)
        obtain ⟨y3, z3⟩ := hx 3 (by decide)
        have g0 : DataW.trod enc Tryz.prog w base spare held q 9 [c0] = some y0 := by
          have h : DataW.trod enc Tryz.prog w base spare held q 9 (([c0, c1, c2, c3, c4, c5, c6, c7].drop 0).take (Tryz.prog.cellsOf 9)) = xs[0]? := hg 0 _ rfl
          rw [hCs, z0] at h
          exact h
        have g1 : DataW.trod enc Tryz.prog w base spare held q 63 [c1, c2, c3, c4, c5] = some y1 := by
          have h : DataW.trod enc Tryz.prog w base spare held q 63 (([c0, c1, c2, c3, c4, c5, c6, c7].drop 1).take (Tryz.prog.cellsOf 63)) = xs[1]? := hg 1 _ rfl
          rw [hCa, z1] at h
          exact h
        have g2 : DataW.trod enc Tryz.prog w base spare held q 3 [c6] = some y2 := by
          have h : DataW.trod enc Tryz.prog w base spare held q 3 (([c0, c1, c2, c3, c4, c5, c6, c7].drop 6).take (Tryz.prog.cellsOf 3)) = xs[2]? := hg 2 _ rfl
          rw [hCi, z2] at h
          exact h
        have g3 : DataW.trod enc Tryz.prog w base spare held q 3 [c7] = some y3 := by
          have h : DataW.trod enc Tryz.prog w base spare held q 3 (([c0, c1, c2, c3, c4, c5, c6, c7].drop 7).take (Tryz.prog.cellsOf 3)) = xs[3]? := hg 3 _ rfl
          rw [hCi, z3] at h
          exact h
        obtain ⟨s, rfl⟩ := trod_str g0
        obtain ⟨n0, n1, n2, n3, n4, rfl, rfl, rfl, rfl, rfl⟩ := trod_arr5 g1
        obtain ⟨mx, rfl⟩ := trod_i64 g2
        obtain ⟨sb, rfl⟩ := trod_i64 g3
        refine ⟨⟨s, n0, n1, n2, n3, n4, mx, sb⟩, fun j hj => ?_⟩
        rw [hat j hj]
        match j, hj with
        | 0, _ => rfl
        | 1, _ => rfl
        | 2, _ => rfl
        | 3, _ => rfl
        | 4, _ => rfl
        | 5, _ => rfl
        | 6, _ => rfl
        | 7, _ => rfl
    obtain ⟨b, o, spot⟩ := a
    obtain ⟨r0, hr0⟩ := hel 0 hpos
    have hz : w.cell? ⟨b, o, spot⟩ = some (.string r0.nm) := by
      have := hr0 0 (by decide)
      simpa [Addr.add] using this
    have hsp : spot = none := by
      cases spot with
      | none => rfl
      | some q =>
        unfold World.cell? at hz
        split at hz <;> simp at hz
    subst hsp
    have hlt : b < w.heap.size := World.block_lt_of_cell? _ _ hz
    refine ⟨fun i => if h : i < n then Classical.choose (hel i h) else ⟨⟨#[]⟩, 0, 0, 0, 0, 0, 0, 0⟩, .inr ⟨b, o, rfl, hlt, fun i hi' => ?_⟩⟩
    have hs := Classical.choose_spec (hel i hi')
    simp only [hi', dite_true]
    generalize Classical.choose (hel i hi') = r at hs
    simp only [addQ] at hs
    exact ⟨hs 0 (by decide), hs 1 (by decide), hs 2 (by decide), hs 3 (by decide), hs 4 (by decide), hs 5 (by decide), hs 6 (by decide), hs 7 (by decide)⟩
end
end Go.Proofs.YtlpcallgkciklaaGreatDoor
