/-
  How an argument that is a slice of the document's instructions is opened.
-/
import Derived.Test.YtmndolojfdekdaaIe
import Derived.WalkKit
import Derived.ProofKit
import Derived.OpenShut
import Derived.Deep.Slices
import Derived.Deep.Fields
namespace Go.Proofs.Ytmndolojfdekdaa
open Go.ChangeShapes Go.WideShapes Go.RowKit Go.Deep

section
variable {H : Type} {enc : TypeId × Value → H}
set_option maxRecDepth 100000 in
theorem open_ins {w : World} {base : Nat} {spare : Nat → Bool} {held : Bool} {A : Option Addr} {n c : Nat} {d : DataW H} {p : List MemPlace} (h : DataW.Trod enc Try.prog w base spare held 22 (.slice A n c) d p) :
    ∃ g : Nat → IV, Ins w w.heap.size A n c g := by
  obtain ⟨fuel, hf⟩ := h
  have hC : Try.prog.cellsOf 70 = 4 := by kernel_rfl
  rcases open_slice Try.underlying22 hf with ⟨hcs, _⟩ | ⟨a, len, cap, m, k, D, Pl, hcs, _, hl, hm, hmm, _, hi⟩
  · simp [Value.cells] at hcs
    obtain ⟨rfl, rfl, rfl⟩ := hcs
    exact ⟨fun _ => ⟨0, 0, 0, 0⟩, Cel.nil_, fun i h => by omega⟩
  · simp [Value.cells] at hcs
    obtain ⟨rfl, rfl, rfl⟩ := hcs
    have hel : ∀ i, i < n → ∃ v : IV, v.ok ∧ a.block < w.heap.size ∧ ∀ j, j < 4 → w.cell? (a.add (i * 4 + j)) = some (icell (fun _ => v) j) := fun i hin => by
      obtain ⟨cs', hc, ht⟩ := hi i (by rw [hmm]; split <;> omega)
      rw [hC] at hc
      obtain ⟨_, hlen, hat⟩ := World.cells?_some hc
      obtain ⟨xs, q, _, _, _, hxl, hg⟩ := DataW.trod_struct Try.underlying70 ht
      have k48 : Try.prog.cellsOf 68 = 1 := by kernel_rfl
      have k5 : Try.prog.cellsOf 5 = 1 := by kernel_rfl
      have k39 : Try.prog.cellsOf 43 = 1 := by kernel_rfl
      match cs', hlen with
      | [c0, c1, c2, c3], _ =>
        have hx : ∀ j, j < 4 → ∃ y, xs[j]? = some y := fun j hj => ⟨xs[j]'(by rw [hxl]; exact hj), List.getElem?_eq_getElem _⟩
        obtain ⟨y0, z0⟩ := hx 0 (by decide)
        obtain ⟨y1, z1⟩ := hx 1 (by decide)
        obtain ⟨y2, z2⟩ := hx 2 (by decide)
        obtain ⟨y3, z3⟩ := hx 3 (by decide)
        have g0 : DataW.trod enc Try.prog w base spare held q 68 [c0] = some y0 := by
          have h : DataW.trod enc Try.prog w base spare held q 68 (([c0, c1, c2, c3].drop 0).take (Try.prog.cellsOf 68)) = xs[0]? := hg 0 _ rfl
          rw [k48, z0] at h
          exact h
        have g1 : DataW.trod enc Try.prog w base spare held q 5 [c1] = some y1 := by
          have h : DataW.trod enc Try.prog w base spare held q 5 (([c0, c1, c2, c3].drop 1).take (Try.prog.cellsOf 5)) = xs[1]? := hg 1 _ rfl
          rw [k5, z1] at h
          exact h
        have g2 : DataW.trod enc Try.prog w base spare held q 5 [c2] = some y2 := by
          have h : DataW.trod enc Try.prog w base spare held q 5 (([c0, c1, c2, c3].drop 2).take (Try.prog.cellsOf 5)) = xs[2]? := hg 2 _ rfl
          rw [k5, z2] at h
          exact h
        have g3 : DataW.trod enc Try.prog w base spare held q 43 [c3] = some y3 := by
          have h : DataW.trod enc Try.prog w base spare held q 43 (([c0, c1, c2, c3].drop 3).take (Try.prog.cellsOf 43)) = xs[3]? := hg 3 _ rfl
          rw [k39, z3] at h
          exact h
        obtain ⟨n0, e0, _, w0⟩ := DataW.trod_int Try.underlying68 g0
        obtain ⟨n1, e1, _, w1⟩ := DataW.trod_int Try.underlying5 g1
        obtain ⟨n2, e2, _, w2⟩ := DataW.trod_int Try.underlying5 g2
        obtain ⟨n3, e3, _, w3⟩ := DataW.trod_int Try.underlying43 g3
        simp only [List.cons.injEq, and_true] at e0 e1 e2 e3
        subst e0 e1 e2 e3
        simp [Lit.wf, IntKind.min, IntKind.max, IntKind.signed, IntKind.bits] at w0 w1 w2 w3
        have f0 := hat 0 (by decide)
        have f1 := hat 1 (by decide)
        have f2 := hat 2 (by decide)
        have f3 := hat 3 (by decide)
        simp only [List.getElem?_cons_zero, List.getElem?_cons_succ] at f0 f1 f2 f3
        have hblk := World.block_lt_of_cell? w _ f0
        have eb : ((a.add (i * 4)).add 0).block = a.block := by unfold Addr.add; split <;> split <;> rfl
        rw [eb] at hblk
        rw [add_add] at f0 f1 f2 f3
        refine ⟨⟨n0.toNat, n1.toNat, n2.toNat, n3.toNat⟩, ⟨by show n0.toNat < 65536; omega, by show n1.toNat < 256; omega, by show n2.toNat < 256; omega, by show n3.toNat < 4294967296; omega⟩, hblk, fun j hj => ?_⟩
        match j, hj with
        | 0, _ => rw [f0]; simp [icell, Int.toNat_of_nonneg w0.1]
        | 1, _ => rw [f1]; simp [icell, Int.toNat_of_nonneg w1.1]
        | 2, _ => rw [f2]; simp [icell, Int.toNat_of_nonneg w2.1]
        | 3, _ => rw [f3]; simp [icell, Int.toNat_of_nonneg w3.1]
    have hex : ∃ g : Nat → IV, ∀ i, i < n → (g i).ok ∧ a.block < w.heap.size ∧ ∀ j, j < 4 → w.cell? (a.add (i * 4 + j)) = some (icell (fun _ => g i) j) :=
      ⟨fun i => if h : i < n then Classical.choose (hel i h) else ⟨0, 0, 0, 0⟩, fun i hi' => by
        have := Classical.choose_spec (hel i hi')
        simpa [hi'] using this⟩
    obtain ⟨g, hg⟩ := hex
    refine ⟨g, .inr ⟨a, rfl, hl, hm, fun j hj => ?_⟩, fun i hi' => (hg i hi').1⟩
    have h1 : j / 4 < n := by omega
    obtain ⟨_, hb, hcell⟩ := hg (j / 4) h1
    have h2 := hcell (j % 4) (Nat.mod_lt _ (by decide))
    rw [show j / 4 * 4 + j % 4 = j from by omega] at h2
    refine ⟨hb, h2.trans ?_⟩
    unfold icell
    simp only [Nat.mod_mod]
end
end Go.Proofs.Ytmndolojfdekdaa
