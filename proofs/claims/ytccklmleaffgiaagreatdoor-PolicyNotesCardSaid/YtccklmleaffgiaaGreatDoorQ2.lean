/-
  How an argument that is the document's policy is opened: its rules in memory, their conditions.
-/
import Derived.Test.YtccklmleaffgiaaGreatDoorProg
import Derived.Test.YtccklmleaffgiaaGreatDoorRows
import Derived.WalkKit
import Derived.ProofKit
import Derived.OpenShut
import Derived.Deep.Slices
import Derived.Deep.Fields
import Derived.Test.YtccklmleaffgiaaGreatDoorQ1
import Derived.Below
import Derived.Lib.Hide
import Derived.Shelf.Abstract
import Derived.RegionTactic
import Derived.Deep.Cut
import Derived.Deep.CutRange
import Derived.Test.YtccklmleaffgiaaGreatDoorQ4
import Derived.Deep.RegionHeld3
import Derived.Deep.RegionWith
namespace Go.Proofs.YtccklmleaffgiaaGreatDoor
open Go.ChangeShapes Go.WideShapes Go.RowKit Go.Deep
set_option linter.unusedVariables false

theorem addR (b o j : Nat) : (⟨b, o, none⟩ : Addr).add j = ⟨b, o + j, none⟩ := by unfold Addr.add; split <;> simp_all
/-- A condition. -/
structure CD where
  a : Int
  o : Int
  m : Nat
  v : Nat
instance : Inhabited CD := ⟨⟨0, 0, 0, 0⟩⟩
/-- Conditions in memory. -/
def ConA (w : World) (A : Option Addr) (n : Nat) (C : Nat → CD) : Prop := n = 0 ∨ ∃ b o, A = some ⟨b, o, none⟩ ∧ b < w.heap.size ∧ ∀ i, i < n →
  w.cell? ⟨b, o + i * 4 + 0, none⟩ = some (.int .i64 (C i).a) ∧ w.cell? ⟨b, o + i * 4 + 1, none⟩ = some (.int .i64 (C i).o) ∧ w.cell? ⟨b, o + i * 4 + 2, none⟩ = some (.int .u64 (C i).m) ∧ w.cell? ⟨b, o + i * 4 + 3, none⟩ = some (.int .u64 (C i).v) ∧
  (C i).m ≤ 18446744073709551615 ∧ (C i).v ≤ 18446744073709551615
/-- A rule. -/
structure RL where
  nm : ByteArray
  k : Int
  u : Int
  A : Option Addr
  n : Nat
  c : Nat
  C : Nat → CD
instance : Inhabited RL := ⟨⟨⟨#[]⟩, 0, 0, none, 0, 0, fun _ => default⟩⟩
/-- Rules in memory. -/
def RlA (w : World) (A : Option Addr) (n : Nat) (R : Nat → RL) : Prop := n = 0 ∨ ∃ b o, A = some ⟨b, o, none⟩ ∧ b < w.heap.size ∧ ∀ i, i < n →
  w.cell? ⟨b, o + i * 4 + 0, none⟩ = some (.string (R i).nm) ∧ w.cell? ⟨b, o + i * 4 + 1, none⟩ = some (.int .i64 (R i).k) ∧ w.cell? ⟨b, o + i * 4 + 2, none⟩ = some (.int .i64 (R i).u) ∧ w.cell? ⟨b, o + i * 4 + 3, none⟩ = some (.slice (R i).A (R i).n (R i).c) ∧
  (R i).nm.size ≤ maxLen ∧ (Lit.int .i64 (R i).k).wf = true ∧ (Lit.int .i64 (R i).u).wf = true ∧ (R i).n ≤ (R i).c ∧ (R i).c ≤ maxLen ∧ ConA w (R i).A (R i).n (R i).C
section
variable {H : Type} {enc : TypeId × Value → H}
theorem trodS {w : World} {base : Nat} {spare : Nat → Bool} {held : Bool} {q : Nat} {c : Value} {y : DataW H × List MemPlace} (h : DataW.trod enc Tryz.prog w base spare held q 9 [c] = some y) : ∃ s : ByteArray, c = .string s ∧ s.size ≤ maxLen := by
  obtain ⟨s, e, _, hs⟩ := DataW.trod_string Tryz.underlying9 h
  simp only [List.cons.injEq, and_true] at e
  exact ⟨s, e, hs⟩
theorem trodI {w : World} {base : Nat} {spare : Nat → Bool} {held : Bool} {q : Nat} {c : Value} {y : DataW H × List MemPlace} (h : DataW.trod enc Tryz.prog w base spare held q 3 [c] = some y) : ∃ n : Int, c = .int .i64 n ∧ (Lit.int .i64 n).wf = true := by
  obtain ⟨s, e, _, hs⟩ := DataW.trod_int Tryz.underlying3 h
  simp only [List.cons.injEq, and_true] at e
  exact ⟨s, e, hs⟩
theorem trodU {w : World} {base : Nat} {spare : Nat → Bool} {held : Bool} {q : Nat} {c : Value} {y : DataW H × List MemPlace} (h : DataW.trod enc Tryz.prog w base spare held q 51 [c] = some y) : ∃ n : Nat, c = .int .u64 n ∧ n ≤ 18446744073709551615 := by
  obtain ⟨s, e, _, hs⟩ := DataW.trod_int Tryz.underlying51 h
  simp only [List.cons.injEq, and_true] at e
  simp [Lit.wf, IntKind.min, IntKind.max, IntKind.signed, IntKind.bits] at hs
  obtain ⟨x, rfl⟩ := Int.eq_ofNat_of_zero_le hs.1
  exact ⟨x, e, by omega⟩
theorem trodB {w : World} {base : Nat} {spare : Nat → Bool} {held : Bool} {q : Nat} {c : Value} {y : DataW H × List MemPlace} (h : DataW.trod enc Tryz.prog w base spare held q 4 [c] = some y) : ∃ b : Bool, c = .bool b := by
  obtain ⟨s, e, _⟩ := DataW.trod_bool Tryz.underlying4 h
  simp only [List.cons.injEq, and_true] at e
  exact ⟨s, e⟩
/-- An action's two cells. -/
theorem trodAct {w : World} {base : Nat} {spare : Nat → Bool} {held : Bool} {q : Nat} {c0 c1 : Value} {y : DataW H × List MemPlace} (h : DataW.trod enc Tryz.prog w base spare held q 36 [c0, c1] = some y) :
    ∃ k u : Int, c0 = .int .i64 k ∧ c1 = .int .i64 u ∧ (Lit.int .i64 k).wf = true ∧ (Lit.int .i64 u).wf = true := by
  have hCi : Tryz.prog.cellsOf 3 = 1 := by kernel_rfl
  obtain ⟨xs, q', _, _, _, hxl, hg⟩ := DataW.trod_struct Tryz.underlying36 h
  have hx : ∀ j, j < 2 → ∃ y, xs[j]? = some y := fun j hj => ⟨xs[j]'(by rw [hxl]; exact hj), List.getElem?_eq_getElem _⟩
  obtain ⟨y0, z0⟩ := hx 0 (by decide)
  obtain ⟨y1, z1⟩ := hx 1 (by decide)
  have g0 : DataW.trod enc Tryz.prog w base spare held q' 3 [c0] = some y0 := by
    have h : DataW.trod enc Tryz.prog w base spare held q' 3 (([c0, c1].drop 0).take (Tryz.prog.cellsOf 3)) = xs[0]? := hg 0 _ rfl
    rw [hCi, z0] at h
    exact h
  have g1 : DataW.trod enc Tryz.prog w base spare held q' 3 [c1] = some y1 := by
    have h : DataW.trod enc Tryz.prog w base spare held q' 3 (([c0, c1].drop 1).take (Tryz.prog.cellsOf 3)) = xs[1]? := hg 1 _ rfl
    rw [hCi, z1] at h
    exact h
  obtain ⟨k, rfl, wk⟩ := trodI g0
  obtain ⟨u, rfl, wu⟩ := trodI g1
  exact ⟨k, u, rfl, rfl, wk, wu⟩
theorem spot_none {w : World} {b o : Nat} {sp : _} {v : Value} (h : w.cell? ⟨b, o, sp⟩ = some v) : sp = none := by
  cases sp with
  | none => rfl
  | some q =>
    unfold World.cell? at h
    split at h <;> simp at h
set_option maxRecDepth 100000 in
set_option maxHeartbeats 1000000 in
theorem trodCons {w : World} {base : Nat} {spare : Nat → Bool} {held : Bool} {q : Nat} {c0 : Value} {y : DataW H × List MemPlace} (hf : DataW.trod enc Tryz.prog w base spare held q 66 [c0] = some y) :
    ∃ (A : Option Addr) (n c : Nat) (C : Nat → CD), c0 = .slice A n c ∧ n ≤ c ∧ c ≤ maxLen ∧ ConA w A n C := by
  have hC : Tryz.prog.cellsOf 69 = 4 := by kernel_rfl
  have hCi : Tryz.prog.cellsOf 3 = 1 := by kernel_rfl
  have hCu : Tryz.prog.cellsOf 51 = 1 := by kernel_rfl
  rcases open_slice Tryz.underlying66 hf with ⟨hcs, _⟩ | ⟨a, n, c, m, k, D, Pl, hcs, _, hl, hm, hmm, _, hi⟩
  · simp only [List.cons.injEq, and_true] at hcs
    exact ⟨none, 0, 0, fun _ => default, hcs, by omega, by simp [maxLen], .inl rfl⟩
  · simp only [List.cons.injEq, and_true] at hcs
    refine ⟨some a, n, c, ?_⟩
    rcases Nat.eq_zero_or_pos n with h0 | hpos
    · exact ⟨fun _ => default, hcs, hl, hm, .inl h0⟩
    have hel : ∀ i, i < n → ∃ r : CD, (∀ j, j < 4 → w.cell? ((a.add (i * 4)).add j) = ([.int .i64 r.a, .int .i64 r.o, .int .u64 r.m, .int .u64 r.v] : List Value)[j]?) ∧ r.m ≤ 18446744073709551615 ∧ r.v ≤ 18446744073709551615 := fun i hin => by
      obtain ⟨cs', hc, ht⟩ := hi i (by rw [hmm]; split <;> omega)
      rw [hC] at hc
      obtain ⟨_, hlen, hat⟩ := World.cells?_some hc
      obtain ⟨xs, q, _, _, _, hxl, hg⟩ := DataW.trod_struct Tryz.underlying69 ht
      match cs', hlen with
      | [c0, c1, c2, c3], _ =>
        have hx : ∀ j, j < 4 → ∃ y, xs[j]? = some y := fun j hj => ⟨xs[j]'(by rw [hxl]; exact hj), List.getElem?_eq_getElem _⟩
        obtain ⟨y0, z0⟩ := hx 0 (by decide)
        obtain ⟨y1, z1⟩ := hx 1 (by decide)
        obtain ⟨y2, z2⟩ := hx 2 (by decide)
        obtain ⟨y3, z3⟩ := hx 3 (by decide)
        have g0 : DataW.trod enc Tryz.prog w base spare held q 3 [c0] = some y0 := by
          have h : DataW.trod enc Tryz.prog w base spare held q 3 (([c0, c1, c2, c3].drop 0).take (Tryz.prog.cellsOf 3)) = xs[0]? := hg 0 _ rfl
          rw [hCi, z0] at h
          exact h
        have g1 : DataW.trod enc Tryz.prog w base spare held q 3 [c1] = some y1 := by
          have h : DataW.trod enc Tryz.prog w base spare held q 3 (([c0, c1, c2, c3].drop 1).take (Tryz.prog.cellsOf 3)) = xs[1]? := hg 1 _ rfl
          rw [hCi, z1] at h
          exact h
        have g2 : DataW.trod enc Tryz.prog w base spare held q 51 [c2] = some y2 := by
          have h : DataW.trod enc Tryz.prog w base spare held q 51 (([c0, c1, c2, c3].drop 2).take (Tryz.prog.cellsOf 51)) = xs[2]? := hg 2 _ rfl
          rw [hCu, z2] at h
          exact h
        have g3 : DataW.trod enc Tryz.prog w base spare held q 51 [c3] = some y3 := by
          have h : DataW.trod enc Tryz.prog w base spare held q 51 (([c0, c1, c2, c3].drop 3).take (Tryz.prog.cellsOf 51)) = xs[3]? := hg 3 _ rfl
          rw [hCu, z3] at h
          exact h
        obtain ⟨n0, rfl, _⟩ := trodI g0
        obtain ⟨n1, rfl, _⟩ := trodI g1
        obtain ⟨n2, rfl, l2⟩ := trodU g2
        obtain ⟨n3, rfl, l3⟩ := trodU g3
        refine ⟨⟨n0, n1, n2, n3⟩, fun j hj => ?_, l2, l3⟩
        rw [hat j hj]
    obtain ⟨b, o, spot⟩ := a
    obtain ⟨r0, hr0, _⟩ := hel 0 hpos
    have hz : w.cell? ⟨b, o, spot⟩ = some (.int .i64 r0.a) := by
      have := hr0 0 (by decide)
      simpa [Addr.add] using this
    obtain rfl := spot_none hz
    have hlt : b < w.heap.size := World.block_lt_of_cell? _ _ hz
    refine ⟨fun i => if h : i < n then Classical.choose (hel i h) else default, hcs, hl, hm, .inr ⟨b, o, rfl, hlt, fun i hi' => ?_⟩⟩
    have hs := Classical.choose_spec (hel i hi')
    simp only [hi', dite_true]
    generalize Classical.choose (hel i hi') = r at hs
    simp only [addR] at hs
    exact ⟨hs.1 0 (by decide), hs.1 1 (by decide), hs.1 2 (by decide), hs.1 3 (by decide), hs.2.1, hs.2.2⟩
set_option maxRecDepth 100000 in
set_option maxHeartbeats 1000000 in
theorem trodRules {w : World} {base : Nat} {spare : Nat → Bool} {held : Bool} {q : Nat} {c0 : Value} {y : DataW H × List MemPlace} (hf : DataW.trod enc Tryz.prog w base spare held q 37 [c0] = some y) :
    ∃ (A : Option Addr) (n c : Nat) (R : Nat → RL), c0 = .slice A n c ∧ n ≤ c ∧ c ≤ maxLen ∧ RlA w A n R := by
  have hC : Tryz.prog.cellsOf 68 = 4 := by kernel_rfl
  have hCs : Tryz.prog.cellsOf 9 = 1 := by kernel_rfl
  have hCa : Tryz.prog.cellsOf 36 = 2 := by kernel_rfl
  have hCl : Tryz.prog.cellsOf 66 = 1 := by kernel_rfl
  rcases open_slice Tryz.underlying37 hf with ⟨hcs, _⟩ | ⟨a, n, c, m, k, D, Pl, hcs, _, hl, hm, hmm, _, hi⟩
  · simp only [List.cons.injEq, and_true] at hcs
    exact ⟨none, 0, 0, fun _ => default, hcs, by omega, by simp [maxLen], .inl rfl⟩
  · simp only [List.cons.injEq, and_true] at hcs
    refine ⟨some a, n, c, ?_⟩
    rcases Nat.eq_zero_or_pos n with h0 | hpos
    · exact ⟨fun _ => default, hcs, hl, hm, .inl h0⟩
    have hel : ∀ i, i < n → ∃ r : RL, (∀ j, j < 4 → w.cell? ((a.add (i * 4)).add j) = ([.string r.nm, .int .i64 r.k, .int .i64 r.u, .slice r.A r.n r.c] : List Value)[j]?) ∧
        r.nm.size ≤ maxLen ∧ (Lit.int .i64 r.k).wf = true ∧ (Lit.int .i64 r.u).wf = true ∧ r.n ≤ r.c ∧ r.c ≤ maxLen ∧ ConA w r.A r.n r.C := fun i hin => by
      obtain ⟨cs', hc, ht⟩ := hi i (by rw [hmm]; split <;> omega)
      rw [hC] at hc
      obtain ⟨_, hlen, hat⟩ := World.cells?_some hc
      obtain ⟨xs, q, _, _, _, hxl, hg⟩ := DataW.trod_struct Tryz.underlying68 ht
      match cs', hlen with
      | [c0, c1, c2, c3], _ =>
        have hx : ∀ j, j < 3 → ∃ y, xs[j]? = some y := fun j hj => ⟨xs[j]'(by rw [hxl]; exact hj), List.getElem?_eq_getElem _⟩
        obtain ⟨y0, z0⟩ := hx 0 (by decide)
        obtain ⟨y1, z1⟩ := hx 1 (by decide)
        obtain ⟨y2, z2⟩ := hx 2 (by decide)
        have g0 : DataW.trod enc Tryz.prog w base spare held q 9 [c0] = some y0 := by
          have h : DataW.trod enc Tryz.prog w base spare held q 9 (([c0, c1, c2, c3].drop 0).take (Tryz.prog.cellsOf 9)) = xs[0]? := hg 0 _ rfl
          rw [hCs, z0] at h
          exact h
        have g1 : DataW.trod enc Tryz.prog w base spare held q 36 [c1, c2] = some y1 := by
          have h : DataW.trod enc Tryz.prog w base spare held q 36 (([c0, c1, c2, c3].drop 1).take (Tryz.prog.cellsOf 36)) = xs[1]? := hg 1 _ rfl
          rw [hCa, z1] at h
          exact h
        have g2 : DataW.trod enc Tryz.prog w base spare held q 66 [c3] = some y2 := by
          have h : DataW.trod enc Tryz.prog w base spare held q 66 (([c0, c1, c2, c3].drop 3).take (Tryz.prog.cellsOf 66)) = xs[2]? := hg 2 _ rfl
          rw [hCl, z2] at h
          exact h
        obtain ⟨s, rfl, ls⟩ := trodS g0
        obtain ⟨kk, uu, rfl, rfl, lk, lu⟩ := trodAct g1
        obtain ⟨A', n', c', C', rfl, l3, l4, l5⟩ := trodCons g2
        refine ⟨⟨s, kk, uu, A', n', c', C'⟩, fun j hj => ?_, ls, lk, lu, l3, l4, l5⟩
        rw [hat j hj]
    obtain ⟨b, o, spot⟩ := a
    obtain ⟨r0, hr0, _⟩ := hel 0 hpos
    have hz : w.cell? ⟨b, o, spot⟩ = some (.string r0.nm) := by
      have := hr0 0 (by decide)
      simpa [Addr.add] using this
    obtain rfl := spot_none hz
    have hlt : b < w.heap.size := World.block_lt_of_cell? _ _ hz
    refine ⟨fun i => if h : i < n then Classical.choose (hel i h) else default, hcs, hl, hm, .inr ⟨b, o, rfl, hlt, fun i hi' => ?_⟩⟩
    have hs := Classical.choose_spec (hel i hi')
    simp only [hi', dite_true]
    generalize Classical.choose (hel i hi') = r at hs
    simp only [addR] at hs
    exact ⟨hs.1 0 (by decide), hs.1 1 (by decide), hs.1 2 (by decide), hs.1 3 (by decide), hs.2⟩
set_option maxRecDepth 100000 in
set_option maxHeartbeats 1000000 in
/-- An argument that is a policy. -/
theorem open_policy {r : Reach} {w : World} {b0 base : Nat} {spare : Nat → Bool} {held : Bool} {v : Value} {d : DataW H} {p : List MemPlace} (hv : Value.okWide Tryz.prog w r b0 39 v) (h : DataW.Trod enc Tryz.prog w base spare held 39 v d p) :
    ∃ (k u : Int) (x : Bool) (A : Option Addr) (n c : Nat) (R : Nat → RL), v = .agg #[.int .i64 k, .int .i64 u, .bool x, .slice A n c] ∧ (Lit.int .i64 k).wf = true ∧ (Lit.int .i64 u).wf = true ∧ n ≤ c ∧ c ≤ maxLen ∧ RlA w A n R := by
  obtain ⟨fuel, hf⟩ := h
  have hC : Tryz.prog.cellsOf 39 = 4 := by kernel_rfl
  have hCb : Tryz.prog.cellsOf 4 = 1 := by kernel_rfl
  have hCa : Tryz.prog.cellsOf 36 = 2 := by kernel_rfl
  have hCl : Tryz.prog.cellsOf 37 = 1 := by kernel_rfl
  obtain ⟨xs, q, _, _, _, hxl, hg⟩ := DataW.trod_struct Tryz.underlying39 hf
  obtain ⟨cs, rfl, hsz⟩ : ∃ cs, v = .agg cs ∧ cs.size = 4 := by
    simp only [Value.okWide, Tryz.underlying39] at hv
    obtain ⟨cs, h1, h2, _⟩ := hv
    exact ⟨cs, h1, h2.trans hC⟩
  obtain ⟨l⟩ := cs
  match l, hsz with
  | [c0, c1, c2, c3], _ =>
    have hx : ∀ j, j < 3 → ∃ y, xs[j]? = some y := fun j hj => ⟨xs[j]'(by rw [hxl]; exact hj), List.getElem?_eq_getElem _⟩
    obtain ⟨y0, z0⟩ := hx 0 (by decide)
    obtain ⟨y1, z1⟩ := hx 1 (by decide)
    obtain ⟨y2, z2⟩ := hx 2 (by decide)
    have g0 : DataW.trod enc Tryz.prog w base spare held q 36 [c0, c1] = some y0 := by
      have h : DataW.trod enc Tryz.prog w base spare held q 36 (([c0, c1, c2, c3].drop 0).take (Tryz.prog.cellsOf 36)) = xs[0]? := hg 0 _ rfl
      rw [hCa, z0] at h
      exact h
    have g1 : DataW.trod enc Tryz.prog w base spare held q 4 [c2] = some y1 := by
      have h : DataW.trod enc Tryz.prog w base spare held q 4 (([c0, c1, c2, c3].drop 2).take (Tryz.prog.cellsOf 4)) = xs[1]? := hg 1 _ rfl
      rw [hCb, z1] at h
      exact h
    have g2 : DataW.trod enc Tryz.prog w base spare held q 37 [c3] = some y2 := by
      have h : DataW.trod enc Tryz.prog w base spare held q 37 (([c0, c1, c2, c3].drop 3).take (Tryz.prog.cellsOf 37)) = xs[2]? := hg 2 _ rfl
      rw [hCl, z2] at h
      exact h
    obtain ⟨k, u, rfl, rfl, lk, lu⟩ := trodAct g0
    obtain ⟨x, rfl⟩ := trodB g1
    obtain ⟨A, n, c, R, rfl, l3, l4, l5⟩ := trodRules g2
    exact ⟨k, u, x, A, n, c, R, rfl, lk, lu, l3, l4, l5⟩
end
end Go.Proofs.YtccklmleaffgiaaGreatDoor

/-
  The laws' own light over policies: rules are few, names short, conditions few.
-/
namespace Go.Proofs.YtccklmleaffgiaaGreatDoor
open Go.RowKit Go.Shelf
set_option linter.unusedVariables false

theorem ConA.below {w w' : World} {A : Option Addr} {n : Nat} {C : Nat → CD} {B : Nat} (h : ConA w A n C) (hb : Below B w w') (hB : w.heap.size ≤ B) : ConA w' A n C := by
  rcases h with h | ⟨b, o, rfl, hl, hc⟩
  · exact .inl h
  · refine .inr ⟨b, o, rfl, Nat.lt_of_lt_of_le hl hb.size, fun i hi => ?_⟩
    obtain ⟨c0, c1, c2, c3, l⟩ := hc i hi
    exact ⟨(hb.cell (p := ⟨b, _, none⟩) (Nat.lt_of_lt_of_le hl hB)).trans c0, (hb.cell (p := ⟨b, _, none⟩) (Nat.lt_of_lt_of_le hl hB)).trans c1, (hb.cell (p := ⟨b, _, none⟩) (Nat.lt_of_lt_of_le hl hB)).trans c2, (hb.cell (p := ⟨b, _, none⟩) (Nat.lt_of_lt_of_le hl hB)).trans c3, l⟩
theorem RlA.below {w w' : World} {A : Option Addr} {n : Nat} {R : Nat → RL} {B : Nat} (h : RlA w A n R) (hb : Below B w w') (hB : w.heap.size ≤ B) : RlA w' A n R := by
  rcases h with h | ⟨b, o, rfl, hl, hc⟩
  · exact .inl h
  · refine .inr ⟨b, o, rfl, Nat.lt_of_lt_of_le hl hb.size, fun i hi => ?_⟩
    obtain ⟨c0, c1, c2, c3, l0, l1, l2, l3, l4, l5⟩ := hc i hi
    exact ⟨(hb.cell (p := ⟨b, _, none⟩) (Nat.lt_of_lt_of_le hl hB)).trans c0, (hb.cell (p := ⟨b, _, none⟩) (Nat.lt_of_lt_of_le hl hB)).trans c1, (hb.cell (p := ⟨b, _, none⟩) (Nat.lt_of_lt_of_le hl hB)).trans c2, (hb.cell (p := ⟨b, _, none⟩) (Nat.lt_of_lt_of_le hl hB)).trans c3, l0, l1, l2, l3, l4, l5.below hb hB⟩
abbrev polA (k u : Int) (x : Bool) (A : Option Addr) (n c : Nat) : Array Value := #[.int .i64 k, .int .i64 u, .bool x, .slice A n c]
def LightP (n : Nat) (R : Nat → RL) : Prop := n ≤ 40 ∧ ∀ i, i < n → (R i).nm.size ≤ 60 ∧ (R i).n ≤ 12
end Go.Proofs.YtccklmleaffgiaaGreatDoor

/-
  Layer 16: the laws' own rule: a document's rule as the program's.
-/
namespace Go.Proofs.YtccklmleaffgiaaGreatDoor
open Go.RowKit Go.Shelf
set_option linter.unusedVariables false

theorem bTr {w w' w'' : World} (h : Below w.heap.size w w') (h2 : Below w'.heap.size w' w'') : Below w.heap.size w w'' := h.trans (h2.mono h.size)
theorem infoC2 : (Tryz.prog.info? 53).map (fun i => (i.zero, i.size, i.bytes)) = some (some (.agg zN), 4, 32) := by kernel_rfl
/-- The cells of a row of conditions. -/
def crow (c : CD) : List Value := [.int .i64 c.a, .int .i64 c.o, .int .u64 c.m, .int .u64 c.v]
def ccell (C : Nat → CD) (q : Nat) : Value := (crow (C (q / 4))).getD (q % 4) undef
theorem ccell_at (C : Nat → CD) (i c : Nat) (hc : c < 4) : ccell C (i * 4 + c) = (crow (C i)).getD c undef := by
  unfold ccell
  rw [show (i * 4 + c) / 4 = i by omega, show (i * 4 + c) % 4 = c by omega]
theorem crow_one (r : CD) (c : Nat) (hc : c < 1 * 4) : ((crow r).getD c undef).oneCell' = true := by
  have h : c = 0 ∨ c = 1 ∨ c = 2 ∨ c = 3 := by omega
  rcases h with rfl | rfl | rfl | rfl <;> rfl
theorem one_cond (w : World) (r : CD) (E : TypeId) : Cel (w.alloc (.cells #[.int .i64 r.a, .int .i64 r.o, .int .u64 r.m, .int .u64 r.v] E)) (w.heap.size + 1) 4 (some ⟨w.heap.size, 0, none⟩) 1 1 (fun c => (crow r).getD c undef) :=
  Cel.mk_ (by omega) (by decide) (by decide) (fun c hc => by
    rw [Nat.zero_add]
    have rr := RowC.new w #[.int .i64 r.a, .int .i64 r.o, .int .u64 r.m, .int .u64 r.v] E _ rfl
    have h : c = 0 ∨ c = 1 ∨ c = 2 ∨ c = 3 := by omega
    rcases h with rfl | rfl | rfl | rfl
    all_goals exact rr.cell _ _ rfl)
theorem ccell_cat (C : Nat → CD) (k : Nat) (r : CD) (hr : C k = r) : ∀ i, i < (k + 1) * 4 → catC (k * 4) (ccell C) (fun c => (crow r).getD c undef) i = ccell C i := fun i hi => by
  unfold catC
  by_cases h : i < k * 4
  · rw [if_pos h]
  · rw [if_neg h]
    obtain ⟨c, rfl⟩ : ∃ c, i = k * 4 + c := ⟨i - k * 4, by omega⟩
    rw [Nat.add_sub_cancel_left, ccell_at C k c (by omega), hr]
theorem set4U {w : World} {b : Nat} {t : TypeId} {x0 x1 x2 x3 y0 y1 y2 y3 : Value} (h : RowC w b #[x0, x1, x2, x3] t) : RowC ((((w.setCell ⟨b, 0, none⟩ y0).setCell ⟨b, 1, none⟩ y1).setCell ⟨b, 2, none⟩ y2).setCell ⟨b, 3, none⟩ y3) b #[y0, y1, y2, y3] t := (((h.set 0 y0).set 1 y1).set 2 y2).set 3 y3
abbrev rulA (nm : ByteArray) (k u : Int) (A : Option Addr) (n c : Nat) : Array Value := #[.string nm, .int .i64 k, .int .i64 u, .slice A n c]
end Go.Proofs.YtccklmleaffgiaaGreatDoor
