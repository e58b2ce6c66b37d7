/-
  Layer 21: slices.Reverse of a program.
-/
import Derived.Test.YtiofgaadfbjnoaaAs9
import Derived.Test.YtiofgaadfbjnoaaAsh
namespace Go.Proofs.Ytiofgaadfbjnoaa
open Go.RowKit Go.Shelf Go.Sort
set_option linter.unusedVariables false

def ivrow (v : IV) : List Value := [.int .u16 v.c, .int .u8 v.t, .int .u8 v.f, .int .u32 v.k]
theorem icell_row (G : Nat → IV) (i : Nat) : icell G i = (ivrow (G (i / 4)))[i % 4]! := by
  unfold icell ivrow
  have h : i % 4 < 4 := Nat.mod_lt _ (by decide)
  generalize i % 4 = j at h
  match j, h with
  | 0, _ => rfl
  | 1, _ => rfl
  | 2, _ => rfl
  | 3, _ => rfl
theorem flat_iv (L : List IV) (i : Nat) (h : i < L.length * 4) : (flatK ivrow 4 L.toArray)[i]! = icell (fun i => L[i]!) i := by
  rw [get_flatK _ _ _ _ (by simpa using h), icell_row]
  simp
theorem rev_any {base n c : Nat} {A : Option Addr} {L : List IV} {w : World} (hn : L.length = n) (hl : n ≤ 100000000) (h : OwnC w base 52 4 A n c (icell fun i => L[i]!)) :
    Calls Try.prog 36 #[.slice A n c] w fun e w' => e = .returned (.tuple #[]) ∧ OwnC w' base 52 4 A n c (icell fun i => L.reverse[i]!) ∧ (∀ k, (Value.slice A n c).ownBlock ≠ some k → w'.heap[k]? = w.heap[k]?) ∧ Below base w w' := by
  have hcel := h.cel
  obtain ⟨q1, q2⟩ := h
  rcases q2 with ⟨e, h0⟩ | ⟨g, cap, cur, e, hg, hr, h3, h4, h5, h6⟩
  · injection e with e1 e2 e3
    subst e1 h0 e3
    refine (AnyQ.slices_Reverse_empty Try.revI none 0 w).mono ?_
    rintro e w' ⟨rfl, rfl⟩
    exact ⟨rfl, OwnC.nil_, fun _ _ => rfl, Below.refl _ _⟩
  · injection e with e1 e2 e3
    subst e1 e3
    have hc : ∀ j, j < n * 4 → w.cell? ⟨g, 0 + j, none⟩ = some (icell (fun i => L[i]!) j) := by
      rcases hcel with ⟨h0, _⟩ | ⟨ad, he, _, _, hc⟩
      · cases h0
      · injection he with he
        subst he
        intro j hj
        have := (hc j hj).2
        rwa [Addr.add_lit] at this
    have hH : HoldsK ivrow 4 w g 0 L.toArray := by
      intro j hj
      have hj2 : j < L.length * 4 := by simpa using hj
      refine ⟨?_, ?_⟩
      · rw [hc j (by omega), flat_iv L j hj2]
        rfl
      · show (match w.heap[g]? with | some (.cells _ _ (lo, hi)) => decide (lo ≤ 0 + j) && decide (0 + j < hi) | _ => false) = false
        rw [hr]
        simp
    have hlt : g < w.heap.size := (Array.getElem?_eq_some_iff.1 hr).1
    have hcall := AnyQ.slices_Reverse Try.revI 4 (fun w => by kernel_rfl) (fun w => by kernel_rfl) ivrow (fun _ => rfl) (fun x v hv => by
      simp only [ivrow, List.mem_cons, List.not_mem_nil, or_false] at hv
      rcases hv with rfl | rfl | rfl | rfl <;> rfl) g 0 c L.toArray w hH (by simp; omega)
    rw [List.size_toArray, hn] at hcall
    refine hcall.mono ?_
    rintro e w' ⟨rfl, N, rfl⟩
    have hk : ∀ k, (putRowK ivrow 4 (Sort.ahead w N) g 0 L.toArray.reverse).heap[k]? = if g = k then (w.heap[k]?).map (onCells (putCells id 0 (flatK ivrow 4 L.toArray.reverse))) else w.heap[k]? := fun k => by
      simp only [putRowK, putRow, mapBlock, Sort.ahead, Array.getElem?_modify]
    refine ⟨rfl, ⟨by simp, .inr ⟨g, c, putCells id 0 (flatK ivrow 4 L.toArray.reverse) cur, rfl, hg, ?_, h3, h4, by simp [putCells, h5], ?_⟩⟩, fun k hne => ?_, ⟨rfl, rfl, rfl, by simp [putRowK, putRow, mapBlock, Sort.ahead], fun k hk2 => ?_⟩⟩
    · rw [hk g, if_pos rfl, hr]
      rfl
    · refine List.ext_getElem (by simp [putCells, h5]; omega) fun i i1 i2 => ?_
      have hi : i < n * 4 := by simpa using i2
      rw [List.getElem_take, Array.getElem_toList, List.getElem_map, List.getElem_range]
      have h7 := flat_iv L.reverse i (by simpa [hn] using hi)
      simp only [putCells, Array.getElem_mapIdx]
      rw [if_pos ⟨Nat.zero_le _, by simp; omega⟩]
      show (flatK ivrow 4 L.toArray.reverse)[i - 0]! = _
      rw [Nat.sub_zero, ← h7]
      simp
    · rw [hk k, if_neg fun e => hne (by rw [← e]; rfl)]
    · rw [hk k, if_neg (by omega)]
end Go.Proofs.Ytiofgaadfbjnoaa
