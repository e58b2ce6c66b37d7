/-
  Layer 16: norm.Rule at any right rule.
-/
import Derived.Test.YtlpcallgkciklaaGreatDoorZck
import Derived.Deep.LoopGhost
namespace Go.Proofs.YtlpcallgkciklaaGreatDoor
open Go.RowKit Go.Shelf Go.Lib Go.Sort
set_option linter.unusedVariables false

def RL.cs (r : RL) : List CD := (List.range r.n).map r.C
theorem RL.val_L (r : RL) : r.val.L = r.cs := rfl
theorem nC_bound (c : CD) (hm : c.m ≤ 18446744073709551615) (hv : c.v ≤ 18446744073709551615) : (nC c).1.m ≤ 18446744073709551615 ∧ (nC c).1.v ≤ 18446744073709551615 := by
  unfold nC bel atl
  repeat' split
  all_goals simp_all
  all_goals omega
theorem askL_snoc (l : List CD) (c : CD) (M : List CD) (h : askL l = some M) : askL (l ++ [c]) = if (nC c).2 = 2 then none else some (if (nC c).2 = 0 then M ++ [(nC c).1] else M) := by
  rw [askL_append, h]
  show (askL [c]).map _ = _
  rw [askL_cons]
  by_cases h2 : (nC c).2 = 2
  · rw [if_pos h2, if_pos h2]; rfl
  · rw [if_neg h2, if_neg h2]
    by_cases h0 : (nC c).2 = 0
    · simp [askL, h0]
    · simp [askL, h0]
theorem askL_none (l m : List CD) (h : askL l = none) : askL (l ++ m) = none := by rw [askL_append, h]; rfl
theorem askL_len : ∀ (l M : List CD), askL l = some M → M.length ≤ l.length
  | [], M, h => by cases h; simp
  | c :: t, M, h => by
    rw [askL_cons] at h
    by_cases h2 : (nC c).2 = 2
    · rw [if_pos h2] at h; cases h
    · rw [if_neg h2] at h
      rcases ht : askL t with _ | x
      · rw [ht] at h; cases h
      · rw [ht] at h
        have := askL_len t x ht
        by_cases h0 : (nC c).2 = 0
        · simp [h0] at h; subst h; simp; omega
        · simp [h0] at h; subst h; simp; omega
/-- What is asked of a rule of the program. -/
def RiR (r : RL) : Prop := r.n ≤ 6 ∧ ∀ i, i < r.n → RiC (r.C i)
theorem range_take (C : Nat → CD) (q n : Nat) (h : q < n) : (List.range n).map C = ((List.range q).map C ++ [C q]) ++ ((List.range (n - q - 1)).map fun i => C (q + 1 + i)) := by
  have e : n = q + 1 + (n - q - 1) := by omega
  rw [e, List.range_add, List.map_append, List.range_succ, List.map_append, List.map_map]
  congr 1
  have : q + 1 + (n - q - 1) - q - 1 = n - q - 1 := by omega
  rw [this]
  rfl
theorem conds_heads {w : World} {g : Nat} {M : List CD} (ht : TyAt w g 62) (h : Heads w g 0 ((srt M).map cvOf)) (hb : ∀ c ∈ M, c.m ≤ 18446744073709551615 ∧ c.v ≤ 18446744073709551615) : ConT w (some ⟨g, 0, none⟩) (srt M).length (fun i => (srt M)[i]!) := by
  refine ConT.of_cells ht (fun i hi => ?_) fun i hi => ?_
  · have := h i (by simpa using hi)
    have e : ((srt M).map cvOf)[i]! = cvOf (srt M)[i]! := by
      rw [getElem!_pos ((srt M).map cvOf) i (by simpa using hi), getElem!_pos (srt M) i hi]
      simp
    rw [e] at this
    exact this
  · refine hb _ ((mem_srt _ M).1 ?_)
    rw [getElem!_pos (srt M) i hi]
    exact List.getElem_mem hi
theorem range_get {α : Type} [Inhabited α] (l : List α) : (List.range l.length).map (fun i => l[i]!) = l := by
  apply List.ext_getElem
  · simp
  · intro i h1 h2
    simp [List.getElem?_eq_getElem h2]
end Go.Proofs.YtlpcallgkciklaaGreatDoor
