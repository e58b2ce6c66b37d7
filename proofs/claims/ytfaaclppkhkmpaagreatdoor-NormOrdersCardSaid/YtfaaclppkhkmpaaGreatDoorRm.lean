/-
  Layer 16: norm.Policy at any policy, its two ends in one.
-/
import Derived.Test.YtfaaclppkhkmpaaGreatDoorRj
import Derived.Test.YtfaaclppkhkmpaaGreatDoorRl
namespace Go.Proofs.YtfaaclppkhkmpaaGreatDoor
open Go.RowKit Go.Shelf
set_option linter.unusedVariables false

theorem utl_sub {k u : Int} {l : List RV} {v : RV} (h : v ∈ utl k u l) : v ∈ l := by
  unfold utl at h
  exact List.mem_reverse.1 ((List.dropWhile_sublist _).subset (List.mem_reverse.1 h))
theorem unh_sub' : ∀ (l acc : List RV) (v : RV), v ∈ l.foldl unhF acc → v ∈ acc ∨ v ∈ l
  | [], acc, v, h => .inl h
  | r :: t, acc, v, h => by
    rcases unh_sub' t (unhF acc r) v h with h1 | h1
    · unfold unhF at h1
      split at h1
      · exact .inl h1
      · rcases List.mem_append.1 h1 with h2 | h2
        · exact .inl h2
        · rw [List.mem_singleton] at h2; subst h2; exact .inr (List.mem_cons_self ..)
    · exact .inr (List.mem_cons_of_mem _ h1)
theorem unh_sub {l : List RV} {v : RV} (h : v ∈ unh l) : v ∈ l := (unh_sub' l [] v h).elim (fun h => by cases h) id
theorem nP_sub {k u : Int} {l : List RV} {v : RV} (h : v ∈ nP k u l) : ∃ r ∈ l, nR r = some v := by
  unfold nP at h
  obtain ⟨s, _, h⟩ := List.mem_flatMap.1 h
  have h2 := unh_sub (utl_sub h)
  exact List.mem_filterMap.1 (List.mem_filter.1 h2).1
theorem policyN_any (k u : Int) (x : Bool) (A : Option Addr) (l : List RL) (c : Nat) (w : World) (hl : RlL w A l) (hn : l.length ≤ 1000) (h12 : ∀ e ∈ l, e.n ≤ 100000) :
    Calls Tryz.prog 8 #[.agg (polA k u x A l.length c)] w fun e w' => ∃ (A' : Option Addr) (c' : Nat) (ls : List RL) (k' u' : Int) (x' : Bool) (er : Int), e = .returned (.tuple #[.agg (polA k' u' x' A' ls.length c'), .int .i64 er]) ∧ RowL w' w.heap.size A' ls c' ∧ Below w.heap.size w w' ∧
      ls.length ≤ 1000000 ∧ (∀ e ∈ ls, e.n ≤ 6) ∧
      ((rightV k u (l.map RL.val) = true ∧ er = 0 ∧ k' = k ∧ u' = u ∧ x' = x ∧ ls.map RL.val = nP k u (l.map RL.val)) ∨ (rightV k u (l.map RL.val) = false ∧ er = 13 ∧ k' = 0 ∧ u' = 0 ∧ x' = false ∧ ls = [])) := by
  rcases hr : rightV k u (l.map RL.val) with _ | _
  · refine (policyN_no k u x A l c w hl hn h12 hr).mono ?_
    rintro e w' ⟨rfl, hB⟩
    exact ⟨none, 0, [], 0, 0, false, 13, rfl, RowL.nil_ _ _, hB, by simp, (fun e h => by cases h), .inr ⟨rfl, rfl, rfl, rfl, rfl, rfl⟩⟩
  · refine (policyN_ok k u x A l c w hl hr).mono ?_
    rintro e w' ⟨A', c', ls, rfl, hrow, hval, hlen, hB⟩
    refine ⟨A', c', ls, k, u, x, 0, rfl, hrow, hB, hlen, fun e he => ?_, .inl ⟨rfl, rfl, rfl, rfl, rfl, hval⟩⟩
    have h1 : e.val ∈ nP k u (l.map RL.val) := by rw [← hval]; exact List.mem_map.2 ⟨e, he, rfl⟩
    obtain ⟨r, hr', hn'⟩ := nP_sub h1
    have h2 := nR_len hn'
    have h3 : e.val.L.length = e.n := by simp [RL.val]
    unfold rightV at hr
    simp only [Bool.and_eq_true, decide_eq_true_eq, List.length_map, List.all_eq_true] at hr
    have h4 := hr.2.2 r hr'
    unfold mayV at h4
    simp only [Bool.and_eq_true, decide_eq_true_eq, List.all_eq_true] at h4
    have := h4.2.2.1
    omega
end Go.Proofs.YtfaaclppkhkmpaaGreatDoor
