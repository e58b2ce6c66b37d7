/-
  Layer 21: items behind the end lead to nothing.
-/
import Derived.Test.YtlghbkkjpjhelaaAs16
namespace Go.Proofs.Ytlghbkkjpjhelaa
open Go.RowKit Go.Shelf
set_option linter.unusedVariables false

theorem rSt_stop (l : List IT) (x : IT) (h : ik x = 14 ∨ ik x = 15) (hm : x.m = 0) : (rSt (l ++ [x])).1 0 = false := by
  rw [rSt_snoc]
  unfold rStep
  split
  · show ledS (rSt l).1 x 0 = false
    unfold ledS leadsI
    rw [if_pos h]
    simp
  · rename_i hn
    rw [hm] at hn
    simpa using hn
theorem rSt_dead (l : List IT) (h0 : (rSt l).1 0 = false) : ∀ (D : List IT), (∀ y ∈ D, y.m = 0) → (rSt (l ++ D)).2 = (rSt l).2 ∧ (rSt (l ++ D)).1 0 = false := fun D => by
  induction D using snocInd with
  | nil => intro _; rw [List.append_nil]; exact ⟨rfl, h0⟩
  | snoc D y ih =>
    intro h
    obtain ⟨h1, h2⟩ := ih fun z hz => h z (List.mem_append.2 (.inl hz))
    rw [← List.append_assoc, rSt_snoc]
    unfold rStep
    rw [h y (by simp), h2]
    exact ⟨h1, h2⟩
theorem last_split {l : List IT} (hne : l ≠ []) : ∃ l' , l = l' ++ [l[l.length - 1]!] := by
  refine ⟨l.dropLast, ?_⟩
  have h1 := List.dropLast_concat_getLast hne
  have hpos : 0 < l.length := List.length_pos_iff.2 hne
  rw [getElem!_pos l _ (by omega), ← List.getLast_eq_getElem hne]
  exact h1.symm
theorem formed_last {l : List IT} (hF : FormedI l) : l[l.length - 1]!.m = 0 := by
  obtain ⟨h1, _, h3, h4⟩ := hF
  have hpos : 0 < l.length := List.length_pos_iff.2 h3
  by_cases h : l[l.length - 1]!.m = 0
  · exact h
  · have hc := (h1 _ (by omega) h).2.2.1
    unfold ik at h4
    rw [hc] at h4
    have e : (ofF ((0 : Nat) : Int)).1 = 2 := by kernel_rfl
    rw [e] at h4
    rcases h4 with h4 | h4 <;> cases h4
theorem prog_dead {l D : List IT} (hF : FormedI l) (hD : ∀ y ∈ D, y.m = 0) : progI (l ++ D) = progI l := by
  obtain ⟨l', he⟩ := last_split hF.2.2.1
  have h0 : (rSt l).1 0 = false := by
    rw [he]
    exact rSt_stop l' _ hF.2.2.2 (formed_last hF)
  unfold progI rchI
  rw [(rSt_dead l h0 D hD).1]
def deadOk (y : IT) : Prop := y.m = 0 ∧ y.t = 0 ∧ y.f = 0 ∧ (ofF y.c).2.2 = true ∧ mayN y = true
abbrev r6 : IT := ⟨0, 6, 0, 0, 0⟩
theorem r6_dead : deadOk r6 := ⟨rfl, rfl, rfl, by kernel_rfl, by kernel_rfl⟩
theorem r6_ret : ik r6 = 14 := by kernel_rfl
theorem formed_dead {l D : List IT} (hF : FormedI l) (hD : ∀ y ∈ D, deadOk y) : FormedI (l ++ (D ++ [r6])) := by
  have hall : ∀ y ∈ D ++ [r6], deadOk y := fun y hy => by
    rcases List.mem_append.1 hy with h | h
    · exact hD y h
    · rw [List.mem_singleton.1 h]; exact r6_dead
  generalize hE : D ++ [r6] = E at hall
  have hEl : E ≠ [] := by rw [← hE]; simp
  have hlen : (l ++ E).length = l.length + E.length := List.length_append
  have h1 : ∀ i, i < l.length → (l ++ E)[i]! = l[i]! := fun i hi => by
    rw [getElem!_pos _ _ (by omega), getElem!_pos l i hi, List.getElem_append_left hi]
  have h2 : ∀ i, ¬ i < l.length → i < (l ++ E).length → deadOk (l ++ E)[i]! := fun i hi hi2 => by
    rw [getElem!_pos (l ++ E) i hi2, List.getElem_append_right (by omega)]
    exact hall _ (List.getElem_mem _)
  refine ⟨fun i hi h => ?_, fun i hi => ?_, by simp [hEl], ?_⟩
  · by_cases hc : i < l.length
    · unfold MarkOk at *
      rw [h1 i hc] at h ⊢
      obtain ⟨q1, q2⟩ := hF.1 i hc h
      exact ⟨fun j hj => by rw [h1 j (by omega)]; exact q1 j hj, q2⟩
    · exact absurd (h2 i hc hi).1 h
  · have hbe : ∀ i tq, i < l.length → BehindI l i tq → BehindI (l ++ E) i tq := fun i tq hi hb => by
      rcases hb with hb | ⟨j, q1, q2, q3⟩
      · exact .inl hb
      · exact .inr ⟨j, q1, by omega, by rw [h1 j q2]; exact q3⟩
    unfold ItemOk
    by_cases hc : i < l.length
    · rw [h1 i hc]
      obtain ⟨q1, q2, q3, q4⟩ := hF.2.1 i hc
      exact ⟨q1, q2, hbe i _ hc q3, hbe i _ hc q4⟩
    · obtain ⟨q1, q2, q3, q4, q5⟩ := h2 i hc hi
      exact ⟨q4, q5, .inl q2, .inl q3⟩
  · left
    have : (l ++ E)[(l ++ E).length - 1]! = r6 := by
      rw [← hE, ← List.append_assoc]
      rw [getElem!_pos _ _ (by simp), ← List.getLast_eq_getElem (by simp)]
      simp
    rw [this]
    exact r6_ret
/-- An item is told to be formed ahead of a return. -/
theorem dead_of {x : IT} (h : FormedI [⟨0, x.c, x.k, 0, 0⟩, r6]) : deadOk ⟨0, x.c, x.k, 0, 0⟩ := by
  obtain ⟨q1, q2, _, _⟩ := h.2.1 0 (by simp)
  exact ⟨rfl, rfl, rfl, q1, q2⟩
theorem two_cel (w : World) (x : IT) (E : TypeId) : Cel (w.alloc (.cells #[.int .i64 0, .int .u16 x.c, .int .u32 x.k, .int .i64 0, .int .i64 0, .int .i64 0, .int .u16 6, .int .u32 0, .int .i64 0, .int .i64 0] E)) (w.heap.size + 1) 5 (some ⟨w.heap.size, 0, none⟩) 2 2 (itcell fun i => ([⟨0, x.c, x.k, 0, 0⟩, r6] : List IT)[i]!) :=
  Cel.mk_ (Nat.lt_succ_self _) (Nat.le_refl _) (by decide) fun i hi => by
    have hi' : i < 10 := by omega
    rw [Nat.zero_add, cell_of_row _ _ _ _ _ _ (heap_alloc_last w _)]
    match i, hi' with
    | 0, _ | 1, _ | 2, _ | 3, _ | 4, _ | 5, _ | 6, _ | 7, _ | 8, _ | 9, _ => rfl
    | i + 10, h => omega
theorem it_snoc (L : List IT) (x : IT) : ∀ i, i < (L.length + 1) * 5 → catC (L.length * 5) (itcell fun i => L[i]!) (itcell fun _ => x) i = itcell (fun i => (L ++ [x])[i]!) i := fun i hi => by
  unfold catC itcell
  split
  · have h : (L ++ [x])[i / 5]! = L[i / 5]! := by rw [getElem!_pos L (i / 5) (by omega), getElem!_pos (L ++ [x]) (i / 5) (by simp; omega), List.getElem_append_left (by omega)]
    simp only [h]
  · have h1 : i / 5 = L.length := by omega
    have h : (L ++ [x])[i / 5]! = x := by rw [h1]; simp
    have h2 : (i - L.length * 5) % 5 = i % 5 := by omega
    simp only [h, h2]
end Go.Proofs.Ytlghbkkjpjhelaa
