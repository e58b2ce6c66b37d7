/-
  Conditions turned round, with one more: what Check tells is the same (for the law ValidTurned).
-/
import Derived.Test.YtccklmleaffgiaaGreatDoorCmp
import Derived.Test.YtccklmleaffgiaaGreatDoorCop
import Derived.Test.YtccklmleaffgiaaGreatDoorP7
namespace Go.Proofs.YtccklmleaffgiaaGreatDoor
open Go.RowKit Go.Shelf
set_option linter.unusedVariables false

/-- A rule's conditions the other way round, and the first of them once more where they are not too many. -/
def turnL (l : List CD) : List CD := if 0 < l.length ∧ l.length < 6 then l.reverse ++ l.reverse.take 1 else l.reverse
theorem mem_turnL {l : List CD} {c : CD} : c ∈ turnL l ↔ c ∈ l := by
  unfold turnL
  split
  · rw [List.mem_append, List.mem_reverse]
    exact ⟨fun h => h.elim id fun h => List.mem_reverse.1 (List.mem_of_mem_take h), .inl⟩
  · exact List.mem_reverse
theorem len_turnL (l : List CD) : (turnL l).length ≤ 6 ↔ l.length ≤ 6 := by
  unfold turnL
  split
  · rw [List.length_append, List.length_take, List.length_reverse]
    omega
  · rw [List.length_reverse]
def turnV (r : RV) : RV := ⟨r.nm, r.k, r.u, turnL r.L⟩
theorem all_turnL (p : CD → Bool) (l : List CD) : (turnL l).all p = l.all p := by
  rw [Bool.eq_iff_iff, List.all_eq_true, List.all_eq_true]
  exact ⟨fun h c hc => h c (mem_turnL.2 hc), fun h c hc => h c (mem_turnL.1 hc)⟩
theorem any_turnL (p : CD → Bool) (l : List CD) : (turnL l).any p = l.any p := by
  rw [Bool.eq_iff_iff, List.any_eq_true, List.any_eq_true]
  exact ⟨fun ⟨c, hc, h⟩ => ⟨c, mem_turnL.1 hc, h⟩, fun ⟨c, hc, h⟩ => ⟨c, mem_turnL.2 hc, h⟩⟩
theorem may_turn (r : RV) : mayV (turnV r) = mayV r := by
  unfold mayV turnV
  simp only
  rw [all_turnL, show decide ((turnL r.L).length ≤ 6) = decide (r.L.length ≤ 6) from decide_eq_decide.2 (len_turnL r.L)]
theorem right_turn (k u : Int) (L : List RV) : rightV k u (L.map turnV) = rightV k u L := by
  unfold rightV
  rw [List.length_map, List.all_map]
  congr 2
  exact congrArg (fun p => List.all L p) (funext fun r => may_turn r)
theorem reqK_turn (r : RV) : reqK (turnV r) = reqK r := by
  unfold reqK turnV
  simp only
  rw [srt_of_mem (l := r.L) (m := turnL r.L) fun c => mem_turnL]
theorem vc_turn {T : Nat → SR} {tn : Nat} : ∀ {L : List RV} {S : List Value} {i a f : Nat}, VC T tn S i L a f → VC T tn S i (L.map turnV) a f
  | [], S, i, a, f, h => h
  | r :: L, S, i, a, f, h => by
    rw [List.map_cons]
    cases h with
    | name _ _ _ _ g => exact .name _ _ _ _ g
    | bes _ _ _ _ g g2 => exact .bes _ _ _ _ g (by rw [show (turnV r).L = turnL r.L from rfl, any_turnL]; exact g2)
    | twice _ _ _ _ g g2 g3 => exact .twice _ _ _ _ g (by rw [show (turnV r).L = turnL r.L from rfl, any_turnL]; exact g2) (by rw [reqK_turn]; exact g3)
    | go _ _ _ _ _ _ g g2 g3 g4 => exact .go _ _ _ _ _ _ g (by rw [show (turnV r).L = turnL r.L from rfl, any_turnL]; exact g2) (by rw [reqK_turn]; exact g3) (by rw [reqK_turn]; exact vc_turn g4)
/-- Check tells the same of rules turned. -/
theorem chk_turn {k u : Int} {L : List RV} {T : Nat → SR} {tn a f a' f' : Nat} (h : ChkP k u L T tn a f) (h' : ChkP k u (L.map turnV) T tn a' f') : a = a' ∧ f = f' := by
  have h1 : ChkP k u (L.map turnV) T tn a f := by
    rcases h with ⟨g, g2⟩ | ⟨g, g2⟩
    · exact .inl ⟨(right_turn k u L).trans g, g2⟩
    · refine .inr ⟨(right_turn k u L).trans g, ?_⟩
      rcases g2 with g2 | ⟨g3, g4⟩
      · exact .inl g2
      · exact .inr ⟨g3, vc_turn g4⟩
  exact chk_alike h1 h'.doc
/-- Rules with other conditions of one of them. -/
theorem RlL.setConds {w : World} {b o j : Nat} {l : List RL} (h : RlL w (some ⟨b, o, none⟩) l) (hj : j < l.length) (hty : TyAt w b 50) (A5 : Option Addr) (p c5 : Nat) (C5 : Nat → CD) (h1 : p ≤ c5) (h2 : c5 ≤ maxLen) (hC : ConT w A5 p C5) :
    RlL (w.setCell ⟨b, o + j * 4 + 3, none⟩ (.slice A5 p c5)) (some ⟨b, o, none⟩) (l.set j { l[j] with A := A5, n := p, c := c5, C := C5 }) := by
  refine ⟨.inr ?_, fun r hr => ?_⟩
  · rcases h.1 with h0 | ⟨b', o', e, hb, hc⟩
    · rw [h0] at hj; exact absurd hj (Nat.not_lt_zero _)
    · injection e with e
      injection e with e1 e2
      subst e1 e2
      refine ⟨b, o, rfl, ?_, fun i hi => ?_⟩
      · exact Nat.lt_of_lt_of_le hb ((Below.refl 0 w).setCell (p := ⟨b, o + j * 4 + 3, none⟩) (Nat.zero_le _) _).size
      · rw [List.length_set] at hi
        obtain ⟨h0, h1, h2, h3⟩ := hc i hi
        have ne : ∀ q, q ≠ o + j * 4 + 3 → (w.setCell ⟨b, o + j * 4 + 3, none⟩ (.slice A5 p c5)).cell? ⟨b, q, none⟩ = w.cell? ⟨b, q, none⟩ := fun q q1 => World.cell?_setCell_other _ _ _ _ (fun e => q1 (congrArg Addr.off e).symm)
        by_cases hij : i = j
        · subst hij
          rw [getElem!_pos _ i (by rw [List.length_set]; exact hi), List.getElem_set_self]
          rw [getElem!_pos _ i hi] at h0 h1 h2
          exact ⟨(ne _ (by omega)).trans h0, (ne _ (by omega)).trans h1, (ne _ (by omega)).trans h2, World.cell?_setCell_same _ _ _ h3⟩
        · have e : (l.set j { l[j] with A := A5, n := p, c := c5, C := C5 })[i]! = l[i]! := by
            rw [getElem!_pos _ i (by rw [List.length_set]; exact hi), getElem!_pos _ i hi, List.getElem_set_ne (fun e => hij e.symm)]
          rw [e]
          exact ⟨(ne _ (by omega)).trans h0, (ne _ (by omega)).trans h1, (ne _ (by omega)).trans h2, (ne _ (by omega)).trans h3⟩
  · have hkc : KeepC w (w.setCell ⟨b, o + j * 4 + 3, none⟩ (.slice A5 p c5)) := (KeepC.refl w).set hty (by decide) _ _
    rcases List.mem_or_eq_of_mem_set hr with hr | rfl
    · exact (h.2 r hr).keep hkc
    · have h3 := h.2 _ (List.getElem_mem hj)
      exact ⟨h3.1, h3.2.1, h3.2.2.1, h1, h2, hC.keep hkc⟩
/-- The conditions turned, as they are read one after the other. -/
theorem turnL_eq (C : Nat → CD) (n : Nat) (h : 0 < n ∧ n < 6) : turnL ((List.range n).map C) = (List.range (n + 1)).map fun i => if i < n then C (n - 1 - i) else C (n - 1) := by
  unfold turnL
  rw [if_pos (by simpa using h)]
  apply List.ext_getElem
  · simp; omega
  · intro i h1 h2
    simp at h1 h2
    by_cases hi : i < n
    · rw [List.getElem_append_left (by simpa using hi)]
      simp [hi]
    · have : i = n := by omega
      subst this
      rw [List.getElem_append_right (by simp)]
      simp
theorem turnL_eq' (C : Nat → CD) (n : Nat) (h : ¬ (0 < n ∧ n < 6)) : turnL ((List.range n).map C) = (List.range n).map fun i => C (n - 1 - i) := by
  unfold turnL
  rw [if_neg (by simpa using h)]
  apply List.ext_getElem
  · simp
  · intro i h1 h2
    simp
end Go.Proofs.YtccklmleaffgiaaGreatDoor
