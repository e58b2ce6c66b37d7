/-
  Layer 21, pure: which items the document's answer tells to be reached, and how many instructions a program has that leads nowhere far.
-/
import Derived.Test.YtlghbkkjpjhelaaAs17
namespace Go.Proofs.Ytlghbkkjpjhelaa
open Go.RowKit Go.Shelf
set_option linter.unusedVariables false

/-- The first place from i on that is no mark. -/
def Beh (l : List IT) (i p : Nat) : Prop := i ≤ p ∧ (∀ j, i ≤ j → j < p → l[j]!.m ≠ 0) ∧ (p = l.length ∨ (p < l.length ∧ l[p]!.m = 0))
theorem Beh.uniq {l : List IT} {i p q : Nat} (h : Beh l i p) (k : Beh l i q) : p = q := by
  obtain ⟨h1, h2, h3⟩ := h
  obtain ⟨k1, k2, k3⟩ := k
  rcases Nat.lt_trichotomy p q with e | e | e
  · rcases h3 with h3 | ⟨_, h3⟩
    · rcases k3 with k3 | ⟨k3, _⟩ <;> omega
    · exact absurd h3 (k2 p h1 e)
  · exact e
  · rcases k3 with k3 | ⟨_, k3⟩
    · rcases h3 with h3 | ⟨h3, _⟩ <;> omega
    · exact absurd k3 (h2 q k1 e)
theorem Beh.here {l : List IT} {i : Nat} (hi : i < l.length) (hm : l[i]!.m = 0) : Beh l i i := ⟨Nat.le_refl _, fun j h1 h2 => by omega, .inr ⟨hi, hm⟩⟩
theorem Beh.of_plain {l : List IT} {i p : Nat} (h : Beh l i p) (hi : i < l.length) (hm : l[i]!.m = 0) : p = i := h.uniq (Beh.here hi hm)
theorem Beh.step {l : List IT} {i p : Nat} (hm : l[i]!.m ≠ 0) (hp : i + 1 ≤ p) : Beh l i p ↔ Beh l (i + 1) p := by
  constructor
  · rintro ⟨h1, h2, h3⟩
    exact ⟨hp, fun j q1 q2 => h2 j (by omega) q2, h3⟩
  · rintro ⟨h1, h2, h3⟩
    refine ⟨by omega, fun j q1 q2 => ?_, h3⟩
    by_cases e : j = i
    · rw [e]; exact hm
    · exact h2 j (by omega) q2
/-- What leads to a place, of the marks in S. -/
def Src (l : List IT) (S : Int → Bool) (i p : Nat) : Prop := (S 0 = true ∧ Beh l i p) ∨ ∃ q, i ≤ q ∧ q < l.length ∧ l[q]!.m ≠ 0 ∧ S l[q]!.m = true ∧ Beh l q p
/-- Where a mark leads to (0: the next one). -/
def Tgt (l : List IT) (i : Nat) (k : Int) (p : Nat) : Prop := (k = 0 ∧ Beh l i p) ∨ (k ≠ 0 ∧ ∃ q, i ≤ q ∧ q < l.length ∧ l[q]!.m = k ∧ Beh l q p)
def sOf (l : List IT) (i : Nat) : Int → Bool := (rSt (l.take i)).1
theorem sOf_succ {l : List IT} {i : Nat} (hi : i < l.length) : sOf l (i + 1) = if (sOf l i 0 || sOf l i l[i]!.m) = true then ledS (sOf l i) l[i]! else sOf l i := by
  unfold sOf
  rw [take_snoc l i hi, rSt_snoc]
  unfold rStep
  split <;> rfl
theorem ledS_true (S : Int → Bool) (x : IT) (k : Int) : ledS S x k = true ↔ (k ≠ 0 ∧ S k = true) ∨ k ∈ leadsI x := by
  unfold ledS
  simp [List.contains_eq_mem]
theorem src_led {l : List IT} {S : Int → Bool} {x : IT} {i p : Nat} : Src l (ledS S x) i p ↔ (∃ q, i ≤ q ∧ q < l.length ∧ l[q]!.m ≠ 0 ∧ S l[q]!.m = true ∧ Beh l q p) ∨ ∃ k ∈ leadsI x, Tgt l i k p := by
  unfold Src
  constructor
  · rintro (⟨h1, h2⟩ | ⟨q, h1, h2, h3, h4, h5⟩)
    · rcases (ledS_true S x 0).1 h1 with ⟨h, _⟩ | h
      · exact absurd rfl h
      · exact .inr ⟨0, h, .inl ⟨rfl, h2⟩⟩
    · rcases (ledS_true S x _).1 h4 with ⟨_, h⟩ | h
      · exact .inl ⟨q, h1, h2, h3, h, h5⟩
      · exact .inr ⟨_, h, .inr ⟨h3, q, h1, h2, rfl, h5⟩⟩
  · rintro (⟨q, h1, h2, h3, h4, h5⟩ | ⟨k, hk, (⟨rfl, h⟩ | ⟨h0, q, h1, h2, h3, h5⟩)⟩)
    · exact .inr ⟨q, h1, h2, h3, (ledS_true S x _).2 (.inl ⟨h3, h4⟩), h5⟩
    · exact .inl ⟨(ledS_true S x 0).2 (.inr hk), h⟩
    · exact .inr ⟨q, h1, h2, by rw [h3]; exact h0, (ledS_true S x _).2 (.inr (by rw [h3]; exact hk)), h5⟩
theorem src_zero (l : List IT) (p : Nat) : Src l (sOf l 0) 0 p ↔ Beh l 0 p := by
  unfold Src
  constructor
  · rintro (⟨_, h⟩ | ⟨q, _, _, h3, h4, _⟩)
    · exact h
    · have : (decide (l[q]!.m = 0)) = true := h4
      exact absurd (by simpa using this) h3
  · exact fun h => .inl ⟨rfl, h⟩
theorem leads_mark {x : IT} (h : x.c = 0) : leadsI x = [0] := by
  have e : ik x = 2 := by
    unfold ik
    rw [h]
    kernel_rfl
  unfold leadsI
  rw [e]
  rfl
/-- A mark's round turns nothing behind it. -/
theorem src_mark {l : List IT} (hF : FormedI l) {i p : Nat} (hi : i < l.length) (hm : l[i]!.m ≠ 0) (hp : i + 1 ≤ p) : Src l (sOf l i) i p ↔ Src l (sOf l (i + 1)) (i + 1) p := by
  rw [sOf_succ hi]
  by_cases h : (sOf l i 0 || sOf l i l[i]!.m) = true
  · rw [if_pos h, src_led, leads_mark (hF.1 i hi hm).2.2.1]
    unfold Src
    constructor
    · rintro (⟨_, h2⟩ | ⟨q, h1, h2, h3, h4, h5⟩)
      · exact .inr ⟨0, by simp, .inl ⟨rfl, (Beh.step hm hp).1 h2⟩⟩
      · by_cases e : q = i
        · subst e
          exact .inr ⟨0, by simp, .inl ⟨rfl, (Beh.step hm hp).1 h5⟩⟩
        · exact .inl ⟨q, by omega, h2, h3, h4, h5⟩
    · rintro (⟨q, h1, h2, h3, h4, h5⟩ | ⟨k, hk, (⟨rfl, h2⟩ | ⟨h0, _⟩)⟩)
      · exact .inr ⟨q, by omega, h2, h3, h4, h5⟩
      · rw [Bool.or_eq_true] at h
        rcases h with h | h
        · exact .inl ⟨h, (Beh.step hm hp).2 h2⟩
        · exact .inr ⟨i, Nat.le_refl _, hi, hm, h, (Beh.step hm hp).2 h2⟩
      · exact absurd (by simpa using hk) h0
  · rw [if_neg h]
    simp only [Bool.or_eq_true, not_or, Bool.not_eq_true] at h
    unfold Src
    constructor
    · rintro (⟨h1, _⟩ | ⟨q, h1, h2, h3, h4, h5⟩)
      · rw [h.1] at h1; cases h1
      · by_cases e : q = i
        · subst e
          rw [h.2] at h4; cases h4
        · exact .inr ⟨q, by omega, h2, h3, h4, h5⟩
    · rintro (⟨h1, _⟩ | ⟨q, h1, h2, h3, h4, h5⟩)
      · rw [h.1] at h1; cases h1
      · exact .inr ⟨q, by omega, h2, h3, h4, h5⟩
/-- At an instruction's own place. -/
theorem src_here {l : List IT} {S : Int → Bool} {i : Nat} (hi : i < l.length) (hm : l[i]!.m = 0) : Src l S i i ↔ S 0 = true := by
  unfold Src
  constructor
  · rintro (⟨h, _⟩ | ⟨q, h1, _, h3, _, h5⟩)
    · exact h
    · have : q = i := by have := h5.1; omega
      subst this
      exact absurd hm h3
  · exact fun h => .inl ⟨h, Beh.here hi hm⟩
/-- An instruction that no way leads to turns nothing. -/
theorem src_skip {l : List IT} {i p : Nat} (hi : i < l.length) (hm : l[i]!.m = 0) (h0 : sOf l i 0 = false) (hp : i + 1 ≤ p) : Src l (sOf l i) i p ↔ Src l (sOf l (i + 1)) (i + 1) p := by
  rw [sOf_succ hi, if_neg (by rw [hm, h0]; decide)]
  unfold Src
  constructor
  · rintro (⟨h1, _⟩ | ⟨q, h1, h2, h3, h4, h5⟩)
    · rw [h0] at h1; cases h1
    · by_cases e : q = i
      · subst e; exact absurd hm h3
      · exact .inr ⟨q, by omega, h2, h3, h4, h5⟩
  · rintro (⟨h1, _⟩ | ⟨q, h1, h2, h3, h4, h5⟩)
    · rw [h0] at h1; cases h1
    · exact .inr ⟨q, by omega, h2, h3, h4, h5⟩
/-- One that some way leads to adds where it leads. -/
theorem src_add {l : List IT} {i p : Nat} (hi : i < l.length) (hm : l[i]!.m = 0) (h0 : sOf l i 0 = true) (hp : i + 1 ≤ p) : Src l (sOf l (i + 1)) (i + 1) p ↔ Src l (sOf l i) i p ∨ ∃ k ∈ leadsI l[i]!, Tgt l (i + 1) k p := by
  rw [sOf_succ hi, if_pos (by rw [hm, h0]; decide), src_led]
  refine or_congr ?_ Iff.rfl
  unfold Src
  constructor
  · rintro ⟨q, h1, h2, h3, h4, h5⟩
    exact .inr ⟨q, by omega, h2, h3, h4, h5⟩
  · rintro (⟨_, h2⟩ | ⟨q, h1, h2, h3, h4, h5⟩)
    · have := h2.of_plain hi hm
      omega
    · by_cases e : q = i
      · subst e; exact absurd hm h3
      · exact ⟨q, by omega, h2, h3, h4, h5⟩

/-! ### how many -/
def cntR (l : List IT) (i : Nat) : Nat := ((rSt (l.take i)).2.filter fun x => decide (x.m = 0)).length
theorem cntR_succ {l : List IT} {i : Nat} (hi : i < l.length) : cntR l (i + 1) = cntR l i + (if l[i]!.m = 0 ∧ sOf l i 0 = true then 1 else 0) := by
  unfold cntR sOf
  rw [take_snoc l i hi, rSt_snoc]
  generalize l[i]! = x
  generalize rSt (l.take i) = st
  unfold rStep
  by_cases hm : x.m = 0
  · have h1 : (List.filter (fun x : IT => decide (x.m = 0)) [x]).length = 1 := by simp [hm]
    cases h0 : st.1 0 with
    | true =>
      rw [if_pos (by simp), if_pos ⟨hm, rfl⟩]
      show (List.filter _ (st.2 ++ [x])).length = _
      rw [List.filter_append, List.length_append, h1]
    | false =>
      rw [if_neg (by rw [hm, h0]; decide), if_neg (fun h => by cases h.2)]
      rfl
  · have h1 : (List.filter (fun x : IT => decide (x.m = 0)) [x]).length = 0 := by simp [hm]
    have e2 : (if x.m = 0 ∧ st.1 0 = true then 1 else 0) = 0 := if_neg fun h => hm h.1
    rw [e2]
    split
    · show (List.filter _ (st.2 ++ [x])).length = _
      rw [List.filter_append, List.length_append, h1]
    · rfl
theorem pSt_near : ∀ (L : List IT), L.length ≤ 255 → (pSt L).1.length = (L.filter fun x => decide (x.m = 0)).length := fun L => by
  induction L using snocInd with
  | nil => intro _; rfl
  | snoc L x ih =>
    intro hl
    rw [List.length_append] at hl
    simp only [List.length_cons, List.length_nil] at hl
    have ihv := ih (by omega)
    have hf := List.length_filter_le (fun x : IT => decide (x.m = 0)) L
    have ft := farN_le (pSt L).1 (pSt L).2 x.t
    have ff := farN_le (pSt L).1 (pSt L).2 x.f
    rw [pSt_snoc, List.filter_append, List.length_append]
    unfold pStep
    by_cases hm : x.m = 0
    · rw [if_neg (fun h => h hm)]
      have h1 : (List.filter (fun x : IT => decide (x.m = 0)) [x]).length = 1 := by simp [hm]
      rw [h1]
      split
      · rw [List.length_append, ihv]; rfl
      · rw [if_neg (by omega), List.length_append, ihv]; rfl
    · rw [if_pos hm]
      have h1 : (List.filter (fun x : IT => decide (x.m = 0)) [x]).length = 0 := by simp [hm]
      rw [h1]
      exact ihv
theorem prog_near (l : List IT) (h : l.length ≤ 255) : (progI l).length = cntR l l.length := by
  unfold progI cntR
  have h2 : (rchI l).length ≤ l.length := rSt_len l
  rw [List.length_reverse, pSt_near _ (by rw [List.length_reverse]; omega), List.filter_reverse, List.length_reverse, List.take_length]
  rfl
end Go.Proofs.Ytlghbkkjpjhelaa
