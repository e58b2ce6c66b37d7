/-
  Layer 21: items behind the end lead to nothing.
-/
import Derived.Test.YtiofgaadfbjnoaaAs16
import Derived.Test.YtiofgaadfbjnoaaVa
namespace Go.Proofs.Ytiofgaadfbjnoaa
open Go.RowKit Go.Shelf
set_option linter.unusedVariables false

theorem rSt_stop (l : List IT) (x : IT) (h : ik x = 14 ∨ ik x = 15) (hm : x.m = 0) : (rSt (l ++ [x])).1 0 = false := by
  rw [rSt_snoc]
  unfold rStep
  split
  · show ledS (rSt l).1 x 0 = false
    unfold ledS leadsI
    rw [if_pos h]
    simp
  · rename_i hn
    rw [hm] at hn
    simpa using hn
theorem rSt_dead (l : List IT) (h0 : (rSt l).1 0 = false) : ∀ (D : List IT), (∀ y ∈ D, y.m = 0) → (rSt (l ++ D)).2 = (rSt l).2 ∧ (rSt (l ++ D)).1 0 = false := fun D => by
  induction D using snocInd with
  | nil => intro _; rw [List.append_nil]; exact ⟨rfl, h0⟩
  | snoc D y ih =>
    intro h
    obtain ⟨h1, h2⟩ := ih fun z hz => h z (List.mem_append.2 (.inl hz))
    rw [← List.append_assoc, rSt_snoc]
    unfold rStep
    rw [h y (by simp), h2]
    exact ⟨h1, h2⟩
theorem last_split {l : List IT} (hne : l ≠ []) : ∃ l' , l = l' ++ [l[l.length - 1]!] := by
  refine ⟨l.dropLast, ?_⟩
  have h1 := List.dropLast_concat_getLast hne
  have hpos : 0 < l.length := List.length_pos_iff.2 hne
  rw [getElem!_pos l _ (by omega), ← List.getLast_eq_getElem hne]
  exact h1.symm
theorem formed_last {l : List IT} (hF : FormedI l) : l[l.length - 1]!.m = 0 := by
  obtain ⟨h1, _, h3, h4⟩ := hF
  have hpos : 0 < l.length := List.length_pos_iff.2 h3
  by_cases h : l[l.length - 1]!.m = 0
  · exact h
  · have hc := (h1 _ (by omega) h).2.2.1
    unfold ik at h4
    rw [hc] at h4
    have e : (ofF ((0 : Nat) : Int)).1 = 2 := by kernel_rfl
    rw [e] at h4
    rcases h4 with h4 | h4 <;> cases h4
theorem prog_dead {l D : List IT} (hF : FormedI l) (hD : ∀ y ∈ D, y.m = 0) : progI (l ++ D) = progI l := by
  obtain ⟨l', he⟩ := last_split hF.2.2.1
  have h0 : (rSt l).1 0 = false := by
    rw [he]
    exact rSt_stop l' _ hF.2.2.2 (formed_last hF)
  unfold progI rchI
  rw [(rSt_dead l h0 D hD).1]
def deadOk (y : IT) : Prop := y.m = 0 ∧ y.t = 0 ∧ y.f = 0 ∧ (ofF y.c).2.2 = true ∧ mayN y = true
abbrev r6 : IT := ⟨0, 6, 0, 0, 0⟩
theorem r6_dead : deadOk r6 := ⟨rfl, rfl, rfl, by kernel_rfl, by kernel_rfl⟩
theorem r6_ret : ik r6 = 14 := by kernel_rfl
theorem formed_dead {l D : List IT} (hF : FormedI l) (hD : ∀ y ∈ D, deadOk y) : FormedI (l ++ (D ++ [r6])) := by
  have hall : ∀ y ∈ D ++ [r6], deadOk y := fun y hy => by
    rcases List.mem_append.1 hy with h | h
    · exact hD y h
    · rw [List.mem_singleton.1 h]; exact r6_dead
  generalize hE : D ++ [r6] = E at hall
  have hEl : E ≠ [] := by rw [← hE]; simp
  have hlen : (l ++ E).length = l.length + E.length := List.length_append
  have h1 : ∀ i, i < l.length → (l ++ E)[i]! = l[i]! := fun i hi => by
    rw [getElem!_pos _ _ (by omega), getElem!_pos l i hi, List.getElem_append_left hi]
  have h2 : ∀ i, ¬ i < l.length → i < (l ++ E).length → deadOk (l ++ E)[i]! := fun i hi hi2 => by
    rw [getElem!_pos (l ++ E) i hi2, List.getElem_append_right (by omega)]
    exact hall _ (List.getElem_mem _)
  refine ⟨fun i hi h => ?_, fun i hi => ?_, by simp [hEl], ?_⟩
  · by_cases hc : i < l.length
    · unfold MarkOk at *
      rw [h1 i hc] at h ⊢
      obtain ⟨q1, q2⟩ := hF.1 i hc h
      exact ⟨fun j hj => by rw [h1 j (by omega)]; exact q1 j hj, q2⟩
    · exact absurd (h2 i hc hi).1 h
  · have hbe : ∀ i tq, i < l.length → BehindI l i tq → BehindI (l ++ E) i tq := fun i tq hi hb => by
      rcases hb with hb | ⟨j, q1, q2, q3⟩
      · exact .inl hb
      · exact .inr ⟨j, q1, by omega, by rw [h1 j q2]; exact q3⟩
    unfold ItemOk
    by_cases hc : i < l.length
    · rw [h1 i hc]
      obtain ⟨q1, q2, q3, q4⟩ := hF.2.1 i hc
      exact ⟨q1, q2, hbe i _ hc q3, hbe i _ hc q4⟩
    · obtain ⟨q1, q2, q3, q4, q5⟩ := h2 i hc hi
      exact ⟨q4, q5, .inl q2, .inl q3⟩
  · left
    have : (l ++ E)[(l ++ E).length - 1]! = r6 := by
      rw [← hE, ← List.append_assoc]
      rw [getElem!_pos _ _ (by simp), ← List.getLast_eq_getElem (by simp)]
      simp
    rw [this]
    exact r6_ret
/-- An item is told to be formed ahead of a return. -/
theorem dead_of {x : IT} (h : FormedI [⟨0, x.c, x.k, 0, 0⟩, r6]) : deadOk ⟨0, x.c, x.k, 0, 0⟩ := by
  obtain ⟨q1, q2, _, _⟩ := h.2.1 0 (by simp)
  exact ⟨rfl, rfl, rfl, q1, q2⟩
theorem two_cel (w : World) (x : IT) (E : TypeId) : Cel (w.alloc (.cells #[.int .i64 0, .int .u16 x.c, .int .u32 x.k, .int .i64 0, .int .i64 0, .int .i64 0, .int .u16 6, .int .u32 0, .int .i64 0, .int .i64 0] E)) (w.heap.size + 1) 5 (some ⟨w.heap.size, 0, none⟩) 2 2 (itcell fun i => ([⟨0, x.c, x.k, 0, 0⟩, r6] : List IT)[i]!) :=
  Cel.mk_ (Nat.lt_succ_self _) (Nat.le_refl _) (by decide) fun i hi => by
    have hi' : i < 10 := by omega
    rw [Nat.zero_add, cell_of_row _ _ _ _ _ _ (heap_alloc_last w _)]
    match i, hi' with
    | 0, _ | 1, _ | 2, _ | 3, _ | 4, _ | 5, _ | 6, _ | 7, _ | 8, _ | 9, _ => rfl
    | i + 10, h => omega
theorem it_snoc (L : List IT) (x : IT) : ∀ i, i < (L.length + 1) * 5 → catC (L.length * 5) (itcell fun i => L[i]!) (itcell fun _ => x) i = itcell (fun i => (L ++ [x])[i]!) i := fun i hi => by
  unfold catC itcell
  split
  · have h : (L ++ [x])[i / 5]! = L[i / 5]! := by rw [getElem!_pos L (i / 5) (by omega), getElem!_pos (L ++ [x]) (i / 5) (by simp; omega), List.getElem_append_left (by omega)]
    simp only [h]
  · have h1 : i / 5 = L.length := by omega
    have h : (L ++ [x])[i / 5]! = x := by rw [h1]; simp
    have h2 : (i - L.length * 5) % 5 = i % 5 := by omega
    simp only [h, h2]
end Go.Proofs.Ytiofgaadfbjnoaa

/-
  Layer 21, pure: which items the document's answer tells to be reached, and how many instructions a program has that leads nowhere far.
-/
namespace Go.Proofs.Ytiofgaadfbjnoaa
open Go.RowKit Go.Shelf
set_option linter.unusedVariables false

/-- The first place from i on that is no mark. -/
def Beh (l : List IT) (i p : Nat) : Prop := i ≤ p ∧ (∀ j, i ≤ j → j < p → l[j]!.m ≠ 0) ∧ (p = l.length ∨ (p < l.length ∧ l[p]!.m = 0))
theorem Beh.uniq {l : List IT} {i p q : Nat} (h : Beh l i p) (k : Beh l i q) : p = q := by
  obtain ⟨h1, h2, h3⟩ := h
  obtain ⟨k1, k2, k3⟩ := k
  rcases Nat.lt_trichotomy p q with e | e | e
  · rcases h3 with h3 | ⟨_, h3⟩
    · rcases k3 with k3 | ⟨k3, _⟩ <;> omega
    · exact absurd h3 (k2 p h1 e)
  · exact e
  · rcases k3 with k3 | ⟨_, k3⟩
    · rcases h3 with h3 | ⟨h3, _⟩ <;> omega
    · exact absurd k3 (h2 q k1 e)
theorem Beh.here {l : List IT} {i : Nat} (hi : i < l.length) (hm : l[i]!.m = 0) : Beh l i i := ⟨Nat.le_refl _, fun j h1 h2 => by omega, .inr ⟨hi, hm⟩⟩
theorem Beh.of_plain {l : List IT} {i p : Nat} (h : Beh l i p) (hi : i < l.length) (hm : l[i]!.m = 0) : p = i := h.uniq (Beh.here hi hm)
theorem Beh.step {l : List IT} {i p : Nat} (hm : l[i]!.m ≠ 0) (hp : i + 1 ≤ p) : Beh l i p ↔ Beh l (i + 1) p := by
  constructor
  · rintro ⟨h1, h2, h3⟩
    exact ⟨hp, fun j q1 q2 => h2 j (by omega) q2, h3⟩
  · rintro ⟨h1, h2, h3⟩
    refine ⟨by omega, fun j q1 q2 => ?_, h3⟩
    by_cases e : j = i
    · rw [e]; exact hm
    · exact h2 j (by omega) q2
/-- What leads to a place, of the marks in S. -/
def Src (l : List IT) (S : Int → Bool) (i p : Nat) : Prop := (S 0 = true ∧ Beh l i p) ∨ ∃ q, i ≤ q ∧ q < l.length ∧ l[q]!.m ≠ 0 ∧ S l[q]!.m = true ∧ Beh l q p
/-- Where a mark leads to (0: the next one). -/
def Tgt (l : List IT) (i : Nat) (k : Int) (p : Nat) : Prop := (k = 0 ∧ Beh l i p) ∨ (k ≠ 0 ∧ ∃ q, i ≤ q ∧ q < l.length ∧ l[q]!.m = k ∧ Beh l q p)
def sOf (l : List IT) (i : Nat) : Int → Bool := (rSt (l.take i)).1
theorem sOf_succ {l : List IT} {i : Nat} (hi : i < l.length) : sOf l (i + 1) = if (sOf l i 0 || sOf l i l[i]!.m) = true then ledS (sOf l i) l[i]! else sOf l i := by
  unfold sOf
  rw [take_snoc l i hi, rSt_snoc]
  unfold rStep
  split <;> rfl
theorem ledS_true (S : Int → Bool) (x : IT) (k : Int) : ledS S x k = true ↔ (k ≠ 0 ∧ S k = true) ∨ k ∈ leadsI x := by
  unfold ledS
  simp [List.contains_eq_mem]
theorem src_led {l : List IT} {S : Int → Bool} {x : IT} {i p : Nat} : Src l (ledS S x) i p ↔ (∃ q, i ≤ q ∧ q < l.length ∧ l[q]!.m ≠ 0 ∧ S l[q]!.m = true ∧ Beh l q p) ∨ ∃ k ∈ leadsI x, Tgt l i k p := by
  unfold Src
  constructor
  · rintro (⟨h1, h2⟩ | ⟨q, h1, h2, h3, h4, h5⟩)
    · rcases (ledS_true S x 0).1 h1 with ⟨h, _⟩ | h
      · exact absurd rfl h
      · exact .inr ⟨0, h, .inl ⟨rfl, h2⟩⟩
    · rcases (ledS_true S x _).1 h4 with ⟨_, h⟩ | h
      · exact .inl ⟨q, h1, h2, h3, h, h5⟩
      · exact .inr ⟨_, h, .inr ⟨h3, q, h1, h2, rfl, h5⟩⟩
  · rintro (⟨q, h1, h2, h3, h4, h5⟩ | ⟨k, hk, (⟨rfl, h⟩ | ⟨h0, q, h1, h2, h3, h5⟩)⟩)
    · exact .inr ⟨q, h1, h2, h3, (ledS_true S x _).2 (.inl ⟨h3, h4⟩), h5⟩
    · exact .inl ⟨(ledS_true S x 0).2 (.inr hk), h⟩
    · exact .inr ⟨q, h1, h2, by rw [h3]; exact h0, (ledS_true S x _).2 (.inr (by rw [h3]; exact hk)), h5⟩
theorem src_zero (l : List IT) (p : Nat) : Src l (sOf l 0) 0 p ↔ Beh l 0 p := by
  unfold Src
  constructor
  · rintro (⟨_, h⟩ | ⟨q, _, _, h3, h4, _⟩)
    · exact h
    · have : (decide (l[q]!.m = 0)) = true := h4
      exact absurd (by simpa using this) h3
  · exact fun h => .inl ⟨rfl, h⟩
theorem leads_mark {x : IT} (h : x.c = 0) : leadsI x = [0] := by
  have e : ik x = 2 := by
    unfold ik
    rw [h]
    kernel_rfl
  unfold leadsI
  rw [e]
  rfl
/-- A mark's round turns nothing behind it. -/
theorem src_mark {l : List IT} (hF : FormedI l) {i p : Nat} (hi : i < l.length) (hm : l[i]!.m ≠ 0) (hp : i + 1 ≤ p) : Src l (sOf l i) i p ↔ Src l (sOf l (i + 1)) (i + 1) p := by
  rw [sOf_succ hi]
  by_cases h : (sOf l i 0 || sOf l i l[i]!.m) = true
  · rw [if_pos h, src_led, leads_mark (hF.1 i hi hm).2.2.1]
    unfold Src
    constructor
    · rintro (⟨_, h2⟩ | ⟨q, h1, h2, h3, h4, h5⟩)
      · exact .inr ⟨0, by simp, .inl ⟨rfl, (Beh.step hm hp).1 h2⟩⟩
      · by_cases e : q = i
        · subst e
          exact .inr ⟨0, by simp, .inl ⟨rfl, (Beh.step hm hp).1 h5⟩⟩
        · exact .inl ⟨q, by omega, h2, h3, h4, h5⟩
    · rintro (⟨q, h1, h2, h3, h4, h5⟩ | ⟨k, hk, (⟨rfl, h2⟩ | ⟨h0, _⟩)⟩)
      · exact .inr ⟨q, by omega, h2, h3, h4, h5⟩
      · rw [Bool.or_eq_true] at h
        rcases h with h | h
        · exact .inl ⟨h, (Beh.step hm hp).2 h2⟩
        · exact .inr ⟨i, Nat.le_refl _, hi, hm, h, (Beh.step hm hp).2 h2⟩
      · exact absurd (by simpa using hk) h0
  · rw [if_neg h]
    simp only [Bool.or_eq_true, not_or, Bool.not_eq_true] at h
    unfold Src
    constructor
    · rintro (⟨h1, _⟩ | ⟨q, h1, h2, h3, h4, h5⟩)
      · rw [h.1] at h1; cases h1
      · by_cases e : q = i
        · subst e
          rw [h.2] at h4; cases h4
        · exact .inr ⟨q, by omega, h2, h3, h4, h5⟩
    · rintro (⟨h1, _⟩ | ⟨q, h1, h2, h3, h4, h5⟩)
      · rw [h.1] at h1; cases h1
      · exact .inr ⟨q, by omega, h2, h3, h4, h5⟩
/-- At an instruction's own place. -/
theorem src_here {l : List IT} {S : Int → Bool} {i : Nat} (hi : i < l.length) (hm : l[i]!.m = 0) : Src l S i i ↔ S 0 = true := by
  unfold Src
  constructor
  · rintro (⟨h, _⟩ | ⟨q, h1, _, h3, _, h5⟩)
    · exact h
    · have : q = i := by have := h5.1; omega
      subst this
      exact absurd hm h3
  · exact fun h => .inl ⟨h, Beh.here hi hm⟩
/-- An instruction that no way leads to turns nothing. -/
theorem src_skip {l : List IT} {i p : Nat} (hi : i < l.length) (hm : l[i]!.m = 0) (h0 : sOf l i 0 = false) (hp : i + 1 ≤ p) : Src l (sOf l i) i p ↔ Src l (sOf l (i + 1)) (i + 1) p := by
  rw [sOf_succ hi, if_neg (by rw [hm, h0]; decide)]
  unfold Src
  constructor
  · rintro (⟨h1, _⟩ | ⟨q, h1, h2, h3, h4, h5⟩)
    · rw [h0] at h1; cases h1
    · by_cases e : q = i
      · subst e; exact absurd hm h3
      · exact .inr ⟨q, by omega, h2, h3, h4, h5⟩
  · rintro (⟨h1, _⟩ | ⟨q, h1, h2, h3, h4, h5⟩)
    · rw [h0] at h1; cases h1
    · exact .inr ⟨q, by omega, h2, h3, h4, h5⟩
/-- One that some way leads to adds where it leads. -/
theorem src_add {l : List IT} {i p : Nat} (hi : i < l.length) (hm : l[i]!.m = 0) (h0 : sOf l i 0 = true) (hp : i + 1 ≤ p) : Src l (sOf l (i + 1)) (i + 1) p ↔ Src l (sOf l i) i p ∨ ∃ k ∈ leadsI l[i]!, Tgt l (i + 1) k p := by
  rw [sOf_succ hi, if_pos (by rw [hm, h0]; decide), src_led]
  refine or_congr ?_ Iff.rfl
  unfold Src
  constructor
  · rintro ⟨q, h1, h2, h3, h4, h5⟩
    exact .inr ⟨q, by omega, h2, h3, h4, h5⟩
  · rintro (⟨_, h2⟩ | ⟨q, h1, h2, h3, h4, h5⟩)
    · have := h2.of_plain hi hm
      omega
    · by_cases e : q = i
      · subst e; exact absurd hm h3
      · exact ⟨q, by omega, h2, h3, h4, h5⟩

/-! ### how many -/
def cntR (l : List IT) (i : Nat) : Nat := ((rSt (l.take i)).2.filter fun x => decide (x.m = 0)).length
theorem cntR_succ {l : List IT} {i : Nat} (hi : i < l.length) : cntR l (i + 1) = cntR l i + (if l[i]!.m = 0 ∧ sOf l i 0 = true then 1 else 0) := by
  unfold cntR sOf
  rw [take_snoc l i hi, rSt_snoc]
  generalize l[i]! = x
  generalize rSt (l.take i) = st
  unfold rStep
  by_cases hm : x.m = 0
  · have h1 : (List.filter (fun x : IT => decide (x.m = 0)) [x]).length = 1 := by simp [hm]
    cases h0 : st.1 0 with
    | true =>
      rw [if_pos (by simp), if_pos ⟨hm, rfl⟩]
      show (List.filter _ (st.2 ++ [x])).length = _
      rw [List.filter_append, List.length_append, h1]
    | false =>
      rw [if_neg (by rw [hm, h0]; decide), if_neg (fun h => by cases h.2)]
      rfl
  · have h1 : (List.filter (fun x : IT => decide (x.m = 0)) [x]).length = 0 := by simp [hm]
    have e2 : (if x.m = 0 ∧ st.1 0 = true then 1 else 0) = 0 := if_neg fun h => hm h.1
    rw [e2]
    split
    · show (List.filter _ (st.2 ++ [x])).length = _
      rw [List.filter_append, List.length_append, h1]
    · rfl
theorem pSt_near : ∀ (L : List IT), L.length ≤ 255 → (pSt L).1.length = (L.filter fun x => decide (x.m = 0)).length := fun L => by
  induction L using snocInd with
  | nil => intro _; rfl
  | snoc L x ih =>
    intro hl
    rw [List.length_append] at hl
    simp only [List.length_cons, List.length_nil] at hl
    have ihv := ih (by omega)
    have hf := List.length_filter_le (fun x : IT => decide (x.m = 0)) L
    have ft := farN_le (pSt L).1 (pSt L).2 x.t
    have ff := farN_le (pSt L).1 (pSt L).2 x.f
    rw [pSt_snoc, List.filter_append, List.length_append]
    unfold pStep
    by_cases hm : x.m = 0
    · rw [if_neg (fun h => h hm)]
      have h1 : (List.filter (fun x : IT => decide (x.m = 0)) [x]).length = 1 := by simp [hm]
      rw [h1]
      split
      · rw [List.length_append, ihv]; rfl
      · rw [if_neg (by omega), List.length_append, ihv]; rfl
    · rw [if_pos hm]
      have h1 : (List.filter (fun x : IT => decide (x.m = 0)) [x]).length = 0 := by simp [hm]
      rw [h1]
      exact ihv
theorem prog_near (l : List IT) (h : l.length ≤ 255) : (progI l).length = cntR l l.length := by
  unfold progI cntR
  have h2 : (rchI l).length ≤ l.length := rSt_len l
  rw [List.length_reverse, pSt_near _ (by rw [List.length_reverse]; omega), List.filter_reverse, List.length_reverse, List.take_length]
  rfl
end Go.Proofs.Ytiofgaadfbjnoaa

/-
  Layer 21, pure: the program of a jump over so many instructions.
-/
namespace Go.Proofs.Ytiofgaadfbjnoaa
open Go.RowKit Go.Shelf
set_option linter.unusedVariables false

def fNeg : IT := ⟨0, 132, 0, 0, 0⟩
def farL (n a k : Nat) (t f : Int) : List IT := [⟨0, 0, a, 0, 0⟩, ⟨0, 21, k, t, f⟩] ++ List.replicate n fNeg ++ [⟨0, 6, 1, 0, 0⟩, ⟨1, 0, 0, 0, 0⟩, ⟨0, 6, 2, 0, 0⟩]
/-- A row of items that go on. -/
theorem rSt_rep (l : List IT) (S : Int → Bool) (R : List IT) (h : rSt l = (S, R)) (h0 : S 0 = true) : ∀ n, rSt (l ++ List.replicate n fNeg) = (S, R ++ List.replicate n fNeg)
  | 0 => by simpa using h
  | n + 1 => by
    have ih := rSt_rep l S R h h0 n
    rw [List.replicate_succ', ← List.append_assoc, rSt_snoc, ih, ← List.append_assoc]
    unfold rStep
    rw [if_pos (by simp [h0])]
    have hl : ledS S fNeg = S := by
      funext k
      unfold ledS
      rw [show leadsI fNeg = [0] by kernel_rfl]
      by_cases e : k = 0
      · subst e; simp [h0]
      · simp [e]
    rw [hl]
theorem ik_21 (m : Int) (k : Nat) (t f : Int) : ik ⟨m, 21, k, t, f⟩ = 25 := by
  show (ofF 21).1 = 25
  decide +kernel
theorem ik_6 (m : Int) (k : Nat) (t f : Int) : ik ⟨m, 6, k, t, f⟩ = 14 := by
  show (ofF 6).1 = 14
  decide +kernel
theorem ik_0 (m : Int) (k : Nat) (t f : Int) : ik ⟨m, 0, k, t, f⟩ = 2 := by
  show (ofF 0).1 = 2
  decide +kernel
theorem ik_neg : ik fNeg = 12 := by
  show (ofF 132).1 = 12
  decide +kernel
theorem far_rch (n a k : Nat) (t f : Int) (h : (t = 1 ∧ f = 0) ∨ (t = 0 ∧ f = 1)) : rchI (farL n a k t f) = farL n a k t f := by
  obtain ⟨S, hS⟩ : ∃ S, S = (rSt ([⟨0, 0, a, 0, 0⟩, ⟨0, 21, k, t, f⟩] : List IT)).1 := ⟨_, rfl⟩
  have hl1 : leadsI ⟨0, 0, a, 0, 0⟩ = [0] := by unfold leadsI; rw [ik_0]; rfl
  have hl2 : leadsI ⟨0, 21, k, t, f⟩ = [t, f] := by unfold leadsI; rw [ik_21]; rfl
  have e1 : rSt ([⟨0, 0, a, 0, 0⟩] : List IT) = (ledS (fun k => decide (k = 0)) ⟨0, 0, a, 0, 0⟩, [⟨0, 0, a, 0, 0⟩]) := by
    show rSt ([] ++ [_]) = _
    rw [rSt_snoc]
    unfold rStep
    rw [if_pos (by simp [rSt])]
    rfl
  have h00 : ledS (fun k => decide (k = 0)) ⟨0, 0, a, 0, 0⟩ 0 = true := by unfold ledS; rw [hl1]; simp
  have e2 : rSt ([⟨0, 0, a, 0, 0⟩, ⟨0, 21, k, t, f⟩] : List IT) = (S, [⟨0, 0, a, 0, 0⟩, ⟨0, 21, k, t, f⟩]) := by
    rw [hS]
    show rSt ([⟨0, 0, a, 0, 0⟩] ++ [_]) = ((rSt ([⟨0, 0, a, 0, 0⟩] ++ [_])).1, _)
    rw [rSt_snoc, e1]
    unfold rStep
    rw [if_pos (by simp [h00])]
    rfl
  have hS2 : S 0 = true ∧ S 1 = true := by
    rw [hS]
    show (rSt ([⟨0, 0, a, 0, 0⟩] ++ [_])).1 0 = true ∧ (rSt ([⟨0, 0, a, 0, 0⟩] ++ [_])).1 1 = true
    rw [rSt_snoc, e1]
    unfold rStep
    rw [if_pos (by simp [h00])]
    dsimp only
    refine ⟨(ledS_true _ _ 0).2 (.inr ?_), (ledS_true _ _ 1).2 (.inr ?_)⟩ <;> rw [hl2] <;> rcases h with ⟨rfl, rfl⟩ | ⟨rfl, rfl⟩ <;> simp
  have e3 := rSt_rep _ S _ e2 hS2.1 n
  unfold farL rchI
  rw [show ([⟨0, 6, 1, 0, 0⟩, ⟨1, 0, 0, 0, 0⟩, ⟨0, 6, 2, 0, 0⟩] : List IT) = [⟨0, 6, 1, 0, 0⟩] ++ [⟨1, 0, 0, 0, 0⟩] ++ [⟨0, 6, 2, 0, 0⟩] from rfl, ← List.append_assoc, ← List.append_assoc, rSt_snoc, rSt_snoc, rSt_snoc, e3]
  have hr1 : leadsI ⟨0, 6, 1, 0, 0⟩ = [] := by unfold leadsI; rw [ik_6]; rfl
  have hr2 : leadsI ⟨1, 0, 0, 0, 0⟩ = [0] := by unfold leadsI; rw [ik_0]; rfl
  have s1 : ledS S ⟨0, 6, 1, 0, 0⟩ 1 = true := by unfold ledS; simp [hS2.2]
  have s2 : ∀ S', ledS S' ⟨1, 0, 0, 0, 0⟩ 0 = true := fun S' => by unfold ledS; rw [hr2]; simp
  simp only [rStep, hS2.1, if_true, s1, Bool.or_true, s2]
/-- The items from the last one on, ahead of the branch. -/
theorem far_pst (n : Nat) : ∀ m, m ≤ n → pSt ([⟨0, 6, 2, 0, 0⟩, ⟨1, 0, 0, 0, 0⟩, ⟨0, 6, 1, 0, 0⟩] ++ List.replicate m fNeg) = ([⟨6, 0, 0, 2⟩, ⟨6, 0, 0, 1⟩] ++ List.replicate m ⟨132, 0, 0, 0⟩, fun k => if k = 1 then 1 else 0)
  | 0, _ => by
    show pStep (pStep (pStep ([], fun _ => 0) ⟨0, 6, 2, 0, 0⟩) ⟨1, 0, 0, 0, 0⟩) ⟨0, 6, 1, 0, 0⟩ = _
    simp [pStep, ik_6, farN]
  | m + 1, h => by
    rw [List.replicate_succ', ← List.append_assoc, pSt_snoc, far_pst n m (by omega), List.replicate_succ', ← List.append_assoc]
    unfold pStep
    rw [if_neg (by simp [fNeg]), if_neg (by rw [ik_neg]; decide), if_neg (by simp [fNeg, farN])]
    simp [fNeg, farN]
theorem far_rev (n a k : Nat) (t f : Int) : (farL n a k t f).reverse = [⟨0, 6, 2, 0, 0⟩, ⟨1, 0, 0, 0, 0⟩, ⟨0, 6, 1, 0, 0⟩] ++ List.replicate n fNeg ++ [⟨0, 21, k, t, f⟩] ++ [⟨0, 0, a, 0, 0⟩] := by
  simp [farL]
/-- The program: near, and far. -/
theorem far_prog (n a k : Nat) (t f : Int) (h : (t = 1 ∧ f = 0) ∨ (t = 0 ∧ f = 1)) : progI (farL n a k t f) =
    if 255 < n + 1 then [⟨0, 0, 0, a⟩, ⟨21, 0, 1, k⟩, ⟨5, 0, 0, (if t = 1 then n + 1 else 0) + 1⟩, ⟨5, 0, 0, if f = 1 then n + 1 else 0⟩] ++ List.replicate n ⟨132, 0, 0, 0⟩ ++ [⟨6, 0, 0, 1⟩, ⟨6, 0, 0, 2⟩]
    else [⟨0, 0, 0, a⟩, ⟨21, if t = 1 then n + 1 else 0, if f = 1 then n + 1 else 0, k⟩] ++ List.replicate n ⟨132, 0, 0, 0⟩ ++ [⟨6, 0, 0, 1⟩, ⟨6, 0, 0, 2⟩] := by
  have hl : ([⟨6, 0, 0, 2⟩, ⟨6, 0, 0, 1⟩] ++ List.replicate n ⟨132, 0, 0, 0⟩ : List IV).length = n + 2 := by simp
  have ft : farN ([⟨6, 0, 0, 2⟩, ⟨6, 0, 0, 1⟩] ++ List.replicate n ⟨132, 0, 0, 0⟩) (fun k => if k = 1 then 1 else 0) t = if t = 1 then n + 1 else 0 := by
    unfold farN
    rw [hl]
    rcases h with ⟨rfl, rfl⟩ | ⟨rfl, rfl⟩ <;> simp
  have ff : farN ([⟨6, 0, 0, 2⟩, ⟨6, 0, 0, 1⟩] ++ List.replicate n ⟨132, 0, 0, 0⟩) (fun k => if k = 1 then 1 else 0) f = if f = 1 then n + 1 else 0 := by
    unfold farN
    rw [hl]
    rcases h with ⟨rfl, rfl⟩ | ⟨rfl, rfl⟩ <;> simp
  have hor : (255 < (if t = 1 then n + 1 else 0) ∨ 255 < (if f = 1 then n + 1 else 0)) ↔ 255 < n + 1 := by
    rcases h with ⟨rfl, rfl⟩ | ⟨rfl, rfl⟩ <;> simp
  unfold progI
  rw [far_rch n a k t f h, far_rev, pSt_snoc, pSt_snoc, far_pst n n (Nat.le_refl _)]
  have s1 : pStep ([⟨6, 0, 0, 2⟩, ⟨6, 0, 0, 1⟩] ++ List.replicate n ⟨132, 0, 0, 0⟩, fun k => if k = 1 then 1 else 0) ⟨0, 21, k, t, f⟩ = (([⟨6, 0, 0, 2⟩, ⟨6, 0, 0, 1⟩] ++ List.replicate n ⟨132, 0, 0, 0⟩) ++ (if 255 < n + 1 then [⟨5, 0, 0, if f = 1 then n + 1 else 0⟩, ⟨5, 0, 0, (if t = 1 then n + 1 else 0) + 1⟩, ⟨21, 0, 1, k⟩] else [⟨21, if t = 1 then n + 1 else 0, if f = 1 then n + 1 else 0, k⟩]), fun k => if k = 1 then 1 else 0) := by
    unfold pStep
    rw [if_neg (by simp), if_neg (by rw [ik_21]; decide)]
    simp only [ft, ff, hor]
    split <;> rfl
  rw [s1]
  have s2 : ∀ (P : List IV) pl, pStep (P, pl) ⟨0, 0, a, 0, 0⟩ = (P ++ [⟨0, 0, 0, a⟩], pl) := fun P pl => by
    unfold pStep
    rw [if_neg (by simp), if_neg (by rw [ik_0]; decide), if_neg (by simp [farN])]
    simp [farN]
  rw [s2]
  split <;> simp
end Go.Proofs.Ytiofgaadfbjnoaa

/-
  Layer 21, pure: a jump over so many instructions: its items are formed, its program may run, and what a run tells.
-/
namespace Go.Proofs.Ytiofgaadfbjnoaa
open Go.RowKit Go.Shelf
set_option linter.unusedVariables false

abbrev ng : IV := ⟨132, 0, 0, 0⟩
abbrev rt (v : Nat) : IV := ⟨6, 0, 0, v⟩
def pM (hd : List IV) (n : Nat) : List IV := hd ++ List.replicate n ng ++ [rt 1, rt 2]
theorem pM_len (hd : List IV) (n : Nat) : (pM hd n).length = hd.length + n + 2 := by simp [pM]; omega
theorem pM_hd (hd : List IV) (n i : Nat) (h : i < hd.length) : (pM hd n)[i]! = hd[i]! := by
  unfold pM
  rw [List.append_assoc, getElem!_pos (hd ++ (List.replicate n ng ++ [rt 1, rt 2])) i (by simp; omega), getElem!_pos hd i h, List.getElem_append_left h]
theorem pM_mid (hd : List IV) (n i : Nat) (h : i < n) : (pM hd n)[hd.length + i]! = ng := by
  rw [getElem!_pos _ _ (by rw [pM_len]; omega)]
  unfold pM
  rw [List.getElem_append_left (by simp; omega), List.getElem_append_right (by omega), List.getElem_replicate]
theorem pM_r1 (hd : List IV) (n : Nat) : (pM hd n)[hd.length + n]! = rt 1 := by
  rw [getElem!_pos _ _ (by rw [pM_len]; omega)]
  unfold pM
  rw [List.getElem_append_right (by simp)]
  simp
theorem pM_r2 (hd : List IV) (n : Nat) : (pM hd n)[hd.length + n + 1]! = rt 2 := by
  rw [getElem!_pos _ _ (by rw [pM_len]; omega)]
  unfold pM
  rw [List.getElem_append_right (by simp)]
  simp
theorem pM_cases (hd : List IV) (n i : Nat) (h : i < hd.length + n + 2) : (i < hd.length ∧ (pM hd n)[i]! = hd[i]!) ∨ (pM hd n)[i]! = ng ∨ (pM hd n)[i]! = rt 1 ∨ (pM hd n)[i]! = rt 2 := by
  by_cases h1 : i < hd.length
  · exact .inl ⟨h1, pM_hd hd n i h1⟩
  · by_cases h2 : i < hd.length + n
    · have := pM_mid hd n (i - hd.length) (by omega)
      rw [show hd.length + (i - hd.length) = i by omega] at this
      exact .inr (.inl this)
    · by_cases h3 : i = hd.length + n
      · rw [h3]; exact .inr (.inr (.inl (pM_r1 hd n)))
      · rw [show i = hd.length + n + 1 by omega]; exact .inr (.inr (.inr (pM_r2 hd n)))
theorem alone_of (v : IV) (r : Nat) (K : Int) (h : kd v = K) (h0 : K = 2 ∨ K = 12 ∨ K = 14) : alone v r = 0 := by
  have h2 : isLd v = false := by unfold isLd; rw [h]; rcases h0 with rfl | rfl | rfl <;> rfl
  have h3 : isSt v = false := by unfold isSt; rw [h]; rcases h0 with rfl | rfl | rfl <;> rfl
  have h4 : isBr v = false := by unfold isBr; rw [h]; rcases h0 with rfl | rfl | rfl <;> rfl
  unfold alone
  rw [h, h2, h3, h4]
  rcases h0 with rfl | rfl | rfl <;> simp
theorem kd_ng : kd ng = 12 := by show (ofF 132).1 = 12; decide +kernel
theorem kd_rt (v : Nat) : kd (rt v) = 14 := by show (ofF 6).1 = 14; decide +kernel
theorem kd_ld (t f v : Nat) : kd ⟨0, t, f, v⟩ = 2 := by show (ofF 0).1 = 2; decide +kernel
theorem kd_ja (t f v : Nat) : kd ⟨5, t, f, v⟩ = 13 := by show (ofF 5).1 = 13; decide +kernel
theorem kd_jq (t f v : Nat) : kd ⟨21, t, f, v⟩ = 25 := by show (ofF 21).1 = 25; decide +kernel
theorem xx_jq (t f v : Nat) : xx ⟨21, t, f, v⟩ = false := by show (ofF 21).2.1 = false; decide +kernel
theorem alone_ja (t f v r : Nat) (h : v < r) : alone ⟨5, t, f, v⟩ r = 0 := by
  have h1 := kd_ja t f v
  unfold alone isLd isSt isBr
  rw [h1]
  simp
  omega
theorem alone_jq (t f v r : Nat) (h : t < r) (h2 : f < r) : alone ⟨21, t, f, v⟩ r = 0 := by
  have h1 := kd_jq t f v
  unfold alone isLd isSt isBr
  rw [h1]
  simp
  omega
theorem pM_alone (hd : List IV) (n : Nat) (hh : ∀ i, i < hd.length → alone hd[i]! (hd.length + n + 2 - 1 - i) = 0) : ∀ i, i < hd.length + n + 2 → alone (pM hd n)[i]! (hd.length + n + 2 - 1 - i) = 0 := fun i hi => by
  rcases pM_cases hd n i hi with ⟨h, e⟩ | e | e | e <;> rw [e]
  · exact hh i h
  · exact alone_of _ _ _ kd_ng (.inr (.inl rfl))
  · exact alone_of _ _ _ (kd_rt 1) (.inr (.inr rfl))
  · exact alone_of _ _ _ (kd_rt 2) (.inr (.inr rfl))
theorem pM_last (hd : List IV) (n : Nat) : isRet ((pM hd n)[hd.length + n + 2 - 1]!) = true := by
  rw [show hd.length + n + 2 - 1 = hd.length + n + 1 by omega, pM_r2]
  unfold isRet
  rw [kd_rt]
  rfl
theorem pM_check (hd : List IV) (n : Nat) (hn : hd.length + n + 2 ≤ 4096) (hh : ∀ i, i < hd.length → alone hd[i]! (hd.length + n + 2 - 1 - i) = 0) (hl : ∀ i, i < hd.length → isLd hd[i]! = false) : checkF (fun i => (pM hd n)[i]!) (hd.length + n + 2) = (0, 0) := by
  have hf : formedF (fun i => (pM hd n)[i]!) (hd.length + n + 2) = (0, 0) := by
    unfold formedF
    rw [if_neg (by omega), if_neg (by omega), pick_none _ fun i hi => pM_alone hd n hh i hi, if_pos (pM_last hd n)]
  rw [checkF_ok (by rw [hf]), pick_none]
  intro i hi
  refine initE_no _ _ i ?_
  show isLd ((pM hd n)[i]!) = false
  rcases pM_cases hd n i hi with ⟨h, e⟩ | e | e | e <;> rw [e]
  · exact hl i h
  · unfold isLd; rw [kd_ng]; rfl
  · unfold isLd; rw [kd_rt]; rfl
  · unfold isLd; rw [kd_rt]; rfl
/-- A run through the row that goes on. -/
theorem run_mid (hd : List IV) (n : Nat) (f : Nat → Nat) : ∀ j i (s : VS), i + j = n → s.nx = hd.length + i → ∃ s', s'.nx = hd.length + n ∧ ∀ m, runF (fun i => (pM hd n)[i]!) f (j + m) s = runF (fun i => (pM hd n)[i]!) f m s'
  | 0, i, s, h, hs => ⟨s, by rw [hs]; omega, fun m => by rw [Nat.zero_add]⟩
  | j + 1, i, s, h, hs => by
    have hst : step f ((pM hd n)[s.nx]!) s = .go (s.tick.seta ((4294967296 - s.tick.a) % 4294967296)) := by
      rw [hs, pM_mid hd n i (by omega)]
      unfold step
      rw [kd_ng]
      rfl
    obtain ⟨s', h1, h2⟩ := run_mid hd n f j (i + 1) (s.tick.seta ((4294967296 - s.tick.a) % 4294967296)) (by omega) (by show s.nx + 1 = _; omega)
    refine ⟨s', h1, fun m => ?_⟩
    rw [show j + 1 + m = (j + m) + 1 by omega]
    show (match step f ((pM hd n)[s.nx]!) s with | .go s' => runF (fun i => (pM hd n)[i]!) f (j + m) s' | .stop v s' => some (v, s')) = _
    rw [hst]
    exact h2 m
theorem run_stop (hd : List IV) (n v : Nat) (f : Nat → Nat) (s : VS) (h : (pM hd n)[s.nx]! = rt v) (m : Nat) : ∃ s', runF (fun i => (pM hd n)[i]!) f (m + 1) s = some (v, s') := by
  refine ⟨s.tick, ?_⟩
  show (match step f ((pM hd n)[s.nx]!) s with | .go s' => runF (fun i => (pM hd n)[i]!) f m s' | .stop v s' => some (v, s')) = _
  rw [h]
  unfold step
  rw [kd_rt]
  rfl
theorem run_r1 (hd : List IV) (n : Nat) (f : Nat → Nat) (s : VS) (h : s.nx = hd.length) (m : Nat) (hm : n + 1 ≤ m) : ∃ s', runF (fun i => (pM hd n)[i]!) f m s = some (1, s') := by
  obtain ⟨s1, h1, h2⟩ := run_mid hd n f n 0 s (by omega) (by omega)
  obtain ⟨s2, h3⟩ := run_stop hd n 1 f s1 (by rw [h1]; exact pM_r1 hd n) (m - n - 1)
  refine ⟨s2, ?_⟩
  rw [show m = n + (m - n - 1 + 1) by omega, h2]
  exact h3
theorem run_r2 (hd : List IV) (n : Nat) (f : Nat → Nat) (s : VS) (h : s.nx = hd.length + n + 1) (m : Nat) (hm : 1 ≤ m) : ∃ s', runF (fun i => (pM hd n)[i]!) f m s = some (2, s') := by
  obtain ⟨s2, h3⟩ := run_stop hd n 2 f s (by rw [h]; exact pM_r2 hd n) (m - 1)
  exact ⟨s2, by rw [show m = m - 1 + 1 by omega]; exact h3⟩
end Go.Proofs.Ytiofgaadfbjnoaa

/-
  Layer 21, pure: a jump over so many instructions, whole.
-/
namespace Go.Proofs.Ytiofgaadfbjnoaa
open Go.RowKit Go.Shelf
set_option linter.unusedVariables false

theorem farL_len (n a k : Nat) (t f : Int) : (farL n a k t f).length = n + 5 := by simp [farL]
theorem farL_at (n a k i : Nat) (t f : Int) (hi : i < n + 5) : (i = 0 ∧ (farL n a k t f)[i]! = ⟨0, 0, a, 0, 0⟩) ∨ (i = 1 ∧ (farL n a k t f)[i]! = ⟨0, 21, k, t, f⟩) ∨ (farL n a k t f)[i]! = fNeg ∨ (farL n a k t f)[i]! = ⟨0, 6, 1, 0, 0⟩ ∨ (i = n + 3 ∧ (farL n a k t f)[i]! = ⟨1, 0, 0, 0, 0⟩) ∨ (i = n + 4 ∧ (farL n a k t f)[i]! = ⟨0, 6, 2, 0, 0⟩) := by
  have hl := farL_len n a k t f
  by_cases h0 : i = 0
  · subst h0; exact .inl ⟨rfl, by rw [getElem!_pos _ _ (by omega)]; rfl⟩
  by_cases h1 : i = 1
  · subst h1; exact .inr (.inl ⟨rfl, by rw [getElem!_pos _ _ (by omega)]; rfl⟩)
  by_cases h2 : i < n + 2
  · refine .inr (.inr (.inl ?_))
    rw [getElem!_pos _ _ (by omega)]
    unfold farL
    rw [List.getElem_append_left (by simp; omega), List.getElem_append_right (by simp; omega), List.getElem_replicate]
  have hr : ∀ j (hj : j < 3), (farL n a k t f)[n + 2 + j]! = ([⟨0, 6, 1, 0, 0⟩, ⟨1, 0, 0, 0, 0⟩, ⟨0, 6, 2, 0, 0⟩] : List IT)[j]! := fun j hj => by
    rw [getElem!_pos _ _ (by omega)]
    unfold farL
    rw [List.getElem_append_right (by simp), getElem!_pos _ _ (by simpa using hj)]
    congr 1
    simp
  by_cases h3 : i = n + 2
  · subst h3; exact .inr (.inr (.inr (.inl (hr 0 (by decide)))))
  by_cases h4 : i = n + 3
  · subst h4; exact .inr (.inr (.inr (.inr (.inl ⟨rfl, hr 1 (by decide)⟩))))
  · have : i = n + 4 := by omega
    subst this; exact .inr (.inr (.inr (.inr (.inr ⟨rfl, hr 2 (by decide)⟩))))
theorem farL_mark (n a k : Nat) (t f : Int) : (farL n a k t f)[n + 3]!.m = 1 := by
  rcases farL_at n a k (n + 3) t f (by omega) with ⟨h, _⟩ | ⟨h, _⟩ | e | e | ⟨_, e⟩ | ⟨h, _⟩
  · omega
  · omega
  · exfalso
    unfold farL at e
    rw [getElem!_pos _ _ (by simp), List.getElem_append_right (by simp)] at e
    simp [fNeg] at e
  · exfalso
    unfold farL at e
    rw [getElem!_pos _ _ (by simp), List.getElem_append_right (by simp)] at e
    simp at e
  · rw [e]
  · omega
theorem far_formed (n a k : Nat) (t f : Int) (h : (t = 1 ∧ f = 0) ∨ (t = 0 ∧ f = 1)) : FormedI (farL n a k t f) := by
  have hl := farL_len n a k t f
  have hb : ∀ i, i ≤ 1 → BehindI (farL n a k t f) i 1 := fun i hi => .inr ⟨n + 3, by omega, by omega, farL_mark n a k t f⟩
  refine ⟨fun i hi hm => ?_, fun i hi => ?_, fun e => by rw [e] at hl; simp at hl, ?_⟩
  · rw [hl] at hi
    rcases farL_at n a k i t f hi with ⟨h, e⟩ | ⟨h, e⟩ | e | e | ⟨h5, e⟩ | ⟨h, e⟩
    · rw [e] at hm; exact absurd rfl hm
    · rw [e] at hm; exact absurd rfl hm
    · rw [e] at hm; exact absurd rfl hm
    · rw [e] at hm; exact absurd rfl hm
    · rw [e]
      refine ⟨fun j hj hj2 => ?_, by decide, rfl, rfl, rfl, rfl⟩
      rcases farL_at n a k j t f (by omega) with ⟨_, e2⟩ | ⟨_, e2⟩ | e2 | e2 | ⟨h6, _⟩ | ⟨h6, _⟩
      · rw [e2] at hj2; cases hj2
      · rw [e2] at hj2; cases hj2
      · rw [e2] at hj2; cases hj2
      · rw [e2] at hj2; cases hj2
      · omega
      · omega
    · rw [e] at hm; exact absurd rfl hm
  · rw [hl] at hi
    unfold ItemOk
    rcases farL_at n a k i t f hi with ⟨h2, e⟩ | ⟨h2, e⟩ | e | e | ⟨_, e⟩ | ⟨_, e⟩ <;> rw [e]
    · exact ⟨by show (ofF 0).2.2 = true; decide +kernel, by unfold mayN; rw [ik_0]; rfl, .inl rfl, .inl rfl⟩
    · refine ⟨by show (ofF 21).2.2 = true; decide +kernel, by unfold mayN; rw [ik_21]; rfl, ?_, ?_⟩
      · show BehindI _ i t
        rcases h with ⟨rfl, _⟩ | ⟨rfl, _⟩
        · exact hb i (by omega)
        · exact .inl rfl
      · show BehindI _ i f
        rcases h with ⟨_, rfl⟩ | ⟨_, rfl⟩
        · exact .inl rfl
        · exact hb i (by omega)
    · exact ⟨by show (ofF 132).2.2 = true; decide +kernel, by unfold mayN; rw [ik_neg]; rfl, .inl rfl, .inl rfl⟩
    · exact ⟨by show (ofF 6).2.2 = true; decide +kernel, by unfold mayN; rw [ik_6]; rfl, .inl rfl, .inl rfl⟩
    · exact ⟨by show (ofF 0).2.2 = true; decide +kernel, by unfold mayN; rw [ik_0]; rfl, .inl rfl, .inl rfl⟩
    · exact ⟨by show (ofF 6).2.2 = true; decide +kernel, by unfold mayN; rw [ik_6]; rfl, .inl rfl, .inl rfl⟩
  · left
    rw [hl]
    rcases farL_at n a k (n + 5 - 1) t f (by omega) with ⟨h, _⟩ | ⟨h, _⟩ | e | e | ⟨h, _⟩ | ⟨_, e⟩
    · omega
    · omega
    · exfalso
      unfold farL at e
      rw [getElem!_pos _ _ (by simp), List.getElem_append_right (by simp)] at e
      simp [fNeg] at e
    · rw [e]; exact ik_6 _ _ _ _
    · omega
    · rw [e]; exact ik_6 _ _ _ _
theorem farL_ok (n a k : Nat) (t f : Int) (h : (t = 1 ∧ f = 0) ∨ (t = 0 ∧ f = 1)) (ha : a < 4294967296) (hk : k < 4294967296) : ∀ x ∈ farL n a k t f, x.ok := fun x hx => by
  have w0 : (Lit.int .i64 0).wf = true := by decide
  have w1 : (Lit.int .i64 1).wf = true := by decide
  unfold farL at hx
  simp only [List.mem_append, List.mem_cons, List.not_mem_nil, or_false] at hx
  rcases hx with ((rfl | rfl) | hx) | (rfl | rfl | rfl)
  · exact ⟨by show 0 < 65536; decide, ha, w0, w0, w0⟩
  · refine ⟨by show 21 < 65536; decide, hk, w0, ?_, ?_⟩
    · rcases h with ⟨rfl, _⟩ | ⟨rfl, _⟩
      · exact w1
      · exact w0
    · rcases h with ⟨_, rfl⟩ | ⟨_, rfl⟩
      · exact w0
      · exact w1
  · rw [List.eq_of_mem_replicate hx]
    exact ⟨by show 132 < 65536; decide, by show 0 < 4294967296; decide, w0, w0, w0⟩
  · exact ⟨by show 6 < 65536; decide, by show 1 < 4294967296; decide, w0, w0, w0⟩
  · exact ⟨by show 0 < 65536; decide, by show 0 < 4294967296; decide, w1, w0, w0⟩
  · exact ⟨by show 6 < 65536; decide, by show 2 < 4294967296; decide, w0, w0, w0⟩
/-- Its program, told whole. -/
structure FarP (P : List IV) (N v : Nat) : Prop where
  len : P.length = N
  check : checkF (fun i => P[i]!) N = (0, 0)
  alone : ∀ i, i < N → alone P[i]! (N - 1 - i) = 0
  last : isRet (P[N - 1]!) = true
  run : ∃ sF, runF (fun i => P[i]!) (fun _ => 0) N zst = some (v, sF)
theorem runF_succ (g : Nat → IV) (f : Nat → Nat) (m : Nat) (s s' : VS) (h : step f (g s.nx) s = .go s') : runF g f (m + 1) s = runF g f m s' := by
  show (match step f (g s.nx) s with | .go s' => runF g f m s' | .stop v s' => some (v, s')) = _
  rw [h]
theorem step_ld (f : Nat → Nat) (s : VS) (a : Nat) : step f ⟨0, 0, 0, a⟩ s = .go (s.tick.seta a) := by
  unfold step
  rw [kd_ld]
  rfl
theorem step_jq (f : Nat → Nat) (s : VS) (t e k : Nat) : step f ⟨21, t, e, k⟩ s = .go (s.tick.setn (s.nx + 1 + (if s.a = k then t else e))) := by
  unfold step oth
  rw [kd_jq, xx_jq]
  rfl
theorem step_ja (f : Nat → Nat) (s : VS) (k : Nat) : step f ⟨5, 0, 0, k⟩ s = .go (s.tick.setn (s.nx + 1 + k)) := by
  unfold step
  rw [kd_ja]
  rfl
theorem far_near (n a k jt jf : Nat) (hn : n ≤ 4000) (h1 : jt ≤ n + 1) (h2 : jf ≤ n + 1) (ht : (if a = k then jt else jf) = 0 ∨ (if a = k then jt else jf) = n + 1) : FarP (pM [⟨0, 0, 0, a⟩, ⟨21, jt, jf, k⟩] n) (n + 4) (if (if a = k then jt else jf) = 0 then 1 else 2) := by
  have hal : ∀ i, i < [(⟨0, 0, 0, a⟩ : IV), ⟨21, jt, jf, k⟩].length → alone [(⟨0, 0, 0, a⟩ : IV), ⟨21, jt, jf, k⟩][i]! ([(⟨0, 0, 0, a⟩ : IV), ⟨21, jt, jf, k⟩].length + n + 2 - 1 - i) = 0 := fun i hi => by
    match i, hi with
    | 0, _ => exact alone_of _ _ _ (kd_ld _ _ _) (.inl rfl)
    | 1, _ => exact alone_jq _ _ _ _ (by show jt < 2 + n + 2 - 1 - 1; omega) (by show jf < 2 + n + 2 - 1 - 1; omega)
  have e4 : [(⟨0, 0, 0, a⟩ : IV), ⟨21, jt, jf, k⟩].length + n + 2 = n + 4 := by show 2 + n + 2 = _; omega
  refine ⟨by rw [pM_len, e4], ?_, ?_, ?_, ?_⟩
  · rw [← e4]
    refine pM_check _ n (by rw [e4]; omega) hal fun i hi => ?_
    match i, hi with
    | 0, _ => unfold isLd; show (kd ⟨0, 0, 0, a⟩ == 3 || kd ⟨0, 0, 0, a⟩ == 6) = false; rw [kd_ld]; rfl
    | 1, _ => unfold isLd; show (kd ⟨21, jt, jf, k⟩ == 3 || kd ⟨21, jt, jf, k⟩ == 6) = false; rw [kd_jq]; rfl
  · rw [← e4]; exact pM_alone _ n hal
  · rw [← e4]; exact pM_last _ n
  · have g0 : (pM [⟨0, 0, 0, a⟩, ⟨21, jt, jf, k⟩] n)[0]! = ⟨0, 0, 0, a⟩ := pM_hd _ n 0 (by simp)
    have g1 : (pM [⟨0, 0, 0, a⟩, ⟨21, jt, jf, k⟩] n)[1]! = ⟨21, jt, jf, k⟩ := pM_hd _ n 1 (by simp)
    rw [show n + 4 = (n + 2) + 1 + 1 by omega, runF_succ _ _ _ _ (zst.tick.seta a) (by show step _ ((pM _ n)[0]!) zst = _; rw [g0, step_ld]), runF_succ _ _ _ _ ((zst.tick.seta a).tick.setn (1 + 1 + (if a = k then jt else jf))) (by show step _ ((pM _ n)[1]!) _ = _; rw [g1, step_jq]; rfl)]
    rcases ht with ht | ht <;> rw [ht]
    · rw [if_pos rfl]
      exact run_r1 _ n _ _ rfl _ (by omega)
    · rw [if_neg (by omega)]
      exact run_r2 _ n _ _ (by show 1 + 1 + (n + 1) = 2 + n + 1; omega) _ (by omega)
theorem far_far (n a k jt jf : Nat) (hn : n ≤ 4000) (h1 : jt ≤ n + 1) (h2 : jf ≤ n + 1) (ht : (if a = k then jt else jf) = 0 ∨ (if a = k then jt else jf) = n + 1) : FarP (pM [⟨0, 0, 0, a⟩, ⟨21, 0, 1, k⟩, ⟨5, 0, 0, jt + 1⟩, ⟨5, 0, 0, jf⟩] n) (n + 6) (if (if a = k then jt else jf) = 0 then 1 else 2) := by
  have hal : ∀ i, i < [(⟨0, 0, 0, a⟩ : IV), ⟨21, 0, 1, k⟩, ⟨5, 0, 0, jt + 1⟩, ⟨5, 0, 0, jf⟩].length → alone [(⟨0, 0, 0, a⟩ : IV), ⟨21, 0, 1, k⟩, ⟨5, 0, 0, jt + 1⟩, ⟨5, 0, 0, jf⟩][i]! ([(⟨0, 0, 0, a⟩ : IV), ⟨21, 0, 1, k⟩, ⟨5, 0, 0, jt + 1⟩, ⟨5, 0, 0, jf⟩].length + n + 2 - 1 - i) = 0 := fun i hi => by
    match i, hi with
    | 0, _ => exact alone_of _ _ _ (kd_ld _ _ _) (.inl rfl)
    | 1, _ => exact alone_jq _ _ _ _ (by show 0 < 4 + n + 2 - 1 - 1; omega) (by show 1 < 4 + n + 2 - 1 - 1; omega)
    | 2, _ => exact alone_ja _ _ _ _ (by show jt + 1 < 4 + n + 2 - 1 - 2; omega)
    | 3, _ => exact alone_ja _ _ _ _ (by show jf < 4 + n + 2 - 1 - 3; omega)
  have e4 : [(⟨0, 0, 0, a⟩ : IV), ⟨21, 0, 1, k⟩, ⟨5, 0, 0, jt + 1⟩, ⟨5, 0, 0, jf⟩].length + n + 2 = n + 6 := by show 4 + n + 2 = _; omega
  refine ⟨by rw [pM_len, e4], ?_, ?_, ?_, ?_⟩
  · rw [← e4]
    refine pM_check _ n (by rw [e4]; omega) hal fun i hi => ?_
    match i, hi with
    | 0, _ => unfold isLd; show (kd ⟨0, 0, 0, a⟩ == 3 || kd ⟨0, 0, 0, a⟩ == 6) = false; rw [kd_ld]; rfl
    | 1, _ => unfold isLd; show (kd ⟨21, 0, 1, k⟩ == 3 || kd ⟨21, 0, 1, k⟩ == 6) = false; rw [kd_jq]; rfl
    | 2, _ => unfold isLd; show (kd ⟨5, 0, 0, jt + 1⟩ == 3 || kd ⟨5, 0, 0, jt + 1⟩ == 6) = false; rw [kd_ja]; rfl
    | 3, _ => unfold isLd; show (kd ⟨5, 0, 0, jf⟩ == 3 || kd ⟨5, 0, 0, jf⟩ == 6) = false; rw [kd_ja]; rfl
  · rw [← e4]; exact pM_alone _ n hal
  · rw [← e4]; exact pM_last _ n
  · have g0 : (pM [⟨0, 0, 0, a⟩, ⟨21, 0, 1, k⟩, ⟨5, 0, 0, jt + 1⟩, ⟨5, 0, 0, jf⟩] n)[0]! = ⟨0, 0, 0, a⟩ := pM_hd _ n 0 (by simp)
    have g1 : (pM [⟨0, 0, 0, a⟩, ⟨21, 0, 1, k⟩, ⟨5, 0, 0, jt + 1⟩, ⟨5, 0, 0, jf⟩] n)[1]! = ⟨21, 0, 1, k⟩ := pM_hd _ n 1 (by simp)
    have g2 : (pM [⟨0, 0, 0, a⟩, ⟨21, 0, 1, k⟩, ⟨5, 0, 0, jt + 1⟩, ⟨5, 0, 0, jf⟩] n)[2]! = ⟨5, 0, 0, jt + 1⟩ := pM_hd _ n 2 (by simp)
    have g3 : (pM [⟨0, 0, 0, a⟩, ⟨21, 0, 1, k⟩, ⟨5, 0, 0, jt + 1⟩, ⟨5, 0, 0, jf⟩] n)[3]! = ⟨5, 0, 0, jf⟩ := pM_hd _ n 3 (by simp)
    rw [show n + 6 = (n + 3) + 1 + 1 + 1 by omega, runF_succ _ _ _ _ (zst.tick.seta a) (by show step _ ((pM _ n)[0]!) zst = _; rw [g0, step_ld]), runF_succ _ _ _ _ ((zst.tick.seta a).tick.setn (1 + 1 + (if a = k then 0 else 1))) (by show step _ ((pM _ n)[1]!) _ = _; rw [g1, step_jq]; rfl)]
    by_cases e : a = k
    · rw [if_pos e] at ht
      rw [if_pos e, if_pos e, runF_succ _ _ _ _ (((zst.tick.seta a).tick.setn 2).tick.setn (2 + 1 + (jt + 1))) (by show step _ ((pM _ n)[2]!) _ = _; rw [g2, step_ja]; rfl)]
      rcases ht with ht | ht <;> rw [ht]
      · rw [if_pos rfl]
        exact run_r1 _ n _ _ rfl _ (by omega)
      · rw [if_neg (by omega)]
        exact run_r2 _ n _ _ (by show 2 + 1 + (n + 1 + 1) = 4 + n + 1; omega) _ (by omega)
    · rw [if_neg e] at ht
      rw [if_neg e, if_neg e, runF_succ _ _ _ _ (((zst.tick.seta a).tick.setn 3).tick.setn (3 + 1 + jf)) (by show step _ ((pM _ n)[3]!) _ = _; rw [g3, step_ja]; rfl)]
      rcases ht with ht | ht <;> rw [ht]
      · rw [if_pos rfl]
        exact run_r1 _ n _ _ rfl _ (by omega)
      · rw [if_neg (by omega)]
        exact run_r2 _ n _ _ (by show 3 + 1 + (n + 1) = 4 + n + 1; omega) _ (by omega)
/-- What a jump over n instructions tells: 2 where it jumps. -/
theorem far_whole (n a k : Nat) (t f : Int) (h : (t = 1 ∧ f = 0) ∨ (t = 0 ∧ f = 1)) (hn : n ≤ 4000) : FarP (progI (farL n a k t f)) (if 255 < n + 1 then n + 6 else n + 4) (if (a = k) = (t = 1) then 2 else 1) := by
  have hv : (if (if a = k then (if t = 1 then n + 1 else 0) else (if f = 1 then n + 1 else 0)) = 0 then 1 else 2) = (if (a = k) = (t = 1) then 2 else 1) := by
    rcases h with ⟨rfl, rfl⟩ | ⟨rfl, rfl⟩ <;> by_cases e : a = k <;> simp [e]
  have ht : (if a = k then (if t = 1 then n + 1 else 0) else (if f = 1 then n + 1 else 0)) = 0 ∨ (if a = k then (if t = 1 then n + 1 else 0) else (if f = 1 then n + 1 else 0)) = n + 1 := by
    rcases h with ⟨rfl, rfl⟩ | ⟨rfl, rfl⟩ <;> by_cases e : a = k <;> simp [e]
  have l1 : (if t = 1 then n + 1 else 0) ≤ n + 1 := by split <;> omega
  have l2 : (if f = 1 then n + 1 else 0) ≤ n + 1 := by split <;> omega
  rw [far_prog n a k t f h, ← hv]
  split
  · exact far_far n a k _ _ hn l1 l2 ht
  · exact far_near n a k _ _ hn l1 l2 ht
end Go.Proofs.Ytiofgaadfbjnoaa

/-
  Layer 21, pure: a row of branches that all lead to one place behind them: its items are formed, its program may run, and what a run tells.
-/
namespace Go.Proofs.Ytiofgaadfbjnoaa
open Go.RowKit Go.Shelf
set_option linter.unusedVariables false

def brI (i : Nat) : IT := ⟨0, 21, i, 1, 0⟩
def chB (n : Nat) : List IT := (List.range n).map brI
def chT : List IT := [⟨0, 6, 1, 0, 0⟩, ⟨1, 0, 0, 0, 0⟩, ⟨0, 6, 2, 0, 0⟩]
def chL (n : Nat) : List IT := [⟨0, 32, 0, 0, 0⟩] ++ chB n ++ chT
theorem chB_snoc (n : Nat) : chB (n + 1) = chB n ++ [brI n] := by simp [chB, List.range_succ]
theorem chB_len (n : Nat) : (chB n).length = n := by simp [chB]
theorem chL_len (n : Nat) : (chL n).length = n + 4 := by simp [chL, chT, chB_len]
theorem ik_32 (m : Int) (k : Nat) (t f : Int) : ik ⟨m, 32, k, t, f⟩ = 1 := by
  show (ofF 32).1 = 1
  decide +kernel
theorem rSt_chB (l : List IT) (S : Int → Bool) (R : List IT) (h : rSt l = (S, R)) (h0 : S 0 = true) : ∀ n, ∃ S', rSt (l ++ chB n) = (S', R ++ chB n) ∧ S' 0 = true ∧ (0 < n → S' 1 = true)
  | 0 => ⟨S, by simpa [chB] using h, h0, fun h => absurd h (by omega)⟩
  | n + 1 => by
    obtain ⟨S', h1, h2, _⟩ := rSt_chB l S R h h0 n
    have hl : leadsI (brI n) = [1, 0] := by unfold leadsI brI; rw [ik_21]; rfl
    refine ⟨ledS S' (brI n), ?_, (ledS_true _ _ 0).2 (.inr (by rw [hl]; simp)), fun _ => (ledS_true _ _ 1).2 (.inr (by rw [hl]; simp))⟩
    rw [chB_snoc, ← List.append_assoc, rSt_snoc, h1, ← List.append_assoc]
    unfold rStep
    rw [if_pos (by simp [h2])]
theorem ch_rch (n : Nat) (hn : 0 < n) : rchI (chL n) = chL n := by
  have hl1 : leadsI ⟨0, 32, 0, 0, 0⟩ = [0] := by unfold leadsI; rw [ik_32]; rfl
  have e1 : rSt ([⟨0, 32, 0, 0, 0⟩] : List IT) = (ledS (fun k => decide (k = 0)) ⟨0, 32, 0, 0, 0⟩, [⟨0, 32, 0, 0, 0⟩]) := by
    show rSt ([] ++ [_]) = _
    rw [rSt_snoc]
    unfold rStep
    rw [if_pos (by simp [rSt])]
    rfl
  have h00 : ledS (fun k => decide (k = 0)) ⟨0, 32, 0, 0, 0⟩ 0 = true := by unfold ledS; rw [hl1]; simp
  obtain ⟨S, e3, hS0, hS1⟩ := rSt_chB _ _ _ e1 h00 n
  have hS1 := hS1 hn
  unfold chL rchI
  rw [show chT = [⟨0, 6, 1, 0, 0⟩] ++ [⟨1, 0, 0, 0, 0⟩] ++ [⟨0, 6, 2, 0, 0⟩] from rfl, ← List.append_assoc, ← List.append_assoc, rSt_snoc, rSt_snoc, rSt_snoc, e3]
  have hr1 : leadsI ⟨0, 6, 1, 0, 0⟩ = [] := by unfold leadsI; rw [ik_6]; rfl
  have hr2 : leadsI ⟨1, 0, 0, 0, 0⟩ = [0] := by unfold leadsI; rw [ik_0]; rfl
  have s1 : ledS S ⟨0, 6, 1, 0, 0⟩ 1 = true := by unfold ledS; simp [hS1]
  have s2 : ∀ S', ledS S' ⟨1, 0, 0, 0, 0⟩ 0 = true := fun S' => by unfold ledS; rw [hr2]; simp
  simp only [rStep, hS0, if_true, s1, Bool.or_true, s2]
/-- A branch's instructions, ahead of L others. -/
def blk (k L : Nat) : List IV := if 255 < L - 1 then [⟨21, 0, 1, k⟩, ⟨5, 0, 0, L - 1 + 1⟩, ⟨5, 0, 0, 0⟩] else [⟨21, L - 1, 0, k⟩]
def cP : List Nat → List IV
  | [] => [rt 1, rt 2]
  | k :: ks => blk k (cP ks).length ++ cP ks
def plC : Int → Nat := fun k => if k = 1 then 1 else 0
theorem ch_pst : ∀ ks : List Nat, pSt ([⟨0, 6, 2, 0, 0⟩, ⟨1, 0, 0, 0, 0⟩, ⟨0, 6, 1, 0, 0⟩] ++ ks.reverse.map brI) = ((cP ks).reverse, plC)
  | [] => by
    show pStep (pStep (pStep ([], fun _ => 0) ⟨0, 6, 2, 0, 0⟩) ⟨1, 0, 0, 0, 0⟩) ⟨0, 6, 1, 0, 0⟩ = _
    simp [pStep, ik_6, farN, cP]
    rfl
  | k :: ks => by
    rw [List.reverse_cons, List.map_append, ← List.append_assoc]
    show pSt (_ ++ [brI k]) = _
    rw [pSt_snoc, ch_pst ks]
    have ft : farN (cP ks).reverse plC 1 = (cP ks).length - 1 := by unfold farN plC; simp
    have ff : farN (cP ks).reverse plC 0 = 0 := by unfold farN; simp
    unfold pStep
    rw [if_neg (by simp [brI]), if_neg (by unfold brI; rw [ik_21]; decide)]
    simp only [brI, ft, ff, cP, blk]
    by_cases h : 255 < (cP ks).length - 1
    · rw [if_pos (.inl h), if_pos h]; simp
    · rw [if_neg (by omega), if_neg h]; simp
theorem ch_rev (n : Nat) : (chL n).reverse = [⟨0, 6, 2, 0, 0⟩, ⟨1, 0, 0, 0, 0⟩, ⟨0, 6, 1, 0, 0⟩] ++ (List.range n).reverse.map brI ++ [⟨0, 32, 0, 0, 0⟩] := by
  simp [chL, chT, chB]
theorem ch_prog (n : Nat) (hn : 0 < n) : progI (chL n) = ⟨32, 0, 0, 0⟩ :: cP (List.range n) := by
  unfold progI
  rw [ch_rch n hn, ch_rev, pSt_snoc, ch_pst]
  unfold pStep
  rw [if_neg (by simp), if_neg (by rw [ik_32]; decide), if_neg (by simp [farN])]
  simp [farN]
theorem gApp_l (A B : List IV) (i : Nat) (h : i < A.length) : (A ++ B)[i]! = A[i]! := by
  rw [getElem!_pos (A ++ B) i (by simp; omega), getElem!_pos A i h, List.getElem_append_left h]
theorem gApp_r (A B : List IV) (i : Nat) : (A ++ B)[A.length + i]! = B[i]! := by
  by_cases h : i < B.length
  · rw [getElem!_pos (A ++ B) (A.length + i) (by simp; omega), getElem!_pos B i h, List.getElem_append_right (by omega)]
    congr 1
    omega
  · rw [getElem!_neg (A ++ B) (A.length + i) (by simp; omega), getElem!_neg B i h]
theorem blk_len (k L : Nat) : 1 ≤ (blk k L).length ∧ (blk k L).length ≤ 3 := by unfold blk; split <;> simp
theorem cP_ge : ∀ ks, 2 ≤ (cP ks).length
  | [] => by simp [cP]
  | k :: ks => by have := cP_ge ks; simp only [cP, List.length_append]; omega
theorem cP_le : ∀ ks, (cP ks).length ≤ 2 + 3 * ks.length
  | [] => by simp [cP]
  | k :: ks => by have := cP_le ks; have := (blk_len k (cP ks).length).2; simp only [cP, List.length_append, List.length_cons]; omega
theorem cP_last : ∀ ks, (cP ks)[(cP ks).length - 1]! = rt 2
  | [] => rfl
  | k :: ks => by
    have h1 := cP_ge ks
    have h2 := cP_last ks
    show (blk k (cP ks).length ++ cP ks)[(blk k (cP ks).length ++ cP ks).length - 1]! = _
    rw [List.length_append, show (blk k (cP ks).length).length + (cP ks).length - 1 = (blk k (cP ks).length).length + ((cP ks).length - 1) by omega, gApp_r, h2]
theorem cP_alone : ∀ ks i, i < (cP ks).length → alone (cP ks)[i]! ((cP ks).length - 1 - i) = 0
  | [], i, h => by
    have h : i < 2 := h
    match i, h with
    | 0, _ => exact alone_of _ _ _ (kd_rt 1) (.inr (.inr rfl))
    | 1, _ => exact alone_of _ _ _ (kd_rt 2) (.inr (.inr rfl))
  | k :: ks, i, h => by
    have h1 := cP_ge ks
    obtain ⟨L, hL⟩ : ∃ L, (cP ks).length = L := ⟨_, rfl⟩
    have hh : i < (blk k L).length + L := by rw [← hL]; simpa only [cP, List.length_append] using h
    have hg : alone (blk k L ++ cP ks)[i]! ((blk k L).length + L - 1 - i) = 0 := by
      by_cases hi : i < (blk k L).length
      · rw [gApp_l _ _ _ hi]
        rw [hL] at h1
        clear h hh
        by_cases hf : 255 < L - 1
        · have e : blk k L = [⟨21, 0, 1, k⟩, ⟨5, 0, 0, L - 1 + 1⟩, ⟨5, 0, 0, 0⟩] := by unfold blk; rw [if_pos hf]
          rw [e] at hi ⊢
          match i, hi with
          | 0, _ => exact alone_jq _ _ _ _ (by show 0 < 3 + L - 1 - 0; omega) (by show 1 < 3 + L - 1 - 0; omega)
          | 1, _ => exact alone_ja _ _ _ _ (by show L - 1 + 1 < 3 + L - 1 - 1; omega)
          | 2, _ => exact alone_ja _ _ _ _ (by show 0 < 3 + L - 1 - 2; omega)
        · have e : blk k L = [⟨21, L - 1, 0, k⟩] := by unfold blk; rw [if_neg hf]
          rw [e] at hi ⊢
          match i, hi with
          | 0, _ => exact alone_jq _ _ _ _ (by show L - 1 < 1 + L - 1 - 0; omega) (by show 0 < 1 + L - 1 - 0; omega)
      · obtain ⟨j, rfl⟩ : ∃ j, i = (blk k L).length + j := ⟨i - (blk k L).length, by omega⟩
        rw [gApp_r, show (blk k L).length + L - 1 - ((blk k L).length + j) = (cP ks).length - 1 - j by omega]
        exact cP_alone ks j (by omega)
    show alone (blk k (cP ks).length ++ cP ks)[i]! ((blk k (cP ks).length ++ cP ks).length - 1 - i) = 0
    rw [List.length_append, hL]
    exact hg
theorem isLd_k (v : IV) (K : Int) (h : kd v = K) (h0 : K = 1 ∨ K = 13 ∨ K = 14 ∨ K = 25) : isLd v = false := by
  unfold isLd; rw [h]; rcases h0 with rfl | rfl | rfl | rfl <;> rfl
theorem cP_ld : ∀ ks, ∀ v ∈ cP ks, isLd v = false
  | [], v, h => by
    simp only [cP, List.mem_cons, List.not_mem_nil, or_false] at h
    rcases h with rfl | rfl
    · exact isLd_k _ _ (kd_rt 1) (by simp)
    · exact isLd_k _ _ (kd_rt 2) (by simp)
  | k :: ks, v, h => by
    simp only [cP, List.mem_append] at h
    rcases h with h | h
    · unfold blk at h
      split at h
      · simp only [List.mem_cons, List.not_mem_nil, or_false] at h
        rcases h with rfl | rfl | rfl
        · exact isLd_k _ _ (kd_jq _ _ _) (by simp)
        · exact isLd_k _ _ (kd_ja _ _ _) (by simp)
        · exact isLd_k _ _ (kd_ja _ _ _) (by simp)
      · simp only [List.mem_cons, List.not_mem_nil, or_false] at h
        subst h
        exact isLd_k _ _ (kd_jq _ _ _) (by simp)
    · exact cP_ld ks v h
theorem runF_stop (g : Nat → IV) (f : Nat → Nat) (m v : Nat) (s : VS) (h : g s.nx = rt v) : runF g f (m + 1) s = some (v, s.tick) := by
  show (match step f (g s.nx) s with | .go s' => runF g f m s' | .stop v s' => some (v, s')) = _
  rw [h]
  unfold step
  rw [kd_rt]
  rfl
/-- A run of the row from its start on, whatever stands ahead. -/
theorem cP_run (a : Nat) (f : Nat → Nat) : ∀ ks (pre : List IV) (s : VS) (m : Nat), s.nx = pre.length → s.a = a → (cP ks).length ≤ m → ∃ s', runF (fun i => (pre ++ cP ks)[i]!) f m s = some (if a ∈ ks then 2 else 1, s')
  | [], pre, s, m, hs, ha, hm => by
    have hm : 2 ≤ m := hm
    refine ⟨s.tick, ?_⟩
    rw [show m = m - 1 + 1 by omega, runF_stop _ _ _ 1 s (by
      show (pre ++ cP [])[s.nx]! = _
      rw [hs, show pre.length = pre.length + 0 by omega, gApp_r]
      rfl)]
    simp
  | k :: ks, pre, s, m, hs, ha, hm => by
    obtain ⟨L, hL⟩ : ∃ L, (cP ks).length = L := ⟨_, rfl⟩
    have h1 := cP_ge ks
    rw [hL] at h1
    have hlast : (cP ks)[L - 1]! = rt 2 := by rw [← hL]; exact cP_last ks
    have hm : (blk k L).length + L ≤ m := by rw [← hL]; simpa only [cP, List.length_append] using hm
    have e0 : cP (k :: ks) = blk k L ++ cP ks := by rw [← hL]; rfl
    rw [e0]
    by_cases hf : 255 < L - 1
    · have e : blk k L = [⟨21, 0, 1, k⟩, ⟨5, 0, 0, L - 1 + 1⟩, ⟨5, 0, 0, 0⟩] := by unfold blk; rw [if_pos hf]
      have bl : (blk k L).length = 3 := by rw [e]; rfl
      have g0 : (pre ++ (blk k L ++ cP ks))[pre.length]! = ⟨21, 0, 1, k⟩ := by
        rw [show pre.length = pre.length + 0 by omega, gApp_r, gApp_l _ _ _ (by omega), e]; rfl
      have g1 : (pre ++ (blk k L ++ cP ks))[pre.length + 1]! = ⟨5, 0, 0, L - 1 + 1⟩ := by
        rw [gApp_r, gApp_l _ _ _ (by omega), e]; rfl
      have g2 : (pre ++ (blk k L ++ cP ks))[pre.length + 2]! = ⟨5, 0, 0, 0⟩ := by
        rw [gApp_r, gApp_l _ _ _ (by omega), e]; rfl
      have g3 : (pre ++ (blk k L ++ cP ks))[pre.length + (3 + (L - 1))]! = rt 2 := by
        have h := gApp_r (blk k L) (cP ks) (L - 1)
        rw [bl] at h
        rw [gApp_r, h]; exact hlast
      rw [bl] at hm
      rw [show m = (m - 2) + 1 + 1 by omega, runF_succ _ _ _ _ (s.tick.setn (s.nx + 1 + (if s.a = k then 0 else 1))) (by show step _ ((pre ++ (blk k L ++ cP ks))[s.nx]!) s = _; rw [hs, g0, step_jq, hs])]
      by_cases hk : a = k
      · rw [ha, if_pos hk, runF_succ _ _ _ _ ((s.tick.setn (s.nx + 1 + 0)).tick.setn (s.nx + 1 + 0 + 1 + (L - 1 + 1))) (by show step _ ((pre ++ (blk k L ++ cP ks))[s.nx + 1 + 0]!) _ = _; rw [hs, Nat.add_zero, g1, step_ja]; rfl)]
        rw [show m - 2 = m - 3 + 1 by omega, runF_stop _ _ _ 2 _ (by
          show (pre ++ (blk k L ++ cP ks))[s.nx + 1 + 0 + 1 + (L - 1 + 1)]! = _
          rw [hs, show pre.length + 1 + 0 + 1 + (L - 1 + 1) = pre.length + (3 + (L - 1)) by omega, g3])]
        exact ⟨_, by rw [if_pos (by rw [hk]; exact List.mem_cons_self)]⟩
      · rw [ha, if_neg hk, runF_succ _ _ _ _ ((s.tick.setn (s.nx + 1 + 1)).tick.setn (s.nx + 1 + 1 + 1 + 0)) (by show step _ ((pre ++ (blk k L ++ cP ks))[s.nx + 1 + 1]!) _ = _; rw [hs, show pre.length + 1 + 1 = pre.length + 2 by omega, g2, step_ja]; rfl)]
        obtain ⟨s', h2⟩ := cP_run a f ks (pre ++ blk k L) ((s.tick.setn (s.nx + 1 + 1)).tick.setn (s.nx + 1 + 1 + 1 + 0)) (m - 2) (by show s.nx + 1 + 1 + 1 + 0 = _; rw [List.length_append, bl, hs]) ha (by rw [hL]; omega)
        refine ⟨s', ?_⟩
        rw [← List.append_assoc, h2]
        simp [List.mem_cons, hk]
    · have e : blk k L = [⟨21, L - 1, 0, k⟩] := by unfold blk; rw [if_neg hf]
      have bl : (blk k L).length = 1 := by rw [e]; rfl
      have g0 : (pre ++ (blk k L ++ cP ks))[pre.length]! = ⟨21, L - 1, 0, k⟩ := by
        rw [show pre.length = pre.length + 0 by omega, gApp_r, gApp_l _ _ _ (by omega), e]; rfl
      have g3 : (pre ++ (blk k L ++ cP ks))[pre.length + (1 + (L - 1))]! = rt 2 := by
        have h := gApp_r (blk k L) (cP ks) (L - 1)
        rw [bl] at h
        rw [gApp_r, h]; exact hlast
      rw [bl] at hm
      rw [show m = (m - 1) + 1 by omega, runF_succ _ _ _ _ (s.tick.setn (s.nx + 1 + (if s.a = k then L - 1 else 0))) (by show step _ ((pre ++ (blk k L ++ cP ks))[s.nx]!) s = _; rw [hs, g0, step_jq, hs])]
      by_cases hk : a = k
      · rw [ha, if_pos hk, show m - 1 = m - 2 + 1 by omega, runF_stop _ _ _ 2 _ (by
          show (pre ++ (blk k L ++ cP ks))[s.nx + 1 + (L - 1)]! = _
          rw [hs, show pre.length + 1 + (L - 1) = pre.length + (1 + (L - 1)) by omega, g3])]
        exact ⟨_, by rw [if_pos (by rw [hk]; exact List.mem_cons_self)]⟩
      · rw [ha, if_neg hk]
        obtain ⟨s', h2⟩ := cP_run a f ks (pre ++ blk k L) (s.tick.setn (s.nx + 1 + 0)) (m - 1) (by show s.nx + 1 + 0 = _; rw [List.length_append, bl, hs]) ha (by rw [hL]; omega)
        refine ⟨s', ?_⟩
        rw [← List.append_assoc, h2]
        simp [List.mem_cons, hk]
/-- Its program, told whole. -/
structure RunP (P : List IV) (f : Nat → Nat) (N v : Nat) : Prop where
  len : P.length = N
  check : checkF (fun i => P[i]!) N = (0, 0)
  alone : ∀ i, i < N → alone P[i]! (N - 1 - i) = 0
  last : isRet (P[N - 1]!) = true
  run : ∃ sF, runF (fun i => P[i]!) f N zst = some (v, sF)
theorem kd_ldw (t f v : Nat) : kd ⟨32, t, f, v⟩ = 1 := by show (ofF 32).1 = 1; decide +kernel
theorem step_ldw (f : Nat → Nat) (s : VS) : step f ⟨32, 0, 0, 0⟩ s = .go ⟨num (fun i => f (0 + i)) 4, s.tick.x, s.tick.cl, s.tick.nx, s.tick.st, s.tick.ld ++ [0]⟩ := by
  unfold step
  rw [kd_ldw]
  rfl
theorem alone_ldw (r : Nat) : alone ⟨32, 0, 0, 0⟩ r = 0 := by
  have h1 := kd_ldw 0 0 0
  unfold alone isLd isSt isBr
  rw [h1]
  simp
def askF (x : Nat) : Nat → Nat := fun i => if i = 0 then x % 256 else if i = 1 then x / 256 % 256 else 0
theorem ch_whole (n x : Nat) (hn : 0 < n) (hm : n ≤ 1000) (hx : x < 65536) : ∃ N, 0 < N ∧ N ≤ 3003 ∧ RunP (progI (chL n)) (askF x) N (if x < n then 2 else 1) := by
  rw [ch_prog n hn]
  have hge := cP_ge (List.range n)
  have hle := cP_le (List.range n)
  rw [List.length_range] at hle
  obtain ⟨L, hL⟩ : ∃ L, (cP (List.range n)).length = L := ⟨_, rfl⟩
  rw [hL] at hge hle
  have hlen : (⟨32, 0, 0, 0⟩ :: cP (List.range n) : List IV).length = L + 1 := by simp [hL]
  have hat : ∀ i, (⟨32, 0, 0, 0⟩ :: cP (List.range n) : List IV)[i + 1]! = (cP (List.range n))[i]! := fun i => by
    rw [Nat.add_comm]; exact gApp_r [⟨32, 0, 0, 0⟩] (cP (List.range n)) i
  have hal : ∀ i, i < L + 1 → alone (⟨32, 0, 0, 0⟩ :: cP (List.range n) : List IV)[i]! (L + 1 - 1 - i) = 0 := fun i hi => by
    match i, hi with
    | 0, _ => exact alone_ldw _
    | i + 1, hi =>
      rw [hat, show L + 1 - 1 - (i + 1) = L - 1 - i by omega]
      have := cP_alone (List.range n) i (by omega)
      rwa [hL] at this
  have hlast : isRet ((⟨32, 0, 0, 0⟩ :: cP (List.range n) : List IV)[L + 1 - 1]!) = true := by
    rw [show L + 1 - 1 = (L - 1) + 1 by omega, hat]
    have := cP_last (List.range n)
    rw [hL] at this
    rw [this]
    unfold isRet
    rw [kd_rt]
    rfl
  have hld : ∀ i, i < L + 1 → isLd (⟨32, 0, 0, 0⟩ :: cP (List.range n) : List IV)[i]! = false := fun i hi => by
    match i, hi with
    | 0, _ => exact isLd_k _ _ (kd_ldw 0 0 0) (by simp)
    | i + 1, hi =>
      rw [hat, getElem!_pos _ _ (by omega)]
      exact cP_ld _ _ (List.getElem_mem _)
  refine ⟨L + 1, by omega, by omega, ?_, ?_, hal, hlast, ?_⟩
  · exact hlen
  · have hf : formedF (fun i => (⟨32, 0, 0, 0⟩ :: cP (List.range n) : List IV)[i]!) (L + 1) = (0, 0) := by
      unfold formedF
      rw [if_neg (by omega), if_neg (by omega), pick_none _ fun i hi => hal i hi, if_pos hlast]
    rw [checkF_ok (by rw [hf]), pick_none]
    intro i hi
    exact initE_no _ _ i (hld i hi)
  · rw [runF_succ _ _ _ zst ⟨num (fun i => askF x (0 + i)) 4, zst.tick.x, zst.tick.cl, zst.tick.nx, zst.tick.st, zst.tick.ld ++ [0]⟩ (by show step _ ((⟨32, 0, 0, 0⟩ :: cP (List.range n) : List IV)[0]!) zst = _; exact step_ldw _ _)]
    have hnum : num (fun i => askF x (0 + i)) 4 = x := by
      simp [num, askF]
      omega
    rw [hnum]
    obtain ⟨s', h⟩ := cP_run x (askF x) (List.range n) [⟨32, 0, 0, 0⟩] ⟨x, zst.tick.x, zst.tick.cl, zst.tick.nx, zst.tick.st, zst.tick.ld ++ [0]⟩ L rfl rfl (by rw [hL]; exact Nat.le_refl _)
    refine ⟨s', ?_⟩
    rw [show (⟨32, 0, 0, 0⟩ :: cP (List.range n) : List IV) = [⟨32, 0, 0, 0⟩] ++ cP (List.range n) from rfl, h]
    simp [List.mem_range]
/-! ### its items are formed -/
theorem chL_at (n i : Nat) (hi : i < n + 4) : (i = 0 ∧ (chL n)[i]! = ⟨0, 32, 0, 0, 0⟩) ∨ (1 ≤ i ∧ i ≤ n ∧ (chL n)[i]! = brI (i - 1)) ∨ (i = n + 1 ∧ (chL n)[i]! = ⟨0, 6, 1, 0, 0⟩) ∨ (i = n + 2 ∧ (chL n)[i]! = ⟨1, 0, 0, 0, 0⟩) ∨ (i = n + 3 ∧ (chL n)[i]! = ⟨0, 6, 2, 0, 0⟩) := by
  have hl := chL_len n
  have hr : ∀ j (hj : j < 3), (chL n)[n + 1 + j]! = chT[j]! := fun j hj => by
    rw [getElem!_pos _ _ (by omega)]
    unfold chL
    rw [List.getElem_append_right (by simp [chB_len]), getElem!_pos _ _ (by simpa [chT] using hj)]
    congr 1
    simp [chB_len]
  by_cases h0 : i = 0
  · subst h0; exact .inl ⟨rfl, by rw [getElem!_pos _ _ (by omega)]; rfl⟩
  by_cases h1 : i ≤ n
  · refine .inr (.inl ⟨by omega, h1, ?_⟩)
    rw [getElem!_pos _ _ (by omega)]
    unfold chL
    rw [List.getElem_append_left (by simp [chB_len]; omega), List.getElem_append_right (by simp; omega)]
    simp [chB]
  by_cases h2 : i = n + 1
  · subst h2; exact .inr (.inr (.inl ⟨rfl, hr 0 (by decide)⟩))
  by_cases h3 : i = n + 2
  · subst h3; exact .inr (.inr (.inr (.inl ⟨rfl, hr 1 (by decide)⟩)))
  · have : i = n + 3 := by omega
    subst this; exact .inr (.inr (.inr (.inr ⟨rfl, hr 2 (by decide)⟩)))
theorem ch_formed (n : Nat) : FormedI (chL n) := by
  have hl := chL_len n
  have hmk : (chL n)[n + 2]!.m = 1 := by
    rcases chL_at n (n + 2) (by omega) with ⟨h, _⟩ | ⟨_, h, _⟩ | ⟨h, _⟩ | ⟨_, e⟩ | ⟨h, _⟩
    · omega
    · omega
    · omega
    · rw [e]
    · omega
  refine ⟨fun i hi hm => ?_, fun i hi => ?_, fun e => by rw [e] at hl; simp at hl, ?_⟩
  · rw [hl] at hi
    rcases chL_at n i hi with ⟨h, e⟩ | ⟨_, h, e⟩ | ⟨h, e⟩ | ⟨h5, e⟩ | ⟨h, e⟩
    · rw [e] at hm; exact absurd rfl hm
    · rw [e] at hm; exact absurd rfl hm
    · rw [e] at hm; exact absurd rfl hm
    · rw [e]
      refine ⟨fun j hj hj2 => ?_, by decide, rfl, rfl, rfl, rfl⟩
      rcases chL_at n j (by omega) with ⟨_, e2⟩ | ⟨_, _, e2⟩ | ⟨_, e2⟩ | ⟨h6, _⟩ | ⟨h6, _⟩
      · rw [e2] at hj2; cases hj2
      · rw [e2] at hj2; cases hj2
      · rw [e2] at hj2; cases hj2
      · omega
      · omega
    · rw [e] at hm; exact absurd rfl hm
  · rw [hl] at hi
    unfold ItemOk
    rcases chL_at n i hi with ⟨_, e⟩ | ⟨h1, h2, e⟩ | ⟨_, e⟩ | ⟨_, e⟩ | ⟨_, e⟩ <;> rw [e]
    · exact ⟨by show (ofF 32).2.2 = true; decide +kernel, by unfold mayN; rw [ik_32]; rfl, .inl rfl, .inl rfl⟩
    · exact ⟨by show (ofF 21).2.2 = true; decide +kernel, by unfold mayN brI; rw [ik_21]; rfl, .inr ⟨n + 2, by omega, by omega, hmk⟩, .inl rfl⟩
    · exact ⟨by show (ofF 6).2.2 = true; decide +kernel, by unfold mayN; rw [ik_6]; rfl, .inl rfl, .inl rfl⟩
    · exact ⟨by show (ofF 0).2.2 = true; decide +kernel, by unfold mayN; rw [ik_0]; rfl, .inl rfl, .inl rfl⟩
    · exact ⟨by show (ofF 6).2.2 = true; decide +kernel, by unfold mayN; rw [ik_6]; rfl, .inl rfl, .inl rfl⟩
  · left
    rw [hl]
    rcases chL_at n (n + 4 - 1) (by omega) with ⟨h, _⟩ | ⟨_, h, _⟩ | ⟨h, _⟩ | ⟨h, _⟩ | ⟨_, e⟩
    · omega
    · omega
    · omega
    · omega
    · rw [e]; exact ik_6 _ _ _ _
theorem chL_ok (n : Nat) (hn : n ≤ 1000) : ∀ x ∈ chL n, x.ok := fun x hx => by
  have w0 : (Lit.int .i64 0).wf = true := by decide
  have w1 : (Lit.int .i64 1).wf = true := by decide
  unfold chL chT chB at hx
  simp only [List.mem_append, List.mem_cons, List.not_mem_nil, or_false, List.mem_map, List.mem_range] at hx
  rcases hx with (rfl | ⟨i, hi, rfl⟩) | (rfl | rfl | rfl)
  · exact ⟨by show 32 < 65536; decide, by show 0 < 4294967296; decide, w0, w0, w0⟩
  · exact ⟨by show 21 < 65536; decide, by show i < 4294967296; omega, w0, w1, w0⟩
  · exact ⟨by show 6 < 65536; decide, by show 1 < 4294967296; decide, w0, w0, w0⟩
  · exact ⟨by show 0 < 65536; decide, by show 0 < 4294967296; decide, w1, w0, w0⟩
  · exact ⟨by show 6 < 65536; decide, by show 2 < 4294967296; decide, w0, w0, w0⟩
end Go.Proofs.Ytiofgaadfbjnoaa

/-
  Layer 21's law: a program as the document's; a drawn region outside a round by wpAnyE.
-/
namespace Go.Proofs.Ytiofgaadfbjnoaa
open Go.RowKit Go.Shelf
set_option linter.unusedVariables false

theorem infoR2 : (Try.prog.info? 61).map (fun i => (i.zero, i.size, i.bytes)) = some (some (.agg #[.int .u16 0, .int .u8 0, .int .u8 0, .int .u32 0]), 4, 8) := by kernel_rfl
set_option maxRecDepth 100000 in
set_option maxHeartbeats 4000000 in
theorem back21_any (A : Option Addr) (n c : Nat) (g : Nat → IV) (w : World) (hn : n ≤ 1000000) (hr : Ins w w.heap.size A n c g) :
    Calls Try.prog 11 #[.slice A n c] w fun e w' => ∃ A' c', e = .returned (.slice A' n c') ∧ OwnC w' w.heap.size 61 4 A' n c' (icell g) ∧ Below w.heap.size w w' := by
  go_enter Try.func11, Try.ntmps11
  go_wp2
  go_loopw [3, 4] (fun v i wr => ∃ (k : Nat) (A' : Option Addr) (c' : Nat), k ≤ n ∧ i = .int .i64 k ∧ v = .slice A' k c' ∧ OwnC wr w.heap.size 61 4 A' k c' (icell g) ∧ Below w.heap.size w wr)
    (fun _ i _ => n - (intOf i).toNat)
  case atStart => exact ⟨0, none, 0, Nat.zero_le _, rfl, rfl, OwnC.nil_, Below.refl _ _⟩
  case round =>
    obtain ⟨k, A', c', hk, rfl, rfl, hown, hB⟩ := hrel
    by_cases hlt : k < n
    · obtain ⟨b, off, rfl, hb, hc⟩ := (hr.below hB).at_ (by omega)
      obtain ⟨q0, q1, q2, q3⟩ := hc k hlt
      have HW := Lib.hid (icell_cat g k)
      generalize g k = v at *
      have i1 : (0 : Int) ≤ (k : Int) := by omega
      have i2 : (k : Int) < (n : Int) := by omega
      clear hc
      go_wp2
      go_region_held3 (fun w' => w'.cell? ⟨b, off + k * 4, none⟩ = some (.int .u16 v.c) ∧ w'.cell? ⟨b, off + k * 4 + 1, none⟩ = some (.int .u8 v.t) ∧ w'.cell? ⟨b, off + k * 4 + 2, none⟩ = some (.int .u8 v.f) ∧ w'.cell? ⟨b, off + k * 4 + 3, none⟩ = some (.int .u32 v.k))
        (first
          | go_keep
          | exact ⟨(hK.cell (p := ⟨b, off + k * 4, none⟩) hb).trans q0, (hK.cell (p := ⟨b, off + k * 4 + 1, none⟩) hb).trans q1, (hK.cell (p := ⟨b, off + k * 4 + 2, none⟩) hb).trans q2, (hK.cell (p := ⟨b, off + k * 4 + 3, none⟩) hb).trans q3⟩)
        (first | (refine step_cells2 (by rfl) _ _ _ 61 (by rfl) Try.underlying38 infoR2 (by rfl) (by decide) (by rfl) (hown.alloc _).drew (by rfl) (one_inst wr v 61) (fun i _ => icell_one _ i) (by unfold maxLen; omega) (by omega) (by have := hB.size; simp; omega) (k + 1) rfl (icell g) HW.out ?_; rintro A2 c2 w2 hown2 hB2; have hK : Below w.heap.size wr w2 := ((Below.refl _ _).alloc hB.size _).drew.trans hB2))
      go_wp2
      exact ⟨⟨k + 1, A2, c2, by omega, by go_num, rfl, hown2, hB.trans hK⟩, by simp [intOf]; omega⟩
    · obtain rfl : k = n := by omega
      go_wp2
      go_ret
      exact ⟨_, _, rfl, hown, hB⟩

theorem two_own (w : World) (x y : IT) : OwnC (w.alloc (.cells #[.int .i64 x.m, .int .u16 x.c, .int .u32 x.k, .int .i64 x.t, .int .i64 x.f, .int .i64 y.m, .int .u16 y.c, .int .u32 y.k, .int .i64 y.t, .int .i64 y.f] 27)) w.heap.size 27 5 (some ⟨w.heap.size, 0, none⟩) 2 2 (itcell fun i => ([x, y] : List IT)[i]!) := by
  refine ⟨by simp, .inr ⟨w.heap.size, 2, _, rfl, Nat.le_refl _, heap_alloc_last w _, Nat.le_refl _, by decide, rfl, ?_⟩⟩
  rfl
theorem three_its (w : World) (x y z : IT) : Cel (w.alloc (.cells #[.int .i64 x.m, .int .u16 x.c, .int .u32 x.k, .int .i64 x.t, .int .i64 x.f, .int .i64 y.m, .int .u16 y.c, .int .u32 y.k, .int .i64 y.t, .int .i64 y.f, .int .i64 z.m, .int .u16 z.c, .int .u32 z.k, .int .i64 z.t, .int .i64 z.f] 27)) (w.heap.size + 1) 5 (some ⟨w.heap.size, 0, none⟩) 3 3 (itcell fun i => ([x, y, z] : List IT)[i]!) :=
  Cel.mk_ (Nat.lt_succ_self _) (Nat.le_refl _) (by decide) fun i hi => by
    have hi' : i < 15 := by omega
    rw [Nat.zero_add, cell_of_row _ _ _ _ _ _ (heap_alloc_last w _)]
    match i, hi' with
    | 0, _ | 1, _ | 2, _ | 3, _ | 4, _ | 5, _ | 6, _ | 7, _ | 8, _ | 9, _ | 10, _ | 11, _ | 12, _ | 13, _ | 14, _ => rfl
    | i + 15, h => omega
theorem it_appL {N : Nat} (P L : List IT) (hN : N = P.length) : ∀ i, i < (N + L.length) * 5 → catC (N * 5) (itcell fun i => P[i]!) (itcell fun i => L[i]!) i = itcell (fun i => (P ++ L)[i]!) i := fun i hi => by
  subst hN
  unfold catC itcell
  split
  · have h : (P ++ L)[i / 5]! = P[i / 5]! := by rw [getElem!_pos P (i / 5) (by omega), getElem!_pos (P ++ L) (i / 5) (by simp; omega), List.getElem_append_left (by omega)]
    simp only [h]
  · have h : (P ++ L)[i / 5]! = L[(i - P.length * 5) / 5]! := by
      rw [getElem!_pos L _ (by omega), getElem!_pos (P ++ L) (i / 5) (by simp; omega), List.getElem_append_right (by omega)]
      congr 1
      omega
    have h2 : (i - P.length * 5) % 5 = i % 5 := by omega
    simp only [h, h2]
theorem wp_region_E {P : Program} {ops : Array Oper} {S : World → Prop} {id : Nat} {a : Act} {w : World} {Q : Exit → Act → World → Prop} (z : Nat) (hm : P.follows .mixedOrders = true)
    (h : wpAnyE P .any ops Q S z ops.size (Array.replicate ops.size false) a w.drew) : (Code.region id ops true).wp P Q a w :=
  wp_region_any hm (wpAny_of_E _ _ _ _ h)
theorem mk64 (w : World) : (Instr.makeSlice 40 (.int .i64 64) (.int .i64 64)).run Try.prog w = .ok (.slice (some ⟨w.heap.size, 0, none⟩) 64 64) (w.alloc (.cells (Array.replicate 64 (.int .u8 0)) 5)) := by kernel_rfl
theorem byt64 (w : World) : Byt (w.alloc (.cells (Array.replicate 64 (.int .u8 0)) 5)) (w.heap.size + 1) (some ⟨w.heap.size, 0, none⟩) 64 64 (fun _ => 0) := by
  refine .inr ⟨_, rfl, Nat.le_refl _, by decide, fun i hi => ⟨by show w.heap.size < _; omega, ?_, by show 0 < 256; decide⟩⟩
  rw [Addr.add_lit, Nat.zero_add, cell_of_row _ _ _ _ _ _ (heap_alloc_last w _)]
  simp [hi]
theorem fldO (a b c : Value) (W : World) : (Instr.field 36 (.agg #[a, b, c]) 0).run Try.prog W = .ok a W := by kernel_rfl
end Go.Proofs.Ytiofgaadfbjnoaa
