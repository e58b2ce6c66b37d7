/-
  What follows for a table that may be: each name, number and multiplexer's number stands once.
-/
import Derived.Test.YtlninlempefjcaaDoorUe
import Derived.Test.YtlninlempefjcaaDoorSi
import Derived.Test.YtlninlempefjcaaDoorSm
import Derived.Test.YtlninlempefjcaaDoorSr
namespace Go.Proofs.YtlninlempefjcaaDoor
open Go.RowKit
set_option linter.unusedVariables false

theorem own_tbl {w : World} {base n c : Nat} {E : TypeId} {A : Option Addr} {T : Nat → SR} (h : OwnC w base E 8 A n c (rcell T)) : TbA w A n T := by
  rcases Nat.eq_zero_or_pos n with h0 | hp
  · exact .inl h0
  obtain ⟨b, rfl, _, hlt, hcl⟩ := own_atz h hp
  refine .inr ⟨b, 0, rfl, hlt, fun i hi => ?_⟩
  have hc : ∀ c, c < 8 → w.cell? ⟨b, 0 + i * 8 + c, none⟩ = some ((srow (T i)).getD c undef) := fun c hc => by
    rw [Nat.zero_add, hcl (i * 8 + c) (by omega), rcell_at T i c hc]
  exact ⟨hc 0 (by omega), hc 1 (by omega), hc 2 (by omega), hc 3 (by omega), hc 4 (by omega), hc 5 (by omega), hc 6 (by omega), hc 7 (by omega)⟩
theorem TbA.tb {w : World} {b o n : Nat} {T : Nat → SR} (h : TbA w (some ⟨b, o, none⟩) n T) {k : Nat} (hk : k < n) : Tb w b o n T := by
  obtain ⟨b', o', e, ht⟩ := h.at_ hk
  simp only [Option.some.injEq, Addr.mk.injEq, and_true] at e
  obtain ⟨rfl, rfl⟩ := e
  exact ht
/-- Rows that may be a table. -/
def AllOk (n : Nat) (T : Nat → SR) : Prop := ∀ j, j < n → rowF T j = 0
theorem right_zero {T : Nat → SR} {n p q : Nat} (h : RightP T n p q) : q = 0 ↔ (n ≤ 400 ∧ AllOk n T) := by
  rcases h with ⟨a1, a2, a3⟩ | ⟨a1, a2, a3, a4, a5⟩ | ⟨a1, a2, a3, a4⟩
  · constructor
    · intro h; omega
    · intro h; omega
  · constructor
    · intro h; exact absurd (a5.symm.trans h) a4
    · intro h; exact absurd (h.2 p a2) a4
  · exact ⟨fun _ => ⟨a1, a2⟩, fun _ => a4⟩
theorem less_trans : ∀ x y z : List UInt8, Op.bytesLess x y = true → Op.bytesLess y z = true → Op.bytesLess x z = true
  | _, _, [], _, h => by simp [Op.bytesLess] at h
  | _, [], _ :: _, h, _ => by simp [Op.bytesLess] at h
  | [], _ :: _, _ :: _, _, _ => by simp [Op.bytesLess]
  | a :: x, b :: y, c :: z, h1, h2 => by
    have ih := less_trans x y z
    rw [Op.bytesLess] at h1 h2 ⊢
    simp only [Bool.or_eq_true, Bool.and_eq_true, decide_eq_true_eq, beq_iff_eq] at h1 h2 ⊢
    rcases h1 with h1 | ⟨rfl, h1⟩ <;> rcases h2 with h2 | ⟨rfl, h2⟩
    · left
      rw [UInt8.lt_iff_toNat_lt] at *
      omega
    · exact .inl h1
    · exact .inl h2
    · exact .inr ⟨rfl, ih h1 h2⟩
theorem less_self : ∀ x : List UInt8, Op.bytesLess x x = false
  | [] => by simp [Op.bytesLess]
  | a :: x => by
    rw [Op.bytesLess, less_self x]
    simp
theorem rise_lt {T : Nat → SR} {n : Nat} (h : AllOk n T) {i j : Nat} (hij : i < j) (hj : j < n) : Op.bytesLess (T i).nm.toList (T j).nm.toList = true := by
  induction j with
  | zero => omega
  | succ j ih =>
    have hr := (row_ok (h (j + 1) hj)).2.1 (by omega)
    rw [Nat.add_sub_cancel] at hr
    by_cases e : i = j
    · subst e; exact hr
    · exact less_trans _ _ _ (ih (by omega) (by omega)) hr
theorem names_one {T : Nat → SR} {n : Nat} (h : AllOk n T) {i j : Nat} (hi : i < n) (hj : j < n) (e : (T i).nm.toList = (T j).nm.toList) : i = j := by
  rcases Nat.lt_trichotomy i j with h1 | h1 | h1
  · have := rise_lt h h1 hj
    rw [e, less_self] at this; cases this
  · exact h1
  · have := rise_lt h h1 hi
    rw [e, less_self] at this; cases this
theorem isN_first {T : Nat → SR} {n : Nat} (h : AllOk n T) {i : Nat} (hi : i < n) : isN T (T i).nm i = true ∧ ∀ j, j < i → isN T (T i).nm j = false := by
  refine ⟨by simp [isN], fun j hj => ?_⟩
  cases hx : isN T (T i).nm j
  · rfl
  · have := names_one h (by omega) hi (eq_of_beq hx)
    omega
theorem numAt_inj {T : Nat → SR} {n : Nat} (h : AllOk n T) {a : Nat} (ha : a < 5) {i j : Nat} (hi : i < n) (hj : j < n) (e : numAt (T i) i a = numAt (T j) j a) : i = j := by
  have key : ∀ i j, i < j → j < n → numAt (T i) i a = numAt (T j) j a → False := fun i j hij hj e => by
    have hri := ((row_ok (h i (by omega))).2.2.1 a ha).1
    have hrj := ((row_ok (h j hj)).2.2.1 a ha).1
    have hcl := (row_ok (h j hj)).2.2.2.2.2
    unfold numAt at e
    by_cases h1 : numI (T i) a = -1 <;> by_cases h2 : numI (T j) a = -1
    · rw [if_pos h1, if_pos h2] at e; omega
    · rw [if_pos h1, if_neg h2] at e; omega
    · rw [if_neg h1, if_pos h2] at e; omega
    · rw [if_neg h1, if_neg h2] at e
      exact hcl ⟨i, hij, .inl ⟨a, ha, by omega, e⟩⟩
  rcases Nat.lt_trichotomy i j with h1 | h1 | h1
  · exact (key i j h1 hj e).elim
  · exact h1
  · exact (key j i h1 hi e.symm).elim
theorem isNum_first {T : Nat → SR} {n : Nat} (h : AllOk n T) {a : Nat} (ha : a < 5) {i : Nat} (hi : i < n) : isNum T a (numAt (T i) i a) i = true ∧ ∀ j, j < i → isNum T a (numAt (T i) i a) j = false := by
  refine ⟨by simp [isNum], fun j hj => ?_⟩
  cases hx : isNum T a (numAt (T i) i a) j
  · rfl
  · have := numAt_inj h ha (by omega) hi (eq_of_beq hx)
    omega
theorem isSub_first {T : Nat → SR} {n : Nat} (h : AllOk n T) {i : Nat} (hi : i < n) (hm : 0 < (T i).mx) : isSub T (T i).mx (T i).sb i = true ∧ ∀ j, j < i → isSub T (T i).mx (T i).sb j = false := by
  refine ⟨by simp [isSub]; omega, fun j hj => ?_⟩
  cases hx : isSub T (T i).mx (T i).sb j
  · rfl
  · unfold isSub at hx
    simp only [Bool.and_eq_true, beq_iff_eq] at hx
    exact absurd ⟨j, hj, .inr ⟨hm, hx.1.2, hx.2⟩⟩ (row_ok (h i hi)).2.2.2.2.2
end Go.Proofs.YtlninlempefjcaaDoor
