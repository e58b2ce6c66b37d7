/-
  The longest way, by its equation; a program without jumps. Nothing here speaks of a program text.
-/
import Derived.Test.YtjblkkffdhaiiabFl
namespace Go.Proofs.Ytjblkkffdhaiiab
open Go.RowKit

theorem maxl_congr {S T : Nat → Nat} : ∀ (l : List Nat), (∀ to ∈ l, S to = T to) → maxl S l = maxl T l := by
  suffices h : ∀ (l : List Nat) (b : Nat), (∀ to ∈ l, S to = T to) → l.foldl (fun b to => max b (S to)) b = l.foldl (fun b to => max b (T to)) b from fun l hl => h l 0 hl
  intro l
  induction l with
  | nil => intro b _; rfl
  | cons x l ih =>
    intro b h
    simp only [List.foldl_cons]
    rw [h x (List.mem_cons_self ..)]
    exact ih _ fun to ht => h to (List.mem_cons_of_mem _ ht)
/-- Each place's steps are one more than the most of those behind it. -/
theorem lng_eq (g : Nat → IV) (n : Nat) : ∀ k, k ≤ n → ∀ i, n - k ≤ i → i < n → lgL g (dnto n k) i = 1 + maxl (lgL g (dnto n k)) (nexts (g i) i) := by
  intro k
  induction k with
  | zero => intro _ i h1 h2; omega
  | succ k ih =>
    intro hk i h1 h2
    have e := dnto_succ (n := n) (k := k) (by omega)
    rw [e, lgL_snoc]
    have same : ∀ j, n - k ≤ j → j < n → stp g (lgL g (dnto n k)) (n - 1 - k) j = lgL g (dnto n k) j := fun j h3 _ => by
      unfold stp; rw [if_neg (by omega)]
    have hc : ∀ i, n - 1 - k ≤ i → i < n → maxl (stp g (lgL g (dnto n k)) (n - 1 - k)) (nexts (g i) i) = maxl (lgL g (dnto n k)) (nexts (g i) i) := fun i h3 _ =>
      maxl_congr _ fun to ht => by
        have := next_gt ht
        unfold stp; rw [if_neg (by omega)]
    show stp g (lgL g (dnto n k)) (n - 1 - k) i = 1 + maxl (stp g (lgL g (dnto n k)) (n - 1 - k)) (nexts (g i) i)
    rw [hc i (by omega) h2]
    by_cases hi : i = n - 1 - k
    · subst hi
      unfold stp; rw [if_pos rfl]
    · rw [same i (by omega) h2, ih (by omega) i (by omega) h2]
/-- The steps from each place on. -/
def stepsF (g : Nat → IV) (n i : Nat) : Nat := lgL g (List.finRange n).reverse i
theorem stepsF_eq (g : Nat → IV) (n i : Nat) (hi : i < n) : stepsF g n i = 1 + maxl (stepsF g n) (nexts (g i) i) := by
  have h := lng_eq g n n (Nat.le_refl _) i (by omega) hi
  rw [dnto_all] at h
  exact h
theorem lng_steps (g : Nat → IV) (n : Nat) : lng g n = stepsF g n 0 := rfl

/-- A program without jumps: a return where it is told so, and at the end. -/
def gL (l : Nat → Bool) (m i : Nat) : IV := if i < m ∧ l i = false then ⟨0x84, 0, 0, 0⟩ else ⟨0x16, 0, 0, 0⟩
theorem neg_facts : kd ⟨0x84, 0, 0, 0⟩ = 12 ∧ fars ⟨0x84, 0, 0, 0⟩ = [0] ∧ isLd ⟨0x84, 0, 0, 0⟩ = false ∧ ∀ r, alone ⟨0x84, 0, 0, 0⟩ r = 0 := ⟨by decide +kernel, by decide +kernel, by decide +kernel, fun r => by kernel_rfl⟩
theorem ret_facts : kd ⟨0x16, 0, 0, 0⟩ = 15 ∧ fars ⟨0x16, 0, 0, 0⟩ = [] ∧ isLd ⟨0x16, 0, 0, 0⟩ = false ∧ isRet ⟨0x16, 0, 0, 0⟩ = true ∧ ∀ r, alone ⟨0x16, 0, 0, 0⟩ r = 0 := ⟨by decide +kernel, by decide +kernel, by decide +kernel, by decide +kernel, fun r => by kernel_rfl⟩
theorem gL_check (l : Nat → Bool) (m : Nat) (hm : m ≤ 4000) : (checkF (gL l m) (m + 1)).2 = 0 := by
  have hal : ∀ i r, alone (gL l m i) r = 0 := fun i r => by
    unfold gL; split
    · exact neg_facts.2.2.2 r
    · exact ret_facts.2.2.2.2 r
  have hld : ∀ i, isLd (gL l m i) = false := fun i => by
    unfold gL; split
    · exact neg_facts.2.2.1
    · exact ret_facts.2.2.1
  have hlast : isRet (gL l m (m + 1 - 1)) = true := by
    unfold gL; rw [if_neg (by omega)]; exact ret_facts.2.2.2.1
  have hf : formedF (gL l m) (m + 1) = (0, 0) := by
    unfold formedF
    rw [if_neg (by omega), if_neg (by omega), pick_none _ (fun i _ => hal i _), if_pos hlast]
  unfold checkF
  rw [hf, if_pos rfl, pick_none _ (fun i _ => by rw [if_neg (by rw [hld]; simp)])]
/-- The first return: told by what stands there, and ahead. -/
structure Fst (l : Nat → Bool) (m f : Nat) : Prop where
  le : f ≤ m
  before : ∀ i, i < f → l i = false
  here : f < m → l f = true
section
variable {l : Nat → Bool} {m f : Nat}
theorem gL_before (h : Fst l m f) (i : Nat) (hi : i < f) : nexts (gL l m i) i = [i + 1] := by
  have e : gL l m i = ⟨0x84, 0, 0, 0⟩ := by unfold gL; rw [if_pos ⟨by have := h.le; omega, h.before i hi⟩]
  unfold nexts
  rw [e, neg_facts.2.1]; rfl
theorem gL_here (h : Fst l m f) : nexts (gL l m f) f = [] := by
  have e : gL l m f = ⟨0x16, 0, 0, 0⟩ := by
    unfold gL
    rw [if_neg]
    rintro ⟨h1, h2⟩
    rw [h.here h1] at h2; cases h2
  unfold nexts
  rw [e, ret_facts.2.1]; rfl
theorem gL_way (h : Fst l m f) (hm : m ≤ 4000) (i : Nat) : way (gL l m) (m + 1) i = decide (i ≤ f) := by
  have F := fmd_of (gL_check l m hm)
  have h1 : ∀ i, i ≤ f → way (gL l m) (m + 1) i = true := by
    intro i
    induction i with
    | zero => intro _; exact way_zero _ _
    | succ i ih =>
      intro hi
      refine way_next F (by have := h.le; omega) (ih (by omega)) ?_
      rw [gL_before h i (by omega)]
      exact List.mem_singleton.2 rfl
  have h2 : ∀ N i, i < N → way (gL l m) (m + 1) i = true → i ≤ f := by
    intro N
    induction N with
    | zero => intro i hi; omega
    | succ N ih =>
      intro i hi hw
      rcases way_back i hw with rfl | ⟨j, _, hji, hwj, hn⟩
      · exact Nat.zero_le _
      · have hj := ih j (by omega) hwj
        by_cases e : j = f
        · subst e
          rw [gL_here h] at hn
          cases hn
        · rw [gL_before h j (by omega)] at hn
          have := List.mem_singleton.1 hn
          omega
  by_cases hi : i ≤ f
  · rw [h1 i hi]; simp [hi]
  · cases hw : way (gL l m) (m + 1) i
    · simp [hi]
    · exact absurd (h2 (i + 1) i (by omega) hw) hi
theorem gL_cnt (h : Fst l m f) (hm : m ≤ 4000) : ∀ k, cnt (gL l m) (m + 1) k = min k (f + 1)
  | 0 => by simp [cnt]
  | k + 1 => by
    show cnt (gL l m) (m + 1) k + (if way (gL l m) (m + 1) k = true then 1 else 0) = _
    rw [gL_cnt h hm k, gL_way h hm k]
    by_cases hk : k ≤ f
    · rw [if_pos (by simpa using hk), Nat.min_eq_left (by omega), Nat.min_eq_left (by omega)]
    · rw [if_neg (by simpa using hk), Nat.min_eq_right (by omega), Nat.min_eq_right (by omega)]
theorem gL_steps (h : Fst l m f) : ∀ d i, i ≤ f → f - i = d → stepsF (gL l m) (m + 1) i = d + 1 := by
  intro d
  induction d with
  | zero =>
    intro i hi hd
    obtain rfl : i = f := by omega
    rw [stepsF_eq _ _ _ (by have := h.le; omega), gL_here h]; rfl
  | succ d ih =>
    intro i hi hd
    rw [stepsF_eq _ _ _ (by have := h.le; omega), gL_before h i (by omega)]
    have := ih (i + 1) (by omega) (by omega)
    show 1 + max 0 (stepsF (gL l m) (m + 1) (i + 1)) = _
    omega
theorem gL_lng (h : Fst l m f) : lng (gL l m) (m + 1) = f + 1 := by
  rw [lng_steps]; exact gL_steps h f 0 (Nat.zero_le _) (by omega)
end
end Go.Proofs.Ytjblkkffdhaiiab
