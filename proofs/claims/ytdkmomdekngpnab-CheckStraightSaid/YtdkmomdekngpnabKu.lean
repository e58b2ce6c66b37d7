/-
  Words for CheckStraight: a row of stores and loads of cells with a return behind; which of its loads is the first of a cell that nothing was stored in.
-/
import Derived.Test.YtdkmomdekngpnabKs
namespace Go.Proofs.Ytdkmomdekngpnab
open Go.RowKit

def codeOf (b : Nat) : Nat := if b / 16 % 4 = 0 then 2 else if b / 16 % 4 = 1 then 96 else if b / 16 % 4 = 2 then 3 else 97
def gs (f : Nat → Nat) (i : Nat) : IV := ⟨codeOf (f i), 0, 0, f i % 16⟩
def gS (f : Nat → Nat) (n i : Nat) : IV := if i < n then gs f i else ⟨22, 0, 0, 0⟩
def stB (b : Nat) : Bool := b / 16 % 4 == 0 || b / 16 % 4 == 2
theorem kd_gs (f : Nat → Nat) (i : Nat) : isSt (gs f i) = stB (f i) ∧ isLd (gs f i) = !stB (f i) ∧ fars (gs f i) = [0] ∧ ∀ r, alone (gs f i) r = 0 := by
  have hm : f i % 16 < 16 := Nat.mod_lt _ (by decide)
  have h4 : f i / 16 % 4 = 0 ∨ f i / 16 % 4 = 1 ∨ f i / 16 % 4 = 2 ∨ f i / 16 % 4 = 3 := by omega
  have key : ∀ (c : Nat) (K : Int), codeOf (f i) = c → (ofF (c : Int)).1 = K → (K = 8 ∨ K = 9 ∨ K = 3 ∨ K = 6) →
      isSt (gs f i) = (K == 8 || K == 9) ∧ isLd (gs f i) = (K == 3 || K == 6) ∧ fars (gs f i) = [0] ∧ ∀ r, alone (gs f i) r = 0 := by
    intro c K hc hK hK'
    have hk : kd (gs f i) = K := by show (ofF ((codeOf (f i) : Nat) : Int)).1 = K; rw [hc]; exact hK
    refine ⟨by unfold isSt; rw [hk], by unfold isLd; rw [hk], ?_, fun r => ?_⟩
    · unfold fars isRet isBr
      rw [hk]
      rcases hK' with h | h | h | h <;> subst h <;> rfl
    · have hlt : ¬ 16 ≤ (gs f i).k := by show ¬ 16 ≤ f i % 16; omega
      unfold alone isBr
      rw [hk]
      rcases hK' with h | h | h | h <;> subst h <;> simp [hlt]
  unfold stB
  rcases h4 with h | h | h | h <;> rw [h]
  · obtain ⟨a, b, c, d⟩ := key 2 8 (by unfold codeOf; rw [h]; rfl) (by decide +kernel) (by decide)
    exact ⟨a.trans rfl, b.trans rfl, c, d⟩
  · obtain ⟨a, b, c, d⟩ := key 96 3 (by unfold codeOf; rw [h]; rfl) (by decide +kernel) (by decide)
    exact ⟨a.trans rfl, b.trans rfl, c, d⟩
  · obtain ⟨a, b, c, d⟩ := key 3 9 (by unfold codeOf; rw [h]; rfl) (by decide +kernel) (by decide)
    exact ⟨a.trans rfl, b.trans rfl, c, d⟩
  · obtain ⟨a, b, c, d⟩ := key 97 6 (by unfold codeOf; rw [h]; rfl) (by decide +kernel) (by decide)
    exact ⟨a.trans rfl, b.trans rfl, c, d⟩

/-- Was something stored in a cell ahead of an instruction? -/
def sb (f : Nat → Nat) (c : Nat) : Nat → Bool
  | 0 => false
  | k + 1 => sb f c k || (stB (f k) && f k % 16 == c)
theorem st_reach (f : Nat → Nat) (n c : Nat) : ∀ t, t ≤ n → (∀ i, t < i → reach (gS f n) c t i = false) ∧ reach (gS f n) c t t = !sb f c t
  | 0, _ => ⟨fun i hi => by show (i == 0) = false; simp; omega, rfl⟩
  | t + 1, ht => by
    obtain ⟨h1, h2⟩ := st_reach f n c t (by omega)
    have hg : gS f n t = gs f t := by unfold gS; rw [if_pos (by omega)]
    obtain ⟨k1, _, k3, _⟩ := kd_gs f t
    have step : ∀ i, reach (gS f n) c (t + 1) i = (reach (gS f n) c t i || (!sb f c t && !(stB (f t) && f t % 16 == c) && (i == t + 1))) := fun i => by
      show (reach (gS f n) c t i || (reach (gS f n) c t t && !(isSt (gS f n t) && (gS f n t).k == c) && (fars (gS f n t)).any (fun x => i == t + 1 + x))) = _
      rw [hg, k1, k3, h2]
      show _ = (reach (gS f n) c t i || (!sb f c t && !(stB (f t) && f t % 16 == c) && (i == t + 1)))
      simp [gs]
    refine ⟨fun i hi => ?_, ?_⟩
    · rw [step, h1 i (by omega)]
      have : (i == t + 1) = false := by simp; omega
      rw [this]; simp
    · rw [step, h1 (t + 1) (by omega)]
      show _ = !(sb f c t || (stB (f t) && f t % 16 == c))
      simp
def badB (f : Nat → Nat) (i : Nat) : Bool := !stB (f i) && !sb f (f i % 16) i
theorem st_formed (f : Nat → Nat) (n : Nat) (hn : n ≤ 60) : (formedF (gS f n) (n + 1)).2 = 0 := by
  unfold formedF
  rw [if_neg (by omega), if_neg (by omega), pick_none]
  · have : gS f n (n + 1 - 1) = ⟨22, 0, 0, 0⟩ := by unfold gS; rw [if_neg (by omega)]
    rw [this]
    have h : isRet ⟨22, 0, 0, 0⟩ = true := by decide +kernel
    rw [h]; rfl
  · intro i hi
    by_cases h : i < n
    · have hg : gS f n i = gs f i := by unfold gS; rw [if_pos h]
      rw [hg]; exact (kd_gs f i).2.2.2 _
    · have hg : gS f n i = ⟨22, 0, 0, 0⟩ := by unfold gS; rw [if_neg h]
      rw [hg]
      have h1 : kd ⟨22, 0, 0, 0⟩ = 15 := by decide +kernel
      unfold alone isLd isSt isBr
      rw [h1]; simp
theorem st_init (f : Nat → Nat) (n i : Nat) (_hi : i < n + 1) : initE (gS f n) (n + 1) i = if i < n ∧ badB f i = true then 12 else 0 := by
  by_cases h : i < n
  · have hg : gS f n i = gs f i := by unfold gS; rw [if_pos h]
    unfold initE
    rw [hg, (kd_gs f i).2.1, reach_late _ _ i (n + 1) i (Nat.le_refl _) (by omega), (st_reach f n _ i (by omega)).2]
    unfold badB
    show (if _ ∧ (!sb f (f i % 16) i) = true then 12 else 0) = _
    simp only [h, true_and, Bool.and_eq_true]
    first | rfl | congr
  · rw [if_neg (fun x => h x.1)]
    apply initE_no
    have hg : gS f n i = ⟨22, 0, 0, 0⟩ := by unfold gS; rw [if_neg h]
    rw [hg]; decide +kernel
theorem st_bad (f : Nat → Nat) (n q : Nat) (hn : n ≤ 60) (hq : q < n) (hb : badB f q = true) (h0 : ∀ i, i < q → badB f i = false) : checkF (gS f n) (n + 1) = (q, 12) := by
  have e : initE (gS f n) (n + 1) q = 12 := by rw [st_init f n q (by omega), if_pos ⟨hq, hb⟩]
  rw [checkF_ok (st_formed f n hn), ← e]
  apply pick_at _ (by omega) (by rw [e]; decide)
  intro i hi
  rw [st_init f n i (by omega), if_neg (fun x => by rw [h0 i hi] at x; cases x.2)]
theorem st_good (f : Nat → Nat) (n : Nat) (hn : n ≤ 60) (h0 : ∀ i, i < n → badB f i = false) : checkF (gS f n) (n + 1) = (0, 0) := by
  rw [checkF_ok (st_formed f n hn), pick_none]
  intro i hi
  rw [st_init f n i hi, if_neg (fun x => by rw [h0 i x.1] at x; cases x.2)]
end Go.Proofs.Ytdkmomdekngpnab
