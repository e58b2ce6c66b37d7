/-
  Words out of any bytes: strings.FieldsFunc at the blanks is the row of words byte by byte, whatever the bytes are.
-/
import Derived.Test.YtebeoadmdflfcaaGreatDoorPn
namespace Go.Proofs.YtebeoadmdflfcaaGreatDoor
open Go.RowKit Go.Shelf
set_option linter.unusedVariables false

theorem wdF_app : ∀ (x t w : List UInt8) (out : List (List UInt8)), (∀ b ∈ x, blk b = false) → wdF (x ++ t) w out = wdF t (w ++ x) out := by
  intro x
  induction x with
  | nil => intro t w out _; simp
  | cons b l ih =>
    intro t w out h
    rw [List.cons_append, wdF, if_neg (by rw [h b (by simp)]; decide), ih t (w ++ [b]) out fun y hy => h y (by simp [hy]), List.append_assoc]
    rfl
theorem decode_span (s : ByteArray) (pos : Nat) (h : pos < s.size) (ha : 128 ≤ (s[pos]'h).toNat) : 1 ≤ (Utf8.decode s pos).2 ∧ pos + (Utf8.decode s pos).2 ≤ s.size ∧ ∀ k, k < (Utf8.decode s pos).2 → 128 ≤ (s.get! (pos + k)).toNat := by
  have h0 : 128 ≤ (s.get! (pos + 0)).toNat := by rw [get_at s pos h]; exact ha
  have hc : ∀ x : Nat, x / 64 = 2 → 128 ≤ x := fun x hx => by omega
  have hk1 : ∀ n, n = 1 → ∀ k, k < n → 128 ≤ (s.get! (pos + k)).toNat := fun n hn k hk => by
    obtain rfl : k = 0 := by omega
    exact h0
  unfold Utf8.decode
  simp only []
  rw [if_neg (by omega)]
  split
  · rename_i h2
    simp only [Bool.and_eq_true, beq_iff_eq, decide_eq_true_eq] at h2
    split
    · refine ⟨by show 1 ≤ 2; decide, by show pos + 2 ≤ _; omega, fun k hk => ?_⟩
      rcases (show k = 0 ∨ k = 1 by change k < 2 at hk; omega) with rfl | rfl
      · exact h0
      · exact hc _ h2.2.2
    · exact ⟨by decide, by show pos + 1 ≤ _; omega, hk1 1 rfl⟩
  · split
    · rename_i h2
      simp only [Bool.and_eq_true, beq_iff_eq, decide_eq_true_eq] at h2
      split
      · refine ⟨by show 1 ≤ 3; decide, by show pos + 3 ≤ _; omega, fun k hk => ?_⟩
        rcases (show k = 0 ∨ k = 1 ∨ k = 2 by change k < 3 at hk; omega) with rfl | rfl | rfl
        · exact h0
        · exact hc _ h2.1.2.2
        · exact hc _ h2.2.2
      · exact ⟨by decide, by show pos + 1 ≤ _; omega, hk1 1 rfl⟩
    · split
      · rename_i h2
        simp only [Bool.and_eq_true, beq_iff_eq, decide_eq_true_eq] at h2
        split
        · refine ⟨by show 1 ≤ 4; decide, by show pos + 4 ≤ _; omega, fun k hk => ?_⟩
          rcases (show k = 0 ∨ k = 1 ∨ k = 2 ∨ k = 3 by change k < 4 at hk; omega) with rfl | rfl | rfl | rfl
          · exact h0
          · exact hc _ h2.1.1.2.2
          · exact hc _ h2.1.2.2
          · exact hc _ h2.2.2
        · exact ⟨by decide, by show pos + 1 ≤ _; omega, hk1 1 rfl⟩
      · exact ⟨by decide, by show pos + 1 ≤ _; omega, hk1 1 rfl⟩
theorem piece_more (l : List UInt8) (a pos n : Nat) (h : a ≤ pos) : (l.drop a).take (pos - a) ++ (l.drop pos).take n = (l.drop a).take (pos + n - a) := by
  rw [show pos + n - a = (pos - a) + n by omega, List.take_add, List.drop_drop, show a + (pos - a) = pos by omega]
theorem isBl_high {r : Nat} (h : 128 ≤ r) : isBl r = false := by
  unfold isBl
  rw [decide_eq_false (by omega), decide_eq_false (by omega), decide_eq_false (by omega)]; rfl
theorem spans_any (s : ByteArray) : ∀ (f pos : Nat) (st : Option Nat) (acc : List (Nat × Nat)), s.size ≤ pos + f → pos ≤ s.size → (∀ a, st = some a → a < pos) →
    ((Lib.closeSpans s (Lib.spansFromP isBl s f pos st acc)).map fun p => (s.data.toList.drop p.1).take (p.2 - p.1)) = wdF (s.data.toList.drop pos) (wrd s.data.toList st pos) (acc.map fun p => (s.data.toList.drop p.1).take (p.2 - p.1)) := by
  have hlen : s.data.toList.length = s.size := Array.length_toList
  have hend : ∀ (st : Option Nat) (acc : List (Nat × Nat)), (∀ a, st = some a → a < s.size) → ((Lib.closeSpans s (acc, st)).map fun p => (s.data.toList.drop p.1).take (p.2 - p.1)) = wdF [] (wrd s.data.toList st s.size) (acc.map fun p => (s.data.toList.drop p.1).take (p.2 - p.1)) := fun st acc hst => by
    cases st with
    | none => rfl
    | some a =>
      have := piece_ne s.data.toList a s.size (hst a rfl) (by omega)
      simp only [Lib.closeSpans, wdF, wrd, List.map_append, List.map_cons, List.map_nil]
      rw [psh_ne _ this]
  intro f
  induction f with
  | zero =>
    intro pos st acc h1 h2 h3
    obtain rfl : pos = s.size := by omega
    have e : s.data.toList.drop s.size = [] := by rw [List.drop_eq_nil_iff]; omega
    rw [e]
    exact hend st acc h3
  | succ f ih =>
    intro pos st acc h1 h2 h3
    by_cases hlt : pos < s.size
    · have hgl : pos < s.data.toList.length := by omega
      have hgb : s.data.toList[pos] = s[pos]'hlt := by simp [ByteArray.getElem_eq_getElem_data]
      by_cases hlow : (s[pos]'hlt).toNat < 128
      · have hdec := decode_ascii s pos hlt hlow
        have ed : s.data.toList.drop pos = s.data.toList[pos] :: s.data.toList.drop (pos + 1) := List.drop_eq_getElem_cons hgl
        have ebl : isBl (s[pos]'hlt).toNat = blk (s.data.toList[pos]) := by rw [hgb, blk_iff]; rfl
        rw [ed]
        unfold Lib.spansFromP wdF
        rw [if_pos hlt, hdec]
        dsimp only
        rw [ebl]
        by_cases hb : blk (s.data.toList[pos]) = true
        · rw [if_pos hb, if_pos hb]
          cases st with
          | none =>
            dsimp only
            rw [ih (pos + 1) none acc (by omega) (by omega) (fun a h => by cases h)]
            rfl
          | some a =>
            dsimp only
            rw [ih (pos + 1) none (acc ++ [(a, pos)]) (by omega) (by omega) (fun a h => by cases h)]
            have hne := piece_ne s.data.toList a pos (h3 a rfl) (by omega)
            simp only [wrd, List.map_append, List.map_cons, List.map_nil]
            rw [psh_ne _ hne]
        · rw [if_neg hb, if_neg hb]
          cases st with
          | none =>
            dsimp only
            rw [ih (pos + 1) (some pos) acc (by omega) (by omega) (fun a h => by cases h; omega)]
            have := piece_grow s.data.toList pos pos (Nat.le_refl _) hgl
            simp only [wrd]
            rw [← this]
            simp
          | some a =>
            dsimp only
            rw [ih (pos + 1) (some a) acc (by omega) (by omega) (fun b h => by cases h; have := h3 a rfl; omega)]
            have := piece_grow s.data.toList a pos (by have := h3 a rfl; omega) hgl
            simp only [wrd]
            rw [← this]
      · have hr := (decode_high s pos hlt (by omega)).1
        obtain ⟨d1, d2, d3⟩ := decode_span s pos hlt (by omega)
        unfold Lib.spansFromP
        rw [if_pos hlt, isBl_high hr]
        simp only [Bool.false_eq_true, if_false]
        generalize (Utf8.decode s pos).2 = n at d1 d2 d3 ⊢
        have hnb : ∀ b ∈ (s.data.toList.drop pos).take n, blk b = false := by
          intro b hb
          obtain ⟨k, hk, he⟩ := List.getElem_of_mem hb
          have hkn : k < n := by simp at hk; omega
          have hlk : pos + k < s.size := by omega
          have h4 := d3 k hkn
          have h5 : b = s[pos + k]'hlk := by
            rw [← he, List.getElem_take, List.getElem_drop]
            simp [ByteArray.getElem_eq_getElem_data]
          have h6 : s.get! (pos + k) = s[pos + k]'hlk := get_at s (pos + k) hlk
          rw [h6, ← h5] at h4
          rw [blk_iff, decide_eq_false (by omega), decide_eq_false (by omega), decide_eq_false (by omega)]
          rfl
        have hsp : s.data.toList.drop pos = (s.data.toList.drop pos).take n ++ s.data.toList.drop (pos + n) := by
          conv => lhs; rw [← List.take_append_drop n (s.data.toList.drop pos), List.drop_drop]
        rw [hsp, wdF_app _ _ _ _ hnb]
        cases st with
        | none =>
          dsimp only
          rw [ih (pos + n) (some pos) acc (by omega) (by omega) (fun a h => by cases h; omega)]
          have := piece_more s.data.toList pos pos n (Nat.le_refl _)
          simp only [wrd]
          rw [← this]
          simp
        | some a =>
          dsimp only
          rw [ih (pos + n) (some a) acc (by omega) (by omega) (fun b h => by cases h; have := h3 a rfl; omega)]
          have := piece_more s.data.toList a pos n (by have := h3 a rfl; omega)
          simp only [wrd]
          rw [← this]
    · obtain rfl : pos = s.size := by omega
      have e : s.data.toList.drop s.size = [] := by rw [List.drop_eq_nil_iff]; omega
      rw [e, Lib.spansFromP_end isBl s _ _ _ _ hlt]
      exact hend st acc h3
/-- strings.FieldsFunc at blanks, at every text. -/
theorem fields_wdA (s : ByteArray) : Lib.goFieldsP isBl s = (wds s.data.toList).map fun w => (⟨w.toArray⟩ : ByteArray) := by
  have h := spans_any s s.size 0 none [] (by omega) (Nat.zero_le _) (fun a h => by cases h)
  unfold Lib.goFieldsP Lib.spansOfP
  have e : ∀ p : Nat × Nat, s.extract p.1 p.2 = (⟨((s.data.toList.drop p.1).take (p.2 - p.1)).toArray⟩ : ByteArray) := fun p => Lib.extract_eq s p.1 p.2
  unfold wds
  rw [List.drop_zero] at h
  simp only [wrd, List.map_nil] at h
  rw [← h, List.map_map]
  exact List.map_congr_left fun p _ => e p
end Go.Proofs.YtebeoadmdflfcaaGreatDoor
