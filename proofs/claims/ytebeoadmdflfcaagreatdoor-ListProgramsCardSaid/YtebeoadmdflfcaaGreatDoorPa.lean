/-
  Lines of layer 3, as plain functions: patterns whose marks are filled by figures; no two instructions have one line. Nothing here speaks of a program text.
-/
import Derived.Lib.ItoaNum
import Derived.Lib.ReplaceLaws
import Derived.Lib.SplitLaws
import Derived.Test.YtebeoadmdflfcaaGreatDoorMem
namespace Go.Proofs.YtebeoadmdflfcaaGreatDoor
open Go
set_option linter.unusedVariables false

def patT : List (Nat × List UInt8) := [
  (32, [108, 100, 32, 91, 75, 93]),
  (0, [108, 100, 32, 35, 75]),
  (96, [108, 100, 32, 109, 91, 75, 93]),
  (128, [108, 100, 32, 108, 101, 110]),
  (1, [108, 100, 120, 32, 35, 75]),
  (97, [108, 100, 120, 32, 109, 91, 75, 93]),
  (129, [108, 100, 120, 32, 108, 101, 110]),
  (2, [115, 116, 32, 109, 91, 75, 93]),
  (3, [115, 116, 120, 32, 109, 91, 75, 93]),
  (7, [116, 97, 120]),
  (135, [116, 120, 97]),
  (132, [110, 101, 103]),
  (5, [106, 97, 32, 75]),
  (6, [114, 101, 116, 32, 35, 75]),
  (22, [114, 101, 116, 32, 97]),
  (4, [97, 100, 100, 32, 35, 75]),
  (12, [97, 100, 100, 32, 120]),
  (20, [115, 117, 98, 32, 35, 75]),
  (28, [115, 117, 98, 32, 120]),
  (36, [109, 117, 108, 32, 35, 75]),
  (44, [109, 117, 108, 32, 120]),
  (52, [100, 105, 118, 32, 35, 75]),
  (60, [100, 105, 118, 32, 120]),
  (68, [111, 114, 32, 35, 75]),
  (76, [111, 114, 32, 120]),
  (84, [97, 110, 100, 32, 35, 75]),
  (92, [97, 110, 100, 32, 120]),
  (100, [108, 115, 104, 32, 35, 75]),
  (108, [108, 115, 104, 32, 120]),
  (116, [114, 115, 104, 32, 35, 75]),
  (124, [114, 115, 104, 32, 120]),
  (164, [120, 111, 114, 32, 35, 75]),
  (172, [120, 111, 114, 32, 120]),
  (21, [106, 101, 113, 32, 35, 75, 32, 84, 32, 70]),
  (29, [106, 101, 113, 32, 120, 32, 84, 32, 70]),
  (37, [106, 103, 116, 32, 35, 75, 32, 84, 32, 70]),
  (45, [106, 103, 116, 32, 120, 32, 84, 32, 70]),
  (53, [106, 103, 101, 32, 35, 75, 32, 84, 32, 70]),
  (61, [106, 103, 101, 32, 120, 32, 84, 32, 70]),
  (69, [106, 115, 101, 116, 32, 35, 75, 32, 84, 32, 70]),
  (77, [106, 115, 101, 116, 32, 120, 32, 84, 32, 70])]
def anyP : List UInt8 := [46, 99, 111, 100, 101, 32, 67, 32, 84, 32, 70, 32, 75]
/-- Decimal figures. -/
abbrev dd (u : Nat) : List UInt8 := Lib.decDigits u
def isDg (b : UInt8) : Bool := decide (48 ≤ b.toNat ∧ b.toNat ≤ 57)
def isMk (b : UInt8) : Bool := b == 67 || b == 84 || b == 70 || b == 75
/-- What stands in a mark's place. -/
def mkv (c t f k : Nat) (b : UInt8) : List UInt8 := if b = 67 then dd c else if b = 84 then dd t else if b = 70 then dd f else if b = 75 then dd k else [b]
def subst (c t f k : Nat) : List UInt8 → List UInt8
  | [] => []
  | b :: l => mkv c t f k b ++ subst c t f k l
/-- A pattern without figures, in which no mark stands behind another one. -/
def wellP : List UInt8 → Bool
  | [] => true
  | [b] => !isDg b
  | b :: e :: l => !isDg b && (!isMk b || (!isMk e)) && wellP (e :: l)
theorem dd_isDg (u : Nat) : ∀ b ∈ dd u, isDg b = true := by
  induction u using Nat.strongRecOn with
  | ind u ih =>
    intro b hb
    rw [dd, Lib.decDigits] at hb
    split at hb
    · obtain rfl : b = _ := by simpa using hb
      unfold isDg
      exact decide_eq_true (by simp; omega)
    · rw [List.mem_append] at hb
      rcases hb with hb | hb
      · exact ih (u / 10) (by omega) b hb
      · obtain rfl : b = _ := by simpa using hb
        unfold isDg
        exact decide_eq_true (by simp; omega)
theorem dd_ne (u : Nat) : dd u ≠ [] := by
  rw [dd, Lib.decDigits]
  split <;> simp
/-- The number of figures. -/
def valD : List UInt8 → Nat → Nat
  | [], n => n
  | b :: l, n => valD l (10 * n + (b.toNat - 48))
theorem valD_app (l m : List UInt8) : ∀ n, valD (l ++ m) n = valD m (valD l n) := by
  induction l with
  | nil => intro n; rfl
  | cons b l ih => intro n; rw [List.cons_append, valD, valD, ih]
theorem valD_dd (u : Nat) : valD (dd u) 0 = u := by
  induction u using Nat.strongRecOn with
  | ind u ih =>
    rw [dd, Lib.decDigits]
    split
    · simp [valD]; omega
    · rw [valD_app, ih (u / 10) (by omega)]
      simp [valD]
      omega
theorem dd_inj {a b : Nat} (h : dd a = dd b) : a = b := by rw [← valD_dd a, h, valD_dd]
/-- Figures ahead of what begins with none are told apart. -/
theorem split_dg : ∀ (D D' R R' : List UInt8), (∀ b ∈ D, isDg b = true) → (∀ b ∈ D', isDg b = true) → (∀ b, R.head? = some b → isDg b = false) → (∀ b, R'.head? = some b → isDg b = false) → D ++ R = D' ++ R' → D = D' ∧ R = R' := by
  intro D
  induction D with
  | nil =>
    intro D' R R' _ h2 h3 _ h
    cases D' with
    | nil => exact ⟨rfl, h⟩
    | cons b l =>
      rw [List.nil_append, List.cons_append] at h
      have := h3 b (by rw [h]; rfl)
      rw [h2 b (by simp)] at this
      cases this
  | cons b l ih =>
    intro D' R R' h1 h2 h3 h4 h
    cases D' with
    | nil =>
      rw [List.nil_append, List.cons_append] at h
      have := h4 b (by rw [← h]; rfl)
      rw [h1 b (by simp)] at this
      cases this
    | cons b' l' =>
      rw [List.cons_append, List.cons_append] at h
      injection h with e1 e2
      obtain ⟨q1, q2⟩ := ih l' R R' (fun x hx => h1 x (by simp [hx])) (fun x hx => h2 x (by simp [hx])) h3 h4 e2
      exact ⟨by rw [e1, q1], q2⟩
theorem mkv_non {c t f k : Nat} {b : UInt8} (h : isMk b = false) : mkv c t f k b = [b] := by
  unfold isMk at h
  simp only [Bool.or_eq_false_iff, beq_eq_false_iff_ne] at h
  unfold mkv
  rw [if_neg h.1.1.1, if_neg h.1.1.2, if_neg h.1.2, if_neg h.2]
theorem mkv_dg {c t f k : Nat} {b : UInt8} (h : isMk b = true) : ∃ v, mkv c t f k b = dd v := by
  unfold isMk at h
  unfold mkv
  split
  · exact ⟨_, rfl⟩
  · split
    · exact ⟨_, rfl⟩
    · split
      · exact ⟨_, rfl⟩
      · split
        · exact ⟨_, rfl⟩
        · rename_i h1 h2 h3 h4
          simp [h1, h2, h3, h4] at h
theorem wellP_tail {b : UInt8} {l : List UInt8} (h : wellP (b :: l) = true) : wellP l = true ∧ isDg b = false ∧ (isMk b = true → ∀ e, l.head? = some e → isMk e = false ∧ isDg e = false) := by
  cases l with
  | nil =>
    rw [wellP] at h
    exact ⟨rfl, by simpa using h, fun _ e he => by cases he⟩
  | cons e l =>
    rw [wellP] at h
    simp only [Bool.and_eq_true, Bool.not_eq_true', Bool.or_eq_true] at h
    refine ⟨h.2, h.1.1, fun hm e' he => ?_⟩
    obtain rfl : e = e' := by simpa using he
    rcases h.1.2 with h2 | h2
    · rw [hm] at h2; cases h2
    · refine ⟨h2, ?_⟩
      have h3 := h.2
      cases l with
      | nil => rw [wellP] at h3; simpa using h3
      | cons x l => rw [wellP] at h3; simp only [Bool.and_eq_true, Bool.not_eq_true'] at h3; exact h3.1.1
theorem subst_head {c t f k : Nat} {l : List UInt8} (h : ∀ e, l.head? = some e → isMk e = false ∧ isDg e = false) : ∀ b, (subst c t f k l).head? = some b → isDg b = false := by
  intro b hb
  cases l with
  | nil => cases hb
  | cons e l =>
    obtain ⟨h1, h2⟩ := h e rfl
    rw [subst, mkv_non h1] at hb
    obtain rfl : e = b := by simpa using hb
    exact h2
theorem subst_inj {c t f k c' t' f' k' : Nat} : ∀ p, wellP p = true → subst c t f k p = subst c' t' f' k' p → ∀ b ∈ p, mkv c t f k b = mkv c' t' f' k' b := by
  intro p
  induction p with
  | nil => intro _ _ b hb; cases hb
  | cons e l ih =>
    intro hw h b hb
    obtain ⟨w1, w2, w3⟩ := wellP_tail hw
    rw [subst, subst] at h
    have hh : mkv c t f k e = mkv c' t' f' k' e ∧ subst c t f k l = subst c' t' f' k' l := by
      cases hm : isMk e
      · rw [mkv_non hm, mkv_non hm] at h
        injection h with _ h2
        exact ⟨by rw [mkv_non hm, mkv_non hm], h2⟩
      · obtain ⟨v, hv⟩ := mkv_dg (c := c) (t := t) (f := f) (k := k) hm
        obtain ⟨v', hv'⟩ := mkv_dg (c := c') (t := t') (f := f') (k := k') hm
        refine split_dg _ _ _ _ (by rw [hv]; exact dd_isDg v) (by rw [hv']; exact dd_isDg v') (subst_head (w3 hm)) (subst_head (w3 hm)) h
    rcases List.mem_cons.1 hb with rfl | hb
    · exact hh.1
    · exact ih w1 hh.2 b hb
/-- What is left of a line without its figures. -/
theorem subst_skel {c t f k : Nat} : ∀ p, wellP p = true → (subst c t f k p).filter (fun b => !isDg b) = p.filter (fun b => !isMk b) := by
  intro p
  induction p with
  | nil => intro _; rfl
  | cons e l ih =>
    intro hw
    obtain ⟨w1, w2, _⟩ := wellP_tail hw
    rw [subst, List.filter_append, ih w1]
    cases hm : isMk e
    · rw [mkv_non hm, List.filter_cons_of_pos (by simp [w2]), List.filter_nil, List.filter_cons_of_pos (by simp [hm])]; rfl
    · obtain ⟨v, hv⟩ := mkv_dg (c := c) (t := t) (f := f) (k := k) hm
      rw [hv, List.filter_cons_of_neg (by simp [hm])]
      have : (dd v).filter (fun b => !isDg b) = [] := List.filter_eq_nil_iff.2 fun b hb => by simp [dd_isDg v b hb]
      rw [this]; rfl
def codeP (j : Nat) : Nat := (patT.getD j (0, [])).1
def patP (j : Nat) : List UInt8 := (patT.getD j (0, [])).2
theorem patP_well : ∀ j, j < 41 → wellP (patP j) = true := by decide +kernel
theorem anyP_well : wellP anyP = true := by decide +kernel
theorem codeP_inj : ∀ j, j < 41 → ∀ i, i < 41 → codeP j = codeP i → j = i := by decide +kernel
theorem patP_skel : ∀ j, j < 41 → ∀ i, i < 41 → (patP j).filter (fun b => !isMk b) = (patP i).filter (fun b => !isMk b) → j = i := by decide +kernel
theorem patP_any : ∀ j, j < 41 → (patP j).filter (fun b => !isMk b) ≠ anyP.filter (fun b => !isMk b) := by decide +kernel
/-- Does a pattern tell all? -/
def wholeP (p : List UInt8) (t f k : Nat) : Bool := (t == 0 || p.contains 84) && (f == 0 || p.contains 70) && (k == 0 || p.contains 75)
/-- The place of a code. -/
def atP (c : Nat) : Nat → Option Nat
  | 0 => none
  | n + 1 => match atP c n with
    | some j => some j
    | none => if codeP n = c then some n else none
def lineL (c t f k : Nat) : List UInt8 := match atP c 41 with
  | some j => if wholeP (patP j) t f k = true then subst c t f k (patP j) else subst c t f k anyP
  | none => subst c t f k anyP
theorem atP_some {c : Nat} : ∀ {n j : Nat}, atP c n = some j → j < n ∧ codeP j = c ∧ ∀ i, i < j → codeP i ≠ c := by
  intro n
  induction n with
  | zero => intro j h; cases h
  | succ n ih =>
    intro j h
    rw [atP] at h
    cases ha : atP c n with
    | some i =>
      rw [ha] at h
      injection h with h
      subst h
      obtain ⟨h1, h2, h3⟩ := ih ha
      exact ⟨by omega, h2, h3⟩
    | none =>
      rw [ha] at h
      simp only at h
      split at h
      · injection h with h
        subst h
        refine ⟨by omega, by assumption, fun i hi => ?_⟩
        have hn : ∀ m, atP c m = none → ∀ i, i < m → codeP i ≠ c := by
          intro m
          induction m with
          | zero => intro _ i h; omega
          | succ m ihm =>
            intro hm i hi
            rw [atP] at hm
            cases hb : atP c m with
            | some x => rw [hb] at hm; cases hm
            | none =>
              rw [hb] at hm
              simp only at hm
              split at hm
              · cases hm
              · rcases Nat.lt_succ_iff_lt_or_eq.1 hi with h | rfl
                · exact ihm hb i h
                · assumption
        exact hn _ ha i hi
      · cases h
theorem atP_none {c : Nat} : ∀ {n : Nat}, atP c n = none → ∀ i, i < n → codeP i ≠ c := by
  intro m
  induction m with
  | zero => intro _ i h; omega
  | succ m ihm =>
    intro hm i hi
    rw [atP] at hm
    cases hb : atP c m with
    | some x => rw [hb] at hm; cases hm
    | none =>
      rw [hb] at hm
      simp only at hm
      split at hm
      · cases hm
      · rcases Nat.lt_succ_iff_lt_or_eq.1 hi with h | rfl
        · exact ihm hb i h
        · assumption
/-- A line's two shapes. -/
theorem line_shape (c t f k : Nat) : (∃ j, j < 41 ∧ codeP j = c ∧ (84 ∈ patP j ∨ t = 0) ∧ (70 ∈ patP j ∨ f = 0) ∧ (75 ∈ patP j ∨ k = 0) ∧ lineL c t f k = subst c t f k (patP j)) ∨ lineL c t f k = subst c t f k anyP := by
  unfold lineL
  cases ha : atP c 41 with
  | none => exact .inr rfl
  | some j =>
    obtain ⟨h1, h2, _⟩ := atP_some ha
    simp only
    by_cases hw : wholeP (patP j) t f k = true
    · rw [if_pos hw]
      refine .inl ⟨j, h1, h2, ?_, ?_, ?_, rfl⟩
      all_goals
        unfold wholeP at hw
        simp only [Bool.and_eq_true, Bool.or_eq_true, beq_iff_eq, List.contains_iff_mem] at hw
      · exact hw.1.1.symm
      · exact hw.1.2.symm
      · exact hw.2.symm
    · rw [if_neg hw]
      exact .inr rfl
theorem mkv_all {c t f k c' t' f' k' : Nat} {p : List UInt8} (h : ∀ b ∈ p, mkv c t f k b = mkv c' t' f' k' b) : (67 ∈ p → c = c') ∧ (84 ∈ p → t = t') ∧ (70 ∈ p → f = f') ∧ (75 ∈ p → k = k') := by
  refine ⟨fun hm => dd_inj (h 67 hm), fun hm => dd_inj (h 84 hm), fun hm => dd_inj (h 70 hm), fun hm => dd_inj (h 75 hm)⟩
/-- No two instructions have one line. -/
theorem line_inj {c t f k c' t' f' k' : Nat} (h : lineL c t f k = lineL c' t' f' k') : c = c' ∧ t = t' ∧ f = f' ∧ k = k' := by
  rcases line_shape c t f k with ⟨j, hj, hc, ht, hf, hk, e⟩ | e <;> rcases line_shape c' t' f' k' with ⟨i, hi, hc', ht', hf', hk', e'⟩ | e'
  · rw [e, e'] at h
    have hs := congrArg (List.filter fun b => !isDg b) h
    rw [subst_skel _ (patP_well j hj), subst_skel _ (patP_well i hi)] at hs
    obtain rfl := patP_skel j hj i hi hs
    obtain ⟨_, q2, q3, q4⟩ := mkv_all (subst_inj _ (patP_well j hj) h)
    refine ⟨hc.symm.trans hc', ?_, ?_, ?_⟩
    · rcases ht with h1 | h1
      · exact q2 h1
      · rcases ht' with h2 | h2
        · exact q2 h2
        · rw [h1, h2]
    · rcases hf with h1 | h1
      · exact q3 h1
      · rcases hf' with h2 | h2
        · exact q3 h2
        · rw [h1, h2]
    · rcases hk with h1 | h1
      · exact q4 h1
      · rcases hk' with h2 | h2
        · exact q4 h2
        · rw [h1, h2]
  · rw [e, e'] at h
    have hs := congrArg (List.filter fun b => !isDg b) h
    rw [subst_skel _ (patP_well j hj), subst_skel _ anyP_well] at hs
    exact absurd hs (patP_any j hj)
  · rw [e, e'] at h
    have hs := congrArg (List.filter fun b => !isDg b) h
    rw [subst_skel _ (patP_well i hi), subst_skel _ anyP_well] at hs
    exact absurd hs.symm (patP_any i hi)
  · rw [e, e'] at h
    obtain ⟨q1, q2, q3, q4⟩ := mkv_all (subst_inj _ anyP_well h)
    exact ⟨q1 (by decide), q2 (by decide), q3 (by decide), q4 (by decide)⟩
/-- A sign replaced by a text. -/
def repB (m : UInt8) (new : List UInt8) : List UInt8 → List UInt8
  | [] => []
  | b :: l => (if b = m then new else [b]) ++ repB m new l
theorem repK (m : UInt8) (new : List UInt8) : ∀ s : List UInt8, Lib.replaceK [m] new (Lib.count s [m]) s = repB m new s := by
  intro s
  induction s with
  | nil => rfl
  | cons b l ih =>
    rw [repB]
    by_cases hb : b = m
    · subst hb
      have hi : Lib.index (b :: l) [b] = ((0 : Nat) : Int) := by unfold Lib.index; simp [List.isPrefixOf]
      rw [Lib.count_cons_eq, Nat.add_comm, Lib.replaceK_hit _ _ _ _ 0 hi, if_pos rfl, ← ih]
      rfl
    · rw [Lib.count_cons_ne b m l hb, if_neg hb]
      cases hK : Lib.count l [m] with
      | zero =>
        rw [hK, Lib.replaceK] at ih
        rw [Lib.replaceK, ← ih]; rfl
      | succ K =>
        rw [hK] at ih
        have hne : Lib.index l [m] ≠ -1 := fun h => by rw [Lib.count_miss h] at hK; cases hK
        have hge := Lib.index_ge l [m]
        obtain ⟨i, hi⟩ : ∃ i : Nat, Lib.index l [m] = i := ⟨(Lib.index l [m]).toNat, by omega⟩
        have hi2 : Lib.index (b :: l) [m] = ((i + 1 : Nat) : Int) := by
          unfold Lib.index
          have h1 : List.isPrefixOf [m] (b :: l) = false := by simp [List.isPrefixOf]; exact fun h => hb h.symm
          have h2 : (Lib.index l [m] == -1) = false := by simpa using hne
          rw [h1, h2, hi]
          simp
        rw [Lib.replaceK_hit _ _ _ _ _ hi] at ih
        rw [Lib.replaceK_hit _ _ _ _ _ hi2, ← ih]
        simp [Nat.add_comm, Nat.add_left_comm]
theorem repAll (m : UInt8) (new s : List UInt8) : Lib.replaceAll s [m] new = repB m new s := by
  unfold Lib.replaceAll Lib.replace
  split
  · rename_i h
    have h2 : [m] = new := by simpa using h
    rw [← h2]
    induction s with
    | nil => rfl
    | cons b l ih =>
      rw [repB, ← ih]
      by_cases hb : b = m
      · rw [if_pos hb, hb]; rfl
      · rw [if_neg hb]; rfl
  · have : Lib.replaceNum s [m] (-1) = Lib.count s [m] := by unfold Lib.replaceNum; rw [if_pos (.inl (by decide))]
    rw [this]
    exact repK m new s
theorem repB_app (m : UInt8) (new : List UInt8) : ∀ a b : List UInt8, repB m new (a ++ b) = repB m new a ++ repB m new b := by
  intro a
  induction a with
  | nil => intro b; rfl
  | cons x l ih => intro b; rw [List.cons_append, repB, repB, ih, List.append_assoc]
theorem repB_dg (m : UInt8) (hm : isDg m = false) (new : List UInt8) : ∀ D : List UInt8, (∀ b ∈ D, isDg b = true) → repB m new D = D := by
  intro D
  induction D with
  | nil => intro _; rfl
  | cons b l ih =>
    intro h
    have hb : b ≠ m := fun e => by have := h b (by simp); rw [e, hm] at this; cases this
    rw [repB, if_neg hb, ih (fun x hx => h x (by simp [hx]))]; rfl
/-- The four replacements, one behind the other, put all numbers in. -/
theorem rep_subst (c t f k : Nat) : ∀ p : List UInt8, repB 75 (dd k) (repB 70 (dd f) (repB 84 (dd t) (repB 67 (dd c) p))) = subst c t f k p := by
  intro p
  induction p with
  | nil => rfl
  | cons b l ih =>
    rw [subst, repB, repB_app, repB_app, repB_app, ih]
    congr 1
    unfold mkv
    by_cases h1 : b = 67
    · rw [if_pos h1, if_pos h1, repB_dg 84 (by decide) _ _ (dd_isDg c), repB_dg 70 (by decide) _ _ (dd_isDg c), repB_dg 75 (by decide) _ _ (dd_isDg c)]
    · rw [if_neg h1, if_neg h1]
      by_cases h2 : b = 84
      · rw [if_pos h2, h2]
        show repB 75 (dd k) (repB 70 (dd f) ((if (84 : UInt8) = 84 then dd t else [84]) ++ [])) = dd t
        rw [if_pos rfl, List.append_nil, repB_dg 70 (by decide) _ _ (dd_isDg t), repB_dg 75 (by decide) _ _ (dd_isDg t)]
      · rw [if_neg h2]
        show repB 75 (dd k) (repB 70 (dd f) ((if b = 84 then dd t else [b]) ++ [])) = _
        rw [if_neg h2, List.append_nil]
        by_cases h3 : b = 70
        · rw [if_pos h3, h3]
          show repB 75 (dd k) ((if (70 : UInt8) = 70 then dd f else [70]) ++ []) = dd f
          rw [if_pos rfl, List.append_nil, repB_dg 75 (by decide) _ _ (dd_isDg f)]
        · rw [if_neg h3]
          show repB 75 (dd k) ((if b = 70 then dd f else [b]) ++ []) = _
          rw [if_neg h3, List.append_nil]
          show (if b = 75 then dd k else [b]) ++ [] = _
          rw [List.append_nil]
end Go.Proofs.YtebeoadmdflfcaaGreatDoor
