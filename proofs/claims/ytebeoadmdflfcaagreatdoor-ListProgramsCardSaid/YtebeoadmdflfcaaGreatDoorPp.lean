/-
  The words of an instruction's line, and the form that they have. Nothing here speaks of a program.
-/
import Derived.Test.YtebeoadmdflfcaaGreatDoorPo
namespace Go.Proofs.YtebeoadmdflfcaaGreatDoor
open Go.RowKit Go.Shelf
set_option linter.unusedVariables false

theorem dgL_nat {d : Nat} (h : d < 10) : (UInt8.ofNat (48 + d)).toNat = 48 + d := by
  rw [UInt8.toNat_ofNat']
  omega
theorem parse_decML (M : Nat) (hM : M ≤ 18446744073709551615) : ∀ (u : Nat), u ≤ M → ∀ r, Lib.parseUintM M 0 (Lib.decDigits u ++ r) = Lib.parseUintM M u r := by
  intro u
  induction u using Nat.strongRecOn with
  | _ u ih =>
    intro hu r
    by_cases h : u < 10
    · rw [Lib.decDigits_one h, List.singleton_append, Lib.parseUintM, dgL_nat h, if_pos (by omega), if_neg (by omega), if_neg (by omega)]
      congr 1
      omega
    · rw [Lib.decDigits, dif_neg h, List.append_assoc, ih (u / 10) (by omega) (by omega), List.singleton_append, Lib.parseUintM, dgL_nat (Nat.mod_lt _ (by omega)), if_pos (by omega), if_neg (by omega), if_neg (by omega)]
      congr 1
      omega
theorem numW_dd (wd : Nat) (hw : Wd wd) (u : Nat) (hu : u < 2 ^ wd) : numW wd (dd u) = some u := by
  have h : Lib.parseUintB wd (dd u) = .ok u := by
    rw [Lib.parseUintB, if_neg (dd_ne u)]
    have := parse_decML (2 ^ wd - 1) (by rcases hw with rfl | rfl | rfl <;> decide) u (by omega) []
    rw [List.append_nil] at this
    exact this
  unfold numW
  rw [h]
  simp only
  rw [if_pos trivial]
theorem subst_app (c t f k : Nat) : ∀ a b : List UInt8, subst c t f k (a ++ b) = subst c t f k a ++ subst c t f k b := by
  intro a
  induction a with
  | nil => intro b; rfl
  | cons x l ih => intro b; rw [List.cons_append, subst, subst, ih, List.append_assoc]
theorem mkAt_none : ∀ {p : List UInt8}, mkAt p = none → ∀ b ∈ p, isMk b = false := by
  intro p
  induction p with
  | nil => intro _ b hb; cases hb
  | cons x l ih =>
    intro h b hb
    rw [mkAt] at h
    split at h
    · cases h
    · rename_i hx
      rcases List.mem_cons.1 hb with rfl | hb
      · simpa using hx
      · exact ih (by cases hl : mkAt l with
          | none => rfl
          | some q => rw [hl] at h; cases h) b hb
theorem mkAt_some : ∀ {p : List UInt8} {i : Nat}, mkAt p = some i → ∃ m, isMk m = true ∧ p = p.take i ++ m :: p.drop (i + 1) ∧ ∀ b ∈ p.take i, isMk b = false := by
  intro p
  induction p with
  | nil => intro i h; cases h
  | cons x l ih =>
    intro i h
    rw [mkAt] at h
    split at h
    · rename_i hx
      obtain rfl : 0 = i := by simpa using h
      exact ⟨x, hx, by simp, fun b hb => by simp at hb⟩
    · rename_i hx
      cases hl : mkAt l with
      | none => rw [hl] at h; cases h
      | some q =>
        rw [hl] at h
        obtain rfl : q + 1 = i := by simpa using h
        obtain ⟨m, h1, h2, h3⟩ := ih hl
        refine ⟨m, h1, ?_, ?_⟩
        · rw [List.take_succ_cons, List.drop_succ_cons, List.cons_append, ← h2]
        · intro b hb
          rw [List.take_succ_cons] at hb
          rcases List.mem_cons.1 hb with rfl | hb
          · simpa using hx
          · exact h3 b hb
theorem subst_lit (c t f k : Nat) : ∀ {p : List UInt8}, (∀ b ∈ p, isMk b = false) → subst c t f k p = p := by
  intro p
  induction p with
  | nil => intro _; rfl
  | cons x l ih => intro h; rw [subst, mkv_non (h x (by simp)), ih fun b hb => h b (by simp [hb])]; rfl
/-- A pattern's word has one mark, or none. -/
def oneP (p : List UInt8) : Bool := match mkAt p with
  | none => true
  | some i => (mkAt (p.drop (i + 1))).isNone
theorem mrk_fit (c t f k : Nat) (p : List UInt8) (h : oneP p = true) : (mrk p (subst c t f k p)).2 = true ∧ ∀ i, mkAt p = some i → ∃ m, p[i]? = some m ∧ (mrk p (subst c t f k p)).1 = mkv c t f k m := by
  unfold oneP at h
  unfold mrk
  cases hm : mkAt p with
  | none =>
    rw [subst_lit c t f k (mkAt_none hm)]
    exact ⟨by simp, fun i hi => by cases hi⟩
  | some i =>
    rw [hm] at h
    obtain ⟨m, h1, h2, h3⟩ := mkAt_some hm
    have h4 : ∀ b ∈ p.drop (i + 1), isMk b = false := mkAt_none (Option.isNone_iff_eq_none.1 h)
    have e : subst c t f k p = p.take i ++ (mkv c t f k m ++ p.drop (i + 1)) := by
      conv => lhs; rw [h2]
      rw [subst_app, subst_lit c t f k h3, subst, subst_lit c t f k h4]
    have a1 : Lib.hasPrefix (subst c t f k p) (p.take i) = true := by
      rw [e]; unfold Lib.hasPrefix
      exact List.isPrefixOf_iff_prefix.2 (List.prefix_append _ _)
    have a2 : Lib.trimPrefix (subst c t f k p) (p.take i) = mkv c t f k m ++ p.drop (i + 1) := by
      unfold Lib.trimPrefix
      rw [if_pos a1, e, List.drop_left]
    have a3 : Lib.hasSuffix (mkv c t f k m ++ p.drop (i + 1)) (p.drop (i + 1)) = true := by
      unfold Lib.hasSuffix
      exact List.isSuffixOf_iff_suffix.2 (List.suffix_append _ _)
    have a4 : Lib.trimSuffix (mkv c t f k m ++ p.drop (i + 1)) (p.drop (i + 1)) = mkv c t f k m := by
      unfold Lib.trimSuffix
      rw [if_pos a3, List.length_append, Nat.add_sub_cancel, List.take_left]
    simp only [a2, a1, a3, a4, Bool.and_true, true_and]
    intro i' hi'
    obtain rfl : i = i' := by simpa using hi'
    refine ⟨m, ?_, rfl⟩
    have hlt := mkAt_lt hm
    conv => lhs; rw [h2]
    rw [List.getElem?_append_right (by simp; omega)]
    simp [List.length_take, Nat.min_eq_left (Nat.le_of_lt hlt)]
/-- Two words of patterns that no numbers make alike. -/
def clash (p q : List UInt8) : Bool := ((mkAt p).isNone && (mkAt q).isNone && p != q) || (match p, q with
  | a :: _, b :: _ => !isMk a && !isMk b && a != b
  | _, _ => false)
theorem clash_no (c t f k : Nat) (p q : List UInt8) (h : clash p q = true) : (mrk p (subst c t f k q)).2 = false := by
  unfold clash at h
  rcases Bool.or_eq_true_iff.1 h with h | h
  · simp only [Bool.and_eq_true, Option.isNone_iff_eq_none, bne_iff_ne] at h
    unfold mrk
    rw [h.1.1, subst_lit c t f k (mkAt_none h.1.2)]
    exact beq_eq_false_iff_ne.2 fun e => h.2 e.symm
  · cases p with
    | nil => cases h
    | cons a p =>
      cases q with
      | nil => cases h
      | cons b q =>
        simp only [Bool.and_eq_true, Bool.not_eq_true', bne_iff_ne] at h
        obtain ⟨⟨ha, hb⟩, hne⟩ := h
        have e : subst c t f k (b :: q) = b :: subst c t f k q := by rw [subst, mkv_non hb]; rfl
        rw [e]
        unfold mrk
        rw [mkAt, ha, if_neg (by decide)]
        cases hm : mkAt p with
        | none => exact beq_eq_false_iff_ne.2 fun e2 => hne (List.cons.inj e2).1.symm
        | some i =>
          simp only [Option.map_some, List.take_succ_cons]
          have : Lib.hasPrefix (b :: subst c t f k q) (a :: p.take i) = false := by
            unfold Lib.hasPrefix
            rw [List.isPrefixOf, beq_eq_false_iff_ne.2 hne]
            rfl
          rw [this]
          rfl
theorem one_chk : ∀ j, j < 42 → ∀ i, i < (flds j).length → oneP (fldN j i) = true := by decide +kernel
def clashJ (i j : Nat) : Bool := (flds i).length != (flds j).length || (List.range (flds j).length).any fun q => clash (fldN i q) (fldN j q)
theorem clash_chk : ∀ j, j < 42 → ∀ i, i < j → clashJ i j = true := by decide +kernel
def markJ (j : Nat) (m : UInt8) : Bool := match fldAt (fldN j) m (flds j).length with
  | none => !(patQ j).contains m
  | some i => match mkAt (fldN j i) with
    | none => false
    | some q => (fldN j i)[q]? == some m
theorem mark_chk : ∀ j, j < 42 → markJ j 67 = true ∧ markJ j 84 = true ∧ markJ j 70 = true ∧ markJ j 75 = true := by decide +kernel
theorem wds_chk : ∀ j, j < 42 → wds (patQ j) = flds j := by decide +kernel
theorem fits_of (n : Nat) (P W : Nat → List UInt8) (h : ∀ i, i < n → (mrk (P i) (W i)).2 = true) : fitsN P W n = true := by
  induction n with
  | zero => rfl
  | succ n ih => rw [fitsN, ih fun i hi => h i (by omega), h n (by omega)]; rfl
/-- The form of an instruction's words is the first one that fits. -/
theorem form_first (c t f k : Nat) (j : Nat) (hj : j < 42) (W : Nat → List UInt8) (hW : ∀ i, i < (flds j).length → W i = subst c t f k (fldN j i)) :
    fitQ (flds j).length W j = true ∧ ∀ i, i < j → fitQ (flds j).length W i = false := by
  constructor
  · unfold fitQ
    rw [decide_eq_true rfl, Bool.true_and]
    exact fits_of _ _ _ fun i hi => by rw [hW i hi]; exact (mrk_fit c t f k _ (one_chk j hj i hi)).1
  · intro i hi
    have h := clash_chk j hj i hi
    unfold clashJ at h
    unfold fitQ
    rcases Bool.or_eq_true_iff.1 h with h | h
    · rw [decide_eq_false (by simpa using h)]; rfl
    · by_cases hl : (flds i).length = (flds j).length
      · rw [decide_eq_true hl, Bool.true_and, hl]
        obtain ⟨q, hq, hc⟩ := List.any_eq_true.1 h
        have hq' := List.mem_range.1 hq
        refine fitsN_false (q := q + 1) ?_ _ (by omega)
        rw [fitsN, hW q hq', clash_no c t f k _ _ hc, Bool.and_false]
      · rw [decide_eq_false hl]; rfl
theorem instO_line (c t f k : Nat) (j : Nat) (hj : j < 42) (W : Nat → List UInt8) (hW : ∀ i, i < (flds j).length → W i = subst c t f k (fldN j i)) (m : UInt8) (v : Nat) (hmv : mkv c t f k m = dd v) (hm : markJ j m = true) (wd : Nat) (hw : Wd wd) (hv : v < 2 ^ wd) (other : Nat) (ho : m ∈ patQ j ∨ other = v) :
    instO (fldN j) W (flds j).length m wd other = some v := by
  unfold markJ at hm
  unfold instO
  cases hf : fldAt (fldN j) m (flds j).length with
  | none =>
    rw [hf] at hm
    rcases ho with ho | ho
    · rw [List.contains_iff_mem.2 ho] at hm; cases hm
    · simp only; rw [ho]
  | some i =>
    have hi := fldAt_lt hf
    rw [hf] at hm
    simp only at hm ⊢
    cases hk : mkAt (fldN j i) with
    | none => rw [hk] at hm; cases hm
    | some q =>
      rw [hk] at hm
      obtain ⟨m', h1, h2⟩ := (mrk_fit c t f k _ (one_chk j hj i hi)).2 q hk
      have h3 : (fldN j i)[q]? = some m := by simpa using hm
      rw [h3] at h1
      obtain rfl : m = m' := by simpa using h1
      rw [hW i hi, h2, hmv]
      exact numW_dd wd hw v hv
/-- The words of a line are the pattern's words, filled. -/
theorem inst_line (c t f k : Nat) (hc : c < 65536) (ht : t < 256) (hf : f < 256) (hk : k < 4294967296) (j : Nat) (hj : j < 42) (W : Nat → List UInt8) (hW : ∀ i, i < (flds j).length → W i = subst c t f k (fldN j i))
    (h1 : 67 ∈ patQ j ∨ codeQ j = c) (h2 : 84 ∈ patQ j ∨ t = 0) (h3 : 70 ∈ patQ j ∨ f = 0) (h4 : 75 ∈ patQ j ∨ k = 0) : instE j W = .returned (.agg (instA c t f k)) := by
  obtain ⟨m1, m2, m3, m4⟩ := mark_chk j hj
  unfold instE
  rw [instO_line c t f k j hj W hW 67 c rfl m1 16 (.inr (.inl rfl)) hc _ h1, instO_line c t f k j hj W hW 84 t rfl m2 8 (.inl rfl) ht _ (h2.imp id Eq.symm), instO_line c t f k j hj W hW 70 f rfl m3 8 (.inl rfl) hf _ (h3.imp id Eq.symm), instO_line c t f k j hj W hW 75 k rfl m4 32 (.inr (.inr rfl)) hk _ (h4.imp id Eq.symm)]
  rfl
end Go.Proofs.YtebeoadmdflfcaaGreatDoor
