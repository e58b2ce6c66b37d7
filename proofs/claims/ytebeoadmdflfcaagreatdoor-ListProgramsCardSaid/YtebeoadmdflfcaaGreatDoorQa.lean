/-
  What a line's words say: the document's way and the program's are one. Nothing here speaks of a program's run.
-/
import Derived.Test.YtebeoadmdflfcaaGreatDoorPr
import Derived.Test.YtebeoadmdflfcaaGreatDoorPg
namespace Go.Proofs.YtebeoadmdflfcaaGreatDoor
open Go.RowKit Go.Shelf
set_option linter.unusedVariables false

theorem numW_iff {wd : Nat} (hw : Wd wd) {l : List UInt8} {u : Nat} : numW wd l = some u ↔ l = dd u ∧ u < 2 ^ wd := by
  constructor
  · intro h
    have h2 := numW_lt hw h
    unfold numW at h
    split at h
    · rename_i v hv
      split at h
      · rename_i e
        obtain rfl : v = u := by simpa using h
        exact ⟨e.symm, h2⟩
      · cases h
    · cases h
  · rintro ⟨rfl, h⟩
    exact numW_dd wd hw u h
theorem numW_none {wd : Nat} (hw : Wd wd) {l : List UInt8} (h : ∀ u, u < 2 ^ wd → l ≠ dd u) : numW wd l = none := by
  cases hn : numW wd l with
  | none => rfl
  | some u =>
    obtain ⟨h1, h2⟩ := (numW_iff hw).1 hn
    exact absurd h1 (h u h2)
theorem dd_snoc (v : Nat) (hv : 0 < v) (d : Nat) (hd : d < 10) : dd (10 * v + d) = dd v ++ [UInt8.ofNat (48 + d)] := by
  rw [dd, Lib.decDigits, dif_neg (by omega), show (10 * v + d) / 10 = v by omega, show (10 * v + d) % 10 = d by omega]
theorem head_app {m n : List UInt8} (h : m ≠ []) : (m ++ n).head? = m.head? := by
  cases m with
  | nil => exact absurd rfl h
  | cons a t => rfl
theorem dd_head (u : Nat) (h : (dd u).head? = some 48) : u = 0 := by
  induction u using Nat.strongRecOn with
  | ind u ih =>
    by_cases hu : u < 10
    · rw [dd, Lib.decDigits, dif_pos hu] at h
      have h1 : UInt8.ofNat (48 + u) = 48 := by simpa using h
      have h2 := congrArg UInt8.toNat h1
      rw [dgL_nat hu] at h2
      have : (48 : UInt8).toNat = 48 := rfl
      omega
    · rw [dd, Lib.decDigits, dif_neg hu, head_app (dd_ne _)] at h
      have := ih (u / 10) (by omega) h
      omega
theorem dd_len10 (u : Nat) (hu : u < 4294967296) : (dd u).length ≤ 10 := by
  have := dec_sz u hu
  rw [show (dec u).size = (dd u).length by show (dd u).toArray.size = _; simp] at this
  exact this
/-- Figures with no nought ahead are a number's own. -/
theorem dd_valD : ∀ (n : Nat) (l : List UInt8), l.length = n → l ≠ [] → (∀ b ∈ l, isDg b = true) → (l.head? = some 48 → l.length = 1) → dd (valD l 0) = l := by
  intro n
  induction n with
  | zero => intro l h hne _ _; exact absurd (List.length_eq_zero_iff.1 h) hne
  | succ n ih =>
    intro l h hne hd h0
    obtain ⟨m, b, rfl⟩ : ∃ m b, l = m ++ [b] := ⟨l.dropLast, l.getLast hne, (List.dropLast_concat_getLast hne).symm⟩
    have hb : 48 ≤ b.toNat ∧ b.toNat ≤ 57 := of_decide_eq_true (hd b (by simp))
    have e : UInt8.ofNat (48 + (b.toNat - 48)) = b := by
      apply UInt8.toNat_inj.1
      rw [dgL_nat (by omega)]
      omega
    rw [valD_app]
    by_cases hm : m = []
    · subst hm
      show dd (10 * 0 + (b.toNat - 48)) = [b]
      rw [dd, Lib.decDigits, dif_pos (by omega), show 48 + (10 * 0 + (b.toNat - 48)) = 48 + (b.toNat - 48) by omega, e]
    · have hml : m.length = n := by simpa using h
      have hmp : 0 < m.length := List.length_pos_iff.2 hm
      have hh : (m ++ [b]).head? = m.head? := head_app hm
      have i1 := ih m hml hm (fun x hx => hd x (by simp [hx])) fun h48 => by
        have := h0 (hh.trans h48)
        rw [List.length_append, List.length_singleton] at this
        omega
      have hv : 0 < valD m 0 := by
        rcases Nat.eq_zero_or_pos (valD m 0) with hz | hz
        · rw [hz] at i1
          have h48 : m.head? = some 48 := by
            rw [← i1]
            show (Lib.decDigits 0).head? = _
            rw [Lib.decDigits_one (by decide)]
            rfl
          have := h0 (hh.trans h48)
          rw [List.length_append, List.length_singleton] at this
          omega
        · exact hz
      show dd (10 * valD m 0 + (b.toNat - 48)) = _
      rw [dd_snoc _ hv _ (by omega), i1, e]
/-- The first row of figures. -/
def digF (l : List UInt8) : List UInt8 := (l.dropWhile fun b => !isDg b).takeWhile isDg
theorem digF_eq (P D R : List UInt8) (h1 : ∀ b ∈ P, isDg b = false) (h2 : ∀ b ∈ D, isDg b = true) (h3 : ∀ b, R.head? = some b → isDg b = false) (h4 : D = [] → R = []) : digF (P ++ (D ++ R)) = D := by
  unfold digF
  have e1 : (P ++ (D ++ R)).dropWhile (fun b => !isDg b) = D ++ R := by
    rw [List.dropWhile_append_of_pos (fun b hb => by rw [h1 b hb]; rfl)]
    cases D with
    | nil => rw [h4 rfl]; rfl
    | cons d D => rw [List.cons_append, List.dropWhile_cons, h2 d (by simp)]; rfl
  rw [e1, List.takeWhile_append_of_pos h2]
  have e2 : R.takeWhile isDg = [] := by
    cases R with
    | nil => rfl
    | cons r R => rw [List.takeWhile_cons, h3 r rfl]; rfl
  rw [e2, List.append_nil]
/-! ### Words and forms, at any words -/
theorem mrk_back {p w : List UInt8} {q : Nat} (hq : mkAt p = some q) (h : (mrk p w).2 = true) : w = p.take q ++ ((mrk p w).1 ++ p.drop (q + 1)) := by
  unfold mrk at h ⊢
  rw [hq] at h ⊢
  simp only [Bool.and_eq_true] at h ⊢
  obtain ⟨h1, h2⟩ := h
  have p1 : p.take q <+: w := List.isPrefixOf_iff_prefix.1 h1
  obtain ⟨r, hr⟩ := p1
  have a2 : Lib.trimPrefix w (p.take q) = r := by
    unfold Lib.trimPrefix
    rw [if_pos h1, ← hr, List.drop_left]
  rw [a2] at h2 ⊢
  have p2 : p.drop (q + 1) <:+ r := List.isSuffixOf_iff_suffix.1 h2
  obtain ⟨s, hs⟩ := p2
  have a4 : Lib.trimSuffix r (p.drop (q + 1)) = s := by
    unfold Lib.trimSuffix
    rw [if_pos h2, ← hs, List.length_append, Nat.add_sub_cancel, List.take_left]
  rw [a4, hs, hr]
theorem mrk_lit {p w : List UInt8} (hq : mkAt p = none) (h : (mrk p w).2 = true) : w = p := by
  unfold mrk at h
  rw [hq] at h
  simpa using h
def markU (j : Nat) : Bool := (List.range (flds j).length).all fun i => match mkAt (fldN j i) with
  | none => true
  | some q => match (fldN j i)[q]? with
    | some m => fldAt (fldN j) m (flds j).length == some i
    | none => false
theorem markU_chk : ∀ j, j < 42 → markU j = true := by decide +kernel
theorem fits_in {P W : Nat → List UInt8} : ∀ {n : Nat}, fitsN P W n = true → ∀ i, i < n → (mrk (P i) (W i)).2 = true := by
  intro n
  induction n with
  | zero => intro _ i hi; omega
  | succ n ih =>
    intro h i hi
    rw [fitsN, Bool.and_eq_true] at h
    rcases Nat.lt_succ_iff_lt_or_eq.1 hi with h1 | rfl
    · exact ih h.1 i h1
    · exact h.2
theorem fitQ_in {n : Nat} {W : Nat → List UInt8} {j : Nat} (h : fitQ n W j = true) : (flds j).length = n ∧ ∀ i, i < n → (mrk (fldN j i) (W i)).2 = true := by
  unfold fitQ at h
  rw [Bool.and_eq_true] at h
  have h1 : (flds j).length = n := of_decide_eq_true h.1
  exact ⟨h1, fun i hi => fits_in h.2 i (by omega)⟩
theorem nocar {u v : Nat} {k : IntKind} (h : Value.int k u = Value.int k v) : u = v := by
  injection h with _ h
  exact Int.ofNat.inj h
/-- What is read of words of a form says what the words are. -/
theorem instE_back {n : Nat} {W : Nat → List UInt8} {j : Nat} (hj : j < 42) (hf : fitQ n W j = true) {c t f k : Nat} (h : instE j W = .returned (.agg (instA c t f k))) :
    ((flds j).length = n ∧ (∀ i, i < n → W i = subst c t f k (fldN j i)) ∧ (67 ∈ patQ j ∨ codeQ j = c) ∧ (84 ∈ patQ j ∨ t = 0) ∧ (70 ∈ patQ j ∨ f = 0) ∧ (75 ∈ patQ j ∨ k = 0)) ∧ c < 65536 ∧ t < 256 ∧ f < 256 ∧ k < 4294967296 := by
  obtain ⟨hn, hm⟩ := fitQ_in hf
  unfold instE at h
  obtain ⟨o1, h1⟩ : ∃ o, instO (fldN j) W (flds j).length 67 16 (codeQ j) = o := ⟨_, rfl⟩
  obtain ⟨o2, h2⟩ : ∃ o, instO (fldN j) W (flds j).length 84 8 0 = o := ⟨_, rfl⟩
  obtain ⟨o3, h3⟩ : ∃ o, instO (fldN j) W (flds j).length 70 8 0 = o := ⟨_, rfl⟩
  obtain ⟨o4, h4⟩ : ∃ o, instO (fldN j) W (flds j).length 75 32 0 = o := ⟨_, rfl⟩
  rw [h1, h2, h3, h4] at h
  match o1, o2, o3, o4, h with
  | some c', some t', some f', some k', h =>
    have e : instA c' t' f' k' = instA c t f k := by
      unfold instQ at h
      injection h with h
      injection h
    have q0 := congrArg (fun a : Array Value => a[0]?) e
    have q1 := congrArg (fun a : Array Value => a[1]?) e
    have q2 := congrArg (fun a : Array Value => a[2]?) e
    have q3 := congrArg (fun a : Array Value => a[3]?) e
    obtain rfl : c' = c := nocar (Option.some.inj q0)
    obtain rfl : t' = t := nocar (Option.some.inj q1)
    obtain rfl : f' = f := nocar (Option.some.inj q2)
    obtain rfl : k' = k := nocar (Option.some.inj q3)
    have hun : ∀ i, i < (flds j).length → ∀ q m, mkAt (fldN j i) = some q → (fldN j i)[q]? = some m → fldAt (fldN j) m (flds j).length = some i := fun i hi q m hq hmq => by
      have := markU_chk j hj
      unfold markU at this
      have := List.all_eq_true.1 this i (List.mem_range.2 hi)
      rw [hq] at this
      simp only [hmq] at this
      simpa using this
    have hO : ∀ (m : UInt8) (wd : Nat) (hw : Wd wd) (other v i : Nat), instO (fldN j) W (flds j).length m wd other = some v → fldAt (fldN j) m (flds j).length = some i → (mrk (fldN j i) (W i)).1 = dd v := fun m wd hw other v i ho hfa => by
      unfold instO at ho
      rw [hfa] at ho
      exact ((numW_iff hw).1 ho).1
    have hN : ∀ (m : UInt8) (wd other v : Nat), markJ j m = true → instO (fldN j) W (flds j).length m wd other = some v → m ∈ patQ j ∨ other = v := fun m wd other v hmk ho => by
      unfold markJ at hmk
      unfold instO at ho
      cases hfa : fldAt (fldN j) m (flds j).length with
      | none => rw [hfa] at ho; exact .inr (Option.some.inj ho)
      | some i =>
        rw [hfa] at hmk
        simp only at hmk
        cases hk : mkAt (fldN j i) with
        | none => rw [hk] at hmk; cases hmk
        | some q =>
          rw [hk] at hmk
          refine .inl ?_
          have hmem : m ∈ fldN j i := List.mem_of_getElem? (by simpa using hmk)
          have hsub : ∀ j, j < 42 → ∀ i, i < (flds j).length → ∀ b ∈ fldN j i, b ∈ patQ j := by decide +kernel
          exact hsub j hj i (fldAt_lt hfa) m hmem
    obtain ⟨m1, m2, m3, m4⟩ := mark_chk j hj
    refine ⟨⟨hn, fun i hi => ?_, hN 67 16 _ _ m1 h1, (hN 84 8 _ _ m2 h2).imp id Eq.symm, (hN 70 8 _ _ m3 h3).imp id Eq.symm, (hN 75 32 _ _ m4 h4).imp id Eq.symm⟩, instO_lt (.inr (.inl rfl)) (codeQ_lt j hj) h1, instO_lt (.inl rfl) (by decide) h2, instO_lt (.inl rfl) (by decide) h3, instO_lt (.inr (.inr rfl)) (by decide) h4⟩
    have hi' : i < (flds j).length := by omega
    cases hk : mkAt (fldN j i) with
    | none =>
      rw [mrk_lit hk (hm i hi), subst_lit _ _ _ _ (mkAt_none hk)]
    | some q =>
      obtain ⟨m, a1, a2, a3⟩ := mkAt_some hk
      have hmq : (fldN j i)[q]? = some m := by
        have hlt := mkAt_lt hk
        conv => lhs; rw [a2]
        rw [List.getElem?_append_right (by simp; omega)]
        simp [List.length_take, Nat.min_eq_left (Nat.le_of_lt hlt)]
      have hfa := hun i hi' q m hk hmq
      have h5 : ∀ b ∈ (fldN j i).drop (q + 1), isMk b = false := mkAt_none (by
        have := one_chk j hj i hi'
        unfold oneP at this
        rw [hk] at this
        exact Option.isNone_iff_eq_none.1 this)
      have hD : (mrk (fldN j i) (W i)).1 = mkv c' t' f' k' m := by
        unfold isMk at a1
        simp only [Bool.or_eq_true, beq_iff_eq] at a1
        rcases a1 with ((rfl | rfl) | rfl) | rfl
        · exact hO 67 16 (.inr (.inl rfl)) _ _ i h1 hfa
        · exact hO 84 8 (.inl rfl) _ _ i h2 hfa
        · exact hO 70 8 (.inl rfl) _ _ i h3 hfa
        · exact hO 75 32 (.inr (.inr rfl)) _ _ i h4 hfa
      have hw := mrk_back hk (hm i hi)
      rw [hD] at hw
      rw [hw]
      conv => rhs; rw [a2]
      rw [subst_app, subst_lit _ _ _ _ a3, subst, subst_lit _ _ _ _ h5]
  | none, _, _, _, h => cases h
  | some _, none, _, _, h => cases h
  | some _, some _, none, _, h => cases h
  | some _, some _, some _, none, h => cases h
theorem instE_or (j : Nat) (W : Nat → List UInt8) : (∃ c t f k, instE j W = .returned (.agg (instA c t f k))) ∨ instE j W = badE := by
  unfold instE
  generalize instO (fldN j) W (flds j).length 67 16 (codeQ j) = o1
  generalize instO (fldN j) W (flds j).length 84 8 0 = o2
  generalize instO (fldN j) W (flds j).length 70 8 0 = o3
  generalize instO (fldN j) W (flds j).length 75 32 0 = o4
  match o1, o2, o3, o4 with
  | some c, some t, some f, some k => exact .inl ⟨c, t, f, k, rfl⟩
  | none, _, _, _ => exact .inr rfl
  | some _, none, _, _ => exact .inr rfl
  | some _, some _, none, _ => exact .inr rfl
  | some _, some _, some _, none => exact .inr rfl
/-- The first form that fits, or none. -/
theorem first_fit (n : Nat) (W : Nat → List UInt8) : (∀ i, i < 42 → fitQ n W i = false) ∨ ∃ j, j < 42 ∧ fitQ n W j = true ∧ ∀ i, i < j → fitQ n W i = false := by
  have h : ∀ m, (∀ i, i < m → fitQ n W i = false) ∨ ∃ j, j < m ∧ fitQ n W j = true ∧ ∀ i, i < j → fitQ n W i = false := by
    intro m
    induction m with
    | zero => exact .inl fun i hi => by omega
    | succ m ih =>
      rcases ih with h | ⟨j, hj, h1, h2⟩
      · cases hm : fitQ n W m with
        | false =>
          refine .inl fun i hi => ?_
          rcases Nat.lt_succ_iff_lt_or_eq.1 hi with h1 | rfl
          · exact h i h1
          · exact hm
        | true => exact .inr ⟨m, by omega, hm, h⟩
      · exact .inr ⟨j, by omega, h1, h2⟩
  exact h 42
def codeT : List UInt8 := [46, 99, 111, 100, 101]
theorem fld0_chk : ∀ j, j < 42 → 0 < (flds j).length ∧ mkAt (fldN j 0) = none ∧ (fldN j 0 = codeT ↔ j = 41) := by decide +kernel
theorem fit_41 {n : Nat} {W : Nat → List UInt8} {j : Nat} (hj : j < 42) (h : fitQ n W j = true) : W 0 = codeT ↔ j = 41 := by
  obtain ⟨h1, h2⟩ := fitQ_in h
  obtain ⟨p1, p2, p3⟩ := fld0_chk j hj
  have e := mrk_lit p2 (h2 0 (by omega))
  rw [e]
  exact p3
def kFld (j : Nat) : Bool := decide ((flds j).length < 2) || match mkAt (fldN j 1) with
  | none => (fldN j 1).all fun b => !isDg b
  | some q => (fldN j 1)[q]? == some 75 && ((fldN j 1).take q).all (fun b => !isDg b) && ((fldN j 1).drop (q + 1)).all fun b => !isDg b
theorem kFld_chk : ∀ j, j < 41 → kFld j = true ∧ (75 ∈ patQ j → 2 ≤ (flds j).length ∧ (mkAt (fldN j 1)).isSome = true) ∧ codeQ j < 256 ∧ codeP j = codeQ j ∧ patP j = patQ j ∧ ¬ 67 ∈ patQ j := by decide +kernel
theorem tfFld_chk : ∀ j, j < 41 → ((flds j).length = 4 → fldN j 2 = [84] ∧ fldN j 3 = [70]) ∧ ((flds j).length ≠ 4 → ¬ 84 ∈ patQ j ∧ ¬ 70 ∈ patQ j) := by decide +kernel
/-- The document's k of words. -/
def kD (n : Nat) (W : Nat → List UInt8) : Nat := if 2 ≤ n then (numW 32 (digF (W 1))).getD 0 else 0
theorem kD_lt (n : Nat) (W : Nat → List UInt8) : kD n W < 4294967296 := by
  unfold kD
  split
  · cases h : numW 32 (digF (W 1)) with
    | none => decide
    | some u => exact numW_lt (.inr (.inr rfl)) h
  · decide
theorem kD_of {n : Nat} {W : Nat → List UInt8} {j : Nat} (hj : j < 41) (hn : (flds j).length = n) {c t f k : Nat} (hk : k < 4294967296) (hW : ∀ i, i < n → W i = subst c t f k (fldN j i)) (h75 : 75 ∈ patQ j ∨ k = 0) : kD n W = k := by
  obtain ⟨q1, q2, _⟩ := kFld_chk j hj
  unfold kD
  by_cases h2 : 2 ≤ n
  · rw [if_pos h2, hW 1 (by omega)]
    unfold kFld at q1
    rw [decide_eq_false (by omega), Bool.false_or] at q1
    cases hm : mkAt (fldN j 1) with
    | none =>
      rw [hm] at q1 q2
      simp only at q1
      have hk0 : k = 0 := by
        rcases h75 with h | h
        · exact absurd (q2 h).2 (by decide)
        · exact h
      have hd : digF (fldN j 1) = [] := by
        have := digF_eq (fldN j 1) [] [] (fun b hb => by simpa using List.all_eq_true.1 q1 b hb) (fun b hb => by cases hb) (fun b hb => by cases hb) fun _ => rfl
        simpa using this
      rw [subst_lit _ _ _ _ (mkAt_none hm), hd, numW_none (.inr (.inr rfl)) fun u _ e => dd_ne u e.symm, hk0]
      rfl
    | some q =>
      rw [hm] at q1
      simp only [Bool.and_eq_true] at q1
      obtain ⟨⟨r1, r2⟩, r3⟩ := q1
      obtain ⟨m, a1, a2, a3⟩ := mkAt_some hm
      have hmq : (fldN j 1)[q]? = some m := by
        have hlt := mkAt_lt hm
        conv => lhs; rw [a2]
        rw [List.getElem?_append_right (by simp; omega)]
        simp [List.length_take, Nat.min_eq_left (Nat.le_of_lt hlt)]
      obtain rfl : m = 75 := by
        rw [hmq] at r1
        simpa using r1
      have h5 : ∀ b ∈ (fldN j 1).drop (q + 1), isMk b = false := mkAt_none (by
        have := one_chk j (by omega) 1 (by omega)
        unfold oneP at this
        rw [hm] at this
        exact Option.isNone_iff_eq_none.1 this)
      have e : subst c t f k (fldN j 1) = (fldN j 1).take q ++ (dd k ++ (fldN j 1).drop (q + 1)) := by
        conv => lhs; rw [a2]
        rw [subst_app, subst_lit _ _ _ _ a3, subst, subst_lit _ _ _ _ h5]
        rfl
      rw [e, digF_eq _ _ _ (fun b hb => by simpa using List.all_eq_true.1 r2 b hb) (dd_isDg k) (fun b hb => by simpa using List.all_eq_true.1 r3 b (List.mem_of_mem_head? hb)) (fun h => absurd h (dd_ne k)), numW_dd 32 (.inr (.inr rfl)) k hk]
      rfl
  · rw [if_neg h2]
    rcases h75 with h | h
    · have := (q2 h).1; omega
    · exact h.symm
/-- The document's answer at words. -/
def RefR (l : List UInt8) (c t f k : Nat) (e : Int) : Prop :=
  (wsN l 0 = codeT ∧ (((wsOf l).length = 5 ∧ numW 16 (wsN l 1) = some c ∧ numW 8 (wsN l 2) = some t ∧ numW 8 (wsN l 3) = some f ∧ numW 32 (wsN l 4) = some k ∧ e = 0)
    ∨ (((wsOf l).length ≠ 5 ∨ numW 16 (wsN l 1) = none ∨ numW 8 (wsN l 2) = none ∨ numW 8 (wsN l 3) = none ∨ numW 32 (wsN l 4) = none) ∧ c = 0 ∧ t = 0 ∧ f = 0 ∧ k = 0 ∧ e = 13)))
  ∨ (wsN l 0 ≠ codeT ∧ (((wsOf l).length = 4 ∧ (numW 8 (wsN l 2) = none ∨ numW 8 (wsN l 3) = none) ∧ c = 0 ∧ t = 0 ∧ f = 0 ∧ k = 0 ∧ e = 13)
    ∨ ∃ t' f', (((wsOf l).length = 4 ∧ numW 8 (wsN l 2) = some t' ∧ numW 8 (wsN l 3) = some f') ∨ ((wsOf l).length ≠ 4 ∧ t' = 0 ∧ f' = 0)) ∧
      ((c < 256 ∧ wsOf (lineL c t' f' (kD (wsOf l).length (wsN l))) = wsOf l ∧ t = t' ∧ f = f' ∧ k = kD (wsOf l).length (wsN l) ∧ e = 0)
      ∨ ((∀ c, c < 256 → wsOf (lineL c t' f' (kD (wsOf l).length (wsN l))) ≠ wsOf l) ∧ c = 0 ∧ t = 0 ∧ f = 0 ∧ k = 0 ∧ e = 13))))
theorem mrk_one (m : UInt8) (hm : isMk m = true) (w : List UInt8) : mrk [m] w = (w, true) := by
  unfold mrk
  rw [show mkAt [m] = some 0 by rw [mkAt, if_pos hm]]
  simp [Lib.trimPrefix, Lib.trimSuffix, Lib.hasPrefix, Lib.hasSuffix]
theorem fld41 : (flds 41).length = 5 ∧ fldN 41 0 = codeT ∧ fldN 41 1 = [67] ∧ fldN 41 2 = [84] ∧ fldN 41 3 = [70] ∧ fldN 41 4 = [75] ∧ fldAt (fldN 41) 67 5 = some 1 ∧ fldAt (fldN 41) 84 5 = some 2 ∧ fldAt (fldN 41) 70 5 = some 3 ∧ fldAt (fldN 41) 75 5 = some 4 := by decide +kernel
theorem instE_41 (W : Nat → List UInt8) : instE 41 W = instQ (numW 16 (W 1)) (numW 8 (W 2)) (numW 8 (W 3)) (numW 32 (W 4)) := by
  obtain ⟨h0, _, h1, h2, h3, h4, h5, h6, h7, h8⟩ := fld41
  unfold instE instO
  rw [h0, h5, h6, h7, h8]
  simp only
  rw [h1, h2, h3, h4, mrk_one 67 (by decide), mrk_one 84 (by decide), mrk_one 70 (by decide), mrk_one 75 (by decide)]
theorem lineL_of {c t f k j : Nat} (hj : j < 41) (hc : codeP j = c) (ht : 84 ∈ patP j ∨ t = 0) (hf : 70 ∈ patP j ∨ f = 0) (hk : 75 ∈ patP j ∨ k = 0) : lineL c t f k = subst c t f k (patP j) := by
  have hw : wholeP (patP j) t f k = true := by
    unfold wholeP
    simp only [Bool.and_eq_true, Bool.or_eq_true, beq_iff_eq, List.contains_iff_mem]
    exact ⟨⟨ht.symm, hf.symm⟩, hk.symm⟩
  unfold lineL
  cases ha : atP c 41 with
  | none => exact absurd hc (atP_none ha j hj)
  | some i =>
    obtain ⟨h1, h2, _⟩ := atP_some ha
    obtain rfl : i = j := codeP_inj i h1 j hj (h2.trans hc.symm)
    simp only
    rw [if_pos hw]
theorem wsN_at (l : List UInt8) (i : Nat) (h : i < (wsOf l).length) : (wsOf l)[i]? = some (wsN l i) := by
  unfold wsN
  rw [List.getD_eq_getElem?_getD, List.getElem?_eq_getElem h]
  rfl
theorem wsN_map {l : List UInt8} {j c t f k : Nat} (h : wsOf l = (flds j).map (subst c t f k)) : (wsOf l).length = (flds j).length ∧ ∀ i, i < (flds j).length → wsN l i = subst c t f k (fldN j i) := by
  refine ⟨by rw [h, List.length_map], fun i hi => ?_⟩
  unfold wsN fldN
  rw [h, List.getD_eq_getElem?_getD, List.getElem?_map, List.getD_eq_getElem?_getD, List.getElem?_eq_getElem hi]
  rfl
/-- The document's answer is the program's. -/
theorem ref_readE {l : List UInt8} {c t f k : Nat} {e : Int} (h : RefR l c t f k e) : readE l c t f k e := by
  have hbad : (∀ j, j < 42 → fitQ (wsOf l).length (wsN l) j = true → instE j (wsN l) = badE) → readE l 0 0 0 0 13 := fun hb => by
    refine .inr ⟨rfl, rfl, rfl, rfl, rfl, ?_⟩
    rcases first_fit (wsOf l).length (wsN l) with h | ⟨j, h1, h2, h3⟩
    · exact .inl h
    · exact .inr ⟨j, h1, h2, h3, hb j h1 h2⟩
  rcases h with ⟨h0, hA⟩ | ⟨h0, hB⟩
  · have h41 : ∀ j, j < 42 → fitQ (wsOf l).length (wsN l) j = true → j = 41 := fun j hj h => (fit_41 hj h).1 h0
    rcases hA with ⟨hn, a1, a2, a3, a4, rfl⟩ | ⟨hno, rfl, rfl, rfl, rfl, rfl⟩
    · obtain ⟨g0, g1, g2, g3, g4, g5, _⟩ := fld41
      have hfit : fitQ (wsOf l).length (wsN l) 41 = true := by
        unfold fitQ
        rw [g0, hn, decide_eq_true rfl, Bool.true_and]
        refine fits_of _ _ _ fun i hi => ?_
        rcases (show i = 0 ∨ i = 1 ∨ i = 2 ∨ i = 3 ∨ i = 4 by omega) with rfl | rfl | rfl | rfl | rfl
        · rw [g1, h0]; decide
        · rw [g2, mrk_one 67 (by decide)]
        · rw [g3, mrk_one 84 (by decide)]
        · rw [g4, mrk_one 70 (by decide)]
        · rw [g5, mrk_one 75 (by decide)]
      refine .inl ⟨rfl, 41, by decide, hfit, fun i hi => ?_, ?_⟩
      · cases hx : fitQ (wsOf l).length (wsN l) i with
        | false => rfl
        | true => have := h41 i (by omega) hx; omega
      · rw [instE_41, a1, a2, a3, a4]
        rfl
    · refine hbad fun j hj hf => ?_
      obtain rfl := h41 j hj hf
      have hn := (fitQ_in hf).1
      rw [fld41.1] at hn
      rw [instE_41]
      generalize numW 16 (wsN l 1) = o1 at hno
      generalize numW 8 (wsN l 2) = o2 at hno
      generalize numW 8 (wsN l 3) = o3 at hno
      generalize numW 32 (wsN l 4) = o4 at hno
      rcases hno with hx | rfl | rfl | rfl | rfl
      · exact absurd hn.symm hx
      · rfl
      · cases o1 <;> rfl
      · cases o1 <;> cases o2 <;> rfl
      · cases o1 <;> cases o2 <;> cases o3 <;> rfl
  · have h41 : ∀ j, j < 42 → fitQ (wsOf l).length (wsN l) j = true → j < 41 := fun j hj h => by
      have := (fit_41 hj h).2
      rcases Nat.lt_or_ge j 41 with h | h
      · exact h
      · exact absurd (this (by omega)) h0
    rcases hB with ⟨hn, hno, rfl, rfl, rfl, rfl, rfl⟩ | ⟨t', f', htf, ⟨hc, hws, rfl, rfl, rfl, rfl⟩ | ⟨hall, rfl, rfl, rfl, rfl, rfl⟩⟩
    · refine hbad fun j hj hf => ?_
      rcases instE_or j (wsN l) with ⟨c, t, f, k, hr⟩ | hr
      · obtain ⟨⟨b1, b2, _⟩, _, bt, bf, _⟩ := instE_back hj hf hr
        obtain ⟨q2, q3⟩ := (tfFld_chk j (h41 j hj hf)).1 (by omega)
        have e2 := b2 2 (by omega)
        have e3 := b2 3 (by omega)
        rw [q2] at e2
        rw [q3] at e3
        have e2' : wsN l 2 = dd t := by rw [e2]; simp [subst, mkv]
        have e3' : wsN l 3 = dd f := by rw [e3]; simp [subst, mkv]
        rw [e2', e3', numW_dd 8 (.inl rfl) t bt, numW_dd 8 (.inl rfl) f bf] at hno
        rcases hno with h | h <;> cases h
      · exact hr
    · have bt : t < 256 ∧ f < 256 := by
        rcases htf with ⟨_, h1, h2⟩ | ⟨_, rfl, rfl⟩
        · exact ⟨numW_lt (.inl rfl) h1, numW_lt (.inl rfl) h2⟩
        · exact ⟨by decide, by decide⟩
      obtain ⟨j, hj, e, p1, p2, p3, p4⟩ := line_pat c t f (kD (wsOf l).length (wsN l))
      have hw := line_words _ _ _ _ j hj e
      rw [hws] at hw
      obtain ⟨hlen, hW⟩ := wsN_map hw
      obtain ⟨f1, f2⟩ := form_first c t f _ j hj _ hW
      refine .inl ⟨rfl, j, hj, ?_, ?_, inst_line c t f _ (by omega) bt.1 bt.2 (kD_lt _ _) j hj _ hW p1 p2 p3 p4⟩
      · rw [hlen]; exact f1
      · rw [hlen]; exact f2
    · refine hbad fun j hj hf => ?_
      rcases instE_or j (wsN l) with ⟨c, t, f, k, hr⟩ | hr
      · exfalso
        obtain ⟨⟨b1, b2, b3, b4, b5, b6⟩, bc, bt, bf, bk⟩ := instE_back hj hf hr
        have hj41 := h41 j hj hf
        obtain ⟨_, _, r3, r4, r5, r6⟩ := kFld_chk j hj41
        have hcq : codeQ j = c := b3.resolve_left r6
        have hk := kD_of hj41 b1 bk b2 b6
        have ht' : t' = t ∧ f' = f := by
          rcases htf with ⟨hn, h1, h2⟩ | ⟨hn, rfl, rfl⟩
          · obtain ⟨q2, q3⟩ := (tfFld_chk j hj41).1 (by omega)
            have e2 := b2 2 (by omega)
            have e3 := b2 3 (by omega)
            rw [q2] at e2
            rw [q3] at e3
            have e2' : wsN l 2 = dd t := by rw [e2]; simp [subst, mkv]
            have e3' : wsN l 3 = dd f := by rw [e3]; simp [subst, mkv]
            rw [e2', numW_dd 8 (.inl rfl) t bt] at h1
            rw [e3', numW_dd 8 (.inl rfl) f bf] at h2
            exact ⟨(Option.some.inj h1).symm, (Option.some.inj h2).symm⟩
          · obtain ⟨q2, q3⟩ := (tfFld_chk j hj41).2 (by omega)
            exact ⟨(b4.resolve_left q2).symm, (b5.resolve_left q3).symm⟩
        rw [ht'.1, ht'.2] at hall
        refine hall c (by omega) ?_
        rw [hk]
        have e := lineL_of (c := c) (t := t) (f := f) (k := k) hj41 (r4.trans hcq) (by rw [r5]; exact b4) (by rw [r5]; exact b5) (by rw [r5]; exact b6)
        rw [r5] at e
        rw [line_words c t f k j hj e]
        apply List.ext_getElem (by rw [List.length_map]; exact b1)
        intro i i1 i2
        rw [List.length_map] at i1
        have w1 := wsN_at l i i2
        rw [List.getElem?_eq_getElem i2] at w1
        rw [Option.some.inj w1, b2 i i2, List.getElem_map]
        unfold fldN
        rw [List.getD_eq_getElem?_getD, List.getElem?_eq_getElem i1]
        rfl
      · exact hr
end Go.Proofs.YtebeoadmdflfcaaGreatDoor
