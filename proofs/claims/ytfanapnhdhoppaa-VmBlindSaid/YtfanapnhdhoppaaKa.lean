/-
  What may run, as plain functions: what is wrong with an instruction alone, with a program's form, which cells are stored at each instruction. Nothing here speaks of a program text.
-/
import Derived.Test.YtfanapnhdhoppaaIe
namespace Go.Proofs.Ytfanapnhdhoppaa
open Go.RowKit

def kd (v : IV) : Int := (ofF v.c).1
def xx (v : IV) : Bool := (ofF v.c).2.1
def isRet (v : IV) : Bool := kd v == 14 || kd v == 15
def isLd (v : IV) : Bool := kd v == 3 || kd v == 6
def isSt (v : IV) : Bool := kd v == 8 || kd v == 9
def isBr (v : IV) : Bool := kd v == 25 || kd v == 26 || kd v == 27 || kd v == 28

theorem ofF_range (c : Int) : 0 ≤ (ofF c).1 ∧ (ofF c).1 ≤ 28 := by
  have hall : ∀ p ∈ codesKV, 0 ≤ p.2 ∧ p.2 ≤ 28 := by decide +kernel
  have ha : ∀ k v, assoc codesKV k = some v → 0 ≤ v ∧ v ≤ 28 := fun k v h => by
    unfold assoc at h
    rcases hf : codesKV.find? (fun p => p.1 == k) with _ | p
    · rw [hf] at h; cases h
    · rw [hf] at h
      simp at h
      subst h
      exact hall p (List.mem_of_find?_eq_some hf)
  unfold ofF
  rcases h : assoc codesKV c with _ | k
  · dsimp only
    split
    · rcases h2 : assoc codesKV ((c - 8) % 65536) with _ | k2
      · simp
      · simpa using ha _ _ h2
    · simp
  · exact ha _ _ h
theorem kd_range (v : IV) : 0 ≤ kd v ∧ kd v ≤ 28 := ofF_range _

/-- What is wrong with an instruction behind which so many stand: an error's number. -/
def alone (v : IV) (rest : Nat) : Nat :=
  if kd v = 0 then 5
  else if kd v = 1 ∧ (v.k % 4 ≠ 0 ∨ 64 ≤ v.k) then 6
  else if (isLd v = true ∨ isSt v = true) ∧ 16 ≤ v.k then 7
  else if kd v = 19 ∧ xx v = false ∧ v.k = 0 then 8
  else if (kd v = 22 ∨ kd v = 23) ∧ xx v = false ∧ 31 < v.k then 9
  else if (kd v = 13 ∧ rest ≤ v.k) ∨ (isBr v = true ∧ (rest ≤ v.t ∨ rest ≤ v.f)) then 10
  else 0

/-- The first place below n at which p tells something, and what; else d. -/
def pick (p : Nat → Nat) (n : Nat) (d : Nat × Nat) : Nat × Nat :=
  match (List.range n).find? (fun i => p i != 0) with
  | some i => (i, p i)
  | none => d
theorem pick_none {p : Nat → Nat} {n : Nat} (d : Nat × Nat) (h : ∀ i, i < n → p i = 0) : pick p n d = d := by
  unfold pick
  rw [List.find?_eq_none.2]
  intro x hx
  simp [h x (List.mem_range.1 hx)]
theorem pick_at {p : Nat → Nat} {n k : Nat} (d : Nat × Nat) (hk : k < n) (h0 : p k ≠ 0) (h : ∀ i, i < k → p i = 0) : pick p n d = (k, p k) := by
  unfold pick
  have : (List.range n).find? (fun i => p i != 0) = some k := by
    rw [List.find?_range_eq_some]
    refine ⟨by simpa using h0, List.mem_range.2 hk, fun j hj => by simp [h j hj]⟩
  rw [this]
theorem pick_cases (p : Nat → Nat) (n : Nat) (d : Nat × Nat) : ((∀ i, i < n → p i = 0) ∧ pick p n d = d) ∨ ∃ k, k < n ∧ p k ≠ 0 ∧ (∀ i, i < k → p i = 0) ∧ pick p n d = (k, p k) := by
  rcases hf : (List.range n).find? (fun i => p i != 0) with _ | k
  · have h : ∀ i, i < n → p i = 0 := fun i hi => by
      have := List.find?_eq_none.1 hf i (List.mem_range.2 hi)
      simpa using this
    exact .inl ⟨h, pick_none d h⟩
  · obtain ⟨h0, h1, h2⟩ := List.find?_range_eq_some.1 hf
    have h0' : p k ≠ 0 := by simpa using h0
    have h2' : ∀ i, i < k → p i = 0 := fun i hi => by simpa using h2 i hi
    exact .inr ⟨k, List.mem_range.1 h1, h0', h2', pick_at d (List.mem_range.1 h1) h0' h2'⟩

/-- The first three points of the list. -/
def formedF (g : Nat → IV) (n : Nat) : Nat × Nat :=
  if n = 0 then (0, 4) else if 4096 < n then (0, 3)
  else pick (fun i => alone (g i) (n - 1 - i)) n (if isRet (g (n - 1)) = true then (0, 0) else (n - 1, 11))

/-- How far behind the next one those stand that may be done next. -/
def fars (v : IV) : List Nat :=
  if isRet v = true then [] else if kd v = 13 then [v.k] else if isBr v = true then [v.t, v.f] else [0]
/-- Whether some way leads to the i-th one that stored nothing in a cell, when the first t are done. -/
def reach (g : Nat → IV) (c : Nat) : Nat → Nat → Bool
  | 0, i => i == 0
  | t + 1, i => reach g c t i || (reach g c t t && !(isSt (g t) && (g t).k == c) && (fars (g t)).any (fun f => i == t + 1 + f))

/-- The number that has the bits for which p tells so. -/
def wordOf (p : Nat → Bool) : Nat → Nat
  | 0 => 0
  | n + 1 => wordOf p n + (if p n = true then 2 ^ n else 0)
theorem wordOf_lt (p : Nat → Bool) : ∀ n, wordOf p n < 2 ^ n
  | 0 => by simp [wordOf]
  | n + 1 => by
    have := wordOf_lt p n
    unfold wordOf
    rw [Nat.pow_succ]
    split <;> omega
theorem wordOf_bit (p : Nat → Bool) (i : Nat) : ∀ n, (wordOf p n).testBit i = (decide (i < n) && p i)
  | 0 => by simp [wordOf]
  | n + 1 => by
    have hl := wordOf_lt p n
    have ih := wordOf_bit p i n
    unfold wordOf
    by_cases hp : p n = true
    · rw [if_pos hp, Nat.add_comm]
      rcases Nat.lt_trichotomy i n with h | h | h
      · rw [Nat.testBit_two_pow_add_gt h, ih]
        simp [h, Nat.lt_succ_of_lt h]
      · subst h
        rw [Nat.testBit_two_pow_add_eq, ih]
        simp [hp]
      · rw [Nat.testBit_lt_two_pow (x := 2 ^ n + wordOf p n) (i := i) ?_]
        · simp; omega
        · have : 2 ^ (n + 1) ≤ 2 ^ i := Nat.pow_le_pow_right (by decide) (by omega)
          rw [Nat.pow_succ] at this
          omega
    · rw [if_neg hp, Nat.add_zero, ih]
      by_cases h : i = n
      · subst h; simp at hp; simp [hp]
      · have : (i < n + 1) ↔ i < n := by omega
        simp [this]
theorem wordOf_congr {p q : Nat → Bool} : ∀ n, (∀ i, i < n → p i = q i) → wordOf p n = wordOf q n
  | 0, _ => rfl
  | n + 1, h => by
    unfold wordOf
    rw [wordOf_congr n (fun i hi => h i (by omega)), h n (by omega)]
theorem wordOf_eq {x : Nat} {p : Nat → Bool} (n : Nat) (hx : x < 2 ^ n) (h : ∀ i, i < n → x.testBit i = p i) : x = wordOf p n := by
  apply Nat.eq_of_testBit_eq
  intro i
  rw [wordOf_bit]
  by_cases hi : i < n
  · simp [hi, h i hi]
  · simp only [hi, decide_false, Bool.false_and]
    exact Nat.testBit_lt_two_pow (Nat.lt_of_lt_of_le hx (Nat.pow_le_pow_right (by decide) (by omega)))
theorem wordOf_and (p q : Nat → Bool) (n : Nat) : wordOf p n &&& wordOf q n = wordOf (fun i => p i && q i) n :=
  wordOf_eq n (Nat.lt_of_le_of_lt Nat.and_le_left (wordOf_lt p n)) fun i hi => by simp [wordOf_bit, hi]
theorem wordOf_or_bit (p : Nat → Bool) (n k : Nat) (hk : k < n) : wordOf p n ||| 2 ^ k = wordOf (fun i => p i || (k == i)) n :=
  wordOf_eq n (Nat.or_lt_two_pow (wordOf_lt p n) (Nat.pow_lt_pow_right (by decide) hk)) fun i hi => by
    rw [Nat.testBit_or, wordOf_bit, Nat.testBit_two_pow]
    by_cases h : k = i
    · simp [hi, h]
    · have : (k == i) = false := by simpa using h
      simp [hi, h, this]
theorem wordOf_and_bit (p : Nat → Bool) (n k : Nat) (hk : k < n) : wordOf p n &&& 2 ^ k = if p k = true then 2 ^ k else 0 := by
  apply Nat.eq_of_testBit_eq
  intro i
  rw [Nat.testBit_and, wordOf_bit, Nat.testBit_two_pow]
  by_cases h : k = i
  · subst h
    cases hp : p k <;> simp [hk]
  · cases hp : p k <;> simp [h]
theorem wordOf_true (n : Nat) : wordOf (fun _ => true) n = 2 ^ n - 1 := by
  symm
  apply wordOf_eq n
  · have : 0 < 2 ^ n := Nat.pow_pos (by decide)
    omega
  · intro i hi
    rw [Nat.testBit_two_pow_sub_one]; simp [hi]

/-- The cells stored at the i-th one when the first t are done. -/
def storedT (g : Nat → IV) (t i : Nat) : Nat := wordOf (fun c => !reach g c t i) 16
theorem storedT_lt (g : Nat → IV) (t i : Nat) : storedT g t i < 65536 := wordOf_lt _ 16
/-- Nothing behind the n-th one is turned any more: the t-th one leads ahead alone. -/
theorem reach_late (g : Nat → IV) (c : Nat) : ∀ t s i, i ≤ t → t ≤ s → reach g c s i = reach g c t i := by
  intro t s i hi hs
  induction s with
  | zero => obtain rfl : t = 0 := by omega
            rfl
  | succ s ih =>
    by_cases h : t = s + 1
    · subst h; rfl
    · have hts : t ≤ s := by omega
      have : (fars (g s)).any (fun f => i == s + 1 + f) = false := by
        rw [List.any_eq_false]
        intro f _
        simp; omega
      show (reach g c s i || (reach g c s s && !(isSt (g s) && (g s).k == c) && (fars (g s)).any (fun f => i == s + 1 + f))) = _
      rw [this, ih hts]; simp

/-- What is on, behind the t-th one. -/
def onT (g : Nat → IV) (t : Nat) : Nat := wordOf (fun c => !(reach g c t t && !(isSt (g t) && (g t).k == c))) 16
theorem onT_st (g : Nat → IV) (t : Nat) (hs : isSt (g t) = true) (hk : (g t).k < 16) : storedT g t t ||| 2 ^ (g t).k = onT g t := by
  unfold storedT onT
  rw [wordOf_or_bit _ _ _ hk]
  apply wordOf_congr
  intro i _
  rw [hs]
  cases reach g i t t <;> cases (g t).k == i <;> rfl
theorem onT_no (g : Nat → IV) (t : Nat) (hs : isSt (g t) = false) : storedT g t t = onT g t := by
  unfold storedT onT
  apply wordOf_congr
  intro i _
  rw [hs]
  simp
/-- The cells while a place's ways are gone through: those in l are done. -/
def storedL (g : Nat → IV) (t : Nat) (l : List Nat) (i : Nat) : Nat := if l.any (fun f => i == t + 1 + f) then storedT g t i &&& onT g t else storedT g t i
theorem storedL_nil (g : Nat → IV) (t i : Nat) : storedL g t [] i = storedT g t i := rfl
theorem storedL_snoc (g : Nat → IV) (t : Nat) (l : List Nat) (f i : Nat) : storedL g t (l ++ [f]) i = if i = t + 1 + f then storedL g t l i &&& onT g t else storedL g t l i := by
  unfold storedL
  rw [List.any_append]
  by_cases h : i = t + 1 + f
  · have : (i == t + 1 + f) = true := by simpa using h
    simp only [List.any_cons, List.any_nil, Bool.or_false, this, Bool.or_true, if_true, if_pos h]
    split
    · rw [Nat.and_assoc, Nat.and_self]
    · rfl
  · have : (i == t + 1 + f) = false := by simpa using h
    simp only [List.any_cons, List.any_nil, Bool.or_false, this, if_neg h]
theorem storedL_all (g : Nat → IV) (t i : Nat) : storedL g t (fars (g t)) i = storedT g (t + 1) i := by
  unfold storedL storedT onT
  cases h : (fars (g t)).any (fun f => i == t + 1 + f)
  · rw [if_neg (by decide)]
    apply wordOf_congr
    intro c _
    simp [reach, h]
  · rw [if_pos rfl, wordOf_and]
    apply wordOf_congr
    intro c _
    simp [reach, h]

/-- What is told of a program. -/
def checkF (g : Nat → IV) (n : Nat) : Nat × Nat :=
  if (formedF g n).2 = 0 then pick (fun i => if isLd (g i) = true ∧ reach g (g i).k n i = true then 12 else 0) n (0, 0) else formedF g n
theorem formedF_ok {g : Nat → IV} {n : Nat} (h : (formedF g n).2 = 0) : 0 < n ∧ n ≤ 4096 ∧ (∀ i, i < n → alone (g i) (n - 1 - i) = 0) ∧ isRet (g (n - 1)) = true ∧ formedF g n = (0, 0) := by
  unfold formedF at h ⊢
  by_cases h0 : n = 0
  · rw [if_pos h0] at h; simp at h
  · rw [if_neg h0] at h ⊢
    by_cases h1 : 4096 < n
    · rw [if_pos h1] at h; simp at h
    · rw [if_neg h1] at h ⊢
      rcases pick_cases (fun i => alone (g i) (n - 1 - i)) n (if isRet (g (n - 1)) = true then (0, 0) else (n - 1, 11)) with ⟨hp, he⟩ | ⟨k, hk, hk0, _, he⟩
      · rw [he] at h ⊢
        cases hr : isRet (g (n - 1))
        · rw [hr] at h; simp at h
        · exact ⟨by omega, by omega, hp, rfl, by simp⟩
      · rw [he] at h
        exact absurd h hk0
end Go.Proofs.Ytfanapnhdhoppaa
