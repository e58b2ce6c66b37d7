/-
  What may run, as plain functions: what is wrong with an instruction alone, with a program's form, which cells are stored at each instruction. Nothing here speaks of a program text.
-/
import Derived.Test.YtmndolojfdekdaaIe
namespace Go.Proofs.Ytmndolojfdekdaa
open Go.RowKit

def kd (v : IV) : Int := (ofF v.c).1
def xx (v : IV) : Bool := (ofF v.c).2.1
def isRet (v : IV) : Bool := kd v == 14 || kd v == 15
def isLd (v : IV) : Bool := kd v == 3 || kd v == 6
def isSt (v : IV) : Bool := kd v == 8 || kd v == 9
def isBr (v : IV) : Bool := kd v == 25 || kd v == 26 || kd v == 27 || kd v == 28

theorem ofF_range (c : Int) : 0 ≤ (ofF c).1 ∧ (ofF c).1 ≤ 28 := by
  have hall : ∀ p ∈ codesKV, 0 ≤ p.2 ∧ p.2 ≤ 28 := by decide +kernel
  have ha : ∀ k v, assoc codesKV k = some v → 0 ≤ v ∧ v ≤ 28 := fun k v h => by
    unfold assoc at h
    rcases hf : codesKV.find? (fun p => p.1 == k) with _ | p
    · rw [hf] at h; cases h
    · rw [hf] at h
      simp at h
      subst h
      exact hall p (List.mem_of_find?_eq_some hf)
  unfold ofF
  rcases h : assoc codesKV c with _ | k
  · dsimp only
    split
    · rcases h2 : assoc codesKV ((c - 8) % 65536) with _ | k2
      · simp
      · simpa using ha _ _ h2
    · simp
  · exact ha _ _ h
theorem kd_range (v : IV) : 0 ≤ kd v ∧ kd v ≤ 28 := ofF_range _

/-- What is wrong with an instruction behind which so many stand: an error's number. -/
def alone (v : IV) (rest : Nat) : Nat :=
  if kd v = 0 then 5
  else if kd v = 1 ∧ (v.k % 4 ≠ 0 ∨ 64 ≤ v.k) then 6
  else if (isLd v = true ∨ isSt v = true) ∧ 16 ≤ v.k then 7
  else if kd v = 19 ∧ xx v = false ∧ v.k = 0 then 8
  else if (kd v = 22 ∨ kd v = 23) ∧ xx v = false ∧ 31 < v.k then 9
  else if (kd v = 13 ∧ rest ≤ v.k) ∨ (isBr v = true ∧ (rest ≤ v.t ∨ rest ≤ v.f)) then 10
  else 0

/-- The first place below n at which p tells something, and what; else d. -/
def pick (p : Nat → Nat) (n : Nat) (d : Nat × Nat) : Nat × Nat :=
  match (List.range n).find? (fun i => p i != 0) with
  | some i => (i, p i)
  | none => d
theorem pick_none {p : Nat → Nat} {n : Nat} (d : Nat × Nat) (h : ∀ i, i < n → p i = 0) : pick p n d = d := by
  unfold pick
  rw [List.find?_eq_none.2]
  intro x hx
  simp [h x (List.mem_range.1 hx)]
theorem pick_at {p : Nat → Nat} {n k : Nat} (d : Nat × Nat) (hk : k < n) (h0 : p k ≠ 0) (h : ∀ i, i < k → p i = 0) : pick p n d = (k, p k) := by
  unfold pick
  have : (List.range n).find? (fun i => p i != 0) = some k := by
    rw [List.find?_range_eq_some]
    refine ⟨by simpa using h0, List.mem_range.2 hk, fun j hj => by simp [h j hj]⟩
  rw [this]
theorem pick_cases (p : Nat → Nat) (n : Nat) (d : Nat × Nat) : ((∀ i, i < n → p i = 0) ∧ pick p n d = d) ∨ ∃ k, k < n ∧ p k ≠ 0 ∧ (∀ i, i < k → p i = 0) ∧ pick p n d = (k, p k) := by
  rcases hf : (List.range n).find? (fun i => p i != 0) with _ | k
  · have h : ∀ i, i < n → p i = 0 := fun i hi => by
      have := List.find?_eq_none.1 hf i (List.mem_range.2 hi)
      simpa using this
    exact .inl ⟨h, pick_none d h⟩
  · obtain ⟨h0, h1, h2⟩ := List.find?_range_eq_some.1 hf
    have h0' : p k ≠ 0 := by simpa using h0
    have h2' : ∀ i, i < k → p i = 0 := fun i hi => by simpa using h2 i hi
    exact .inr ⟨k, List.mem_range.1 h1, h0', h2', pick_at d (List.mem_range.1 h1) h0' h2'⟩

/-- The first three points of the list. -/
def formedF (g : Nat → IV) (n : Nat) : Nat × Nat :=
  if n = 0 then (0, 4) else if 4096 < n then (0, 3)
  else pick (fun i => alone (g i) (n - 1 - i)) n (if isRet (g (n - 1)) = true then (0, 0) else (n - 1, 11))

/-- How far behind the next one those stand that may be done next. -/
def fars (v : IV) : List Nat :=
  if isRet v = true then [] else if kd v = 13 then [v.k] else if isBr v = true then [v.t, v.f] else [0]
/-- Whether some way leads to the i-th one that stored nothing in a cell, when the first t are done. -/
def reach (g : Nat → IV) (c : Nat) : Nat → Nat → Bool
  | 0, i => i == 0
  | t + 1, i => reach g c t i || (reach g c t t && !(isSt (g t) && (g t).k == c) && (fars (g t)).any (fun f => i == t + 1 + f))

/-- The number that has the bits for which p tells so. -/
def wordOf (p : Nat → Bool) : Nat → Nat
  | 0 => 0
  | n + 1 => wordOf p n + (if p n = true then 2 ^ n else 0)
theorem wordOf_lt (p : Nat → Bool) : ∀ n, wordOf p n < 2 ^ n
  | 0 => by simp [wordOf]
  | n + 1 => by
    have := wordOf_lt p n
    unfold wordOf
    rw [Nat.pow_succ]
    split <;> omega
theorem wordOf_bit (p : Nat → Bool) (i : Nat) : ∀ n, (wordOf p n).testBit i = (decide (i < n) && p i)
  | 0 => by simp [wordOf]
  | n + 1 => by
    have hl := wordOf_lt p n
    have ih := wordOf_bit p i n
    unfold wordOf
    by_cases hp : p n = true
    · rw [if_pos hp, Nat.add_comm]
      rcases Nat.lt_trichotomy i n with h | h | h
      · rw [Nat.testBit_two_pow_add_gt h, ih]
        simp [h, Nat.lt_succ_of_lt h]
      · subst h
        rw [Nat.testBit_two_pow_add_eq, ih]
        simp [hp]
      · rw [Nat.testBit_lt_two_pow (x := 2 ^ n + wordOf p n) (i := i) ?_]
        · simp; omega
        · have : 2 ^ (n + 1) ≤ 2 ^ i := Nat.pow_le_pow_right (by decide) (by omega)
          rw [Nat.pow_succ] at this
          omega
    · rw [if_neg hp, Nat.add_zero, ih]
      by_cases h : i = n
      · subst h; simp at hp; simp [hp]
      · have : (i < n + 1) ↔ i < n := by omega
        simp [this]
theorem wordOf_congr {p q : Nat → Bool} : ∀ n, (∀ i, i < n → p i = q i) → wordOf p n = wordOf q n
  | 0, _ => rfl
  | n + 1, h => by
    unfold wordOf
    rw [wordOf_congr n (fun i hi => h i (by omega)), h n (by omega)]
theorem wordOf_eq {x : Nat} {p : Nat → Bool} (n : Nat) (hx : x < 2 ^ n) (h : ∀ i, i < n → x.testBit i = p i) : x = wordOf p n := by
  apply Nat.eq_of_testBit_eq
  intro i
  rw [wordOf_bit]
  by_cases hi : i < n
  · simp [hi, h i hi]
  · simp only [hi, decide_false, Bool.false_and]
    exact Nat.testBit_lt_two_pow (Nat.lt_of_lt_of_le hx (Nat.pow_le_pow_right (by decide) (by omega)))
theorem wordOf_and (p q : Nat → Bool) (n : Nat) : wordOf p n &&& wordOf q n = wordOf (fun i => p i && q i) n :=
  wordOf_eq n (Nat.lt_of_le_of_lt Nat.and_le_left (wordOf_lt p n)) fun i hi => by simp [wordOf_bit, hi]
theorem wordOf_or_bit (p : Nat → Bool) (n k : Nat) (hk : k < n) : wordOf p n ||| 2 ^ k = wordOf (fun i => p i || (k == i)) n :=
  wordOf_eq n (Nat.or_lt_two_pow (wordOf_lt p n) (Nat.pow_lt_pow_right (by decide) hk)) fun i hi => by
    rw [Nat.testBit_or, wordOf_bit, Nat.testBit_two_pow]
    by_cases h : k = i
    · simp [hi, h]
    · have : (k == i) = false := by simpa using h
      simp [hi, h, this]
theorem wordOf_and_bit (p : Nat → Bool) (n k : Nat) (hk : k < n) : wordOf p n &&& 2 ^ k = if p k = true then 2 ^ k else 0 := by
  apply Nat.eq_of_testBit_eq
  intro i
  rw [Nat.testBit_and, wordOf_bit, Nat.testBit_two_pow]
  by_cases h : k = i
  · subst h
    cases hp : p k <;> simp [hk]
  · cases hp : p k <;> simp [h]
theorem wordOf_true (n : Nat) : wordOf (fun _ => true) n = 2 ^ n - 1 := by
  symm
  apply wordOf_eq n
  · have : 0 < 2 ^ n := Nat.pow_pos (by decide)
    omega
  · intro i hi
    rw [Nat.testBit_two_pow_sub_one]; simp [hi]

/-- The cells stored at the i-th one when the first t are done. -/
def storedT (g : Nat → IV) (t i : Nat) : Nat := wordOf (fun c => !reach g c t i) 16
theorem storedT_lt (g : Nat → IV) (t i : Nat) : storedT g t i < 65536 := wordOf_lt _ 16
/-- Nothing behind the n-th one is turned any more: the t-th one leads ahead alone. -/
theorem reach_late (g : Nat → IV) (c : Nat) : ∀ t s i, i ≤ t → t ≤ s → reach g c s i = reach g c t i := by
  intro t s i hi hs
  induction s with
  | zero => obtain rfl : t = 0 := by omega
            rfl
  | succ s ih =>
    by_cases h : t = s + 1
    · subst h; rfl
    · have hts : t ≤ s := by omega
      have : (fars (g s)).any (fun f => i == s + 1 + f) = false := by
        rw [List.any_eq_false]
        intro f _
        simp; omega
      show (reach g c s i || (reach g c s s && !(isSt (g s) && (g s).k == c) && (fars (g s)).any (fun f => i == s + 1 + f))) = _
      rw [this, ih hts]; simp

/-- What is on, behind the t-th one. -/
def onT (g : Nat → IV) (t : Nat) : Nat := wordOf (fun c => !(reach g c t t && !(isSt (g t) && (g t).k == c))) 16
theorem onT_st (g : Nat → IV) (t : Nat) (hs : isSt (g t) = true) (hk : (g t).k < 16) : storedT g t t ||| 2 ^ (g t).k = onT g t := by
  unfold storedT onT
  rw [wordOf_or_bit _ _ _ hk]
  apply wordOf_congr
  intro i _
  rw [hs]
  cases reach g i t t <;> cases (g t).k == i <;> rfl
theorem onT_no (g : Nat → IV) (t : Nat) (hs : isSt (g t) = false) : storedT g t t = onT g t := by
  unfold storedT onT
  apply wordOf_congr
  intro i _
  rw [hs]
  simp
/-- The cells while a place's ways are gone through: those in l are done. -/
def storedL (g : Nat → IV) (t : Nat) (l : List Nat) (i : Nat) : Nat := if l.any (fun f => i == t + 1 + f) then storedT g t i &&& onT g t else storedT g t i
theorem storedL_nil (g : Nat → IV) (t i : Nat) : storedL g t [] i = storedT g t i := rfl
theorem storedL_snoc (g : Nat → IV) (t : Nat) (l : List Nat) (f i : Nat) : storedL g t (l ++ [f]) i = if i = t + 1 + f then storedL g t l i &&& onT g t else storedL g t l i := by
  unfold storedL
  rw [List.any_append]
  by_cases h : i = t + 1 + f
  · have : (i == t + 1 + f) = true := by simpa using h
    simp only [List.any_cons, List.any_nil, Bool.or_false, this, Bool.or_true, if_true, if_pos h]
    split
    · rw [Nat.and_assoc, Nat.and_self]
    · rfl
  · have : (i == t + 1 + f) = false := by simpa using h
    simp only [List.any_cons, List.any_nil, Bool.or_false, this, if_neg h]
theorem storedL_all (g : Nat → IV) (t i : Nat) : storedL g t (fars (g t)) i = storedT g (t + 1) i := by
  unfold storedL storedT onT
  cases h : (fars (g t)).any (fun f => i == t + 1 + f)
  · rw [if_neg (by decide)]
    apply wordOf_congr
    intro c _
    simp [reach, h]
  · rw [if_pos rfl, wordOf_and]
    apply wordOf_congr
    intro c _
    simp [reach, h]

/-- What is told of a program. -/
def checkF (g : Nat → IV) (n : Nat) : Nat × Nat :=
  if (formedF g n).2 = 0 then pick (fun i => if isLd (g i) = true ∧ reach g (g i).k n i = true then 12 else 0) n (0, 0) else formedF g n
theorem formedF_ok {g : Nat → IV} {n : Nat} (h : (formedF g n).2 = 0) : 0 < n ∧ n ≤ 4096 ∧ (∀ i, i < n → alone (g i) (n - 1 - i) = 0) ∧ isRet (g (n - 1)) = true ∧ formedF g n = (0, 0) := by
  unfold formedF at h ⊢
  by_cases h0 : n = 0
  · rw [if_pos h0] at h; simp at h
  · rw [if_neg h0] at h ⊢
    by_cases h1 : 4096 < n
    · rw [if_pos h1] at h; simp at h
    · rw [if_neg h1] at h ⊢
      rcases pick_cases (fun i => alone (g i) (n - 1 - i)) n (if isRet (g (n - 1)) = true then (0, 0) else (n - 1, 11)) with ⟨hp, he⟩ | ⟨k, hk, hk0, _, he⟩
      · rw [he] at h ⊢
        cases hr : isRet (g (n - 1))
        · rw [hr] at h; simp at h
        · exact ⟨by omega, by omega, hp, rfl, by simp⟩
      · rw [he] at h
        exact absurd h hk0
end Go.Proofs.Ytmndolojfdekdaa

/-
  Contracts of the small methods of check.place: each tells what the numbers of its instruction say, and turns nothing that lay.
-/
namespace Go.Proofs.Ytmndolojfdekdaa
open Go.RowKit

/-- A place as a value: an instruction's four numbers, its kind, whether its other side is X, how many stand behind it. -/
abbrev plA (c t f k K : Int) (X : Bool) (b : Int) : Value := .agg #[.int .u16 c, .int .u8 t, .int .u8 f, .int .u32 k, .int .i64 K, .bool X, .int .i64 b]

theorem two_pow_u16 (k : Int) (h0 : 0 ≤ k) (h1 : k ≤ 15) : IntKind.u16.wrap ((2 : Int) ^ k.toNat) = ((2 ^ k.toNat : Nat) : Int) := by
  have h : 2 ^ k.toNat ≤ 2 ^ 15 := Nat.pow_le_pow_right (by decide) (by omega)
  have e : ((2 : Int) ^ k.toNat) = ((2 ^ k.toNat : Nat) : Int) := by rw [Int.natCast_pow]; rfl
  have h3 : (2 : Nat) ^ 15 = 32768 := by decide
  rw [e, IntKind.wrap_u16]
  generalize (2 : Nat) ^ k.toNat = z at h ⊢
  omega

section
variable (c t f k K b : Int) (X : Bool) (w : World)

set_option maxRecDepth 100000 in
theorem loadsCell_any : Calls Try.prog 78 #[plA c t f k K X b] w fun e w' => e = .returned (.bool (K == 3 || K == 6)) ∧ Below w.heap.size w w' := by
  cases h : (K == 3)
  all_goals
    go_enter Try.func78, Try.ntmps78
    go_wp2
    go_ret
    exact ⟨rfl, (Below.refl _ _).alloc (Nat.le_refl _) _⟩
set_option maxRecDepth 100000 in
theorem stores_any : Calls Try.prog 103 #[plA c t f k K X b] w fun e w' => e = .returned (.bool (K == 8 || K == 9)) ∧ Below w.heap.size w w' := by
  cases h : (K == 8)
  all_goals
    go_enter Try.func103, Try.ntmps103
    go_wp2
    go_ret
    exact ⟨rfl, (Below.refl _ _).alloc (Nat.le_refl _) _⟩
set_option maxRecDepth 100000 in
theorem returns_any : Calls Try.prog 101 #[plA c t f k K X b] w fun e w' => e = .returned (.bool (K == 14 || K == 15)) ∧ Below w.heap.size w w' := by
  cases h : (K == 14)
  all_goals
    go_enter Try.func101, Try.ntmps101
    go_wp2
    go_ret
    exact ⟨rfl, (Below.refl _ _).alloc (Nat.le_refl _) _⟩
set_option maxRecDepth 100000 in
theorem meansNothing_any : Calls Try.prog 149 #[plA c t f k K X b] w fun e w' => e = .returned (.bool (K == 0)) ∧ Below w.heap.size w w' := by
  go_enter Try.func149, Try.ntmps149
  go_wp2
  go_ret
  exact ⟨rfl, (Below.refl _ _).alloc (Nat.le_refl _) _⟩
set_option maxRecDepth 100000 in
theorem cell_any (h0 : 0 ≤ k) (h1 : k ≤ 15) : Calls Try.prog 79 #[plA c t f k K X b] w fun e w' => e = .returned (.int .u16 ((2 ^ k.toNat : Nat) : Int)) ∧ Below w.heap.size w w' := by
  go_enter Try.func79, Try.ntmps79
  go_wp2
  go_ret
  exact ⟨by rw [← two_pow_u16 k h0 h1]; rfl, (Below.refl _ _).alloc (Nat.le_refl _) _⟩
set_option maxRecDepth 100000 in
theorem jumps_any : Calls Try.prog 155 #[plA c t f k K X b] w fun e w' => e = .returned (.bool (K == 13 || (K == 25 || K == 26 || K == 27 || K == 28))) ∧ Below w.heap.size w w' := by
  cases h1 : (K == 13) <;> cases h2 : (K == 25) <;> cases h3 : (K == 26) <;> cases h4 : (K == 27) <;> cases h5 : (K == 28)
  all_goals
    go_enter Try.func155, Try.ntmps155
    go_wp2
    go_ret
    exact ⟨rfl, (Below.refl _ _).alloc (Nat.le_refl _) _⟩

set_option maxRecDepth 100000 in
theorem loadsNoWord_any (h0 : 0 ≤ k) (h1 : k ≤ 4294967295) : Calls Try.prog 150 #[plA c t f k K X b] w fun e w' => e = .returned (.bool (K == 1 && (k % 4 != 0 || decide (k ≥ 64)))) ∧ Below w.heap.size w w' := by
  cases h : (K == 1) <;> cases h2 : (k % 4 != 0)
  all_goals
    go_enter Try.func150, Try.ntmps150
    go_wp2
    go_ret
    exact ⟨rfl, (Below.refl _ _).alloc (Nat.le_refl _) _⟩
set_option maxRecDepth 100000 in
theorem dividesByZero_any : Calls Try.prog 152 #[plA c t f k K X b] w fun e w' => e = .returned (.bool (K == 19 && !X && k == 0)) ∧ Below w.heap.size w w' := by
  cases h : (K == 19) <;> cases X
  all_goals
    go_enter Try.func152, Try.ntmps152
    go_wp2
    go_ret
    exact ⟨rfl, (Below.refl _ _).alloc (Nat.le_refl _) _⟩
set_option maxRecDepth 100000 in
theorem shiftsTooFar_any : Calls Try.prog 153 #[plA c t f k K X b] w fun e w' => e = .returned (.bool ((K == 22 || K == 23) && !X && decide (k > 31))) ∧ Below w.heap.size w w' := by
  cases h : (K == 22) <;> cases h2 : (K == 23) <;> cases X
  all_goals
    go_enter Try.func153, Try.ntmps153
    go_wp2
    go_ret
    exact ⟨rfl, (Below.refl _ _).alloc (Nat.le_refl _) _⟩
end

/-- A place in a block of its own. -/
def Bx (w : World) (B : Nat) (c t f k K : Int) (X : Bool) (b : Int) : Prop :=
  w.cell? ⟨B, 0, none⟩ = some (.int .u16 c) ∧ w.cell? ⟨B, 1, none⟩ = some (.int .u8 t) ∧ w.cell? ⟨B, 2, none⟩ = some (.int .u8 f) ∧ w.cell? ⟨B, 3, none⟩ = some (.int .u32 k) ∧ w.cell? ⟨B, 4, none⟩ = some (.int .i64 K) ∧ w.cell? ⟨B, 5, none⟩ = some (.bool X) ∧ w.cell? ⟨B, 6, none⟩ = some (.int .i64 b)
section
variable {c t f k K b : Int} {X : Bool} {w w' : World} {B N : Nat}
theorem Bx.new (E : TypeId) : Bx (w.alloc (.cells #[.int .u16 c, .int .u8 t, .int .u8 f, .int .u32 k, .int .i64 K, .bool X, .int .i64 b] E)) w.heap.size c t f k K X b := by
  refine ⟨?_, ?_, ?_, ?_, ?_, ?_, ?_⟩ <;> (rw [World.cell?_alloc_at _ _ _ _ rfl]; rfl)
theorem Bx.below (h : Bx w B c t f k K X b) (hb : Below N w w') (hB : B < N) : Bx w' B c t f k K X b := by
  obtain ⟨h0, h1, h2, h3, h4, h5, h6⟩ := h
  exact ⟨(hb.cell (p := ⟨B, 0, none⟩) hB).trans h0, (hb.cell (p := ⟨B, 1, none⟩) hB).trans h1, (hb.cell (p := ⟨B, 2, none⟩) hB).trans h2, (hb.cell (p := ⟨B, 3, none⟩) hB).trans h3, (hb.cell (p := ⟨B, 4, none⟩) hB).trans h4, (hb.cell (p := ⟨B, 5, none⟩) hB).trans h5, (hb.cell (p := ⟨B, 6, none⟩) hB).trans h6⟩
end
end Go.Proofs.Ytmndolojfdekdaa

/-
  Contracts of check.place's methods that call others: which cell, how far an instruction leads, whether a jump leads too far.
-/
namespace Go.Proofs.Ytmndolojfdekdaa
open Go.RowKit

section
variable (c t f k K b : Int) (X : Bool) (w : World)
set_option maxRecDepth 100000 in
theorem speaks_any : Calls Try.prog 151 #[plA c t f k K X b] w fun e w' => e = .returned (.bool ((K == 3 || K == 6 || (K == 8 || K == 9)) && decide (k ≥ 16))) ∧ Below w.heap.size w w' := by
  have hbx := Bx.new (w := w) (c := c) (t := t) (f := f) (k := k) (K := K) (X := X) (b := b) 156
  have hB0 : Below w.heap.size w (w.alloc (.cells #[.int .u16 c, .int .u8 t, .int .u8 f, .int .u32 k, .int .i64 K, .bool X, .int .i64 b] 156)) := (Below.refl _ _).alloc (Nat.le_refl _) _
  have HX := Lib.hid hbx
  clear hbx
  cases h1 : (K == 3 || K == 6) <;> cases h2 : (K == 8 || K == 9)
  all_goals
    have H1 := Lib.hid h1
    have H2 := Lib.hid h2
    clear h1 h2
    go_enter Try.func151, Try.ntmps151
    go_wp2_with (first
      | (go_at_call 78
         refine (loadsCell_any _ _ _ _ _ _ _ _).mono ?_
         rw [H1.out]
         rintro e w1 ⟨rfl, hB1⟩
         obtain ⟨q0, q1, q2, q3, q4, q5, q6⟩ := HX.out.below hB1 (by simp)
         have hb1 := hB0.trans (hB1.mono (by simp)))
      | (go_at_call 103
         refine (stores_any _ _ _ _ _ _ _ _).mono ?_
         rw [H2.out]
         rintro e w2 ⟨rfl, hB2⟩
         obtain ⟨p0, p1, p2, p3, p4, p5, p6⟩ := (HX.out.below hB1 (by simp)).below hB2 (by have := hB1.size; simp at this; omega)
         have hb2 := hb1.trans (hB2.mono hb1.size)))
    go_ret
    first
      | exact ⟨rfl, hb2⟩
      | exact ⟨rfl, hb1⟩
end

/-- How far behind the next one those stand that may be done next, by the kind. -/
def farsK (K : Int) (t f k : Nat) : List Nat :=
  if (K == 14 || K == 15) = true then [] else if (K == 13) = true then [k] else if (K == 25 || K == 26 || K == 27 || K == 28) = true then [t, f] else [0]
/-- A slice that reads as these numbers, to its capacity. -/
def U32s (w : World) (A : Option Addr) (n : Nat) (l : List Nat) : Prop := n = l.length ∧ Cel w w.heap.size 1 A n n (fun j => .int .u32 ((l.getD j 0 : Nat) : Int))

set_option maxRecDepth 100000 in
theorem leads_any (c : Int) (t f k : Nat) (K b : Int) (X : Bool) (w : World) (ht : t < 256) (hf : f < 256) : Calls Try.prog 104 #[plA c t f k K X b] w fun e w' => ∃ A n, e = .returned (.slice A n n) ∧ U32s w' A n (farsK K t f k) ∧ Below w.heap.size w w' := by
  have hbx := Bx.new (w := w) (c := c) (t := t) (f := f) (k := k) (K := K) (X := X) (b := b) 156
  have hB0 : Below w.heap.size w (w.alloc (.cells #[.int .u16 c, .int .u8 t, .int .u8 f, .int .u32 k, .int .i64 K, .bool X, .int .i64 b] 156)) := (Below.refl _ _).alloc (Nat.le_refl _) _
  have HX := Lib.hid hbx
  clear hbx
  cases h1 : (K == 14 || K == 15)
  · cases h2 : (K == 13)
    · cases h3 : (K == 25 || K == 26 || K == 27 || K == 28)
      · have HF : Hid (farsK K t f k = [0]) := Lib.hid (by unfold farsK; rw [h1, h2, h3]; rfl)
        have H1 := Lib.hid h1
        have H3 : Hid ((K == 13 || (K == 25 || K == 26 || K == 27 || K == 28)) = false) := Lib.hid (by rw [h2, h3]; rfl)
        clear h1 h3
        go_enter Try.func104, Try.ntmps104
        go_wp2_with (first
          | (go_at_call 101
             refine (returns_any _ _ _ _ _ _ _ _).mono ?_
             rw [H1.out]
             rintro e w1 ⟨rfl, hB1⟩
             obtain ⟨q0, q1, q2, q3, q4, q5, q6⟩ := HX.out.below hB1 (by simp)
             have hb1 := hB0.trans (hB1.mono (by simp)))
          | (go_at_call 155
             refine (jumps_any _ _ _ _ _ _ _ _).mono ?_
             rw [H3.out]
             rintro e w2 ⟨rfl, hB2⟩
             have hb2 := hb1.trans (hB2.mono hb1.size)))
        go_ret
        rw [HF.out]
        refine ⟨_, _, rfl, ⟨rfl, ?_⟩, hb2.alloc hb2.size _⟩
        exact Cel.mk_ (by simp) (Nat.le_refl _) (by decide) (fun i hi => by
          match i, hi with
          | 0, _ => simp)
      · have HF : Hid (farsK K t f k = [t, f]) := Lib.hid (by unfold farsK; rw [h1, h2, h3]; rfl)
        have H1 := Lib.hid h1
        have H3 : Hid ((K == 13 || (K == 25 || K == 26 || K == 27 || K == 28)) = true) := Lib.hid (by rw [h2, h3]; rfl)
        clear h1 h3
        go_enter Try.func104, Try.ntmps104
        go_wp2_with (first
          | (go_at_call 101
             refine (returns_any _ _ _ _ _ _ _ _).mono ?_
             rw [H1.out]
             rintro e w1 ⟨rfl, hB1⟩
             obtain ⟨q0, q1, q2, q3, q4, q5, q6⟩ := HX.out.below hB1 (by simp)
             have hb1 := hB0.trans (hB1.mono (by simp)))
          | (go_at_call 155
             refine (jumps_any _ _ _ _ _ _ _ _).mono ?_
             rw [H3.out]
             rintro e w2 ⟨rfl, hB2⟩
             obtain ⟨p0, p1, p2, p3, p4, p5, p6⟩ := (HX.out.below hB1 (by simp)).below hB2 (by have := hB1.size; simp at this; omega)
             have hb2 := hb1.trans (hB2.mono hb1.size)))
        go_ret
        rw [HF.out]
        refine ⟨_, _, rfl, ⟨rfl, ?_⟩, hb2.alloc hb2.size _⟩
        exact Cel.mk_ (by simp) (Nat.le_refl _) (by decide) (fun i hi => by
          match i, hi with
          | 0, _ => simp
          | 1, _ => simp)
    · have HF : Hid (farsK K t f k = [k]) := Lib.hid (by unfold farsK; rw [h1, h2]; rfl)
      have H1 := Lib.hid h1
      clear h1
      go_enter Try.func104, Try.ntmps104
      go_wp2_with (first
        | (go_at_call 101
           refine (returns_any _ _ _ _ _ _ _ _).mono ?_
           rw [H1.out]
           rintro e w1 ⟨rfl, hB1⟩
           obtain ⟨q0, q1, q2, q3, q4, q5, q6⟩ := HX.out.below hB1 (by simp)
           have hb1 := hB0.trans (hB1.mono (by simp))))
      go_ret
      rw [HF.out]
      refine ⟨_, _, rfl, ⟨rfl, ?_⟩, hb1.alloc hb1.size _⟩
      exact Cel.mk_ (by simp) (Nat.le_refl _) (by decide) (fun i hi => by
        match i, hi with
        | 0, _ => simp)
  · have HF : Hid (farsK K t f k = []) := Lib.hid (by unfold farsK; rw [h1]; rfl)
    have H1 := Lib.hid h1
    clear h1
    go_enter Try.func104, Try.ntmps104
    go_wp2_with (first
      | (go_at_call 101
         refine (returns_any _ _ _ _ _ _ _ _).mono ?_
         rw [H1.out]
         rintro e w1 ⟨rfl, hB1⟩
         have hb1 := hB0.trans (hB1.mono (by simp))))
    go_ret
    rw [HF.out]
    exact ⟨_, _, rfl, ⟨rfl, Cel.nil_⟩, hb1⟩

set_option maxRecDepth 100000 in
/-- The closure that asks whether a way leads too far. -/
theorem far_any (B : Nat) (r x : Nat) (w : World) (hc : w.cell? ⟨B, 6, none⟩ = some (.int .i64 r)) (hr : r ≤ 4096) (hx : x < 4294967296) :
    Calls Try.prog 165 #[.int .u32 x, .pointer (some ⟨B, 0, none⟩)] w fun e w' => e = .returned (.bool (decide (r ≤ x))) ∧ w' = w := by
  go_enter Try.func165, Try.ntmps165
  go_wp2
  go_ret
  exact ⟨rfl, rfl⟩
end Go.Proofs.Ytmndolojfdekdaa

/-
  Contracts of slices.IndexFunc and ContainsFunc over the ways' closure, and of check.place's jumpsTooFar and fault: what is wrong with an instruction alone.
-/
namespace Go.Proofs.Ytmndolojfdekdaa
open Go.RowKit

set_option maxRecDepth 100000 in
set_option maxHeartbeats 1000000 in
theorem index_any (B : Nat) (r : Nat) (A : Option Addr) (n : Nat) (l : List Nat) (w : World) (hc : w.cell? ⟨B, 6, none⟩ = some (.int .i64 r)) (hr : r ≤ 4096) (hl : U32s w A n l) (hx : ∀ x ∈ l, x < 4294967296) :
    Calls Try.prog 167 #[.slice A n n, .func (.func 165) #[] #[.pointer (some ⟨B, 0, none⟩)]] w fun e w' =>
      ∃ z : Int, e = .returned (.int .i64 z) ∧ (decide (z ≥ 0) = l.any (fun x => decide (r ≤ x))) ∧ w' = w := by
  obtain ⟨hn, hcel⟩ := hl
  have HN := Lib.hid hn
  clear hn
  have hle := hcel.le
  unfold maxLen at hle
  go_enter Try.func167, Try.ntmps167
  go_wp2
  go_loopw [8] (fun i wr => ∃ k : Nat, k ≤ n ∧ i = .int .i64 k ∧ wr = w ∧ ∀ j, j < k → ¬ r ≤ l.getD j 0)
    (fun i _ => n - (intOf i).toNat)
  case atStart => exact ⟨0, Nat.zero_le _, rfl, rfl, fun j hj => by omega⟩
  case round =>
    obtain ⟨k, hk, rfl, rfl, hno⟩ := hrel
    by_cases hlt : k < n
    · obtain ⟨b, off, rfl, hb, hcl⟩ := hcel.at_ (by omega)
      have q0 := hcl k (by omega)
      have hm : l.getD k 0 ∈ l := by
        rw [List.getD_eq_getElem?_getD, List.getElem?_eq_getElem (by have := HN.out; omega)]
        exact List.getElem_mem _
      have hx' := hx _ hm
      obtain ⟨x, ex⟩ : ∃ x, l.getD k 0 = x := ⟨_, rfl⟩
      rw [ex] at q0 hm hx'
      clear hcl
      cases hd : (decide (r ≤ x))
      · have HD := Lib.hid hd
        clear hd
        go_wp2_with (go_at_call 165; refine (far_any B r x _ hc hr hx').mono ?_; rw [HD.out]; rintro e w1 ⟨rfl, rfl⟩)
        refine ⟨⟨k + 1, by omega, by go_num, by trivial, fun j hj => ?_⟩, by simp [intOf]; omega⟩
        by_cases hjk : j = k
        · rw [hjk, ex]; simpa using HD.out
        · exact hno j (by omega)
      · have HD := Lib.hid hd
        clear hd
        go_wp2_with (go_at_call 165; refine (far_any B r x _ hc hr hx').mono ?_; rw [HD.out]; rintro e w1 ⟨rfl, rfl⟩)
        go_ret
        refine ⟨(k : Int), rfl, ?_, rfl⟩
        rw [show l.any (fun x => decide (r ≤ x)) = true from List.any_eq_true.2 ⟨x, hm, HD.out⟩]
        simp
    · obtain rfl : k = n := by omega
      go_wp2
      go_ret
      refine ⟨-1, rfl, ?_, rfl⟩
      have : l.any (fun x => decide (r ≤ x)) = false := by
        rw [List.any_eq_false]
        intro x hxm
        obtain ⟨j, hj, rfl⟩ := List.mem_iff_getElem.1 hxm
        have := hno j (by have := HN.out; omega)
        rw [List.getD_eq_getElem?_getD, List.getElem?_eq_getElem hj] at this
        simpa using this
      rw [this]; decide

set_option maxRecDepth 100000 in
theorem contains_any (B : Nat) (r : Nat) (A : Option Addr) (n : Nat) (l : List Nat) (w : World) (hc : w.cell? ⟨B, 6, none⟩ = some (.int .i64 r)) (hr : r ≤ 4096) (hl : U32s w A n l) (hx : ∀ x ∈ l, x < 4294967296) :
    Calls Try.prog 164 #[.slice A n n, .func (.func 165) #[] #[.pointer (some ⟨B, 0, none⟩)]] w fun e w' =>
      e = .returned (.bool (l.any (fun x => decide (r ≤ x)))) ∧ w' = w := by
  have HI := Lib.hid (index_any B r A n l w hc hr hl hx)
  clear hl hc
  go_enter Try.func164, Try.ntmps164
  go_wp2_with (go_at_call 167; refine HI.out.mono ?_; rintro e w1 ⟨z, rfl, hz, rfl⟩)
  go_ret
  exact ⟨by rw [← hz]; rfl, rfl⟩

theorem fars_small (K : Int) (t f k : Nat) (ht : t < 256) (hf : f < 256) (hk : k < 4294967296) : ∀ x ∈ farsK K t f k, x < 4294967296 := by
  unfold farsK
  split
  · simp
  · split
    · simpa using hk
    · split
      · intro x hx
        simp at hx
        omega
      · simp

set_option maxRecDepth 100000 in
theorem jumpsTooFar_any (c : Int) (t f k r : Nat) (K : Int) (X : Bool) (w : World) (ht : t < 256) (hf : f < 256) (hk : k < 4294967296) (hr : r ≤ 4096) : Calls Try.prog 154 #[plA c t f k K X r] w fun e w' =>
    e = .returned (.bool ((K == 13 || (K == 25 || K == 26 || K == 27 || K == 28)) && (farsK K t f k).any (fun x => decide (r ≤ x)))) ∧ Below w.heap.size w w' := by
  have hbx := Bx.new (w := w) (c := c) (t := t) (f := f) (k := k) (K := K) (X := X) (b := r) 156
  have hB0 : Below w.heap.size w (w.alloc (.cells #[.int .u16 c, .int .u8 t, .int .u8 f, .int .u32 k, .int .i64 K, .bool X, .int .i64 r] 156)) := (Below.refl _ _).alloc (Nat.le_refl _) _
  have HX := Lib.hid hbx
  have hsm := Lib.hid (fars_small K t f k ht hf hk)
  clear hbx
  cases h1 : (K == 13 || (K == 25 || K == 26 || K == 27 || K == 28))
  · have H1 := Lib.hid h1
    clear h1
    go_enter Try.func154, Try.ntmps154
    go_wp2_with (go_at_call 155
                 refine (jumps_any _ _ _ _ _ _ _ _).mono ?_
                 rw [H1.out]
                 rintro e w1 ⟨rfl, hB1⟩
                 have hb1 := hB0.trans (hB1.mono (by simp)))
    go_ret
    exact ⟨rfl, hb1⟩
  · have H1 := Lib.hid h1
    clear h1
    go_enter Try.func154, Try.ntmps154
    go_wp2_with (first
      | (go_at_call 155
         refine (jumps_any _ _ _ _ _ _ _ _).mono ?_
         rw [H1.out]
         rintro e w1 ⟨rfl, hB1⟩
         obtain ⟨q0, q1, q2, q3, q4, q5, q6⟩ := HX.out.below hB1 (by simp)
         have hb1 := hB0.trans (hB1.mono (by simp)))
      | (go_at_call 104
         refine (leads_any _ _ _ _ _ _ _ _ ht hf).mono ?_
         rintro e w2 ⟨A, n, rfl, hU, hB2⟩
         obtain ⟨p0, p1, p2, p3, p4, p5, p6⟩ := (HX.out.below hB1 (by simp)).below hB2 (by have := hB1.size; simp at this; omega)
         have hb2 := hb1.trans (hB2.mono hb1.size))
      | (go_at_call 164
         refine (contains_any _ r _ _ _ _ p6 hr hU hsm.out).mono ?_
         rintro e w3 ⟨rfl, rfl⟩))
    go_ret
    exact ⟨rfl, hb2⟩
end Go.Proofs.Ytmndolojfdekdaa
