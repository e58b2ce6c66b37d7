/-
  PURE words for layer 19 (tree): nodes, what it is that the nodes of a place on are the tree of some numbers, which node a number leads to, how deep it is. Nothing here speaks of a program.
-/
namespace Go.Proofs.Ytkbfmnpilbhfaaa

structure Nd where
  leaf : Bool
  num : Nat
  place : Int
  low : Nat
  high : Nat

/-- From place s on stands the tree of the n numbers from lo on; D tells how deep each node is. -/
inductive Sub (T : Nat → Nd) (D : Nat → Nat) (g : Nat → Nat) : Nat → Nat → Nat → Prop
  | leaf (s lo : Nat) (h : T s = ⟨true, g lo, (lo : Int), 0, 0⟩) (hd : D s = 0) : Sub T D g s lo 1
  | node (s lo n : Nat) (h2 : 2 ≤ n) (hl : Sub T D g s lo (n / 2)) (hh : Sub T D g (s + (2 * (n / 2) - 1)) (lo + n / 2) (n - n / 2))
      (h : T (s + (2 * n - 2)) = ⟨false, g (lo + n / 2), 0, s + (2 * (n / 2) - 2), s + (2 * n - 3)⟩)
      (hd : D (s + (2 * n - 2)) = 1 + max (D (s + (2 * (n / 2) - 2))) (D (s + (2 * n - 3)))) : Sub T D g s lo n

theorem Sub.pos {T : Nat → Nd} {D g : Nat → Nat} {s lo n : Nat} (h : Sub T D g s lo n) : 1 ≤ n := by
  cases h <;> omega

theorem Sub.congr {T : Nat → Nd} {D g : Nat → Nat} {s lo n : Nat} (h : Sub T D g s lo n) : ∀ (T' : Nat → Nd) (D' : Nat → Nat), (∀ i, s ≤ i → i < s + (2 * n - 1) → T' i = T i ∧ D' i = D i) → Sub T' D' g s lo n := by
  induction h with
  | leaf s lo h hd =>
    intro T' D' he
    obtain ⟨e1, e2⟩ := he s (Nat.le_refl _) (by omega)
    exact .leaf s lo (e1.trans h) (e2.trans hd)
  | node s lo n h2 hl hh h hd ihl ihh =>
    intro T' D' he
    have pl := hl.pos
    have ph := hh.pos
    refine .node s lo n h2 (ihl T' D' fun i h1 h3 => he i h1 (by omega)) (ihh T' D' fun i h1 h3 => he i (by omega) (by omega)) ?_ ?_
    · exact (he _ (by omega) (by omega)).1.trans h
    · rw [(he (s + (2 * n - 2)) (by omega) (by omega)).2, (he (s + (2 * (n / 2) - 2)) (by omega) (by omega)).2, (he (s + (2 * n - 3)) (by omega) (by omega)).2]
      exact hd

theorem sub_ex (g : Nat → Nat) : ∀ k n, n ≤ k → 1 ≤ n → ∀ (s lo : Nat) (T0 : Nat → Nd) (D0 : Nat → Nat), ∃ T D, Sub T D g s lo n ∧ ∀ i, i < s → T i = T0 i ∧ D i = D0 i
  | 0, n, h, h1, _, _, _, _ => by omega
  | k + 1, n, h, h1, s, lo, T0, D0 => by
    by_cases hn : n = 1
    · subst hn
      refine ⟨fun i => if i = s then ⟨true, g lo, (lo : Int), 0, 0⟩ else T0 i, fun i => if i = s then 0 else D0 i, .leaf s lo (by simp) (by simp), fun i hi => ?_⟩
      have : i ≠ s := by omega
      simp [this]
    · obtain ⟨T1, D1, s1, u1⟩ := sub_ex g k (n / 2) (by omega) (by omega) s lo T0 D0
      obtain ⟨T2, D2, s2, u2⟩ := sub_ex g k (n - n / 2) (by omega) (by omega) (s + (2 * (n / 2) - 1)) (lo + n / 2) T1 D1
      refine ⟨fun i => if i = s + (2 * n - 2) then ⟨false, g (lo + n / 2), 0, s + (2 * (n / 2) - 2), s + (2 * n - 3)⟩ else T2 i,
        fun i => if i = s + (2 * n - 2) then 1 + max (D2 (s + (2 * (n / 2) - 2))) (D2 (s + (2 * n - 3))) else D2 i, ?_, ?_⟩
      · refine .node s lo n (by omega) ?_ ?_ (by simp) ?_
        · refine (s1.congr T2 D2 fun i h1 h2 => u2 i (by omega)).congr _ _ fun i h1 h2 => ?_
          have : i ≠ s + (2 * n - 2) := by omega
          simp [this]
        · refine s2.congr _ _ fun i h1 h2 => ?_
          have : i ≠ s + (2 * n - 2) := by omega
          simp [this]
        · have e1 : s + (2 * (n / 2) - 2) ≠ s + (2 * n - 2) := by omega
          have e2 : s + (2 * n - 3) ≠ s + (2 * n - 2) := by omega
          rw [if_pos rfl, if_neg e1, if_neg e2]
      · intro i hi
        have : i ≠ s + (2 * n - 2) := by omega
        simp only [this, if_false]
        have h3 := u2 i (by omega)
        have h4 := u1 i hi
        exact ⟨h3.1.trans h4.1, h3.2.trans h4.2⟩

/-- r is the place of x among the n numbers from lo on, or -1. -/
def IsPlace (g : Nat → Nat) (lo n x : Nat) (r : Int) : Prop := (∃ i, lo ≤ i ∧ i < lo + n ∧ g i = x ∧ r = (i : Int)) ∨ ((∀ i, lo ≤ i → i < lo + n → g i ≠ x) ∧ r = -1)
/-- The n numbers rise. -/
def Ris (g : Nat → Nat) (n : Nat) : Prop := ∀ i, i + 1 < n → g i < g (i + 1)
theorem Ris.lt {g : Nat → Nat} {n : Nat} (h : Ris g n) : ∀ j i, i < j → j < n → g i < g j
  | 0, i, h1, _ => by omega
  | j + 1, i, h1, h2 => by
    have h3 := h j h2
    by_cases e : i = j
    · subst e; exact h3
    · have := h.lt j i (by omega) (by omega)
      omega
theorem IsPlace.one {g : Nat → Nat} {n x : Nat} {r r' : Int} (hr : Ris g n) (h : IsPlace g 0 n x r) (h' : IsPlace g 0 n x r') : r = r' := by
  rcases h with ⟨i, _, hi, hg, rfl⟩ | ⟨h, rfl⟩
  · rcases h' with ⟨j, _, hj, hg', rfl⟩ | ⟨h', rfl⟩
    · rcases Nat.lt_trichotomy i j with e | e | e
      · have := hr.lt j i e (by omega); omega
      · rw [e]
      · have := hr.lt i j e (by omega); omega
    · exact absurd hg (h' i (by omega) hi)
  · rcases h' with ⟨j, _, hj, hg', rfl⟩ | ⟨h', rfl⟩
    · exact absurd hg' (h j (by omega) hj)
    · rfl
theorem IsPlace.self {g : Nat → Nat} {n i : Nat} {r : Int} (hr : Ris g n) (hi : i < n) (h : IsPlace g 0 n (g i) r) : r = (i : Int) :=
  h.one hr (.inl ⟨i, by omega, by omega, rfl, rfl⟩)

/-- To which answer x leads from the node p on. -/
inductive FindsAt (T : Nat → Nd) (x : Nat) : Nat → Int → Prop
  | leaf (p : Nat) (h : (T p).leaf = true) : FindsAt T x p (if x = (T p).num then (T p).place else -1)
  | low (p : Nat) (r : Int) (h : (T p).leaf = false) (hx : x < (T p).num) (hp : (T p).low < p) (hr : FindsAt T x (T p).low r) : FindsAt T x p r
  | high (p : Nat) (r : Int) (h : (T p).leaf = false) (hx : (T p).num ≤ x) (hp : (T p).high < p) (hr : FindsAt T x (T p).high r) : FindsAt T x p r

theorem Sub.finds {T : Nat → Nd} {D g : Nat → Nat} {s lo n : Nat} (h : Sub T D g s lo n) (N : Nat) (hr : Ris g N) (x : Nat) : lo + n ≤ N → ∃ r, FindsAt T x (s + (2 * n - 2)) r ∧ IsPlace g lo n x r := by
  induction h with
  | leaf s lo h hd =>
    intro hN
    refine ⟨_, .leaf s (by rw [h]), ?_⟩
    rw [h]
    by_cases e : x = g lo
    · simp only [if_pos e]
      exact .inl ⟨lo, Nat.le_refl _, by omega, e.symm, rfl⟩
    · simp only [if_neg e]
      refine .inr ⟨fun i h1 h2 hg => e ?_, rfl⟩
      rw [show i = lo from by omega] at hg
      exact hg.symm
  | node s lo n h2 hl hh h hd ihl ihh =>
    intro hN
    have pl := hl.pos
    have ph := hh.pos
    by_cases hx : x < g (lo + n / 2)
    · obtain ⟨r, f1, f2⟩ := ihl (by omega)
      refine ⟨r, .low _ r (by rw [h]) (by rw [h]; exact hx) (by rw [h]; show s + (2 * (n / 2) - 2) < _; omega) (by rw [h]; exact f1), ?_⟩
      rcases f2 with ⟨i, h1, h3, h4, h5⟩ | ⟨h1, h3⟩
      · exact .inl ⟨i, h1, by omega, h4, h5⟩
      · refine .inr ⟨fun i h4 h5 hg => ?_, h3⟩
        by_cases hi : i < lo + n / 2
        · exact h1 i h4 hi hg
        · by_cases e : i = lo + n / 2
          · subst e; omega
          · have := hr.lt i (lo + n / 2) (by omega) (by omega); omega
    · obtain ⟨r, f1, f2⟩ := ihh (by omega)
      have e : s + (2 * (n / 2) - 1) + (2 * (n - n / 2) - 2) = s + (2 * n - 3) := by omega
      rw [e] at f1
      refine ⟨r, .high _ r (by rw [h]) (by rw [h]; show g (lo + n / 2) ≤ x; omega) (by rw [h]; show s + (2 * n - 3) < _; omega) (by rw [h]; exact f1), ?_⟩
      rcases f2 with ⟨i, h1, h3, h4, h5⟩ | ⟨h1, h3⟩
      · exact .inl ⟨i, by omega, by omega, h4, h5⟩
      · refine .inr ⟨fun i h4 h5 hg => ?_, h3⟩
        by_cases hi : i < lo + n / 2
        · have := hr.lt (lo + n / 2) i hi (by omega); omega
        · exact h1 i (by omega) (by omega) hg

theorem Sub.deep {T : Nat → Nd} {D g : Nat → Nat} {s lo n : Nat} (h : Sub T D g s lo n) : ∀ k, n ≤ 2 ^ k → D (s + (2 * n - 2)) ≤ k := by
  induction h with
  | leaf s lo h hd => intro k _; show D s ≤ k; omega
  | node s lo n h2 hl hh h hd ihl ihh =>
    intro k hk
    have ph := hh.pos
    have pl := hl.pos
    cases k with
    | zero => simp at hk; omega
    | succ k =>
      have e2 : 2 ^ (k + 1) = 2 * 2 ^ k := by rw [Nat.pow_succ]; omega
      have h3 := ihl k (by omega)
      have h4 := ihh k (by omega)
      have e : s + (2 * (n / 2) - 1) + (2 * (n - n / 2) - 2) = s + (2 * n - 3) := by omega
      rw [e] at h4
      rw [hd]
      omega

/-- What a node is. -/
def NdOk (T : Nat → Nd) (D g : Nat → Nat) (lo n i : Nat) : Prop :=
  ((T i).leaf = true ∧ D i = 0 ∧ ∃ q, lo ≤ q ∧ q < lo + n ∧ (T i).place = (q : Int) ∧ (T i).num = g q ∧ (T i).low = 0 ∧ (T i).high = 0) ∨
  ((T i).leaf = false ∧ (T i).low < i ∧ (T i).high < i ∧ D i = 1 + max (D (T i).low) (D (T i).high) ∧ (T i).place = 0 ∧ ∃ q, lo ≤ q ∧ q < lo + n ∧ (T i).num = g q)
theorem NdOk.more {T : Nat → Nd} {D g : Nat → Nat} {lo n lo' n' i : Nat} (h : NdOk T D g lo n i) (h1 : lo' ≤ lo) (h2 : lo + n ≤ lo' + n') : NdOk T D g lo' n' i := by
  rcases h with ⟨a, b, q, c, d, e⟩ | ⟨a, b, c, d, f, q, e1, e2, e3⟩
  · exact .inl ⟨a, b, q, by omega, by omega, e⟩
  · exact .inr ⟨a, b, c, d, f, q, by omega, by omega, e3⟩
theorem Sub.ok {T : Nat → Nd} {D g : Nat → Nat} {s lo n : Nat} (h : Sub T D g s lo n) : ∀ i, s ≤ i → i < s + (2 * n - 1) → NdOk T D g lo n i := by
  induction h with
  | leaf s lo h hd =>
    intro i h1 h2
    obtain rfl : i = s := by omega
    exact .inl ⟨by rw [h], hd, lo, Nat.le_refl _, by omega, by rw [h], by rw [h], by rw [h], by rw [h]⟩
  | node s lo n h2 hl hh h hd ihl ihh =>
    intro i h1 h3
    have ph := hh.pos
    have pl := hl.pos
    by_cases c1 : i < s + (2 * (n / 2) - 1)
    · exact (ihl i h1 c1).more (Nat.le_refl _) (by omega)
    · by_cases c2 : i < s + (2 * n - 2)
      · exact (ihh i (by omega) (by omega)).more (by omega) (by omega)
      · obtain rfl : i = s + (2 * n - 2) := by omega
        refine .inr ⟨by rw [h], by rw [h]; show s + (2 * (n / 2) - 2) < _; omega, by rw [h]; show s + (2 * n - 3) < _; omega, by rw [hd, h], by rw [h], lo + n / 2, by omega, by omega, by rw [h]⟩

/-- How many of the first k nodes are leaves. -/
def lvs (T : Nat → Nd) : Nat → Nat
  | 0 => 0
  | k + 1 => lvs T k + if (T k).leaf then 1 else 0
theorem Sub.leaves {T : Nat → Nd} {D g : Nat → Nat} {s lo n : Nat} (h : Sub T D g s lo n) : lvs T (s + (2 * n - 1)) = lvs T s + n := by
  induction h with
  | leaf s lo h hd =>
    show lvs T s + (if (T s).leaf then 1 else 0) = _
    rw [h]; rfl
  | node s lo n h2 hl hh h hd ihl ihh =>
    have ph := hh.pos
    have pl := hl.pos
    have e1 : s + (2 * n - 1) = s + (2 * n - 2) + 1 := by omega
    have e2 : s + (2 * (n / 2) - 1) + (2 * (n - n / 2) - 1) = s + (2 * n - 2) := by omega
    rw [e2] at ihh
    rw [e1]
    show lvs T (s + (2 * n - 2)) + (if (T (s + (2 * n - 2))).leaf then 1 else 0) = _
    rw [h, ihh, ihl]
    show _ + 0 = _
    omega

/-- Do the n numbers rise? -/
def risB (g : Nat → Nat) (n : Nat) : Bool := (List.range (n - 1)).all fun i => decide (g i < g (i + 1))
theorem risB_iff (g : Nat → Nat) (n : Nat) : risB g n = true ↔ Ris g n := by
  unfold risB Ris
  rw [List.all_eq_true]
  constructor
  · intro h i hi
    exact of_decide_eq_true (h i (List.mem_range.2 (by omega)))
  · intro h i hi
    exact decide_eq_true (h i (by have := List.mem_range.1 hi; omega))
theorem risB_no {g : Nat → Nat} {n i : Nat} (hi : i + 1 < n) (h : g (i + 1) ≤ g i) : risB g n = false := by
  cases e : risB g n
  · rfl
  · have := (risB_iff g n).1 e i hi
    omega
theorem risB_yes {g : Nat → Nat} {n : Nat} (h : ∀ i, i + 1 < n → g i < g (i + 1)) : risB g n = true := (risB_iff g n).2 h

/-- The whole tree of n numbers, or of none. -/
structure IsTree (g : Nat → Nat) (n : Nat) (T : Nat → Nd) (D : Nat → Nat) (N : Nat) : Prop where
  none_ : n = 0 → N = 1 ∧ T 0 = ⟨true, 0, -1, 0, 0⟩ ∧ D 0 = 0
  some_ : 1 ≤ n → N = 2 * n - 1 ∧ Sub T D g 0 0 n
theorem IsTree.pos {g : Nat → Nat} {n : Nat} {T : Nat → Nd} {D : Nat → Nat} {N : Nat} (h : IsTree g n T D N) : 1 ≤ N := by
  by_cases e : n = 0
  · have := (h.none_ e).1; omega
  · have := (h.some_ (by omega)).1; omega
theorem IsTree.size {g : Nat → Nat} {n : Nat} {T : Nat → Nd} {D : Nat → Nat} {N : Nat} (h : IsTree g n T D N) : N = if n = 0 then 1 else 2 * n - 1 := by
  by_cases e : n = 0
  · rw [if_pos e]; exact (h.none_ e).1
  · rw [if_neg e]; exact (h.some_ (by omega)).1
theorem IsTree.finds {g : Nat → Nat} {n : Nat} {T : Nat → Nd} {D : Nat → Nat} {N : Nat} (h : IsTree g n T D N) (hr : Ris g n) (x : Nat) : ∃ r, FindsAt T x (N - 1) r ∧ IsPlace g 0 n x r := by
  by_cases e : n = 0
  · obtain ⟨e1, e2, _⟩ := h.none_ e
    subst e1 e
    have hf := FindsAt.leaf (x := x) (T := T) 0 (by rw [e2])
    refine ⟨_, hf, .inr ⟨fun i h1 h2 => by omega, ?_⟩⟩
    rw [e2]
    show (if x = 0 then (-1 : Int) else -1) = -1
    split <;> rfl
  · obtain ⟨e1, e2⟩ := h.some_ (by omega)
    obtain ⟨r, f1, f2⟩ := e2.finds n hr x (by omega)
    refine ⟨r, ?_, f2⟩
    rw [show N - 1 = 0 + (2 * n - 2) from by omega]
    exact f1
theorem IsTree.deep {g : Nat → Nat} {n : Nat} {T : Nat → Nd} {D : Nat → Nat} {N : Nat} (h : IsTree g n T D N) (k : Nat) (hk : n ≤ 2 ^ k) : D (N - 1) ≤ k := by
  by_cases e : n = 0
  · obtain ⟨e1, _, e2⟩ := h.none_ e
    subst e1; show D 0 ≤ k; omega
  · obtain ⟨e1, e2⟩ := h.some_ (by omega)
    have := e2.deep k hk
    rw [show N - 1 = 0 + (2 * n - 2) from by omega]
    exact this
/-- What a node of it is. -/
theorem IsTree.nodes {g : Nat → Nat} {n : Nat} {T : Nat → Nd} {D : Nat → Nat} {N : Nat} (h : IsTree g n T D N) (i : Nat) (hi : i < N) :
    NdOk T D g 0 n i ∨ (n = 0 ∧ N = 1 ∧ i = 0 ∧ T i = ⟨true, 0, -1, 0, 0⟩ ∧ D i = 0) := by
  by_cases e : n = 0
  · obtain ⟨e1, e2, e3⟩ := h.none_ e
    obtain rfl : i = 0 := by omega
    exact .inr ⟨e, e1, rfl, e2, e3⟩
  · obtain ⟨e1, e2⟩ := h.some_ (by omega)
    exact .inl (e2.ok i (by omega) (by omega))
/-- The tree of three. -/
theorem IsTree.three {g : Nat → Nat} {T : Nat → Nd} {D : Nat → Nat} {N : Nat} (h : IsTree g 3 T D N) : D (N - 1) = 2 := by
  obtain ⟨e1, e2⟩ := h.some_ (by omega)
  subst e1
  cases e2 with
  | node _ _ _ _ hl hh ht hd =>
    have h0 : D 0 = 0 := by
      cases hl with
      | leaf _ _ _ hd => exact hd
      | node _ _ _ h2 => omega
    have h3 : D 3 = 1 := by
      cases hh with
      | node _ _ _ h2 hl' hh' _ hd' =>
        have h1 : D 1 = 0 := by
          cases hl' with
          | leaf _ _ _ hd => exact hd
          | node _ _ _ h2 => omega
        have h2 : D 2 = 0 := by
          cases hh' with
          | leaf _ _ _ hd => exact hd
          | node _ _ _ h2 => omega
        have : D 3 = 1 + max (D 1) (D 2) := hd'
        omega
    have : D 4 = 1 + max (D 0) (D 3) := hd
    show D 4 = 2
    omega
end Go.Proofs.Ytkbfmnpilbhfaaa
