/-
  Layer 16, pure: conditions in order, each once; a rule's normal form; rules by their names; a policy's normal form.
-/
import Derived.Test.YtccklmleaffgiaaGreatDoorP4
import Derived.Test.YtccklmleaffgiaaGreatDoorP2
import Derived.Shelf.Abstract
import Derived.RegionTactic
import Derived.Deep.RegionWith
import Derived.Deep.RegionHeld3
import Derived.Sort.KeysCollected
namespace Go.Proofs.YtccklmleaffgiaaGreatDoor
open Go.RowKit
set_option linter.unusedVariables false

instance : DecidableEq CD := fun a b => decidable_of_iff (a.a = b.a ∧ a.o = b.o ∧ a.m = b.m ∧ a.v = b.v) (by cases a; cases b; simp)
/-- Which of two conditions stands ahead. -/
def ltD (x y : CD) : Prop := x.a < y.a ∨ (x.a = y.a ∧ (x.o < y.o ∨ (x.o = y.o ∧ (x.m < y.m ∨ (x.m = y.m ∧ x.v < y.v)))))
instance (x y : CD) : Decidable (ltD x y) := by unfold ltD; infer_instance
theorem ltD_irr (x : CD) : ¬ ltD x x := by unfold ltD; omega
theorem ltD_trans {x y z : CD} (h1 : ltD x y) (h2 : ltD y z) : ltD x z := by unfold ltD at *; omega
theorem ltD_asym (x y : CD) (h : ltD x y) : ¬ ltD y x := fun h2 => ltD_irr x (ltD_trans h h2)
theorem ltD_total {x y : CD} (hne : ¬ x = y) (h : ¬ ltD x y) : ltD y x := by
  obtain ⟨a, b, c, d⟩ := x
  obtain ⟨a', b', c', d'⟩ := y
  unfold ltD at *
  simp only [CD.mk.injEq] at hne
  simp only at h ⊢
  omega
theorem pw_uniq {α : Type} {R : α → α → Prop} (irr : ∀ a, ¬ R a a) (asym : ∀ a b, R a b → ¬ R b a) : ∀ l l' : List α, l.Pairwise R → l'.Pairwise R → (∀ a, a ∈ l ↔ a ∈ l') → l = l'
  | [], [], _, _, _ => rfl
  | [], b :: t, _, _, h => absurd ((h b).2 (List.mem_cons_self ..)) (by simp)
  | a :: t, [], _, _, h => absurd ((h a).1 (List.mem_cons_self ..)) (by simp)
  | a :: t, b :: s, h1, h2, h => by
    rw [List.pairwise_cons] at h1 h2
    have hab : a = b := by
      rcases List.mem_cons.1 ((h a).1 (List.mem_cons_self ..)) with e | e
      · exact e
      · rcases List.mem_cons.1 ((h b).2 (List.mem_cons_self ..)) with e' | e'
        · exact e'.symm
        · exact absurd (h1.1 b e') (asym _ _ (h2.1 a e))
    subst hab
    refine congrArg (a :: ·) (pw_uniq irr asym t s h1.2 h2.2 fun x => ?_)
    constructor
    · intro hx
      rcases List.mem_cons.1 ((h x).1 (List.mem_cons_of_mem _ hx)) with e | e
      · subst e; exact absurd (h1.1 x hx) (irr x)
      · exact e
    · intro hx
      rcases List.mem_cons.1 ((h x).2 (List.mem_cons_of_mem _ hx)) with e | e
      · subst e; exact absurd (h2.1 x hx) (irr x)
      · exact e
/-- A condition in its place among others, once. -/
def insD (c : CD) : List CD → List CD
  | [] => [c]
  | d :: t => if c = d then d :: t else if ltD c d then c :: d :: t else d :: insD c t
theorem mem_insD (c x : CD) : ∀ l : List CD, x ∈ insD c l ↔ x = c ∨ x ∈ l
  | [] => by simp [insD]
  | d :: t => by
    unfold insD
    split
    · rename_i h; subst h; simp
    · split
      · simp
      · rw [List.mem_cons, mem_insD c x t, List.mem_cons]
        constructor
        · rintro (h | h | h)
          · exact .inr (.inl h)
          · exact .inl h
          · exact .inr (.inr h)
        · rintro (h | h | h)
          · exact .inr (.inl h)
          · exact .inl h
          · exact .inr (.inr h)
theorem pw_insD (c : CD) : ∀ l : List CD, l.Pairwise ltD → (insD c l).Pairwise ltD
  | [], _ => by simp [insD]
  | d :: t, h => by
    unfold insD
    have h' := List.pairwise_cons.1 h
    split
    · exact h
    · rename_i hne
      split
      · rename_i hlt
        refine List.pairwise_cons.2 ⟨fun x hx => ?_, h⟩
        rcases List.mem_cons.1 hx with e | e
        · subst e; exact hlt
        · exact ltD_trans hlt (h'.1 x e)
      · rename_i hlt
        refine List.pairwise_cons.2 ⟨fun x hx => ?_, pw_insD c t h'.2⟩
        rcases (mem_insD c x t).1 hx with e | e
        · subst e; exact ltD_total hne hlt
        · exact h'.1 x e
/-- Conditions in order, each once. -/
def srt (l : List CD) : List CD := l.foldr insD []
theorem mem_srt (x : CD) : ∀ l : List CD, x ∈ srt l ↔ x ∈ l
  | [] => by simp [srt]
  | d :: t => by
    show x ∈ insD d (srt t) ↔ _
    rw [mem_insD, mem_srt x t, List.mem_cons]
theorem pw_srt : ∀ l : List CD, (srt l).Pairwise ltD
  | [] => by simp [srt]
  | d :: t => pw_insD d _ (pw_srt t)
theorem srt_uniq {l m : List CD} (hp : m.Pairwise ltD) (hm : ∀ x, x ∈ m ↔ x ∈ l) : m = srt l :=
  pw_uniq ltD_irr ltD_asym _ _ hp (pw_srt l) fun x => by rw [hm, mem_srt]
theorem srt_of_mem {l m : List CD} (hm : ∀ x, x ∈ m ↔ x ∈ l) : srt m = srt l := srt_uniq (pw_srt m) fun x => by rw [mem_srt, hm]
theorem srt_len : ∀ l : List CD, (srt l).length ≤ l.length
  | [] => by simp [srt]
  | d :: t => by
    have h := srt_len t
    have hi : ∀ l : List CD, (insD d l).length ≤ l.length + 1 := fun l => by
      induction l with
      | nil => simp [insD]
      | cons e s ih => unfold insD; split; simp; split; simp; simp; exact ih
    have := hi (srt t)
    show (insD d (srt t)).length ≤ _
    simp
    omega
/-- What a right condition becomes, and whether it asks (0), always (1) or never (2) holds. -/
def bel (c : CD) : CD × Int := if c.v = 0 then (⟨0, 0, 0, 0⟩, 2) else if c.v = 1 then (⟨c.a, 1, 0, 0⟩, 0) else (c, 0)
def atl (c : CD) : CD × Int := if c.v = 0 then (⟨0, 0, 0, 0⟩, 1) else if c.v = 18446744073709551615 then (⟨c.a, 1, 0, 18446744073709551615⟩, 0) else (c, 0)
def nC (c : CD) : CD × Int :=
  if c.o = 3 then bel c
  else if c.o = 4 then (if c.v = 18446744073709551615 then (⟨0, 0, 0, 0⟩, 1) else bel ⟨c.a, 3, 0, c.v + 1⟩)
  else if c.o = 5 then (if c.v = 18446744073709551615 then (⟨0, 0, 0, 0⟩, 2) else atl ⟨c.a, 6, 0, c.v + 1⟩)
  else if c.o = 6 then atl c
  else if c.o = 7 then (if c.v &&& (18446744073709551615 - c.m) ≠ 0 then (⟨0, 0, 0, 0⟩, 2) else if c.m = 0 then (⟨0, 0, 0, 0⟩, 1) else if c.m = 18446744073709551615 then (⟨c.a, 1, 0, c.v⟩, 0) else (c, 0))
  else (c, 0)
/-- May a condition be? -/
def RiC (c : CD) : Prop := 0 ≤ c.a ∧ c.a < 6 ∧ 1 ≤ c.o ∧ c.o ≤ 7 ∧ (c.o = 7 ∨ c.m = 0)
theorem RiC.right {c : CD} (h : RiC c) : ∃ j, RightO c.a c.o c.m j := by
  obtain ⟨h1, h2, h3, h4, h5⟩ := h
  refine ⟨(c.o - 1).toNat, h1, h2, by omega, by omega, ?_⟩
  rcases h5 with h5 | h5
  · rw [h5]; rfl
  · simp [h5]
theorem isO_ric (a o : Int) (m j : Nat) (hj : j < 7) (h : isO o m j = true) : 1 ≤ o ∧ o ≤ 7 ∧ (o = 7 ∨ m = 0) := by
  unfold isO at h
  simp only [Bool.and_eq_true, beq_iff_eq, Bool.or_eq_true] at h
  obtain ⟨h1, h2⟩ := h
  refine ⟨by omega, by omega, ?_⟩
  rcases h2 with h2 | h2
  · left
    have : j = 6 := by
      match j, hj with
      | 0, _ => exact absurd h2 (by decide)
      | 1, _ => exact absurd h2 (by decide)
      | 2, _ => exact absurd h2 (by decide)
      | 3, _ => exact absurd h2 (by decide)
      | 4, _ => exact absurd h2 (by decide)
      | 5, _ => exact absurd h2 (by decide)
      | 6, _ => rfl
    omega
  · exact .inr h2
theorem ric_not {c : CD} (h : ¬ RiC c) : c.a < 0 ∨ 6 ≤ c.a ∨ ∀ j, j < 7 → isO c.o c.m j = false := by
  by_cases h0 : c.a < 0
  · exact .inl h0
  by_cases h6 : 6 ≤ c.a
  · exact .inr (.inl h6)
  refine .inr (.inr fun j hj => ?_)
  rcases hb : isO c.o c.m j with _ | _
  · rfl
  · exact absurd ⟨by omega, by omega, (isO_ric c.a c.o c.m j hj hb).1, (isO_ric c.a c.o c.m j hj hb).2.1, (isO_ric c.a c.o c.m j hj hb).2.2⟩ h
/-- What is left of conditions that ask; none: one never holds. -/
def askL : List CD → Option (List CD)
  | [] => some []
  | c :: t => if (nC c).2 = 2 then none else (askL t).map fun l => if (nC c).2 = 0 then (nC c).1 :: l else l
/-- A rule. -/
structure RV where
  nm : ByteArray
  k : Int
  u : Int
  L : List CD
/-- A rule's normal form. -/
def nR (r : RV) : Option RV := (askL r.L).map fun l => { r with L := srt l }
def RL.val (r : RL) : RV := ⟨r.nm, r.k, r.u, (List.range r.n).map r.C⟩
end Go.Proofs.YtccklmleaffgiaaGreatDoor

/-
  Layer 16, pure: rules by their names; a policy's normal form; what does not change it.
-/
namespace Go.Proofs.YtccklmleaffgiaaGreatDoor
open Go.RowKit
set_option linter.unusedVariables false

/-- A rule's name as a key. -/
def RV.key (r : RV) : List UInt8 := r.nm.data.toList
/-- A name's rules. -/
def grp (l : List RV) (s : List UInt8) : List RV := (l.filterMap nR).filter fun r => r.key == s
theorem grp_append (l m : List RV) (s : List UInt8) : grp (l ++ m) s = grp l s ++ grp m s := by unfold grp; rw [List.filterMap_append, List.filter_append]
end Go.Proofs.YtccklmleaffgiaaGreatDoor
