/-
  Layer 16, pure: conditions in order, each once; a rule's normal form; rules by their names; a policy's normal form.
-/
import Derived.Test.YtcmdmnnkbliggaaGreatDoorMo
import Derived.Test.YtcmdmnnkbliggaaGreatDoorMr
import Derived.Sort.KeysCollected
namespace Go.Proofs.YtcmdmnnkbliggaaGreatDoor
open Go.RowKit
set_option linter.unusedVariables false

instance : DecidableEq CD := fun a b => decidable_of_iff (a.a = b.a ∧ a.o = b.o ∧ a.m = b.m ∧ a.v = b.v) (by cases a; cases b; simp)
/-- Which of two conditions stands ahead. -/
def ltD (x y : CD) : Prop := x.a < y.a ∨ (x.a = y.a ∧ (x.o < y.o ∨ (x.o = y.o ∧ (x.m < y.m ∨ (x.m = y.m ∧ x.v < y.v)))))
instance (x y : CD) : Decidable (ltD x y) := by unfold ltD; infer_instance
theorem ltD_irr (x : CD) : ¬ ltD x x := by unfold ltD; omega
theorem ltD_trans {x y z : CD} (h1 : ltD x y) (h2 : ltD y z) : ltD x z := by unfold ltD at *; omega
theorem ltD_asym (x y : CD) (h : ltD x y) : ¬ ltD y x := fun h2 => ltD_irr x (ltD_trans h h2)
theorem ltD_total {x y : CD} (hne : ¬ x = y) (h : ¬ ltD x y) : ltD y x := by
  obtain ⟨a, b, c, d⟩ := x
  obtain ⟨a', b', c', d'⟩ := y
  unfold ltD at *
  simp only [CD.mk.injEq] at hne
  simp only at h ⊢
  omega
theorem pw_uniq {α : Type} {R : α → α → Prop} (irr : ∀ a, ¬ R a a) (asym : ∀ a b, R a b → ¬ R b a) : ∀ l l' : List α, l.Pairwise R → l'.Pairwise R → (∀ a, a ∈ l ↔ a ∈ l') → l = l'
  | [], [], _, _, _ => rfl
  | [], b :: t, _, _, h => absurd ((h b).2 (List.mem_cons_self ..)) (by simp)
  | a :: t, [], _, _, h => absurd ((h a).1 (List.mem_cons_self ..)) (by simp)
  | a :: t, b :: s, h1, h2, h => by
    rw [List.pairwise_cons] at h1 h2
    have hab : a = b := by
      rcases List.mem_cons.1 ((h a).1 (List.mem_cons_self ..)) with e | e
      · exact e
      · rcases List.mem_cons.1 ((h b).2 (List.mem_cons_self ..)) with e' | e'
        · exact e'.symm
        · exact absurd (h1.1 b e') (asym _ _ (h2.1 a e))
    subst hab
    refine congrArg (a :: ·) (pw_uniq irr asym t s h1.2 h2.2 fun x => ?_)
    constructor
    · intro hx
      rcases List.mem_cons.1 ((h x).1 (List.mem_cons_of_mem _ hx)) with e | e
      · subst e; exact absurd (h1.1 x hx) (irr x)
      · exact e
    · intro hx
      rcases List.mem_cons.1 ((h x).2 (List.mem_cons_of_mem _ hx)) with e | e
      · subst e; exact absurd (h2.1 x hx) (irr x)
      · exact e
/-- A condition in its place among others, once. -/
def insD (c : CD) : List CD → List CD
  | [] => [c]
  | d :: t => if c = d then d :: t else if ltD c d then c :: d :: t else d :: insD c t
theorem mem_insD (c x : CD) : ∀ l : List CD, x ∈ insD c l ↔ x = c ∨ x ∈ l
  | [] => by simp [insD]
  | d :: t => by
    unfold insD
    split
    · rename_i h; subst h; simp
    · split
      · simp
      · rw [List.mem_cons, mem_insD c x t, List.mem_cons]
        constructor
        · rintro (h | h | h)
          · exact .inr (.inl h)
          · exact .inl h
          · exact .inr (.inr h)
        · rintro (h | h | h)
          · exact .inr (.inl h)
          · exact .inl h
          · exact .inr (.inr h)
theorem pw_insD (c : CD) : ∀ l : List CD, l.Pairwise ltD → (insD c l).Pairwise ltD
  | [], _ => by simp [insD]
  | d :: t, h => by
    unfold insD
    have h' := List.pairwise_cons.1 h
    split
    · exact h
    · rename_i hne
      split
      · rename_i hlt
        refine List.pairwise_cons.2 ⟨fun x hx => ?_, h⟩
        rcases List.mem_cons.1 hx with e | e
        · subst e; exact hlt
        · exact ltD_trans hlt (h'.1 x e)
      · rename_i hlt
        refine List.pairwise_cons.2 ⟨fun x hx => ?_, pw_insD c t h'.2⟩
        rcases (mem_insD c x t).1 hx with e | e
        · subst e; exact ltD_total hne hlt
        · exact h'.1 x e
/-- Conditions in order, each once. -/
def srt (l : List CD) : List CD := l.foldr insD []
theorem mem_srt (x : CD) : ∀ l : List CD, x ∈ srt l ↔ x ∈ l
  | [] => by simp [srt]
  | d :: t => by
    show x ∈ insD d (srt t) ↔ _
    rw [mem_insD, mem_srt x t, List.mem_cons]
theorem pw_srt : ∀ l : List CD, (srt l).Pairwise ltD
  | [] => by simp [srt]
  | d :: t => pw_insD d _ (pw_srt t)
theorem srt_uniq {l m : List CD} (hp : m.Pairwise ltD) (hm : ∀ x, x ∈ m ↔ x ∈ l) : m = srt l :=
  pw_uniq ltD_irr ltD_asym _ _ hp (pw_srt l) fun x => by rw [hm, mem_srt]
theorem srt_of_mem {l m : List CD} (hm : ∀ x, x ∈ m ↔ x ∈ l) : srt m = srt l := srt_uniq (pw_srt m) fun x => by rw [mem_srt, hm]
theorem srt_len : ∀ l : List CD, (srt l).length ≤ l.length
  | [] => by simp [srt]
  | d :: t => by
    have h := srt_len t
    have hi : ∀ l : List CD, (insD d l).length ≤ l.length + 1 := fun l => by
      induction l with
      | nil => simp [insD]
      | cons e s ih => unfold insD; split; simp; split; simp; simp; exact ih
    have := hi (srt t)
    show (insD d (srt t)).length ≤ _
    simp
    omega
/-- What a right condition becomes, and whether it asks (0), always (1) or never (2) holds. -/
def bel (c : CD) : CD × Int := if c.v = 0 then (⟨0, 0, 0, 0⟩, 2) else if c.v = 1 then (⟨c.a, 1, 0, 0⟩, 0) else (c, 0)
def atl (c : CD) : CD × Int := if c.v = 0 then (⟨0, 0, 0, 0⟩, 1) else if c.v = 18446744073709551615 then (⟨c.a, 1, 0, 18446744073709551615⟩, 0) else (c, 0)
def nC (c : CD) : CD × Int :=
  if c.o = 3 then bel c
  else if c.o = 4 then (if c.v = 18446744073709551615 then (⟨0, 0, 0, 0⟩, 1) else bel ⟨c.a, 3, 0, c.v + 1⟩)
  else if c.o = 5 then (if c.v = 18446744073709551615 then (⟨0, 0, 0, 0⟩, 2) else atl ⟨c.a, 6, 0, c.v + 1⟩)
  else if c.o = 6 then atl c
  else if c.o = 7 then (if c.v &&& (18446744073709551615 - c.m) ≠ 0 then (⟨0, 0, 0, 0⟩, 2) else if c.m = 0 then (⟨0, 0, 0, 0⟩, 1) else if c.m = 18446744073709551615 then (⟨c.a, 1, 0, c.v⟩, 0) else (c, 0))
  else (c, 0)
def cArr (c : CD) : Array Value := condA c.a c.o c.m c.v
/-- May a condition be? -/
def RiC (c : CD) : Prop := 0 ≤ c.a ∧ c.a < 6 ∧ 1 ≤ c.o ∧ c.o ≤ 7 ∧ (c.o = 7 ∨ c.m = 0)
theorem RiC.right {c : CD} (h : RiC c) : ∃ j, RightO c.a c.o c.m j := by
  obtain ⟨h1, h2, h3, h4, h5⟩ := h
  refine ⟨(c.o - 1).toNat, h1, h2, by omega, by omega, ?_⟩
  rcases h5 with h5 | h5
  · rw [h5]; rfl
  · simp [h5]
theorem isO_ric (a o : Int) (m j : Nat) (hj : j < 7) (h : isO o m j = true) : 1 ≤ o ∧ o ≤ 7 ∧ (o = 7 ∨ m = 0) := by
  unfold isO at h
  simp only [Bool.and_eq_true, beq_iff_eq, Bool.or_eq_true] at h
  obtain ⟨h1, h2⟩ := h
  refine ⟨by omega, by omega, ?_⟩
  rcases h2 with h2 | h2
  · left
    have : j = 6 := by
      match j, hj with
      | 0, _ => exact absurd h2 (by decide)
      | 1, _ => exact absurd h2 (by decide)
      | 2, _ => exact absurd h2 (by decide)
      | 3, _ => exact absurd h2 (by decide)
      | 4, _ => exact absurd h2 (by decide)
      | 5, _ => exact absurd h2 (by decide)
      | 6, _ => rfl
    omega
  · exact .inr h2
theorem ric_not {c : CD} (h : ¬ RiC c) : c.a < 0 ∨ 6 ≤ c.a ∨ ∀ j, j < 7 → isO c.o c.m j = false := by
  by_cases h0 : c.a < 0
  · exact .inl h0
  by_cases h6 : 6 ≤ c.a
  · exact .inr (.inl h6)
  refine .inr (.inr fun j hj => ?_)
  rcases hb : isO c.o c.m j with _ | _
  · rfl
  · exact absurd ⟨by omega, by omega, (isO_ric c.a c.o c.m j hj hb).1, (isO_ric c.a c.o c.m j hj hb).2.1, (isO_ric c.a c.o c.m j hj hb).2.2⟩ h
theorem nF_nC (c : CD) (j : Nat) (hr : RightO c.a c.o c.m j) : nF j c.a c.m c.v = (cArr (nC c).1, (nC c).2) := by
  obtain ⟨a, o, m, v⟩ := c
  obtain ⟨h1, h2, h3, h4, h5⟩ := hr
  simp only at h1 h2 h4 h5
  subst h4
  match j, h3 with
  | 0, _ => rfl
  | 1, _ => rfl
  | 2, _ =>
    show belF a 3 m v = _
    unfold nC belF bel cArr
    simp only [show ((2 : Nat) : Int) + 1 = 3 from rfl, if_true]
    split <;> (try split) <;> rfl
  | 3, _ =>
    show atmF a v = _
    unfold nC atmF belF bel cArr
    simp only [show ((3 : Nat) : Int) + 1 = 4 from rfl, if_true, show ¬ ((4 : Int) = 3) by decide, if_false]
    split <;> (try split) <;> (try split) <;> rfl
  | 4, _ =>
    show aboF a v = _
    unfold nC aboF atlF atl cArr
    simp only [show ((4 : Nat) : Int) + 1 = 5 from rfl, if_true, show ¬ ((5 : Int) = 3) by decide, show ¬ ((5 : Int) = 4) by decide, if_false]
    split <;> (try split) <;> (try split) <;> rfl
  | 5, _ =>
    show atlF a 6 m v = _
    unfold nC atlF atl cArr
    simp only [show ((5 : Nat) : Int) + 1 = 6 from rfl, if_true, show ¬ ((6 : Int) = 3) by decide, show ¬ ((6 : Int) = 4) by decide, show ¬ ((6 : Int) = 5) by decide, if_false]
    split <;> (try split) <;> rfl
  | 6, _ =>
    show mskF a 7 m v = _
    unfold nC mskF cArr
    simp only [show ((6 : Nat) : Int) + 1 = 7 from rfl, if_true, show ¬ ((7 : Int) = 3) by decide, show ¬ ((7 : Int) = 4) by decide, show ¬ ((7 : Int) = 5) by decide, show ¬ ((7 : Int) = 6) by decide, if_false]
    split <;> (try split) <;> (try split) <;> rfl
theorem nC_st (c : CD) : (nC c).2 = 0 ∨ (nC c).2 = 1 ∨ (nC c).2 = 2 := by
  unfold nC bel atl
  repeat' split
  all_goals simp
/-- What is left of conditions that ask; none: one never holds. -/
def askL : List CD → Option (List CD)
  | [] => some []
  | c :: t => if (nC c).2 = 2 then none else (askL t).map fun l => if (nC c).2 = 0 then (nC c).1 :: l else l
/-- A rule. -/
structure RV where
  nm : ByteArray
  k : Int
  u : Int
  L : List CD
/-- A rule's normal form. -/
def nR (r : RV) : Option RV := (askL r.L).map fun l => { r with L := srt l }
theorem nR_nm {r s : RV} (h : nR r = some s) : s.nm = r.nm := by
  unfold nR at h
  rcases hl : askL r.L with _ | l
  · rw [hl] at h; cases h
  · rw [hl] at h; cases h; rfl
def RL.val (r : RL) : RV := ⟨r.nm, r.k, r.u, (List.range r.n).map r.C⟩
end Go.Proofs.YtcmdmnnkbliggaaGreatDoor

/-
  Layer 16, pure: rules by their names; a policy's normal form; what does not change it.
-/
namespace Go.Proofs.YtcmdmnnkbliggaaGreatDoor
open Go.RowKit
set_option linter.unusedVariables false

/-- A rule's name as a key. -/
def RV.key (r : RV) : List UInt8 := r.nm.data.toList
/-- A name's rules. -/
def grp (l : List RV) (s : List UInt8) : List RV := (l.filterMap nR).filter fun r => r.key == s
def hides (r e : RV) : Bool := e.L.isEmpty || decide (e.L = r.L)
def unhF (kept : List RV) (r : RV) : List RV := if kept.any (hides r) then kept else kept ++ [r]
/-- Rules without those that are hidden. -/
def unh (l : List RV) : List RV := l.foldl unhF []
def isAct (k u : Int) (r : RV) : Bool := decide (r.k = k) && decide (r.u = u)
/-- Rules without the last ones with an action. -/
def utl (k u : Int) (l : List RV) : List RV := (l.reverse.dropWhile (isAct k u)).reverse
def nub : List (List UInt8) → List (List UInt8)
  | [] => []
  | x :: t => if x ∈ t then nub t else x :: nub t
theorem mem_nub (x : List UInt8) : ∀ l, x ∈ nub l ↔ x ∈ l
  | [] => by simp [nub]
  | y :: t => by
    unfold nub
    split
    · rename_i h
      rw [mem_nub x t, List.mem_cons]
      exact ⟨.inr, fun h' => h'.elim (fun e => e ▸ h) id⟩
    · rw [List.mem_cons, mem_nub x t, List.mem_cons]
theorem nodup_nub : ∀ l, (nub l).Nodup
  | [] => by simp [nub]
  | y :: t => by
    unfold nub
    split
    · exact nodup_nub t
    · rename_i h
      exact List.nodup_cons.2 ⟨fun h' => h ((mem_nub y t).1 h'), nodup_nub t⟩
/-- The names of the rules that are left. -/
def nms (l : List RV) : List (List UInt8) := nub ((l.filterMap nR).map RV.key)
def kys (l : List RV) : List (List UInt8) := (nms l).mergeSort leB
/-- A policy's rules in normal form. -/
def nP (k u : Int) (l : List RV) : List RV := (kys l).flatMap fun s => utl k u (unh (grp l s))
theorem mem_nms (l : List RV) (s : List UInt8) : s ∈ nms l ↔ grp l s ≠ [] := by
  unfold nms grp
  rw [mem_nub, List.mem_map, Ne, List.filter_eq_nil_iff]
  constructor
  · rintro ⟨r, hr, rfl⟩ h
    exact h r hr (by simp)
  · intro h
    refine Classical.byContradiction fun hc => h fun r hr he => hc ⟨r, hr, by simpa using he⟩
theorem kys_perm {l : List RV} {ss : List (List UInt8)} (hn : ss.Nodup) (hm : ∀ s, s ∈ ss ↔ grp l s ≠ []) : ss.mergeSort leB = kys l :=
  mergeSort_of_perm ((List.perm_ext_iff_of_nodup hn (nodup_nub _)).2 fun s => by rw [hm]; exact (mem_nms l s).symm)
theorem nP_congr {k u : Int} {l l' : List RV} (h : ∀ s, grp l s = grp l' s) : nP k u l = nP k u l' := by
  have hk : kys l = kys l' := kys_perm (nodup_nub _) fun s => by rw [← h s]; exact mem_nms l s
  unfold nP
  rw [hk]
  exact congrArg (fun f => (kys l').flatMap f) (funext fun s => by rw [h s])
theorem unh_snoc (l : List RV) (r : RV) : unh (l ++ [r]) = unhF (unh l) r := by unfold unh; rw [List.foldl_append]; rfl
theorem utl_snoc (k u : Int) (l : List RV) (r : RV) : utl k u (l ++ [r]) = if isAct k u r then utl k u l else l ++ [r] := by
  unfold utl
  rw [List.reverse_append]
  show (List.dropWhile _ (r :: l.reverse)).reverse = _
  rw [List.dropWhile_cons]
  split <;> simp
theorem leB_tr (a b c : List UInt8) (h1 : leB a b = true) (h2 : leB b c = true) : leB a c = true := by simp only [leB, decide_eq_true_eq] at *; exact List.le_trans h1 h2
theorem leB_to (a b : List UInt8) : (leB a b || leB b a) = true := by simp only [leB, Bool.or_eq_true, decide_eq_true_eq]; exact List.le_total a b
theorem flatMap_ext {α β : Type} (f g : α → List β) : ∀ l : List α, (∀ x ∈ l, f x = g x) → l.flatMap f = l.flatMap g
  | [], _ => rfl
  | x :: t, h => by rw [List.flatMap_cons, List.flatMap_cons, h x (List.mem_cons_self ..), flatMap_ext f g t fun y hy => h y (List.mem_cons_of_mem _ hy)]
theorem flatMap_filter {α β : Type} (f : α → List β) (p : α → Bool) : ∀ l : List α, (∀ x ∈ l, p x = false → f x = []) → (l.filter p).flatMap f = l.flatMap f
  | [], _ => rfl
  | x :: t, h => by
    have ih := flatMap_filter f p t fun y hy => h y (List.mem_cons_of_mem _ hy)
    rcases hp : p x with _ | _
    · rw [List.filter_cons_of_neg (by simp [hp]), ih, List.flatMap_cons, h x (List.mem_cons_self ..) hp, List.nil_append]
    · rw [List.filter_cons_of_pos hp, List.flatMap_cons, List.flatMap_cons, ih]
/-- Names that bear nothing do not count. -/
theorem nP_keys {k u : Int} {l : List RV} {ss : List (List UInt8)} (hn : ss.Nodup) (h1 : ∀ s, grp l s ≠ [] → s ∈ ss) (h2 : ∀ s ∈ ss, grp l s = [] → True) (f : List UInt8 → List RV) (hf : ∀ s ∈ ss, f s = utl k u (unh (grp l s))) :
    (ss.mergeSort leB).flatMap f = nP k u l := by
  have hp : ((ss.mergeSort leB).filter fun s => !(grp l s).isEmpty) = kys l := by
    have hnd : ((ss.mergeSort leB).filter fun s => !(grp l s).isEmpty).Nodup := ((List.mergeSort_perm ss leB).nodup_iff.2 hn).filter _
    have hm : ∀ s, s ∈ ((ss.mergeSort leB).filter fun s => !(grp l s).isEmpty) ↔ grp l s ≠ [] := fun s => by
      rw [List.mem_filter, List.mem_mergeSort]
      constructor
      · rintro ⟨_, h⟩ he
        rw [he] at h; cases h
      · intro h
        refine ⟨h1 s h, ?_⟩
        cases hg : grp l s with
        | nil => exact absurd hg h
        | cons => rfl
    rw [← kys_perm hnd hm]
    exact (List.mergeSort_of_pairwise ((List.pairwise_mergeSort leB_tr leB_to ss).filter _)).symm
  unfold nP
  rw [← hp, flatMap_filter]
  · exact flatMap_ext f _ _ fun s hs => hf s (List.mem_mergeSort.1 hs)
  · intro s _ hs
    have : grp l s = [] := by
      cases hg : grp l s with
      | nil => rfl
      | cons a b => rw [hg] at hs; cases hs
    rw [this]; rfl
theorem grp_append (l m : List RV) (s : List UInt8) : grp (l ++ m) s = grp l s ++ grp m s := by unfold grp; rw [List.filterMap_append, List.filter_append]
/-- A rule more behind all, with the default's action and without conditions. -/
theorem nP_drops (k u : Int) (l : List RV) (nm : ByteArray) : nP k u (l ++ [⟨nm, k, u, []⟩]) = nP k u l := by
  have hg : ∀ s, grp [⟨nm, k, u, []⟩] s = if nm.data.toList = s then [⟨nm, k, u, []⟩] else [] := fun s => by
    have hr : nR ⟨nm, k, u, []⟩ = some ⟨nm, k, u, []⟩ := rfl
    unfold grp
    rw [List.filterMap_cons, hr, List.filterMap_nil, List.filter_cons]
    by_cases h : nm.data.toList = s
    · have : (RV.key ⟨nm, k, u, []⟩ == s) = true := by unfold RV.key; simpa using h
      rw [if_pos h]
      simp only [this, if_true, List.filter_nil]
    · have : (RV.key ⟨nm, k, u, []⟩ == s) = false := by unfold RV.key; simpa using h
      rw [if_neg h]
      simp only [this, List.filter_nil]
      rfl
  have hact : isAct k u ⟨nm, k, u, []⟩ = true := by simp [isAct]
  refine nP_keys (k := k) (u := u) (l := l) (nodup_nub _) (fun s h => ?_) (fun _ _ _ => trivial) _ fun s _ => ?_
  · refine (mem_nms _ s).2 fun he => h ?_
    rw [grp_append] at he
    exact (List.append_eq_nil_iff.1 he).1
  · rw [grp_append, hg]
    split
    · rw [unh_snoc]
      unfold unhF
      split
      · rfl
      · rw [utl_snoc, if_pos hact]
    · rw [List.append_nil]
/-- Rules of one name first, conditions turned. -/
def revR (r : RV) : RV := { r with L := r.L.reverse }
theorem askL_cons (c : CD) (t : List CD) : askL (c :: t) = if (nC c).2 = 2 then none else (askL t).map fun l => if (nC c).2 = 0 then (nC c).1 :: l else l := rfl
theorem askL_append : ∀ l m : List CD, askL (l ++ m) = (askL l).bind fun x => (askL m).map fun y => x ++ y
  | [], m => by
    show askL m = (some []).bind _
    cases askL m <;> rfl
  | c :: t, m => by
    rw [List.cons_append, askL_cons, askL_cons, askL_append t m]
    by_cases h2 : (nC c).2 = 2
    · rw [if_pos h2, if_pos h2]; rfl
    · rw [if_neg h2, if_neg h2]
      by_cases h0 : (nC c).2 = 0
      · cases askL t <;> cases askL m <;> simp [h0]
      · cases askL t <;> cases askL m <;> simp [h0]
theorem askL_rev : ∀ l : List CD, askL l.reverse = (askL l).map List.reverse
  | [] => rfl
  | c :: t => by
    rw [List.reverse_cons, askL_append, askL_rev t, askL_cons, askL_cons]
    by_cases h2 : (nC c).2 = 2
    · rw [if_pos h2, if_pos h2]
      cases askL t <;> simp
    · rw [if_neg h2, if_neg h2]
      by_cases h0 : (nC c).2 = 0
      · cases askL t <;> simp [h0, askL]
      · cases askL t <;> simp [h0, askL]
theorem nR_rev (r : RV) : nR (revR r) = nR r := by
  unfold nR revR
  simp only
  rw [askL_rev]
  cases askL r.L with
  | none => rfl
  | some l =>
    simp only [Option.map_some]
    rw [srt_of_mem (l := l) (m := l.reverse) (by simp)]
theorem fm_rev (l : List RV) : (l.map revR).filterMap nR = l.filterMap nR := by
  rw [List.filterMap_map]
  exact congrArg (fun f => l.filterMap f) (funext nR_rev)
theorem grp_part (l : List RV) (p : RV → Bool) (front : List UInt8) (hp : ∀ r ∈ l, p r = (r.key == front)) (s : List UInt8) : grp (l.filter p) s = if s = front then grp l s else [] := by
  unfold grp
  induction l with
  | nil => simp
  | cons r t ih =>
    have ih' := ih fun x hx => hp x (List.mem_cons_of_mem _ hx)
    have hr := hp r (List.mem_cons_self ..)
    rcases hb : p r with _ | _
    · rw [List.filter_cons_of_neg (by simp [hb]), ih']
      split
      · rename_i hs
        rw [List.filterMap_cons]
        rcases hn : nR r with _ | x
        · rfl
        · have hx : (x.key == s) = false := by
            have := nR_nm hn
            unfold RV.key at hr ⊢
            rw [this, hs, ← hr, hb]
          simp only [List.filter_cons, hx]
          rfl
      · rfl
    · rw [List.filter_cons_of_pos hb, List.filterMap_cons]
      rcases hn : nR r with _ | x
      · rw [List.filterMap_cons, hn]; exact ih'
      · rw [List.filterMap_cons, hn]
        have hx : x.key = front := by
          have := nR_nm hn
          unfold RV.key at hr ⊢
          rw [this]
          rw [hb] at hr
          simpa using hr.symm
        simp only [List.filter_cons]
        rw [ih', hx]
        by_cases hs : s = front
        · rw [if_pos hs, if_pos hs]
        · have : (front == s) = false := by simpa using fun e => hs e.symm
          rw [if_neg hs, if_neg hs, this]
          rfl
theorem grp_rest (l : List RV) (p : RV → Bool) (front : List UInt8) (hp : ∀ r ∈ l, p r = !(r.key == front)) (s : List UInt8) : grp (l.filter p) s = if s = front then [] else grp l s := by
  unfold grp
  induction l with
  | nil => simp
  | cons r t ih =>
    have ih' := ih fun x hx => hp x (List.mem_cons_of_mem _ hx)
    have hr := hp r (List.mem_cons_self ..)
    rcases hb : p r with _ | _
    · rw [List.filter_cons_of_neg (by simp [hb]), ih']
      split
      · rfl
      · rename_i hs
        rw [List.filterMap_cons]
        rcases hn : nR r with _ | x
        · rfl
        · have hx : (x.key == s) = false := by
            have := nR_nm hn
            unfold RV.key at hr ⊢
            rw [hb] at hr
            have hf : r.nm.data.toList = front := by simpa using hr.symm
            rw [this, hf]
            simpa using fun e => hs e.symm
          simp only [List.filter_cons, hx]
          rfl
    · rw [List.filter_cons_of_pos hb, List.filterMap_cons]
      rcases hn : nR r with _ | x
      · rw [List.filterMap_cons, hn]; exact ih'
      · rw [List.filterMap_cons, hn]
        have hx : x.key ≠ front := by
          have := nR_nm hn
          unfold RV.key at hr ⊢
          rw [this]
          rw [hb] at hr
          simpa using hr.symm
        simp only [List.filter_cons]
        rw [ih']
        by_cases hs : s = front
        · have : (x.key == s) = false := by rw [hs]; simpa using hx
          rw [if_pos hs, if_pos hs, this]
          rfl
        · rw [if_neg hs, if_neg hs]
theorem nP_orders (k u : Int) (l : List RV) (front : List UInt8) : nP k u (((l.filter fun r => r.key == front) ++ (l.filter fun r => !(r.key == front))).map revR) = nP k u l := by
  refine nP_congr fun s => ?_
  have e : ∀ m : List RV, grp (m.map revR) s = grp m s := fun m => by unfold grp; rw [fm_rev]
  rw [e, grp_append, grp_part l _ front (fun _ _ => rfl), grp_rest l _ front (fun _ _ => rfl)]
  by_cases hs : s = front
  · rw [if_pos hs, if_pos hs, List.append_nil]
  · rw [if_neg hs, if_neg hs, List.nil_append]
end Go.Proofs.YtcmdmnnkbliggaaGreatDoor
