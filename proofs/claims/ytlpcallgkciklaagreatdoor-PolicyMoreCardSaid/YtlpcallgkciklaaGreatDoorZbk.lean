/-
  Layer 16, pure: rules by their names; a policy's normal form; what does not change it.
-/
import Derived.Test.YtlpcallgkciklaaGreatDoorZak
import Derived.Sort.KeysCollected
namespace Go.Proofs.YtlpcallgkciklaaGreatDoor
open Go.RowKit
set_option linter.unusedVariables false

/-- A rule's name as a key. -/
def RV.key (r : RV) : List UInt8 := r.nm.data.toList
/-- A name's rules. -/
def grp (l : List RV) (s : List UInt8) : List RV := (l.filterMap nR).filter fun r => r.key == s
def hides (r e : RV) : Bool := e.L.isEmpty || decide (e.L = r.L)
def unhF (kept : List RV) (r : RV) : List RV := if kept.any (hides r) then kept else kept ++ [r]
/-- Rules without those that are hidden. -/
def unh (l : List RV) : List RV := l.foldl unhF []
def isAct (k u : Int) (r : RV) : Bool := decide (r.k = k) && decide (r.u = u)
/-- Rules without the last ones with an action. -/
def utl (k u : Int) (l : List RV) : List RV := (l.reverse.dropWhile (isAct k u)).reverse
def nub : List (List UInt8) → List (List UInt8)
  | [] => []
  | x :: t => if x ∈ t then nub t else x :: nub t
theorem mem_nub (x : List UInt8) : ∀ l, x ∈ nub l ↔ x ∈ l
  | [] => by simp [nub]
  | y :: t => by
    unfold nub
    split
    · rename_i h
      rw [mem_nub x t, List.mem_cons]
      exact ⟨.inr, fun h' => h'.elim (fun e => e ▸ h) id⟩
    · rw [List.mem_cons, mem_nub x t, List.mem_cons]
theorem nodup_nub : ∀ l, (nub l).Nodup
  | [] => by simp [nub]
  | y :: t => by
    unfold nub
    split
    · exact nodup_nub t
    · rename_i h
      exact List.nodup_cons.2 ⟨fun h' => h ((mem_nub y t).1 h'), nodup_nub t⟩
/-- The names of the rules that are left. -/
def nms (l : List RV) : List (List UInt8) := nub ((l.filterMap nR).map RV.key)
def kys (l : List RV) : List (List UInt8) := (nms l).mergeSort leB
/-- A policy's rules in normal form. -/
def nP (k u : Int) (l : List RV) : List RV := (kys l).flatMap fun s => utl k u (unh (grp l s))
theorem mem_nms (l : List RV) (s : List UInt8) : s ∈ nms l ↔ grp l s ≠ [] := by
  unfold nms grp
  rw [mem_nub, List.mem_map, Ne, List.filter_eq_nil_iff]
  constructor
  · rintro ⟨r, hr, rfl⟩ h
    exact h r hr (by simp)
  · intro h
    refine Classical.byContradiction fun hc => h fun r hr he => hc ⟨r, hr, by simpa using he⟩
theorem kys_perm {l : List RV} {ss : List (List UInt8)} (hn : ss.Nodup) (hm : ∀ s, s ∈ ss ↔ grp l s ≠ []) : ss.mergeSort leB = kys l :=
  mergeSort_of_perm ((List.perm_ext_iff_of_nodup hn (nodup_nub _)).2 fun s => by rw [hm]; exact (mem_nms l s).symm)
theorem nP_congr {k u : Int} {l l' : List RV} (h : ∀ s, grp l s = grp l' s) : nP k u l = nP k u l' := by
  have hk : kys l = kys l' := kys_perm (nodup_nub _) fun s => by rw [← h s]; exact mem_nms l s
  unfold nP
  rw [hk]
  exact congrArg (fun f => (kys l').flatMap f) (funext fun s => by rw [h s])
theorem unh_snoc (l : List RV) (r : RV) : unh (l ++ [r]) = unhF (unh l) r := by unfold unh; rw [List.foldl_append]; rfl
theorem utl_snoc (k u : Int) (l : List RV) (r : RV) : utl k u (l ++ [r]) = if isAct k u r then utl k u l else l ++ [r] := by
  unfold utl
  rw [List.reverse_append]
  show (List.dropWhile _ (r :: l.reverse)).reverse = _
  rw [List.dropWhile_cons]
  split <;> simp
theorem leB_tr (a b c : List UInt8) (h1 : leB a b = true) (h2 : leB b c = true) : leB a c = true := by simp only [leB, decide_eq_true_eq] at *; exact List.le_trans h1 h2
theorem leB_to (a b : List UInt8) : (leB a b || leB b a) = true := by simp only [leB, Bool.or_eq_true, decide_eq_true_eq]; exact List.le_total a b
theorem flatMap_ext {α β : Type} (f g : α → List β) : ∀ l : List α, (∀ x ∈ l, f x = g x) → l.flatMap f = l.flatMap g
  | [], _ => rfl
  | x :: t, h => by rw [List.flatMap_cons, List.flatMap_cons, h x (List.mem_cons_self ..), flatMap_ext f g t fun y hy => h y (List.mem_cons_of_mem _ hy)]
theorem flatMap_filter {α β : Type} (f : α → List β) (p : α → Bool) : ∀ l : List α, (∀ x ∈ l, p x = false → f x = []) → (l.filter p).flatMap f = l.flatMap f
  | [], _ => rfl
  | x :: t, h => by
    have ih := flatMap_filter f p t fun y hy => h y (List.mem_cons_of_mem _ hy)
    rcases hp : p x with _ | _
    · rw [List.filter_cons_of_neg (by simp [hp]), ih, List.flatMap_cons, h x (List.mem_cons_self ..) hp, List.nil_append]
    · rw [List.filter_cons_of_pos hp, List.flatMap_cons, List.flatMap_cons, ih]
/-- Names that bear nothing do not count. -/
theorem nP_keys {k u : Int} {l : List RV} {ss : List (List UInt8)} (hn : ss.Nodup) (h1 : ∀ s, grp l s ≠ [] → s ∈ ss) (h2 : ∀ s ∈ ss, grp l s = [] → True) (f : List UInt8 → List RV) (hf : ∀ s ∈ ss, f s = utl k u (unh (grp l s))) :
    (ss.mergeSort leB).flatMap f = nP k u l := by
  have hp : ((ss.mergeSort leB).filter fun s => !(grp l s).isEmpty) = kys l := by
    have hnd : ((ss.mergeSort leB).filter fun s => !(grp l s).isEmpty).Nodup := ((List.mergeSort_perm ss leB).nodup_iff.2 hn).filter _
    have hm : ∀ s, s ∈ ((ss.mergeSort leB).filter fun s => !(grp l s).isEmpty) ↔ grp l s ≠ [] := fun s => by
      rw [List.mem_filter, List.mem_mergeSort]
      constructor
      · rintro ⟨_, h⟩ he
        rw [he] at h; cases h
      · intro h
        refine ⟨h1 s h, ?_⟩
        cases hg : grp l s with
        | nil => exact absurd hg h
        | cons => rfl
    rw [← kys_perm hnd hm]
    exact (List.mergeSort_of_pairwise ((List.pairwise_mergeSort leB_tr leB_to ss).filter _)).symm
  unfold nP
  rw [← hp, flatMap_filter]
  · exact flatMap_ext f _ _ fun s hs => hf s (List.mem_mergeSort.1 hs)
  · intro s _ hs
    have : grp l s = [] := by
      cases hg : grp l s with
      | nil => rfl
      | cons a b => rw [hg] at hs; cases hs
    rw [this]; rfl
theorem grp_append (l m : List RV) (s : List UInt8) : grp (l ++ m) s = grp l s ++ grp m s := by unfold grp; rw [List.filterMap_append, List.filter_append]
/-- A rule more behind all, with the default's action and without conditions. -/
theorem nP_drops (k u : Int) (l : List RV) (nm : ByteArray) : nP k u (l ++ [⟨nm, k, u, []⟩]) = nP k u l := by
  have hg : ∀ s, grp [⟨nm, k, u, []⟩] s = if nm.data.toList = s then [⟨nm, k, u, []⟩] else [] := fun s => by
    have hr : nR ⟨nm, k, u, []⟩ = some ⟨nm, k, u, []⟩ := rfl
    unfold grp
    rw [List.filterMap_cons, hr, List.filterMap_nil, List.filter_cons]
    by_cases h : nm.data.toList = s
    · have : (RV.key ⟨nm, k, u, []⟩ == s) = true := by unfold RV.key; simpa using h
      rw [if_pos h]
      simp only [this, if_true, List.filter_nil]
    · have : (RV.key ⟨nm, k, u, []⟩ == s) = false := by unfold RV.key; simpa using h
      rw [if_neg h]
      simp only [this, List.filter_nil]
      rfl
  have hact : isAct k u ⟨nm, k, u, []⟩ = true := by simp [isAct]
  refine nP_keys (k := k) (u := u) (l := l) (nodup_nub _) (fun s h => ?_) (fun _ _ _ => trivial) _ fun s _ => ?_
  · refine (mem_nms _ s).2 fun he => h ?_
    rw [grp_append] at he
    exact (List.append_eq_nil_iff.1 he).1
  · rw [grp_append, hg]
    split
    · rw [unh_snoc]
      unfold unhF
      split
      · rfl
      · rw [utl_snoc, if_pos hact]
    · rw [List.append_nil]
/-- Rules of one name first, conditions turned. -/
def revR (r : RV) : RV := { r with L := r.L.reverse }
theorem askL_cons (c : CD) (t : List CD) : askL (c :: t) = if (nC c).2 = 2 then none else (askL t).map fun l => if (nC c).2 = 0 then (nC c).1 :: l else l := rfl
theorem askL_append : ∀ l m : List CD, askL (l ++ m) = (askL l).bind fun x => (askL m).map fun y => x ++ y
  | [], m => by
    show askL m = (some []).bind _
    cases askL m <;> rfl
  | c :: t, m => by
    rw [List.cons_append, askL_cons, askL_cons, askL_append t m]
    by_cases h2 : (nC c).2 = 2
    · rw [if_pos h2, if_pos h2]; rfl
    · rw [if_neg h2, if_neg h2]
      by_cases h0 : (nC c).2 = 0
      · cases askL t <;> cases askL m <;> simp [h0]
      · cases askL t <;> cases askL m <;> simp [h0]
theorem askL_rev : ∀ l : List CD, askL l.reverse = (askL l).map List.reverse
  | [] => rfl
  | c :: t => by
    rw [List.reverse_cons, askL_append, askL_rev t, askL_cons, askL_cons]
    by_cases h2 : (nC c).2 = 2
    · rw [if_pos h2, if_pos h2]
      cases askL t <;> simp
    · rw [if_neg h2, if_neg h2]
      by_cases h0 : (nC c).2 = 0
      · cases askL t <;> simp [h0, askL]
      · cases askL t <;> simp [h0, askL]
theorem nR_rev (r : RV) : nR (revR r) = nR r := by
  unfold nR revR
  simp only
  rw [askL_rev]
  cases askL r.L with
  | none => rfl
  | some l =>
    simp only [Option.map_some]
    rw [srt_of_mem (l := l) (m := l.reverse) (by simp)]
theorem fm_rev (l : List RV) : (l.map revR).filterMap nR = l.filterMap nR := by
  rw [List.filterMap_map]
  exact congrArg (fun f => l.filterMap f) (funext nR_rev)
theorem grp_part (l : List RV) (p : RV → Bool) (front : List UInt8) (hp : ∀ r ∈ l, p r = (r.key == front)) (s : List UInt8) : grp (l.filter p) s = if s = front then grp l s else [] := by
  unfold grp
  induction l with
  | nil => simp
  | cons r t ih =>
    have ih' := ih fun x hx => hp x (List.mem_cons_of_mem _ hx)
    have hr := hp r (List.mem_cons_self ..)
    rcases hb : p r with _ | _
    · rw [List.filter_cons_of_neg (by simp [hb]), ih']
      split
      · rename_i hs
        rw [List.filterMap_cons]
        rcases hn : nR r with _ | x
        · rfl
        · have hx : (x.key == s) = false := by
            have := nR_nm hn
            unfold RV.key at hr ⊢
            rw [this, hs, ← hr, hb]
          simp only [List.filter_cons, hx]
          rfl
      · rfl
    · rw [List.filter_cons_of_pos hb, List.filterMap_cons]
      rcases hn : nR r with _ | x
      · rw [List.filterMap_cons, hn]; exact ih'
      · rw [List.filterMap_cons, hn]
        have hx : x.key = front := by
          have := nR_nm hn
          unfold RV.key at hr ⊢
          rw [this]
          rw [hb] at hr
          simpa using hr.symm
        simp only [List.filter_cons]
        rw [ih', hx]
        by_cases hs : s = front
        · rw [if_pos hs, if_pos hs]
        · have : (front == s) = false := by simpa using fun e => hs e.symm
          rw [if_neg hs, if_neg hs, this]
          rfl
theorem grp_rest (l : List RV) (p : RV → Bool) (front : List UInt8) (hp : ∀ r ∈ l, p r = !(r.key == front)) (s : List UInt8) : grp (l.filter p) s = if s = front then [] else grp l s := by
  unfold grp
  induction l with
  | nil => simp
  | cons r t ih =>
    have ih' := ih fun x hx => hp x (List.mem_cons_of_mem _ hx)
    have hr := hp r (List.mem_cons_self ..)
    rcases hb : p r with _ | _
    · rw [List.filter_cons_of_neg (by simp [hb]), ih']
      split
      · rfl
      · rename_i hs
        rw [List.filterMap_cons]
        rcases hn : nR r with _ | x
        · rfl
        · have hx : (x.key == s) = false := by
            have := nR_nm hn
            unfold RV.key at hr ⊢
            rw [hb] at hr
            have hf : r.nm.data.toList = front := by simpa using hr.symm
            rw [this, hf]
            simpa using fun e => hs e.symm
          simp only [List.filter_cons, hx]
          rfl
    · rw [List.filter_cons_of_pos hb, List.filterMap_cons]
      rcases hn : nR r with _ | x
      · rw [List.filterMap_cons, hn]; exact ih'
      · rw [List.filterMap_cons, hn]
        have hx : x.key ≠ front := by
          have := nR_nm hn
          unfold RV.key at hr ⊢
          rw [this]
          rw [hb] at hr
          simpa using hr.symm
        simp only [List.filter_cons]
        rw [ih']
        by_cases hs : s = front
        · have : (x.key == s) = false := by rw [hs]; simpa using hx
          rw [if_pos hs, if_pos hs, this]
          rfl
        · rw [if_neg hs, if_neg hs]
theorem nP_orders (k u : Int) (l : List RV) (front : List UInt8) : nP k u (((l.filter fun r => r.key == front) ++ (l.filter fun r => !(r.key == front))).map revR) = nP k u l := by
  refine nP_congr fun s => ?_
  have e : ∀ m : List RV, grp (m.map revR) s = grp m s := fun m => by unfold grp; rw [fm_rev]
  rw [e, grp_append, grp_part l _ front (fun _ _ => rfl), grp_rest l _ front (fun _ _ => rfl)]
  by_cases hs : s = front
  · rw [if_pos hs, if_pos hs, List.append_nil]
  · rw [if_neg hs, if_neg hs, List.nil_append]
end Go.Proofs.YtlpcallgkciklaaGreatDoor
