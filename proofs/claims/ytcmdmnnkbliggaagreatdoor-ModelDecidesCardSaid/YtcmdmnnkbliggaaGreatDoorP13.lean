/-
  Layer 16: norm.Policy at any policy, its two ends in one.
-/
import Derived.Test.YtcmdmnnkbliggaaGreatDoorRjp
import Derived.Test.YtcmdmnnkbliggaaGreatDoorP8
namespace Go.Proofs.YtcmdmnnkbliggaaGreatDoor
open Go.RowKit Go.Shelf
set_option linter.unusedVariables false

theorem utl_sub {k u : Int} {l : List RV} {v : RV} (h : v ∈ utl k u l) : v ∈ l := by
  unfold utl at h
  exact List.mem_reverse.1 ((List.dropWhile_sublist _).subset (List.mem_reverse.1 h))
theorem unh_sub' : ∀ (l acc : List RV) (v : RV), v ∈ l.foldl unhF acc → v ∈ acc ∨ v ∈ l
  | [], acc, v, h => .inl h
  | r :: t, acc, v, h => by
    rcases unh_sub' t (unhF acc r) v h with h1 | h1
    · unfold unhF at h1
      split at h1
      · exact .inl h1
      · rcases List.mem_append.1 h1 with h2 | h2
        · exact .inl h2
        · rw [List.mem_singleton] at h2; subst h2; exact .inr (List.mem_cons_self ..)
    · exact .inr (List.mem_cons_of_mem _ h1)
theorem unh_sub {l : List RV} {v : RV} (h : v ∈ unh l) : v ∈ l := (unh_sub' l [] v h).elim (fun h => by cases h) id
theorem nP_sub {k u : Int} {l : List RV} {v : RV} (h : v ∈ nP k u l) : ∃ r ∈ l, nR r = some v := by
  unfold nP at h
  obtain ⟨s, _, h⟩ := List.mem_flatMap.1 h
  have h2 := unh_sub (utl_sub h)
  exact List.mem_filterMap.1 (List.mem_filter.1 h2).1
theorem policyN_any (k u : Int) (x : Bool) (A : Option Addr) (l : List RL) (c : Nat) (w : World) (hl : RlL w A l) (hn : l.length ≤ 1000) (h12 : ∀ e ∈ l, e.n ≤ 100000) :
    Calls Tryz.prog 43 #[.agg (polA k u x A l.length c)] w fun e w' => ∃ (A' : Option Addr) (c' : Nat) (ls : List RL) (k' u' : Int) (x' : Bool) (er : Int), e = .returned (.tuple #[.agg (polA k' u' x' A' ls.length c'), .int .i64 er]) ∧ RowL w' w.heap.size A' ls c' ∧ Below w.heap.size w w' ∧
      ls.length ≤ 1000000 ∧ (∀ e ∈ ls, e.n ≤ 6) ∧
      ((rightV k u (l.map RL.val) = true ∧ er = 0 ∧ k' = k ∧ u' = u ∧ x' = x ∧ ls.map RL.val = nP k u (l.map RL.val)) ∨ (rightV k u (l.map RL.val) = false ∧ er = 13 ∧ k' = 0 ∧ u' = 0 ∧ x' = false ∧ ls = [])) := by
  rcases hr : rightV k u (l.map RL.val) with _ | _
  · refine (policyN_no k u x A l c w hl hn h12 hr).mono ?_
    rintro e w' ⟨rfl, hB⟩
    exact ⟨none, 0, [], 0, 0, false, 13, rfl, RowL.nil_ _ _, hB, by simp, (fun e h => by cases h), .inr ⟨rfl, rfl, rfl, rfl, rfl, rfl⟩⟩
  · refine (policyN_ok k u x A l c w hl hr).mono ?_
    rintro e w' ⟨A', c', ls, rfl, hrow, hval, hlen, hB⟩
    refine ⟨A', c', ls, k, u, x, 0, rfl, hrow, hB, hlen, fun e he => ?_, .inl ⟨rfl, rfl, rfl, rfl, rfl, hval⟩⟩
    have h1 : e.val ∈ nP k u (l.map RL.val) := by rw [← hval]; exact List.mem_map.2 ⟨e, he, rfl⟩
    obtain ⟨r, hr', hn'⟩ := nP_sub h1
    have h2 := nR_len hn'
    have h3 : e.val.L.length = e.n := by simp [RL.val]
    unfold rightV at hr
    simp only [Bool.and_eq_true, decide_eq_true_eq, List.length_map, List.all_eq_true] at hr
    have h4 := hr.2.2 r hr'
    unfold mayV at h4
    simp only [Bool.and_eq_true, decide_eq_true_eq, List.all_eq_true] at h4
    have := h4.2.2.1
    omega
end Go.Proofs.YtcmdmnnkbliggaaGreatDoor

/-
  Layer 16, pure: the normal form of a normal form is it; it may be; it has not more rules.
-/
namespace Go.Proofs.YtcmdmnnkbliggaaGreatDoor
open Go.RowKit
set_option linter.unusedVariables false

/-- What asks in normal form stays as it is. -/
theorem nC_idem {c : CD} (hr : RiC c) (h : (nC c).2 = 0) : nC (nC c).1 = ((nC c).1, 0) ∧ RiC (nC c).1 := by
  obtain ⟨a, o, m, v⟩ := c
  obtain ⟨h1, h2, h3, h4, h5⟩ := hr
  simp only at h1 h2 h3 h4 h5
  have ho : o = 1 ∨ o = 2 ∨ o = 3 ∨ o = 4 ∨ o = 5 ∨ o = 6 ∨ o = 7 := by omega
  rcases ho with rfl | rfl | rfl | rfl | rfl | rfl | rfl
  · have e : nC ⟨a, 1, m, v⟩ = (⟨a, 1, m, v⟩, 0) := by simp [nC]
    rw [e]; exact ⟨e, h1, h2, by simp, by simp, h5⟩
  · have e : nC ⟨a, 2, m, v⟩ = (⟨a, 2, m, v⟩, 0) := by simp [nC]
    rw [e]; exact ⟨e, h1, h2, by simp, by simp, h5⟩
  · have e : nC ⟨a, 3, m, v⟩ = bel ⟨a, 3, m, v⟩ := by simp [nC]
    rw [e] at h ⊢
    unfold bel at h ⊢
    simp only at h ⊢
    by_cases v0 : v = 0
    · rw [if_pos v0] at h; cases h
    · rw [if_neg v0]
      by_cases v1 : v = 1
      · rw [if_pos v1]
        exact ⟨by simp [nC], h1, h2, by simp, by simp, .inr rfl⟩
      · rw [if_neg v1]
        exact ⟨by rw [e]; unfold bel; simp only; rw [if_neg v0, if_neg v1], h1, h2, by simp, by simp, h5⟩
  · have e : nC ⟨a, 4, m, v⟩ = if v = 18446744073709551615 then (⟨0, 0, 0, 0⟩, 1) else bel ⟨a, 3, 0, v + 1⟩ := by simp [nC]
    rw [e] at h ⊢
    by_cases vm : v = 18446744073709551615
    · rw [if_pos vm] at h; cases h
    · rw [if_neg vm] at h ⊢
      unfold bel at h ⊢
      simp only at h ⊢
      rw [if_neg (by omega : ¬ v + 1 = 0)]
      by_cases v1 : v + 1 = 1
      · rw [if_pos v1]
        exact ⟨by simp [nC], h1, h2, by simp, by simp, .inr rfl⟩
      · rw [if_neg v1]
        refine ⟨?_, h1, h2, by simp, by simp, .inr rfl⟩
        have e3 : nC ⟨a, 3, 0, v + 1⟩ = bel ⟨a, 3, 0, v + 1⟩ := by simp [nC]
        rw [e3]; unfold bel; simp only
        rw [if_neg (by omega : ¬ v + 1 = 0), if_neg v1]
  · have e : nC ⟨a, 5, m, v⟩ = if v = 18446744073709551615 then (⟨0, 0, 0, 0⟩, 2) else atl ⟨a, 6, 0, v + 1⟩ := by simp [nC]
    rw [e] at h ⊢
    by_cases vm : v = 18446744073709551615
    · rw [if_pos vm] at h; cases h
    · rw [if_neg vm] at h ⊢
      unfold atl at h ⊢
      simp only at h ⊢
      rw [if_neg (by omega : ¬ v + 1 = 0)]
      by_cases v1 : v + 1 = 18446744073709551615
      · rw [if_pos v1]
        exact ⟨by simp [nC], h1, h2, by simp, by simp, .inr rfl⟩
      · rw [if_neg v1]
        refine ⟨?_, h1, h2, by simp, by simp, .inr rfl⟩
        have e3 : nC ⟨a, 6, 0, v + 1⟩ = atl ⟨a, 6, 0, v + 1⟩ := by simp [nC]
        rw [e3]; unfold atl; simp only
        rw [if_neg (by omega : ¬ v + 1 = 0), if_neg v1]
  · have e : nC ⟨a, 6, m, v⟩ = atl ⟨a, 6, m, v⟩ := by simp [nC]
    rw [e] at h ⊢
    unfold atl at h ⊢
    simp only at h ⊢
    by_cases v0 : v = 0
    · rw [if_pos v0] at h; cases h
    · rw [if_neg v0]
      by_cases v1 : v = 18446744073709551615
      · rw [if_pos v1]
        exact ⟨by simp [nC], h1, h2, by simp, by simp, .inr rfl⟩
      · rw [if_neg v1]
        exact ⟨by rw [e]; unfold atl; simp only; rw [if_neg v0, if_neg v1], h1, h2, by simp, by simp, h5⟩
  · have e : nC ⟨a, 7, m, v⟩ = if v &&& (18446744073709551615 - m) ≠ 0 then (⟨0, 0, 0, 0⟩, 2) else if m = 0 then (⟨0, 0, 0, 0⟩, 1) else if m = 18446744073709551615 then (⟨a, 1, 0, v⟩, 0) else (⟨a, 7, m, v⟩, 0) := by simp [nC]
    rw [e] at h ⊢
    by_cases b0 : v &&& (18446744073709551615 - m) ≠ 0
    · rw [if_pos b0] at h; cases h
    · rw [if_neg b0] at h ⊢
      by_cases m0 : m = 0
      · rw [if_pos m0] at h; cases h
      · rw [if_neg m0]
        by_cases m1 : m = 18446744073709551615
        · rw [if_pos m1]
          exact ⟨by simp [nC], h1, h2, by simp, by simp, .inr rfl⟩
        · rw [if_neg m1]
          exact ⟨by rw [e, if_neg b0, if_neg m0, if_neg m1], h1, h2, by simp, by simp, .inl rfl⟩
theorem askL_fix : ∀ l : List CD, (∀ c ∈ l, nC c = (c, 0)) → askL l = some l
  | [], _ => rfl
  | c :: t, h => by
    rw [askL_cons, h c (List.mem_cons_self ..), askL_fix t fun x hx => h x (List.mem_cons_of_mem _ hx)]
    rfl
theorem askL_mem : ∀ (l M : List CD), askL l = some M → ∀ c ∈ M, ∃ d ∈ l, (nC d).2 = 0 ∧ (nC d).1 = c
  | [], M, h, c, hc => by cases h; cases hc
  | d :: t, M, h, c, hc => by
    rw [askL_cons] at h
    by_cases h2 : (nC d).2 = 2
    · rw [if_pos h2] at h; cases h
    · rw [if_neg h2] at h
      rcases ht : askL t with _ | x
      · rw [ht] at h; cases h
      · rw [ht] at h
        simp only [Option.map_some, Option.some.injEq] at h
        by_cases h0 : (nC d).2 = 0
        · rw [if_pos h0] at h
          subst h
          rcases List.mem_cons.1 hc with e | e
          · exact ⟨d, List.mem_cons_self .., h0, e.symm⟩
          · obtain ⟨y, hy, hh⟩ := askL_mem t x ht c e
            exact ⟨y, List.mem_cons_of_mem _ hy, hh⟩
        · rw [if_neg h0] at h
          subst h
          obtain ⟨y, hy, hh⟩ := askL_mem t _ ht c hc
          exact ⟨y, List.mem_cons_of_mem _ hy, hh⟩
theorem nR_fix {v x : RV} (hv : ∀ c ∈ v.L, RiC c) (h : nR v = some x) : nR x = some x ∧ ∀ c ∈ x.L, RiC c := by
  unfold nR at h
  rcases hl : askL v.L with _ | M
  · rw [hl] at h; cases h
  · rw [hl] at h
    cases h
    have key : ∀ c ∈ srt M, nC c = (c, 0) ∧ RiC c := fun c hc => by
      obtain ⟨d, hd, h0, rfl⟩ := askL_mem _ _ hl c ((mem_srt c M).1 hc)
      exact nC_idem (hv d hd) h0
    refine ⟨?_, fun c hc => (key c hc).2⟩
    unfold nR
    simp only
    rw [askL_fix _ fun c hc => (key c hc).1]
    simp only [Option.map_some]
    rw [← srt_uniq (pw_srt M) fun _ => Iff.rfl]
theorem mayV_fix {v x : RV} (hm : mayV v = true) (h : nR v = some x) : mayV x = true ∧ nR x = some x := by
  unfold mayV at hm
  simp only [Bool.and_eq_true, decide_eq_true_eq, List.all_eq_true] at hm
  obtain ⟨h1, h2, h3, h4⟩ := hm
  obtain ⟨f1, f2⟩ := nR_fix h4 h
  have hl := nR_len h
  have he : x.nm = v.nm ∧ x.k = v.k ∧ x.u = v.u := by
    unfold nR at h
    rcases hl : askL v.L with _ | M
    · rw [hl] at h; cases h
    · rw [hl] at h; cases h; exact ⟨rfl, rfl, rfl⟩
  refine ⟨?_, f1⟩
  unfold mayV
  simp only [Bool.and_eq_true, decide_eq_true_eq, List.all_eq_true]
  exact ⟨by rw [he.1]; exact h1, by rw [he.2.1, he.2.2]; exact h2, by omega, f2⟩
theorem utl_sublist (k u : Int) (l : List RV) : (utl k u l).Sublist l := by
  unfold utl
  have h : (List.dropWhile (isAct k u) l.reverse).Sublist l.reverse := List.dropWhile_sublist _
  have := h.reverse
  rwa [List.reverse_reverse] at this
theorem dropWhile_idem {α : Type} (p : α → Bool) : ∀ l : List α, (l.dropWhile p).dropWhile p = l.dropWhile p
  | [] => rfl
  | x :: t => by
    rcases hp : p x with _ | _
    · rw [List.dropWhile_cons_of_neg (by simp [hp]), List.dropWhile_cons_of_neg (by simp [hp])]
    · rw [List.dropWhile_cons_of_pos hp]; exact dropWhile_idem p t
theorem utl_idem (k u : Int) (l : List RV) : utl k u (utl k u l) = utl k u l := by
  unfold utl
  rw [List.reverse_reverse, dropWhile_idem]
def UnhP (l : List RV) : Prop := l.Pairwise fun e r => hides r e = false
theorem unh_pw' : ∀ (l acc : List RV), UnhP acc → UnhP (l.foldl unhF acc)
  | [], acc, h => h
  | r :: t, acc, h => by
    refine unh_pw' t _ ?_
    unfold unhF
    split
    · exact h
    · rename_i hn
      refine List.pairwise_append.2 ⟨h, by simp, fun e he r' hr' => ?_⟩
      rw [List.mem_singleton] at hr'
      subst hr'
      have := hn
      simp only [List.any_eq_true, not_exists, not_and, Bool.not_eq_true] at this
      exact this e he
theorem unh_fix' : ∀ (l acc : List RV), UnhP (acc ++ l) → l.foldl unhF acc = acc ++ l
  | [], acc, _ => by simp
  | r :: t, acc, h => by
    have h1 : unhF acc r = acc ++ [r] := by
      unfold unhF
      rw [if_neg]
      intro hc
      obtain ⟨e, he, hh⟩ := List.any_eq_true.1 hc
      have := (List.pairwise_append.1 h).2.2 e he r (List.mem_cons_self ..)
      rw [this] at hh
      cases hh
    show t.foldl unhF (unhF acc r) = _
    rw [h1, unh_fix' t (acc ++ [r]) (by simpa using h)]
    simp
theorem blk_idem (k u : Int) (G : List RV) : utl k u (unh (utl k u (unh G))) = utl k u (unh G) := by
  have h1 : UnhP (unh G) := unh_pw' G [] List.Pairwise.nil
  have h2 : UnhP (utl k u (unh G)) := List.Pairwise.sublist (utl_sublist k u _) h1
  have h3 : unh (utl k u (unh G)) = utl k u (unh G) := unh_fix' _ [] (by simpa using h2)
  rw [h3, utl_idem]
theorem mem_blk {k u : Int} {l : List RV} {s : List UInt8} {v : RV} (h : v ∈ utl k u (unh (grp l s))) : v.key = s ∧ ∃ r ∈ l, nR r = some v := by
  have h2 := List.mem_filter.1 (unh_sub (utl_sub h))
  exact ⟨by simpa using h2.2, List.mem_filterMap.1 h2.1⟩
theorem filter_flatMap_key (f : List UInt8 → List RV) (s : List UInt8) : ∀ K : List (List UInt8), K.Nodup → (∀ t ∈ K, ∀ v ∈ f t, v.key = t) → (K.flatMap f).filter (fun r => r.key == s) = if s ∈ K then f s else []
  | [], _, _ => rfl
  | t :: K, hn, hk => by
    rw [List.nodup_cons] at hn
    rw [List.flatMap_cons, List.filter_append, filter_flatMap_key f s K hn.2 fun t' ht' => hk t' (List.mem_cons_of_mem _ ht')]
    have ht := hk t (List.mem_cons_self ..)
    by_cases e : s = t
    · subst e
      rw [if_neg hn.1, if_pos (List.mem_cons_self ..), List.append_nil, List.filter_eq_self.2 fun v hv => by simp [ht v hv]]
    · have h0 : (f t).filter (fun r => r.key == s) = [] := List.filter_eq_nil_iff.2 fun v hv => by
        rw [ht v hv]; simpa using fun x => e x.symm
      rw [h0, List.nil_append]
      by_cases hs : s ∈ K
      · rw [if_pos hs, if_pos (List.mem_cons_of_mem _ hs)]
      · rw [if_neg hs, if_neg (fun h => by rcases List.mem_cons.1 h with h | h; exact e h; exact hs h)]
theorem filterMap_fix {α : Type} (f : α → Option α) : ∀ l : List α, (∀ x ∈ l, f x = some x) → l.filterMap f = l
  | [], _ => rfl
  | x :: t, h => by
    rw [List.filterMap_cons, h x (List.mem_cons_self ..)]
    simp only
    rw [filterMap_fix f t fun y hy => h y (List.mem_cons_of_mem _ hy)]
theorem grp_nP {k u : Int} {l : List RV} (hm : ∀ r ∈ l, mayV r = true) (s : List UInt8) : grp (nP k u l) s = utl k u (unh (grp l s)) := by
  have hfix : ∀ v ∈ nP k u l, nR v = some v := fun v hv => by
    obtain ⟨r, hr, hn⟩ := nP_sub hv
    exact (mayV_fix (hm r hr) hn).2
  unfold grp
  rw [filterMap_fix nR _ hfix]
  show (nP k u l).filter _ = _
  unfold nP
  rw [filter_flatMap_key _ s (kys l) ((List.mergeSort_perm (nms l) _).nodup_iff.2 (nodup_nub _)) fun t _ v hv => (mem_blk hv).1]
  by_cases hs : s ∈ kys l
  · rw [if_pos hs]; rfl
  · rw [if_neg hs]
    have : grp l s = [] := Classical.byContradiction fun h => hs (by
      unfold kys
      rw [List.mem_mergeSort]
      exact (mem_nms l s).2 h)
    show [] = utl k u (unh (grp l s))
    rw [this]
    rfl
/-- The normal form of a normal form is it. -/
theorem nP_idem {k u : Int} {l : List RV} (hm : ∀ r ∈ l, mayV r = true) : nP k u (nP k u l) = nP k u l := by
  have h := nP_keys (k := k) (u := u) (l := nP k u l) (ss := nms l) (nodup_nub _) (fun s hs => (mem_nms l s).2 fun h0 => hs (by rw [grp_nP hm, h0]; rfl)) (fun _ _ _ => trivial) (fun s => utl k u (unh (grp l s))) (fun s _ => by rw [grp_nP hm, blk_idem])
  rw [← h]
  rfl
theorem unh_len' : ∀ (l acc : List RV), (l.foldl unhF acc).length ≤ acc.length + l.length
  | [], acc => by simp
  | r :: t, acc => by
    have := unh_len' t (unhF acc r)
    have h2 : (unhF acc r).length ≤ acc.length + 1 := by unfold unhF; split <;> simp
    simp only [List.foldl_cons, List.length_cons]
    omega
theorem filter_two (s : List UInt8) : ∀ L : List RV, (L.filter fun r => r.key == s).length + (L.filter fun r => !(r.key == s)).length = L.length
  | [] => rfl
  | x :: t => by
    have ih := filter_two s t
    rcases hb : (x.key == s) with _ | _
    · simp only [List.filter_cons, hb, List.length_cons]; simp; omega
    · simp only [List.filter_cons, hb, List.length_cons]; simp; omega
theorem sum_keys : ∀ (K : List (List UInt8)) (L : List RV), K.Nodup → (K.flatMap fun s => L.filter fun r => r.key == s).length ≤ L.length
  | [], L, _ => by simp
  | s :: K, L, hn => by
    rw [List.nodup_cons] at hn
    rw [List.flatMap_cons, List.length_append]
    have h1 : (K.flatMap fun t => L.filter fun r => r.key == t) = K.flatMap fun t => (L.filter fun r => !(r.key == s)).filter fun r => r.key == t := flatMap_ext _ _ K fun t ht => by
      rw [List.filter_filter]
      refine List.filter_congr fun r _ => ?_
      by_cases e : r.key = t
      · have : ¬ t = s := fun h => hn.1 (h ▸ ht)
        simp [e, this]
      · simp [e]
    have h2 := sum_keys K (L.filter fun r => !(r.key == s)) hn.2
    have h3 := filter_two s L
    rw [h1]
    omega
theorem flatMap_le {f g : List UInt8 → List RV} (h : ∀ s, (f s).length ≤ (g s).length) : ∀ K : List (List UInt8), (K.flatMap f).length ≤ (K.flatMap g).length
  | [] => Nat.le_refl _
  | s :: K => by
    have := flatMap_le h K
    have := h s
    rw [List.flatMap_cons, List.flatMap_cons, List.length_append, List.length_append]
    omega
theorem nP_len (k u : Int) (l : List RV) : (nP k u l).length ≤ l.length := by
  unfold nP
  refine Nat.le_trans (flatMap_le (g := fun s => (l.filterMap nR).filter fun r => r.key == s) (fun s => ?_) _) (Nat.le_trans (sum_keys (kys l) (l.filterMap nR) ((List.mergeSort_perm (nms l) _).nodup_iff.2 (nodup_nub _))) (List.length_filterMap_le _ _))
  have h1 := (utl_sublist k u (unh (grp l s))).length_le
  have h2 := unh_len' (grp l s) []
  simp only [List.length_nil, Nat.zero_add] at h2
  exact Nat.le_trans h1 h2
theorem rightV_nP {k u : Int} {l : List RV} (h : rightV k u l = true) : rightV k u (nP k u l) = true ∧ nP k u (nP k u l) = nP k u l := by
  unfold rightV at h
  simp only [Bool.and_eq_true, decide_eq_true_eq, List.all_eq_true] at h
  obtain ⟨h1, h2, h3⟩ := h
  refine ⟨?_, nP_idem h3⟩
  unfold rightV
  simp only [Bool.and_eq_true, decide_eq_true_eq, List.all_eq_true]
  refine ⟨h1, Nat.le_trans (nP_len k u l) h2, fun v hv => ?_⟩
  obtain ⟨r, hr, hn⟩ := nP_sub hv
  exact (mayV_fix (h3 r hr) hn).1
end Go.Proofs.YtcmdmnnkbliggaaGreatDoor
