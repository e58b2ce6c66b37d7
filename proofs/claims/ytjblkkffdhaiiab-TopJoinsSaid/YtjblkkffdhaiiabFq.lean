/-
  Pure: a program carried into another one by a map of its places: it runs alike, its longest ways are as long, and it may run. The pruned program is such a one.
-/
import Derived.Test.YtjblkkffdhaiiabFp
import Derived.Test.YtjblkkffdhaiiabVn
import Derived.Test.YtjblkkffdhaiiabVo
namespace Go.Proofs.Ytjblkkffdhaiiab
open Go.RowKit

/-- A state with the next place told anew. -/
def Res.at_ (m : Nat → Nat) : Res → Res
  | .go s => .go (s.setn (m s.nx))
  | .stop n s => .stop n (s.setn (m s.nx))
theorem setn_setn (s : VS) (a b : Nat) : (s.setn a).setn b = s.setn b := rfl
theorem setn_self (s : VS) : s.setn s.nx = s := rfl
theorem oth_setn (v : IV) (s : VS) (m : Nat) : oth v (s.setn m) = oth v s := by unfold oth; split <;> rfl
theorem tick_setn (s : VS) (m : Nat) : (s.setn m).tick = s.tick.setn (m + 1) := rfl
/-- An instruction that is no jump goes on alike, wherever it stands. -/
theorem doK_plain (f : Nat → Nat) (j : Nat) (v v' : IV) (s : VS) (o m : Nat) (hk : v'.k = v.k) (h13 : j ≠ 13) (h25 : j ≠ 25) (h26 : j ≠ 26) (h27 : j ≠ 27) (h28 : j ≠ 28) :
    doK f j v' (s.setn m) o = (doK f j v s o).at_ (fun _ => m) ∧ (∀ t, doK f j v s o = .go t → t.nx = s.nx) := by
  unfold doK
  split
  case h_13 => exact absurd rfl h13
  case h_25 => exact absurd rfl h25
  case h_26 => exact absurd rfl h26
  case h_27 => exact absurd rfl h27
  case h_28 => exact absurd rfl h28
  case h_19 =>
    split
    · exact ⟨rfl, fun t h => by cases h⟩
    · exact ⟨rfl, fun t h => by cases h; rfl⟩
  case h_14 => exact ⟨by rw [hk]; rfl, fun t h => by cases h⟩
  case h_15 => exact ⟨rfl, fun t h => by cases h⟩
  all_goals first
    | exact ⟨by rw [hk]; rfl, fun t h => by cases h; rfl⟩
    | exact ⟨rfl, fun t h => by cases h; rfl⟩

/-- The places of g that R speaks of lie in h where c tells, and do there what they did. -/
structure Emb (g h : Nat → IV) (c : Nat → Nat) (R : Nat → Prop) : Prop where
  code : ∀ i, R i → (h (c i)).c = (g i).c
  ks : ∀ i, R i → kd (g i) ≠ 13 → (h (c i)).k = (g i).k
  jump : ∀ i, R i → kd (g i) = 13 → c i + 1 + (h (c i)).k = c (i + 1 + (g i).k) ∧ R (i + 1 + (g i).k)
  bt : ∀ i, R i → isBr (g i) = true → c i + 1 + (h (c i)).t = c (i + 1 + (g i).t) ∧ R (i + 1 + (g i).t)
  bf : ∀ i, R i → isBr (g i) = true → c i + 1 + (h (c i)).f = c (i + 1 + (g i).f) ∧ R (i + 1 + (g i).f)
  on : ∀ i, R i → kd (g i) ≠ 13 → isBr (g i) = false → isRet (g i) = false → c i + 1 = c (i + 1) ∧ R (i + 1)
section
variable {g h : Nat → IV} {c : Nat → Nat} {R : Nat → Prop}
theorem kd_of {v w : IV} (e : v.c = w.c) : kd v = kd w := by unfold kd; rw [e]
theorem xx_of {v w : IV} (e : v.c = w.c) : xx v = xx w := by unfold xx; rw [e]
theorem isRet_of {v w : IV} (e : v.c = w.c) : isRet v = isRet w := by unfold isRet; rw [kd_of e]
theorem isBr_of {v w : IV} (e : v.c = w.c) : isBr v = isBr w := by unfold isBr; rw [kd_of e]
theorem isLd_of {v w : IV} (e : v.c = w.c) : isLd v = isLd w := by unfold isLd; rw [kd_of e]
theorem isSt_of {v w : IV} (e : v.c = w.c) : isSt v = isSt w := by unfold isSt; rw [kd_of e]
theorem isBr_iff (v : IV) : isBr v = true ↔ kd v = 25 ∨ kd v = 26 ∨ kd v = 27 ∨ kd v = 28 := by unfold isBr; simp [or_assoc]
theorem isRet_iff (v : IV) : isRet v = true ↔ kd v = 14 ∨ kd v = 15 := by unfold isRet; simp
theorem Emb.nexts (E : Emb g h c R) (i : Nat) (hi : R i) : nexts (h (c i)) (c i) = (nexts (g i) i).map c ∧ ∀ j ∈ nexts (g i) i, R j := by
  unfold Proofs.Ytjblkkffdhaiiab.nexts fars
  rw [isRet_of (E.code i hi), isBr_of (E.code i hi), kd_of (E.code i hi)]
  by_cases hr : isRet (g i) = true
  · rw [if_pos hr, if_pos hr]; exact ⟨rfl, fun j hj => by cases hj⟩
  rw [if_neg hr, if_neg hr]
  by_cases h13 : kd (g i) = 13
  · rw [if_pos h13, if_pos h13]
    have := E.jump i hi h13
    exact ⟨by simp [this.1], fun j hj => by simp at hj; rw [hj]; exact this.2⟩
  rw [if_neg h13, if_neg h13]
  by_cases hb : isBr (g i) = true
  · rw [if_pos hb, if_pos hb]
    have h1 := E.bt i hi hb
    have h2 := E.bf i hi hb
    exact ⟨by simp [h1.1, h2.1], fun j hj => by
      simp at hj
      rcases hj with rfl | rfl
      · exact h1.2
      · exact h2.2⟩
  rw [if_neg hb, if_neg hb]
  have := E.on i hi h13 (by simpa using hb) (by simpa using hr)
  exact ⟨by simp [this.1], fun j hj => by simp at hj; rw [hj]; exact this.2⟩
/-- One step. -/
theorem Emb.step (E : Emb g h c R) (f : Nat → Nat) (s : VS) (hR : R s.nx) : step f (h (c s.nx)) (s.setn (c s.nx)) = (step f (g s.nx) s).at_ c ∨
    ((∃ n, ∃ t, step f (g s.nx) s = .stop n t ∧ step f (h (c s.nx)) (s.setn (c s.nx)) = .stop n (t.setn (c s.nx + 1)))) := by
  unfold Proofs.Ytjblkkffdhaiiab.step
  have ek := kd_of (E.code _ hR)
  have ex := xx_of (E.code _ hR)
  rw [ek, tick_setn]
  have hoth : kd (g s.nx) ≠ 13 → oth (h (c s.nx)) (s.setn (c s.nx)) = oth (g s.nx) s := fun h13 => by
    unfold oth
    rw [ex, E.ks _ hR h13]
    rfl
  by_cases h13 : kd (g s.nx) = 13
  · left
    rw [h13]
    have hj := (E.jump _ hR h13).1
    show Res.go (s.tick.setn (c s.nx + 1 + (h (c s.nx)).k)) = Res.go ((s.tick.setn (s.nx + 1 + (g s.nx).k)).setn (c (s.nx + 1 + (g s.nx).k)))
    rw [hj]; rfl
  rw [hoth h13]
  generalize oth (g s.nx) s = o
  by_cases hb : isBr (g s.nx) = true
  · left
    have ht := (E.bt _ hR hb).1
    have hf := (E.bf _ hR hb).1
    rcases (isBr_iff _).1 hb with e | e | e | e <;> rw [e]
    · show Res.go (s.tick.setn (c s.nx + 1 + (if s.tick.a = o then (h (c s.nx)).t else (h (c s.nx)).f))) = Res.go ((s.tick.setn (s.nx + 1 + (if s.tick.a = o then (g s.nx).t else (g s.nx).f))).setn (c (s.nx + 1 + (if s.tick.a = o then (g s.nx).t else (g s.nx).f))))
      split
      · rw [ht]; rfl
      · rw [hf]; rfl
    · show Res.go (s.tick.setn (c s.nx + 1 + (if o < s.tick.a then (h (c s.nx)).t else (h (c s.nx)).f))) = Res.go ((s.tick.setn (s.nx + 1 + (if o < s.tick.a then (g s.nx).t else (g s.nx).f))).setn (c (s.nx + 1 + (if o < s.tick.a then (g s.nx).t else (g s.nx).f))))
      split
      · rw [ht]; rfl
      · rw [hf]; rfl
    · show Res.go (s.tick.setn (c s.nx + 1 + (if o ≤ s.tick.a then (h (c s.nx)).t else (h (c s.nx)).f))) = Res.go ((s.tick.setn (s.nx + 1 + (if o ≤ s.tick.a then (g s.nx).t else (g s.nx).f))).setn (c (s.nx + 1 + (if o ≤ s.tick.a then (g s.nx).t else (g s.nx).f))))
      split
      · rw [ht]; rfl
      · rw [hf]; rfl
    · show Res.go (s.tick.setn (c s.nx + 1 + (if s.tick.a &&& o ≠ 0 then (h (c s.nx)).t else (h (c s.nx)).f))) = Res.go ((s.tick.setn (s.nx + 1 + (if s.tick.a &&& o ≠ 0 then (g s.nx).t else (g s.nx).f))).setn (c (s.nx + 1 + (if s.tick.a &&& o ≠ 0 then (g s.nx).t else (g s.nx).f))))
      split
      · rw [ht]; rfl
      · rw [hf]; rfl
  have hnb : ∀ m : Nat, kd (g s.nx) ≠ 13 → (m = 13 ∨ m = 25 ∨ m = 26 ∨ m = 27 ∨ m = 28) → (kd (g s.nx)).toNat ≠ m := fun m h1 h2 e => by
    have hr := kd_range (g s.nx)
    have : kd (g s.nx) = (m : Int) := by omega
    rcases h2 with rfl | rfl | rfl | rfl | rfl
    · exact h1 this
    all_goals exact hb ((isBr_iff _).2 (by omega))
  obtain ⟨p1, p2⟩ := doK_plain f (kd (g s.nx)).toNat (g s.nx) (h (c s.nx)) s.tick o (c s.nx + 1) (E.ks _ hR h13) (hnb 13 h13 (by omega)) (hnb 25 h13 (by omega)) (hnb 26 h13 (by omega)) (hnb 27 h13 (by omega)) (hnb 28 h13 (by omega))
  rw [p1]
  cases hd : doK f (kd (g s.nx)).toNat (g s.nx) s.tick o with
  | stop n t => right; exact ⟨n, t, rfl, rfl⟩
  | go t =>
    left
    have hnx := p2 t hd
    have hret : isRet (g s.nx) = false := by
      cases hq : isRet (g s.nx)
      · rfl
      · obtain ⟨_, _, _, q1, q2⟩ := doK_next _ _ _ _ _ _ hd
        rcases (isRet_iff _).1 hq with e | e
        · rw [e] at q1; exact absurd rfl q1
        · rw [e] at q2; exact absurd rfl q2
    have ho := (E.on _ hR h13 (by simpa using hb) hret).1
    show Res.go (t.setn (c s.nx + 1)) = Res.go (t.setn (c t.nx))
    rw [hnx, ho]; rfl
theorem ite_mem {p : Prop} [Decidable p] (i a b : Nat) : (i + (if p then a else b)) ∈ ([a, b].map fun f => i + f) := by by_cases h : p <;> simp [h]
theorem step_mem (f : Nat → Nat) (v : IV) (s t : VS) (hs : Proofs.Ytjblkkffdhaiiab.step f v s = .go t) : t.nx ∈ Proofs.Ytjblkkffdhaiiab.nexts v s.nx := by
  unfold Proofs.Ytjblkkffdhaiiab.step at hs
  obtain ⟨_, hnx, _, h14, h15⟩ := doK_next _ _ _ _ _ _ hs
  have hr := kd_range v
  unfold Proofs.Ytjblkkffdhaiiab.nexts fars
  have hret : ¬ isRet v = true := fun hq => by
    rcases (isRet_iff _).1 hq with e | e
    · rw [e] at h14; exact h14 rfl
    · rw [e] at h15; exact h15 rfl
  rw [if_neg hret]
  have e1 : s.tick.nx = s.nx + 1 := rfl
  by_cases h13 : kd v = 13
  · rw [if_pos h13]
    rw [h13] at hs
    have h2 : Res.go (s.tick.setn (s.tick.nx + v.k)) = .go t := hs
    injection h2 with h2
    subst h2
    simp [VS.setn, VS.tick]
  rw [if_neg h13]
  by_cases hb : isBr v = true
  · rw [if_pos hb]
    rcases (isBr_iff _).1 hb with e | e | e | e
    · rw [e] at hs
      have h2 : Res.go (s.tick.setn (s.tick.nx + (if s.tick.a = oth v s then v.t else v.f))) = .go t := hs
      injection h2 with h2
      subst h2
      exact ite_mem _ _ _
    · rw [e] at hs
      have h2 : Res.go (s.tick.setn (s.tick.nx + (if oth v s < s.tick.a then v.t else v.f))) = .go t := hs
      injection h2 with h2
      subst h2
      exact ite_mem _ _ _
    · rw [e] at hs
      have h2 : Res.go (s.tick.setn (s.tick.nx + (if oth v s ≤ s.tick.a then v.t else v.f))) = .go t := hs
      injection h2 with h2
      subst h2
      exact ite_mem _ _ _
    · rw [e] at hs
      have h2 : Res.go (s.tick.setn (s.tick.nx + (if s.tick.a &&& oth v s ≠ 0 then v.t else v.f))) = .go t := hs
      injection h2 with h2
      subst h2
      exact ite_mem _ _ _
  · rw [if_neg hb]
    rw [e1] at hnx
    rcases hnx with e | ⟨e, _⟩ | ⟨e, _⟩
    · rw [e]; simp
    · exact absurd (show kd v = 13 by omega) h13
    · exact absurd ((isBr_iff _).2 (by omega)) hb
/-- What is seen of a run's end. -/
def obs (p : Nat × VS) : Nat × Nat × List Nat := (p.1, p.2.st, p.2.ld)
theorem Emb.run (E : Emb g h c R) (f : Nat → Nat) : ∀ (m : Nat) (s : VS), R s.nx → (runF h f m (s.setn (c s.nx))).map obs = (runF g f m s).map obs := by
  intro m
  induction m with
  | zero => intro s _; rfl
  | succ m ih =>
    intro s hR
    unfold runF
    show Option.map obs (match Proofs.Ytjblkkffdhaiiab.step f (h (c s.nx)) (s.setn (c s.nx)) with
      | .go s' => runF h f m s'
      | .stop v s' => some (v, s')) = _
    rcases E.step f s hR with e | ⟨n, t, e1, e2⟩
    · rw [e]
      cases hs : Proofs.Ytjblkkffdhaiiab.step f (g s.nx) s with
      | go t => exact ih t ((E.nexts _ hR).2 _ (step_mem _ _ _ _ hs))
      | stop n t => rfl
    · rw [e1, e2]
      rfl
/-- The longest ways are as long. -/
theorem Emb.steps (E : Emb g h c R) {n N : Nat} (hn : ∀ i, R i → i < n) (hN : ∀ i, R i → c i < N) : ∀ d i, R i → n - i = d → stepsF h N (c i) = stepsF g n i := by
  intro d
  induction d using Nat.strongRecOn with
  | _ d ih =>
    intro i hi hd
    rw [stepsF_eq g n i (hn i hi), stepsF_eq h N (c i) (hN i hi)]
    obtain ⟨e, hm⟩ := E.nexts i hi
    rw [e]
    congr 1
    unfold maxl
    rw [List.foldl_map]
    have hgen : ∀ (l : List Nat), (∀ j ∈ l, j ∈ Proofs.Ytjblkkffdhaiiab.nexts (g i) i) → ∀ b, l.foldl (fun b to => max b (stepsF h N (c to))) b = l.foldl (fun b to => max b (stepsF g n to)) b := by
      intro l
      induction l with
      | nil => intro _ b; rfl
      | cons x l ihl =>
        intro hl b
        have hx := hl x (List.mem_cons_self ..)
        have hgt := next_gt hx
        have hlt := hn x (hm x hx)
        simp only [List.foldl_cons]
        rw [ih (n - x) (by omega) x (hm x hx) rfl]
        exact ihl (fun j hj => hl j (List.mem_cons_of_mem _ hj)) _
    exact hgen _ (fun j hj => hj) 0
/-- What leads on without having stored in a cell leads on there. -/
theorem reach_back {g : Nat → IV} {n : Nat} (k j : Nat) (h : reach g k n j = true) : j = 0 ∨ ∃ i, i < n ∧ i < j ∧ reach g k n i = true ∧ (isSt (g i) && (g i).k == k) = false ∧ j ∈ Proofs.Ytjblkkffdhaiiab.nexts (g i) i := by
  suffices hs : ∀ t, t ≤ n → reach g k t j = true → j = 0 ∨ ∃ i, i < n ∧ i < j ∧ reach g k n i = true ∧ (isSt (g i) && (g i).k == k) = false ∧ j ∈ Proofs.Ytjblkkffdhaiiab.nexts (g i) i from hs n (Nat.le_refl _) h
  intro t
  induction t with
  | zero => intro _ h; left; simpa [reach] using h
  | succ t ih =>
    intro ht h
    have h' : (reach g k t j || (reach g k t t && !(isSt (g t) && (g t).k == k) && (fars (g t)).any (fun f => j == t + 1 + f))) = true := h
    rw [Bool.or_eq_true] at h'
    rcases h' with h' | h'
    · exact ih (by omega) h'
    · rw [Bool.and_eq_true, Bool.and_eq_true] at h'
      have hn := (any_next (g t) t j).1 h'.2
      exact .inr ⟨t, by omega, next_gt hn, by rw [reach_late g k t n t (Nat.le_refl _) (by omega)]; exact h'.1.1, by have := h'.1.2; rwa [Bool.not_eq_true'] at this, hn⟩
theorem reach_zero (g : Nat → IV) (k n : Nat) : reach g k n 0 = true := reach_mono g k n 0 0 (Nat.zero_le _) rfl
theorem reach_next {g : Nat → IV} {n i j : Nat} (k : Nat) (hi : i < n) (hw : reach g k n i = true) (hs : (isSt (g i) && (g i).k == k) = false) (h : j ∈ Proofs.Ytjblkkffdhaiiab.nexts (g i) i) : reach g k n j = true := by
  rw [reach_late g k i n i (Nat.le_refl _) (by omega)] at hw
  refine reach_mono g k n (i + 1) j (by omega) ?_
  show (reach g k i j || (reach g k i i && !(isSt (g i) && (g i).k == k) && (fars (g i)).any (fun f => j == i + 1 + f))) = true
  rw [hw, hs, (any_next (g i) i j).2 h]
  simp
theorem Emb.reach (E : Emb g h c R) {n N : Nat} (h0 : c 0 = 0) (hR0 : R 0) (hn : ∀ i, R i → i < n) (hsur : ∀ p, p < N → ∃ i, R i ∧ c i = p) (hinj : ∀ i j, R i → R j → c i = c j → i = j) (k : Nat) :
    ∀ p i, R i → c i = p → Proofs.Ytjblkkffdhaiiab.reach h k N p = true → Proofs.Ytjblkkffdhaiiab.reach g k n i = true := by
  intro p
  induction p using Nat.strongRecOn with
  | _ p ih =>
    intro i hi he hr
    rcases reach_back k p hr with rfl | ⟨q, hq, hqp, hrq, hst, hm⟩
    · have : i = 0 := hinj i 0 hi hR0 (by rw [he, h0])
      subst this
      exact reach_zero _ _ _
    · obtain ⟨j, hj, rfl⟩ := hsur q hq
      have hrj := ih (c j) hqp j hj rfl hrq
      obtain ⟨en, hmn⟩ := E.nexts j hj
      rw [en] at hm
      obtain ⟨x, hx, hxe⟩ := List.mem_map.1 hm
      have : x = i := hinj x i (hmn x hx) hi (by rw [hxe, he])
      subst this
      refine reach_next k (hn j hj) hrj ?_ hx
      rw [← hst, isSt_of (E.code j hj)]
      by_cases hs : isSt (g j) = true
      · have h13 : kd (g j) ≠ 13 := fun e => by unfold isSt at hs; rw [e] at hs; exact absurd hs (by decide)
        rw [E.ks j hj h13]
      · rw [Bool.not_eq_true] at hs; rw [hs]; rfl
end
end Go.Proofs.Ytjblkkffdhaiiab

/-
  Pure: the pruned program is the program carried along by the places that are reached; it may run, all of it is reached, and pruned again it is the same.
-/
namespace Go.Proofs.Ytjblkkffdhaiiab
open Go.RowKit

section
variable {g : Nat → IV} {n : Nat}
theorem cnt_lt {i j : Nat} (hi : way g n i = true) (h : i < j) : cnt g n i < cnt g n j := by
  have h1 := cnt_at hi
  have h2 := cnt_mono g n j (i + 1) (by omega)
  omega
theorem cnt_inj {i j : Nat} (hi : way g n i = true) (hj : way g n j = true) (h : cnt g n i = cnt g n j) : i = j := by
  rcases Nat.lt_trichotomy i j with h1 | h1 | h1
  · have := cnt_lt hi h1; omega
  · exact h1
  · have := cnt_lt hj h1; omega
theorem cnt_sur : ∀ k p, p < cnt g n k → ∃ i, i < k ∧ way g n i = true ∧ cnt g n i = p
  | 0, p, h => by simp [cnt] at h
  | k + 1, p, h => by
    by_cases hw : way g n k = true
    · rw [cnt_at hw] at h
      by_cases he : p = cnt g n k
      · exact ⟨k, by omega, hw, he.symm⟩
      · obtain ⟨i, h1, h2, h3⟩ := cnt_sur k p (by omega)
        exact ⟨i, by omega, h2, h3⟩
    · have : cnt g n (k + 1) = cnt g n k := by
        show cnt g n k + (if way g n k = true then 1 else 0) = _
        rw [if_neg hw]; rfl
      obtain ⟨i, h1, h2, h3⟩ := cnt_sur k p (by omega)
      exact ⟨i, by omega, h2, h3⟩
theorem rupto_at : ∀ k hk i (hi : i < n) (hw : way g n i = true), i < k → (rupto g n k hk)[cnt g n i]? = some ⟨i, hi, hw⟩
  | 0, _, i, _, _, h => by omega
  | k + 1, hk, i, hi, hw, h => by
    unfold rupto
    by_cases he : i = k
    · subst he
      rw [dif_pos hw, List.getElem?_append_right (by rw [rupto_length]; exact Nat.le_refl _), rupto_length, Nat.sub_self]
      rfl
    · have hlt := cnt_lt hw (show i < k by omega)
      rw [List.getElem?_append_left (by rw [rupto_length]; exact hlt)]
      exact rupto_at k (by omega) i hi hw (by omega)
theorem prn_at {i : Nat} (hi : i < n) (hw : way g n i = true) : prn g n (cnt g n i) = mv g n i := by
  unfold prn
  rw [rupto_at n (Nat.le_refl _) i hi hw hi]
theorem mv_c (i : Nat) : (mv g n i).c = (g i).c := by unfold mv; split; rfl; split <;> rfl
theorem way_far {i f : Nat} (F : Fmd g n) (hi : i < n) (hw : way g n i = true) (hf : f ∈ fars (g i)) : cnt g n i + 1 + (cnt g n (i + 1 + f) - cnt g n i - 1) = cnt g n (i + 1 + f) ∧ way g n (i + 1 + f) = true := by
  obtain ⟨_, _, h3, _⟩ := far_facts F hi hw hf
  exact ⟨by omega, way_next F hi hw (List.mem_map.2 ⟨f, hf, rfl⟩)⟩
theorem br_not13 {v : IV} (h : isBr v = true) : kd v ≠ 13 := fun e => by
  rcases (isBr_iff _).1 h with e2 | e2 | e2 | e2 <;> omega
theorem br_notret {v : IV} (h : isBr v = true) : ¬ isRet v = true := fun e => by
  rcases (isRet_iff _).1 e with e1 | e1 <;> rcases (isBr_iff _).1 h with e2 | e2 | e2 | e2 <;> omega
theorem j_notret {v : IV} (h : kd v = 13) : ¬ isRet v = true := fun e => by
  rcases (isRet_iff _).1 e with e1 | e1 <;> omega
theorem fars_j {v : IV} (h : kd v = 13) : fars v = [v.k] := by unfold fars; rw [if_neg (j_notret h), if_pos h]
theorem fars_b {v : IV} (h : isBr v = true) : fars v = [v.t, v.f] := by unfold fars; rw [if_neg (br_notret h), if_neg (br_not13 h), if_pos h]
theorem fars_o {v : IV} (h13 : kd v ≠ 13) (hb : isBr v = false) (hr : isRet v = false) : fars v = [0] := by unfold fars; rw [if_neg (by rw [hr]; decide), if_neg h13, if_neg (by rw [hb]; decide)]
theorem emb_prn (F : Fmd g n) : Emb g (prn g n) (cnt g n) (fun i => way g n i = true) where
  code i hw := by rw [prn_at (way_lt F i hw) hw, mv_c]
  ks i hw h13 := by
    rw [prn_at (way_lt F i hw) hw]
    unfold mv
    rw [if_neg h13]
    split <;> rfl
  jump i hw h13 := by
    rw [prn_at (way_lt F i hw) hw]
    unfold mv
    rw [if_pos h13]
    exact way_far F (way_lt F i hw) hw (by rw [fars_j h13]; simp)
  bt i hw hb := by
    rw [prn_at (way_lt F i hw) hw]
    unfold mv
    rw [if_neg (br_not13 hb), if_pos hb]
    exact way_far F (way_lt F i hw) hw (by rw [fars_b hb]; simp)
  bf i hw hb := by
    rw [prn_at (way_lt F i hw) hw]
    unfold mv
    rw [if_neg (br_not13 hb), if_pos hb]
    exact way_far F (way_lt F i hw) hw (by rw [fars_b hb]; simp)
  on i hw h13 hb hr := by
    have := way_far F (way_lt F i hw) hw (f := 0) (by rw [fars_o h13 hb hr]; simp)
    exact ⟨(cnt_at hw).symm, this.2⟩
theorem cnt_zero : cnt g n 0 = 0 := rfl
theorem cnt_in (F : Fmd g n) (i : Nat) (hw : way g n i = true) : cnt g n i < cnt g n n := cnt_lt hw (way_lt F i hw)
theorem check_loads {g : Nat → IV} {n : Nat} (h : (checkF g n).2 = 0) : ∀ i, i < n → isLd (g i) = true → reach g (g i).k n i = false := by
  intro i hi hl
  have hf : (formedF g n).2 = 0 := by
    unfold checkF at h
    by_cases hq : (formedF g n).2 = 0
    · exact hq
    · rw [if_neg hq] at h; exact h
  unfold checkF at h
  rw [if_pos hf] at h
  rcases pick_cases (fun i => if isLd (g i) = true ∧ reach g (g i).k n i = true then 12 else 0) n (0, 0) with ⟨h1, _⟩ | ⟨k, _, hk, _, he⟩
  · have := h1 i hi
    cases hr : reach g (g i).k n i
    · rfl
    · simp [hl, hr] at this
  · rw [he] at h
    exact absurd h hk
theorem check_of {g : Nat → IV} {n : Nat} (F : Fmd g n) (hl : ∀ i, i < n → isLd (g i) = true → reach g (g i).k n i = false) : (checkF g n).2 = 0 := by
  have hf : formedF g n = (0, 0) := by
    unfold formedF
    rw [if_neg (by have := F.pos; omega), if_neg (by have := F.le; omega), if_pos F.last]
    exact pick_none _ F.al
  unfold checkF
  rw [hf]
  rw [if_pos rfl, pick_none]
  intro i hi
  by_cases h : isLd (g i) = true
  · simp [hl i hi h]
  · simp [h]
/-- What is right alone is right where it is carried to. -/
theorem alone_to {v v' : IV} {r r' : Nat} (h : alone v r = 0) (ec : v'.c = v.c) (ek : kd v ≠ 13 → v'.k = v.k) (hj : kd v = 13 → v'.k < r') (hb : isBr v = true → v'.t < r' ∧ v'.f < r') : alone v' r' = 0 := by
  unfold alone at h ⊢
  rw [kd_of ec, xx_of ec, isLd_of ec, isSt_of ec, isBr_of ec]
  by_cases h13 : kd v = 13
  · have hj' := hj h13
    have hl : isLd v = false := by unfold isLd; rw [h13]; rfl
    have hs : isSt v = false := by unfold isSt; rw [h13]; rfl
    have hbr : isBr v = false := by unfold isBr; rw [h13]; rfl
    rw [h13, hl, hs, hbr]
    simp
    omega
  · rw [ek h13]
    split at h
    · exact absurd h (by decide)
    · rename_i c1
      rw [if_neg c1]
      split at h
      · exact absurd h (by decide)
      · rename_i c2
        rw [if_neg c2]
        split at h
        · exact absurd h (by decide)
        · rename_i c3
          rw [if_neg c3]
          split at h
          · exact absurd h (by decide)
          · rename_i c4
            rw [if_neg c4]
            split at h
            · exact absurd h (by decide)
            · rename_i c5
              rw [if_neg c5, if_neg]
              rintro (⟨e, _⟩ | ⟨e, e2⟩)
              · exact h13 e
              · have := hb e
                omega
/-- A program that carries another one whole may run, if that one may. -/
theorem Emb.check {g h : Nat → IV} {c : Nat → Nat} {R : Nat → Prop} (E : Emb g h c R) {n N : Nat} (hc : (checkF g n).2 = 0) (hN : N ≤ 4096) (h0 : c 0 = 0) (hR0 : R 0) (hn : ∀ i, R i → i < n) (hcN : ∀ i, R i → c i < N) (hsur : ∀ p, p < N → ∃ i, R i ∧ c i = p) (hinc : ∀ i j, R i → R j → i < j → c i < c j) : (checkF h N).2 = 0 := by
  have F := fmd_of hc
  have hpos : 0 < N := by have := hcN 0 hR0; omega
  have hinj : ∀ i j, R i → R j → c i = c j → i = j := fun i j hi hj he => by
    rcases Nat.lt_trichotomy i j with h1 | h1 | h1
    · have := hinc i j hi hj h1; omega
    · exact h1
    · have := hinc j i hj hi h1; omega
  refine check_of ⟨hpos, hN, ?_, ?_⟩ ?_
  · intro p hp
    obtain ⟨i, hi, rfl⟩ := hsur p hp
    refine alone_to (F.al i (hn i hi)) (E.code i hi) (E.ks i hi) (fun h13 => ?_) (fun hb => ?_)
    · have h1 := E.jump i hi h13
      have h2 := hcN _ h1.2
      omega
    · have h1 := E.bt i hi hb
      have h2 := hcN _ h1.2
      have h3 := E.bf i hi hb
      have h4 := hcN _ h3.2
      omega
  · obtain ⟨i, hi, he⟩ := hsur (N - 1) (by omega)
    rw [← he, isRet_of (E.code i hi)]
    cases hr : isRet (g i)
    · exfalso
      obtain ⟨j, hj⟩ : ∃ j, j ∈ Proofs.Ytjblkkffdhaiiab.nexts (g i) i := by
        unfold Proofs.Ytjblkkffdhaiiab.nexts fars
        rw [hr]
        simp only [Bool.false_eq_true, if_false]
        split
        · exact ⟨_, List.mem_map.2 ⟨_, List.mem_singleton.2 rfl, rfl⟩⟩
        · split
          · exact ⟨_, List.mem_map.2 ⟨_, List.mem_cons_self .., rfl⟩⟩
          · exact ⟨_, List.mem_map.2 ⟨_, List.mem_singleton.2 rfl, rfl⟩⟩
      have h1 := (E.nexts i hi).2 j hj
      have h2 := hinc i j hi h1 (next_gt hj)
      have h3 := hcN j h1
      omega
    · rfl
  · intro p hp hl
    obtain ⟨i, hi, rfl⟩ := hsur p hp
    rw [isLd_of (E.code i hi)] at hl
    have h13 : kd (g i) ≠ 13 := fun e => by unfold isLd at hl; rw [e] at hl; exact absurd hl (by decide)
    have hg := check_loads hc i (hn i hi) hl
    cases hr : Proofs.Ytjblkkffdhaiiab.reach h (h (c i)).k N (c i)
    · rfl
    · rw [E.ks i hi h13] at hr
      have := E.reach h0 hR0 hn hsur hinj (g i).k (c i) i hi rfl hr
      rw [this] at hg
      exact absurd hg (by decide)
/-- All of it is reached. -/
theorem Emb.all {g h : Nat → IV} {c : Nat → Nat} {R : Nat → Prop} (E : Emb g h c R) {N : Nat} (Fh : Fmd h N) (h0 : c 0 = 0) (hcN : ∀ i, R i → c i < N) (hback : ∀ j, R j → j = 0 ∨ ∃ i, R i ∧ i < j ∧ j ∈ Proofs.Ytjblkkffdhaiiab.nexts (g i) i) : ∀ j, R j → way h N (c j) = true := by
  intro j
  induction j using Nat.strongRecOn with
  | _ j ih =>
    intro hj
    rcases hback j hj with rfl | ⟨i, hi, hij, hm⟩
    · rw [h0]; exact way_zero _ _
    · have := ih i hij hi
      refine way_next Fh (hcN i hi) this ?_
      rw [(E.nexts i hi).1]
      exact List.mem_map.2 ⟨j, hm, rfl⟩

/-- The pruned program may run. -/
theorem prn_check (hc : (checkF g n).2 = 0) : (checkF (prn g n) (cnt g n n)).2 = 0 := by
  have F := fmd_of hc
  refine (emb_prn F).check hc (Nat.le_trans (cnt_le g n n) F.le) rfl (way_zero g n) (fun i => way_lt F i) (cnt_in F) ?_ (fun i j hi _ h => cnt_lt hi h)
  intro p hp
  obtain ⟨i, _, h2, h3⟩ := cnt_sur n p hp
  exact ⟨i, h2, h3⟩
theorem prn_way (hc : (checkF g n).2 = 0) (p : Nat) (hp : p < cnt g n n) : way (prn g n) (cnt g n n) p = true := by
  have F := fmd_of hc
  obtain ⟨i, _, h2, rfl⟩ := cnt_sur n p hp
  refine (emb_prn F).all (fmd_of (prn_check hc)) rfl (cnt_in F) (fun j hj => ?_) i h2
  rcases way_back j hj with h | ⟨i, _, h4, h5, h6⟩
  · exact .inl h
  · exact .inr ⟨i, h5, h4, h6⟩
/-- Where all is reached, pruning leaves all as it is. -/
theorem cnt_id {h : Nat → IV} {N : Nat} (hw : ∀ p, p < N → way h N p = true) : ∀ k, k ≤ N → cnt h N k = k
  | 0, _ => rfl
  | k + 1, hk => by
    have := cnt_id hw k (by omega)
    rw [cnt_at (hw k (by omega)), this]
theorem prn_id {h : Nat → IV} {N : Nat} (F : Fmd h N) (hw : ∀ p, p < N → way h N p = true) (p : Nat) (hp : p < N) : prn h N p = h p := by
  have h1 := prn_at hp (hw p hp)
  rw [cnt_id hw p (by omega)] at h1
  rw [h1]
  unfold mv
  by_cases h13 : kd (h p) = 13
  · rw [if_pos h13]
    have hl := next_lt F hp (List.mem_map.2 ⟨(h p).k, by rw [fars_j h13]; simp, rfl⟩ : p + 1 + (h p).k ∈ Proofs.Ytjblkkffdhaiiab.nexts (h p) p)
    rw [cnt_id hw p (by omega), cnt_id hw _ (by omega), show p + 1 + (h p).k - p - 1 = (h p).k by omega]
  rw [if_neg h13]
  by_cases hb : isBr (h p) = true
  · rw [if_pos hb]
    have ht := next_lt F hp (List.mem_map.2 ⟨(h p).t, by rw [fars_b hb]; simp, rfl⟩ : p + 1 + (h p).t ∈ Proofs.Ytjblkkffdhaiiab.nexts (h p) p)
    have hf := next_lt F hp (List.mem_map.2 ⟨(h p).f, by rw [fars_b hb]; simp, rfl⟩ : p + 1 + (h p).f ∈ Proofs.Ytjblkkffdhaiiab.nexts (h p) p)
    rw [cnt_id hw p (by omega), cnt_id hw _ (by omega), cnt_id hw _ (by omega), show p + 1 + (h p).t - p - 1 = (h p).t by omega, show p + 1 + (h p).f - p - 1 = (h p).f by omega]
  rw [if_neg hb]
theorem prn_steps (hc : (checkF g n).2 = 0) : lng (prn g n) (cnt g n n) = lng g n := by
  have F := fmd_of hc
  rw [lng_steps, lng_steps]
  exact (emb_prn F).steps (fun i => way_lt F i) (cnt_in F) n 0 (way_zero g n) (by omega)
theorem runF_more (g : Nat → IV) (f : Nat → Nat) : ∀ m k s r, runF g f m s = some r → runF g f (m + k) s = some r := by
  intro m
  induction m with
  | zero => intro k s r h; cases h
  | succ m ih =>
    intro k s r h
    rw [show m + 1 + k = (m + k) + 1 by omega]
    unfold runF at h ⊢
    cases hs : Proofs.Ytjblkkffdhaiiab.step f (g s.nx) s with
    | go t => rw [hs] at h; exact ih k t r h
    | stop v t => rw [hs] at h; exact h
end
end Go.Proofs.Ytjblkkffdhaiiab

/-
  The laws' own all of layer 7 and of the whole; the pruned program's instructions are such.
-/
namespace Go.Proofs.Ytjblkkffdhaiiab
open Go.RowKit

set_option maxRecDepth 100000 in
set_option maxHeartbeats 4000000 in
theorem all7_any (A : Option Addr) (n c : Nat) (g : Nat → IV) (w : World) (hn : n ≤ 1000000) (hr : Ins w w.heap.size A n c g) :
    Calls Try.prog 15 #[.slice A n c] w fun e w' => ∃ A' c', e = .returned (.slice A' n c') ∧ OwnC w' w.heap.size 27 4 A' n c' (icell g) ∧ Below w.heap.size w w' := by
  go_enter Try.func15, Try.ntmps15
  go_wp2
  go_loopw [3, 4] (fun v i wr => ∃ (k : Nat) (A' : Option Addr) (c' : Nat), k ≤ n ∧ i = .int .i64 k ∧ v = .slice A' k c' ∧ OwnC wr w.heap.size 27 4 A' k c' (icell g) ∧ Below w.heap.size w wr)
    (fun _ i _ => n - (intOf i).toNat)
  case atStart => exact ⟨0, none, 0, Nat.zero_le _, rfl, rfl, OwnC.nil_, Below.refl _ _⟩
  case round =>
    obtain ⟨k, A', c', hk, rfl, rfl, hown, hB⟩ := hrel
    by_cases hlt : k < n
    · obtain ⟨b, off, rfl, hb, hc⟩ := (hr.below hB).at_ (by omega)
      obtain ⟨q0, q1, q2, q3⟩ := hc k hlt
      have HW := Lib.hid (icell_cat g k)
      generalize g k = v at *
      have i1 : (0 : Int) ≤ (k : Int) := by omega
      have i2 : (k : Int) < (n : Int) := by omega
      clear hc
      go_wp2
      go_region_held3 (fun w' => w'.cell? ⟨b, off + k * 4, none⟩ = some (.int .u16 v.c) ∧ w'.cell? ⟨b, off + k * 4 + 1, none⟩ = some (.int .u8 v.t) ∧ w'.cell? ⟨b, off + k * 4 + 2, none⟩ = some (.int .u8 v.f) ∧ w'.cell? ⟨b, off + k * 4 + 3, none⟩ = some (.int .u32 v.k))
        (first
          | go_keep
          | exact ⟨(hK.cell (p := ⟨b, off + k * 4, none⟩) hb).trans q0, (hK.cell (p := ⟨b, off + k * 4 + 1, none⟩) hb).trans q1, (hK.cell (p := ⟨b, off + k * 4 + 2, none⟩) hb).trans q2, (hK.cell (p := ⟨b, off + k * 4 + 3, none⟩) hb).trans q3⟩)
        (first | (refine step_cells2 (by rfl) _ _ _ 27 (by rfl) Try.underlying23 infoI (by rfl) (by decide) (by rfl) (hown.alloc _).drew (by rfl) (one_inst wr v 27) (fun i _ => icell_one _ i) (by unfold maxLen; omega) (by omega) (by have := hB.size; simp; omega) (k + 1) rfl (icell g) HW.out ?_; rintro A2 c2 w2 hown2 hB2; have hK : Below w.heap.size wr w2 := ((Below.refl _ _).alloc hB.size _).drew.trans hB2))
      go_wp2
      exact ⟨⟨k + 1, A2, c2, by omega, by go_num, rfl, hown2, hB.trans hK⟩, by simp [intOf]; omega⟩
    · obtain rfl : k = n := by omega
      go_wp2
      go_ret
      exact ⟨_, _, rfl, hown, hB⟩
set_option maxRecDepth 100000 in
set_option maxHeartbeats 4000000 in
theorem allT_any (A : Option Addr) (n c : Nat) (g : Nat → IV) (w : World) (hn : n ≤ 1000000) (hr : Ins w w.heap.size A n c g) :
    Calls Try.prog 18 #[.slice A n c] w fun e w' => ∃ A' c', e = .returned (.slice A' n c') ∧ OwnC w' w.heap.size 27 4 A' n c' (icell g) ∧ Below w.heap.size w w' := by
  go_enter Try.func18, Try.ntmps18
  go_wp2
  go_loopw [3, 4] (fun v i wr => ∃ (k : Nat) (A' : Option Addr) (c' : Nat), k ≤ n ∧ i = .int .i64 k ∧ v = .slice A' k c' ∧ OwnC wr w.heap.size 27 4 A' k c' (icell g) ∧ Below w.heap.size w wr)
    (fun _ i _ => n - (intOf i).toNat)
  case atStart => exact ⟨0, none, 0, Nat.zero_le _, rfl, rfl, OwnC.nil_, Below.refl _ _⟩
  case round =>
    obtain ⟨k, A', c', hk, rfl, rfl, hown, hB⟩ := hrel
    by_cases hlt : k < n
    · obtain ⟨b, off, rfl, hb, hc⟩ := (hr.below hB).at_ (by omega)
      obtain ⟨q0, q1, q2, q3⟩ := hc k hlt
      have HW := Lib.hid (icell_cat g k)
      generalize g k = v at *
      have i1 : (0 : Int) ≤ (k : Int) := by omega
      have i2 : (k : Int) < (n : Int) := by omega
      clear hc
      go_wp2
      go_region_held3 (fun w' => w'.cell? ⟨b, off + k * 4, none⟩ = some (.int .u16 v.c) ∧ w'.cell? ⟨b, off + k * 4 + 1, none⟩ = some (.int .u8 v.t) ∧ w'.cell? ⟨b, off + k * 4 + 2, none⟩ = some (.int .u8 v.f) ∧ w'.cell? ⟨b, off + k * 4 + 3, none⟩ = some (.int .u32 v.k))
        (first
          | go_keep
          | exact ⟨(hK.cell (p := ⟨b, off + k * 4, none⟩) hb).trans q0, (hK.cell (p := ⟨b, off + k * 4 + 1, none⟩) hb).trans q1, (hK.cell (p := ⟨b, off + k * 4 + 2, none⟩) hb).trans q2, (hK.cell (p := ⟨b, off + k * 4 + 3, none⟩) hb).trans q3⟩)
        (first | (refine step_cells2 (by rfl) _ _ _ 27 (by rfl) Try.underlying23 infoI (by rfl) (by decide) (by rfl) (hown.alloc _).drew (by rfl) (one_inst wr v 27) (fun i _ => icell_one _ i) (by unfold maxLen; omega) (by omega) (by have := hB.size; simp; omega) (k + 1) rfl (icell g) HW.out ?_; rintro A2 c2 w2 hown2 hB2; have hK : Below w.heap.size wr w2 := ((Below.refl _ _).alloc hB.size _).drew.trans hB2))
      go_wp2
      exact ⟨⟨k + 1, A2, c2, by omega, by go_num, rfl, hown2, hB.trans hK⟩, by simp [intOf]; omega⟩
    · obtain rfl : k = n := by omega
      go_wp2
      go_ret
      exact ⟨_, _, rfl, hown, hB⟩
theorem mv_ok {g : Nat → IV} {n i : Nat} (F : Fmd g n) (hw : way g n i = true) (hok : (g i).ok) : (mv g n i).ok := by
  have hi := way_lt F i hw
  obtain ⟨h1, h2, h3, h4⟩ := hok
  unfold mv
  split
  · rename_i h13
    obtain ⟨_, _, _, a4⟩ := far_facts (f := (g i).k) F hi hw (by rw [fars_j h13]; simp)
    exact ⟨h1, h2, h3, Nat.lt_of_le_of_lt a4 h4⟩
  · split
    · rename_i hb
      obtain ⟨_, _, _, a4⟩ := far_facts (f := (g i).t) F hi hw (by rw [fars_b hb]; simp)
      obtain ⟨_, _, _, b4⟩ := far_facts (f := (g i).f) F hi hw (by rw [fars_b hb]; simp)
      exact ⟨h1, Nat.lt_of_le_of_lt a4 h2, Nat.lt_of_le_of_lt b4 h3, h4⟩
    · exact ⟨h1, h2, h3, h4⟩
theorem prn_ok {g : Nat → IV} {n : Nat} (F : Fmd g n) (hok : ∀ i, i < n → (g i).ok) (p : Nat) (hp : p < cnt g n n) : (prn g n p).ok := by
  obtain ⟨i, hi, hw, rfl⟩ := cnt_sur n p hp
  rw [prn_at hi hw]
  exact mv_ok F hw (hok i hi)
theorem cnt_pos {g : Nat → IV} {n : Nat} (F : Fmd g n) : 0 < cnt g n n := by
  have h1 := cnt_at (way_zero g n)
  have h2 := cnt_mono g n n 1 (by have := F.pos; omega)
  simp only [Nat.zero_add] at h1
  omega
/-- A run is a run of the pruned one. -/
theorem prn_run {g : Nat → IV} {n : Nat} (hc : (checkF g n).2 = 0) (f : Nat → Nat) {val : Nat} {sF : VS} (hr : runF g f n zst = some (val, sF)) : ∃ sG, runF (prn g n) f (cnt g n n) zst = some (val, sG) ∧ sG.st = sF.st ∧ sG.ld = sF.ld := by
  have F := fmd_of hc
  have hc2 := prn_check hc
  have F2 := fmd_of hc2
  obtain ⟨v2, s2, h2⟩ := run_total f (prn g n) (cnt g n n) F2.al F2.last (cnt g n n) zst F2.pos (by show _ - 0 ≤ _; omega)
  have h3 := (emb_prn F).run f n zst (way_zero g n)
  rw [hr] at h3
  have h4 := runF_more _ _ _ (n - cnt g n n) _ _ h2
  rw [show cnt g n n + (n - cnt g n n) = n by have := cnt_le g n n; omega] at h4
  have e : zst.setn (cnt g n zst.nx) = zst := rfl
  rw [e, h4] at h3
  simp [obs] at h3
  obtain ⟨rfl, h5, h6⟩ := h3
  exact ⟨s2, h2, h5, h6⟩
/-- All that is known of the pruned program. -/
theorem prn_facts {g : Nat → IV} {n : Nat} (hc : (checkF g n).2 = 0) (hok : ∀ i, i < n → (g i).ok) : ∃ (P : Nat → IV) (N : Nat), prn g n = P ∧ cnt g n n = N ∧ 0 < N ∧ N ≤ n ∧ (checkF P N).2 = 0 ∧ (∀ i, i < N → (P i).ok) ∧ (∀ i, i < N → way P N i = true) ∧ cnt P N N = N ∧ (∀ i, i < N → prn P N i = P i) ∧ lng P N = lng g n := by
  have F := fmd_of hc
  have hc2 := prn_check hc
  exact ⟨_, _, rfl, rfl, cnt_pos F, cnt_le g n n, hc2, prn_ok F hok, prn_way hc, cnt_id (prn_way hc) _ (Nat.le_refl _), prn_id (fmd_of hc2) (prn_way hc), prn_steps hc⟩
end Go.Proofs.Ytjblkkffdhaiiab
