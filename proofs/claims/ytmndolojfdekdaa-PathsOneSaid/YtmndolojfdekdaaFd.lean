/-
  What is reached, by plain functions: a queue of what is to be looked at, and what it comes to. Nothing here speaks of a program text.
-/
import Derived.Test.YtmndolojfdekdaaKn
namespace Go.Proofs.Ytmndolojfdekdaa
open Go.RowKit

/-- Whether a way leads to the i-th one of n. -/
def way (g : Nat → IV) (n i : Nat) : Bool := reach g 16 n i
/-- What is known of a formed program. -/
structure Fmd (g : Nat → IV) (n : Nat) : Prop where
  pos : 0 < n
  le : n ≤ 4096
  al : ∀ i, i < n → alone (g i) (n - 1 - i) = 0
  last : isRet (g (n - 1)) = true
theorem reach_mono (g : Nat → IV) (c : Nat) : ∀ s t i, t ≤ s → reach g c t i = true → reach g c s i = true := by
  intro s
  induction s with
  | zero => intro t i h hr; obtain rfl : t = 0 := by omega
            exact hr
  | succ s ih =>
    intro t i h hr
    by_cases e : t = s + 1
    · subst e; exact hr
    · show (reach g c s i || _) = true
      rw [ih t i (by omega) hr]; rfl
theorem next_gt {v : IV} {i to : Nat} (h : to ∈ nexts v i) : i < to := by
  obtain ⟨f, _, rfl⟩ := List.mem_map.1 h
  omega
theorem next_lt {g : Nat → IV} {n i to : Nat} (F : Fmd g n) (hi : i < n) (h : to ∈ nexts (g i) i) : to < n := by
  obtain ⟨f, hf, rfl⟩ := List.mem_map.1 h
  exact fars_in g n i hi (F.al i hi) F.last f hf
theorem any_next (v : IV) (i j : Nat) : (fars v).any (fun f => j == i + 1 + f) = true ↔ j ∈ nexts v i := by
  rw [List.any_eq_true]
  constructor
  · rintro ⟨f, hf, e⟩
    exact List.mem_map.2 ⟨f, hf, by simpa using (beq_iff_eq.1 e).symm⟩
  · intro h
    obtain ⟨f, hf, rfl⟩ := List.mem_map.1 h
    exact ⟨f, hf, by simp⟩
theorem no_st {g : Nat → IV} {n i : Nat} (F : Fmd g n) (hi : i < n) : (isSt (g i) && (g i).k == 16) = false := by
  cases h : isSt (g i)
  · rfl
  · have := st_small (g i) _ (F.al i hi) h
    simp; omega
theorem way_zero (g : Nat → IV) (n : Nat) : way g n 0 = true := reach_mono g 16 n 0 0 (Nat.zero_le _) rfl
theorem way_at {g : Nat → IV} {n i : Nat} (hi : i ≤ n) : way g n i = reach g 16 i i := reach_late g 16 i n i (Nat.le_refl _) hi
theorem way_next {g : Nat → IV} {n i to : Nat} (F : Fmd g n) (hi : i < n) (hw : way g n i = true) (h : to ∈ nexts (g i) i) : way g n to = true := by
  rw [way_at (Nat.le_of_lt hi)] at hw
  refine reach_mono g 16 n (i + 1) to (by omega) ?_
  show (reach g 16 i to || (reach g 16 i i && !(isSt (g i) && (g i).k == 16) && (fars (g i)).any (fun f => to == i + 1 + f))) = true
  rw [hw, no_st F hi, (any_next (g i) i to).2 h]
  simp
theorem way_back {g : Nat → IV} {n : Nat} (j : Nat) (h : way g n j = true) : j = 0 ∨ ∃ i, i < n ∧ i < j ∧ way g n i = true ∧ j ∈ nexts (g i) i := by
  suffices hs : ∀ t, t ≤ n → reach g 16 t j = true → j = 0 ∨ ∃ i, i < n ∧ i < j ∧ way g n i = true ∧ j ∈ nexts (g i) i from hs n (Nat.le_refl _) h
  intro t
  induction t with
  | zero => intro _ h; left; simpa [reach] using h
  | succ t ih =>
    intro ht h
    have h' : (reach g 16 t j || (reach g 16 t t && !(isSt (g t) && (g t).k == 16) && (fars (g t)).any (fun f => j == t + 1 + f))) = true := h
    rw [Bool.or_eq_true] at h'
    rcases h' with h' | h'
    · exact ih (by omega) h'
    · rw [Bool.and_eq_true, Bool.and_eq_true] at h'
      have hn := (any_next (g t) t j).1 h'.2
      exact .inr ⟨t, by omega, next_gt hn, by rw [way_at (by omega)]; exact h'.1.1, hn⟩
theorem way_lt {g : Nat → IV} {n : Nat} (F : Fmd g n) (j : Nat) (h : way g n j = true) : j < n := by
  rcases way_back j h with rfl | ⟨i, hi, _, _, hn⟩
  · exact F.pos
  · exact next_lt F hi hn

/-- One place more is met. -/
def upd (M : Nat → Bool) (to : Nat) : Nat → Bool := fun i => M i || i == to
/-- How many of the first n are not met. -/
def unmet (M : Nat → Bool) : Nat → Nat
  | 0 => 0
  | n + 1 => unmet M n + (if M n = true then 0 else 1)
theorem unmet_late (M : Nat → Bool) (to : Nat) : ∀ n, n ≤ to → unmet (upd M to) n = unmet M n
  | 0, _ => rfl
  | n + 1, h => by
    have e : upd M to n = M n := by unfold upd; rw [show (n == to) = false from by simp; omega]; simp
    unfold unmet
    rw [unmet_late M to n (by omega), e]
theorem unmet_upd (M : Nat → Bool) (to : Nat) (hM : M to = false) : ∀ n, to < n → unmet (upd M to) n + 1 = unmet M n
  | 0, h => absurd h (Nat.not_lt_zero _)
  | n + 1, h => by
    by_cases e : n = to
    · subst e
      unfold unmet
      rw [unmet_late M n n (Nat.le_refl _), hM, show upd M n n = true from by simp [upd]]
      simp
    · have e2 : upd M to n = M n := by unfold upd; rw [show (n == to) = false from by simpa using e]; simp
      have := unmet_upd M to hM n (by omega)
      unfold unmet
      rw [e2]; omega
theorem unmet_none : ∀ n, unmet (fun _ => false) n = n
  | 0 => rfl
  | n + 1 => by unfold unmet; rw [unmet_none n]; rfl

/-- What holds while the queue is gone through: M are met, q wait, cur are still to be led to. -/
structure BI (g : Nat → IV) (n : Nat) (M : Nat → Bool) (q cur : List Nat) : Prop where
  zero : M 0 = true
  ways : ∀ i, M i = true → way g n i = true
  qm : ∀ i ∈ q, M i = true
  clo : ∀ i, M i = true → i ∈ q ∨ ∀ to ∈ nexts (g i) i, M to = true ∨ to ∈ cur
  curw : ∀ to ∈ cur, way g n to = true
  room : q.length + unmet M n ≤ n
section
variable {g : Nat → IV} {n : Nat} {M : Nat → Bool} {q cur : List Nat}
theorem upd_self (M : Nat → Bool) (to : Nat) : upd M to to = true := by simp [upd]
theorem upd_keep {M : Nat → Bool} {i : Nat} (to : Nat) (h : M i = true) : upd M to i = true := by simp [upd, h]
theorem BI.init (F : Fmd g n) : BI g n (upd (fun _ => false) 0) [0] [] := by
  have hr := unmet_upd (fun _ => false) 0 rfl n F.pos
  rw [unmet_none] at hr
  refine ⟨upd_self _ _, fun i h => ?_, fun i h => ?_, fun i h => ?_, (fun _ h => by cases h), by show 1 + _ ≤ _; omega⟩
  · have : i = 0 := by simpa [upd] using h
    subst this; exact way_zero _ _
  · rw [List.mem_singleton.1 h]; exact upd_self _ _
  · have : i = 0 := by simpa [upd] using h
    subst this; exact .inl (List.mem_singleton.2 rfl)
theorem BI.pop {i : Nat} (F : Fmd g n) (h : BI g n M (i :: q) []) : BI g n M q (nexts (g i) i) := by
  have hw := h.ways i (h.qm i (List.mem_cons_self ..))
  refine ⟨h.zero, h.ways, fun j hj => h.qm j (List.mem_cons_of_mem _ hj), fun j hj => ?_, fun to ht => way_next F (way_lt F i hw) hw ht, by have := h.room; simp at this; omega⟩
  rcases h.clo j hj with hq | hq
  · rcases List.mem_cons.1 hq with rfl | hq
    · exact .inr fun to ht => .inr ht
    · exact .inl hq
  · exact .inr fun to ht => .inl ((hq to ht).resolve_right (by simp))
theorem BI.skip {to : Nat} (h : BI g n M q (to :: cur)) (hM : M to = true) : BI g n M q cur := by
  refine ⟨h.zero, h.ways, h.qm, fun j hj => ?_, fun t ht => h.curw t (List.mem_cons_of_mem _ ht), h.room⟩
  rcases h.clo j hj with hq | hq
  · exact .inl hq
  · refine .inr fun t ht => ?_
    rcases hq t ht with e | e
    · exact .inl e
    · rcases List.mem_cons.1 e with rfl | e
      · exact .inl hM
      · exact .inr e
theorem BI.push {to : Nat} (F : Fmd g n) (h : BI g n M q (to :: cur)) (hM : M to = false) : BI g n (upd M to) (q ++ [to]) cur := by
  have hw := h.curw to (List.mem_cons_self ..)
  have hu := unmet_upd M to hM n (way_lt F to hw)
  refine ⟨upd_keep _ h.zero, fun i hi => ?_, fun i hi => ?_, fun j hj => ?_, fun t ht => h.curw t (List.mem_cons_of_mem _ ht), by have := h.room; rw [List.length_append, List.length_singleton]; omega⟩
  · cases e : M i
    · have : i = to := by simpa [upd, e] using hi
      subst this; exact hw
    · exact h.ways i e
  · rcases List.mem_append.1 hi with hi | hi
    · exact upd_keep _ (h.qm i hi)
    · rw [List.mem_singleton.1 hi]; exact upd_self _ _
  · cases e : M j
    · have : j = to := by simpa [upd, e] using hj
      subst this; exact .inl (List.mem_append.2 (.inr (List.mem_singleton.2 rfl)))
    · rcases h.clo j e with hq | hq
      · exact .inl (List.mem_append.2 (.inl hq))
      · refine .inr fun t ht => ?_
        rcases hq t ht with e | e
        · exact .inl (upd_keep _ e)
        · rcases List.mem_cons.1 e with rfl | e
          · exact .inl (upd_self _ _)
          · exact .inr e
theorem BI.fits {to : Nat} (F : Fmd g n) (h : BI g n M q (to :: cur)) (hM : M to = false) : q.length < n ∧ to < n := by
  have hl := way_lt F to (h.curw to (List.mem_cons_self ..))
  have hu := unmet_upd M to hM n hl
  have := h.room
  exact ⟨by omega, hl⟩
theorem BI.done (h : BI g n M [] []) (i : Nat) : M i = way g n i := by
  have hs : ∀ m j, j < m → way g n j = true → M j = true := by
    intro m
    induction m with
    | zero => intro j hj; omega
    | succ m ih =>
      intro j hj hw
      rcases way_back j hw with rfl | ⟨i, _, hij, hwi, hn⟩
      · exact h.zero
      · have hMi := ih i (by omega) hwi
        rcases h.clo i hMi with e | e
        · cases e
        · exact (e j hn).resolve_right (by simp)
  cases e : M i
  · cases e2 : way g n i
    · rfl
    · rw [hs (i + 1) i (by omega) e2] at e; cases e
  · exact (h.ways i e).symm
end
end Go.Proofs.Ytmndolojfdekdaa
