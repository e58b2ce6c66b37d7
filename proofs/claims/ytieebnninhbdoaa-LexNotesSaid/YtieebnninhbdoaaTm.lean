/-
  A text with notes behind its lines, and blanks: its lines, and their words.
-/
import Derived.Test.YtieebnninhbdoaaTl
namespace Go.Proofs.Ytieebnninhbdoaa
open Go.RowKit

/-- The text, sign by sign, a note ahead of each line's end, a blank behind it. -/
def nt (note : List UInt8) : List UInt8 → List UInt8
  | [] => []
  | c :: t => if c = 10 then [13, 32, 35] ++ note ++ [10] ++ [32] ++ nt note t else c :: nt note t
theorem nt_snoc (note : List UInt8) (c : UInt8) : ∀ l, nt note (l ++ [c]) = nt note l ++ (if c = 10 then [13, 32, 35] ++ note ++ [10] ++ [32] else [c])
  | [] => by
    by_cases h : c = 10
    · show (if c = 10 then [13, 32, 35] ++ note ++ [10] ++ [32] ++ [] else _) = _
      rw [if_pos h, if_pos h, List.append_nil]; rfl
    · show (if c = 10 then _ else c :: []) = _
      rw [if_neg h, if_neg h]; rfl
  | d :: t => by
    have ih := nt_snoc note c t
    by_cases h : d = 10
    · show (if d = 10 then [13, 32, 35] ++ note ++ [10] ++ [32] ++ nt note (t ++ [c]) else _) = (if d = 10 then [13, 32, 35] ++ note ++ [10] ++ [32] ++ nt note t else _) ++ _
      rw [if_pos h, if_pos h, ih]
      simp only [List.append_assoc]
    · show (if d = 10 then _ else d :: nt note (t ++ [c])) = (if d = 10 then _ else d :: nt note t) ++ _
      rw [if_neg h, if_neg h, ih]; rfl
theorem nt_len (note : List UInt8) : ∀ l, (nt note l).length ≤ l.length * (note.length + 5)
  | [] => Nat.zero_le _
  | c :: t => by
    have ih := nt_len note t
    have e : (t.length + 1) * (note.length + 5) = t.length * (note.length + 5) + (note.length + 5) := Nat.succ_mul _ _
    show (if c = 10 then [13, 32, 35] ++ note ++ [10] ++ [32] ++ nt note t else c :: nt note t).length ≤ (t.length + 1) * (note.length + 5)
    rw [e]
    split
    · simp only [List.length_append, List.length_cons, List.length_nil]; omega
    · simp only [List.length_cons]; omega
/-- Lines with notes, the first one behind p. -/
def tr (note : List UInt8) : List UInt8 → List (List UInt8) → List (List UInt8)
  | _, [] => []
  | p, [l] => [p ++ (l ++ ([] ++ 35 :: note))]
  | p, l :: x :: r => (p ++ (l ++ ([13, 32] ++ 35 :: note))) :: tr note [32] (x :: r)
theorem lns_tr (note : List UInt8) (hn : ∀ c ∈ note, c ≠ 10) : ∀ (t p : List UInt8), (∀ c ∈ p, c ≠ 10) → lns (p ++ (nt note t ++ 35 :: note)) = tr note p (lns t)
  | [], p, hp => by
    show lns (p ++ 35 :: note) = [p ++ ([] ++ ([] ++ 35 :: note))]
    refine lns_none _ fun c hc => ?_
    rcases List.mem_append.1 hc with hc | hc
    · exact hp c hc
    · rcases List.mem_cons.1 hc with hc | hc
      · rw [hc]; decide
      · exact hn c hc
  | c :: t, p, hp => by
    by_cases h : c = 10
    · have ih := lns_tr note hn t [32] (fun d hd => by rw [List.mem_singleton] at hd; rw [hd]; decide)
      have e : p ++ (nt note (c :: t) ++ 35 :: note) = (p ++ ([] ++ ([13, 32] ++ 35 :: note))) ++ 10 :: ([32] ++ (nt note t ++ 35 :: note)) := by
        show p ++ ((if c = 10 then [13, 32, 35] ++ note ++ [10] ++ [32] ++ nt note t else _) ++ 35 :: note) = _
        rw [if_pos h]
        simp
      have hl : lns (c :: t) = [] :: lns t := by
        show (if c = 10 then [] :: lns t else _) = _
        rw [if_pos h]
      rw [e, lns_some, ih, hl]
      · cases ht : lns t with
        | nil =>
          have := (lns_length t).1
          rw [ht] at this
          simp at this
        | cons x r => rfl
      · intro d hd
        rcases List.mem_append.1 hd with hd | hd
        · exact hp d hd
        · simp only [List.nil_append, List.cons_append, List.mem_cons] at hd
          rcases hd with hd | hd | hd | hd
          · rw [hd]; decide
          · rw [hd]; decide
          · rw [hd]; decide
          · exact hn d hd
    · have ih := lns_tr note hn t (p ++ [c]) (fun d hd => by
        rcases List.mem_append.1 hd with hd | hd
        · exact hp d hd
        · rw [List.mem_singleton] at hd; rw [hd]; exact h)
      have e : p ++ (nt note (c :: t) ++ 35 :: note) = (p ++ [c]) ++ (nt note t ++ 35 :: note) := by
        show p ++ ((if c = 10 then _ else c :: nt note t) ++ 35 :: note) = _
        rw [if_neg h]
        simp
      have hl : lns (c :: t) = match lns t with | [] => [[c]] | x :: r => (c :: x) :: r := by
        show (if c = 10 then _ else match lns t with | [] => [[c]] | x :: r => (c :: x) :: r) = _
        rw [if_neg h]
      rw [e, ih, hl]
      cases ht : lns t with
      | nil =>
        have := (lns_length t).1
        rw [ht] at this
        simp at this
      | cons x r =>
        cases r with
        | nil => show [p ++ [c] ++ (x ++ _)] = [p ++ (c :: x ++ _)]; simp
        | cons y q => show (p ++ [c] ++ (x ++ _)) :: _ = (p ++ (c :: x ++ _)) :: _; simp

/-! ### what notes and blanks change of a line's words -/
theorem nb_app (a b : List UInt8) : nb (a ++ b) = if (∀ c ∈ a, c ≠ 35) then a ++ nb b else nb a := by
  induction a with
  | nil => rw [if_pos (fun c hc => by cases hc)]; rfl
  | cons c t ih =>
    by_cases h : c = 35
    · subst h
      rw [if_neg (fun hh => hh 35 List.mem_cons_self rfl)]
      rfl
    · have e1 : nb (c :: t ++ b) = c :: nb (t ++ b) := nb_cons c _ h
      rw [e1, nb_cons c t h, ih]
      by_cases ht : ∀ d ∈ t, d ≠ 35
      · rw [if_pos ht, if_pos]
        · rfl
        · intro d hd
          rcases List.mem_cons.1 hd with hd | hd
          · rw [hd]; exact h
          · exact ht d hd
      · rw [if_neg ht, if_neg (fun hh => ht fun d hd => hh d (List.mem_cons_of_mem _ hd))]
theorem blk_ok {c : UInt8} (h : blk c = true) : okS c = true := by rw [okS_iff, h]; rfl
theorem blk_35 {c : UInt8} (h : blk c = true) : c ≠ 35 := fun e => by subst e; exact absurd h (by decide)
theorem wdF_ahead : ∀ (p y : List UInt8) (out : List (List UInt8)), (∀ c ∈ p, blk c = true) → wdF (p ++ y) [] out = wdF y [] out
  | [], _, _, _ => rfl
  | c :: t, y, out, h => by
    show (if blk c = true then wdF (t ++ y) [] (psh out []) else _) = _
    rw [if_pos (h c List.mem_cons_self)]
    exact wdF_ahead t y out fun d hd => h d (List.mem_cons_of_mem _ hd)
theorem wdF_blanks : ∀ (q w : List UInt8) (out : List (List UInt8)), (∀ c ∈ q, blk c = true) → wdF q w out = psh out w
  | [], _, _, _ => rfl
  | c :: t, w, out, h => by
    show (if blk c = true then wdF t [] (psh out w) else _) = _
    rw [if_pos (h c List.mem_cons_self), wdF_blanks t [] _ fun d hd => h d (List.mem_cons_of_mem _ hd)]
    rfl
theorem wdF_behind (q : List UInt8) (h : ∀ c ∈ q, blk c = true) : ∀ (y w : List UInt8) (out : List (List UInt8)), wdF (y ++ q) w out = wdF y w out
  | [], w, out => wdF_blanks q w out h
  | c :: t, w, out => by
    show (if blk c = true then wdF (t ++ q) [] (psh out w) else wdF (t ++ q) (w ++ [c]) out) = (if blk c = true then wdF t [] (psh out w) else wdF t (w ++ [c]) out)
    rw [wdF_behind q h t, wdF_behind q h t]
theorem all_app (a b : List UInt8) (f : UInt8 → Bool) : (a ++ b).all f = (a.all f && b.all f) := List.all_append
theorem note_line (p l q note : List UInt8) (hp : ∀ c ∈ p, blk c = true) (hq : ∀ c ∈ q, blk c = true) :
    (nb (p ++ (l ++ (q ++ 35 :: note)))).all okS = (nb l).all okS ∧ wds (nb (p ++ (l ++ (q ++ 35 :: note)))) = wds (nb l) := by
  have ap : p.all okS = true := List.all_eq_true.2 fun c hc => blk_ok (hp c hc)
  have aq : q.all okS = true := List.all_eq_true.2 fun c hc => blk_ok (hq c hc)
  have e1 : nb (p ++ (l ++ (q ++ 35 :: note))) = p ++ nb (l ++ (q ++ 35 :: note)) := by rw [nb_app, if_pos fun c hc => blk_35 (hp c hc)]
  have e2 : nb (q ++ 35 :: note) = q := by
    rw [nb_app, if_pos fun c hc => blk_35 (hq c hc)]
    show q ++ [] = q
    exact List.append_nil _
  rw [e1, nb_app, e2]
  by_cases h : ∀ c ∈ l, c ≠ 35
  · rw [if_pos h, nb_all h]
    refine ⟨by rw [all_app, all_app, ap, aq]; simp, ?_⟩
    unfold wds
    rw [wdF_ahead p _ _ hp, wdF_behind q hq]
  · rw [if_neg h]
    refine ⟨by rw [all_app, ap]; simp, ?_⟩
    unfold wds
    rw [wdF_ahead p _ _ hp]
theorem scan_tr (note : List UInt8) : ∀ (ls : List (List UInt8)) (p : List UInt8) (n : Nat) (acc : List (Nat × List (List UInt8))), (∀ c ∈ p, blk c = true) → scan n (tr note p ls) acc = scan n ls acc
  | [], _, _, _, _ => rfl
  | [l], p, n, acc, hp => by
    obtain ⟨h1, h2⟩ := note_line p l [] note hp (fun c hc => by cases hc)
    show scan n [p ++ (l ++ ([] ++ 35 :: note))] acc = scan n [l] acc
    rw [scan_one, scan_one, h1, h2]
  | l :: x :: r, p, n, acc, hp => by
    obtain ⟨h1, h2⟩ := note_line p l [13, 32] note hp (fun c hc => by
      rcases List.mem_cons.1 hc with hc | hc
      · rw [hc]; decide
      · rw [List.mem_singleton] at hc; rw [hc]; decide)
    have ih := fun n acc => scan_tr note (x :: r) [32] n acc (fun c hc => by rw [List.mem_singleton] at hc; rw [hc]; decide)
    show (if (nb (p ++ (l ++ ([13, 32] ++ 35 :: note)))).all okS = true then scan (n + 1) (tr note [32] (x :: r)) (if wds (nb (p ++ (l ++ ([13, 32] ++ 35 :: note)))) = [] then acc else acc ++ [(n, wds (nb (p ++ (l ++ ([13, 32] ++ 35 :: note)))))]) else ([], n)) = (if (nb l).all okS = true then scan (n + 1) (x :: r) (if wds (nb l) = [] then acc else acc ++ [(n, wds (nb l))]) else ([], n))
    rw [h1, h2, ih]
theorem lines_noted (text note : List UInt8) (hn : ∀ c ∈ note, c ≠ 10) : linesF ([32, 9] ++ nt note text ++ 35 :: note) = linesF text := by
  have h := lns_tr note hn text [32, 9] (fun c hc => by
    rcases List.mem_cons.1 hc with hc | hc
    · rw [hc]; decide
    · rw [List.mem_singleton] at hc; rw [hc]; decide)
  unfold linesF
  rw [List.append_assoc, h]
  exact scan_tr note _ _ _ _ (fun c hc => by
    rcases List.mem_cons.1 hc with hc | hc
    · rw [hc]; decide
    · rw [List.mem_singleton] at hc; rw [hc]; decide)
end Go.Proofs.Ytieebnninhbdoaa
