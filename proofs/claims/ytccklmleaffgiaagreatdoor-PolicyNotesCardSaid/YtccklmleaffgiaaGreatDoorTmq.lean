/-
  A text with notes behind its lines, and blanks: its lines, and their words.
-/
import Derived.Test.YtccklmleaffgiaaGreatDoorQ18
namespace Go.Proofs.YtccklmleaffgiaaGreatDoor
open Go.RowKit

/-- Lines with notes, the first one behind p. -/
def tr (note : List UInt8) : List UInt8 → List (List UInt8) → List (List UInt8)
  | _, [] => []
  | p, [l] => [p ++ (l ++ ([] ++ 35 :: note))]
  | p, l :: x :: r => (p ++ (l ++ ([13, 32] ++ 35 :: note))) :: tr note [32] (x :: r)
theorem nb_app (a b : List UInt8) : nb (a ++ b) = if (∀ c ∈ a, c ≠ 35) then a ++ nb b else nb a := by
  induction a with
  | nil => rw [if_pos (fun c hc => by cases hc)]; rfl
  | cons c t ih =>
    by_cases h : c = 35
    · subst h
      rw [if_neg (fun hh => hh 35 List.mem_cons_self rfl)]
      rfl
    · have e1 : nb (c :: t ++ b) = c :: nb (t ++ b) := nb_cons c _ h
      rw [e1, nb_cons c t h, ih]
      by_cases ht : ∀ d ∈ t, d ≠ 35
      · rw [if_pos ht, if_pos]
        · rfl
        · intro d hd
          rcases List.mem_cons.1 hd with hd | hd
          · rw [hd]; exact h
          · exact ht d hd
      · rw [if_neg ht, if_neg (fun hh => ht fun d hd => hh d (List.mem_cons_of_mem _ hd))]
theorem blk_ok {c : UInt8} (h : blk c = true) : okS c = true := by rw [okS_iff, h]; rfl
theorem blk_35 {c : UInt8} (h : blk c = true) : c ≠ 35 := fun e => by subst e; exact absurd h (by decide)
theorem wdF_ahead : ∀ (p y : List UInt8) (out : List (List UInt8)), (∀ c ∈ p, blk c = true) → wdF (p ++ y) [] out = wdF y [] out
  | [], _, _, _ => rfl
  | c :: t, y, out, h => by
    show (if blk c = true then wdF (t ++ y) [] (psh out []) else _) = _
    rw [if_pos (h c List.mem_cons_self)]
    exact wdF_ahead t y out fun d hd => h d (List.mem_cons_of_mem _ hd)
theorem wdF_blanks : ∀ (q w : List UInt8) (out : List (List UInt8)), (∀ c ∈ q, blk c = true) → wdF q w out = psh out w
  | [], _, _, _ => rfl
  | c :: t, w, out, h => by
    show (if blk c = true then wdF t [] (psh out w) else _) = _
    rw [if_pos (h c List.mem_cons_self), wdF_blanks t [] _ fun d hd => h d (List.mem_cons_of_mem _ hd)]
    rfl
theorem wdF_behind (q : List UInt8) (h : ∀ c ∈ q, blk c = true) : ∀ (y w : List UInt8) (out : List (List UInt8)), wdF (y ++ q) w out = wdF y w out
  | [], w, out => wdF_blanks q w out h
  | c :: t, w, out => by
    show (if blk c = true then wdF (t ++ q) [] (psh out w) else wdF (t ++ q) (w ++ [c]) out) = (if blk c = true then wdF t [] (psh out w) else wdF t (w ++ [c]) out)
    rw [wdF_behind q h t, wdF_behind q h t]
theorem all_app (a b : List UInt8) (f : UInt8 → Bool) : (a ++ b).all f = (a.all f && b.all f) := List.all_append
theorem note_line (p l q note : List UInt8) (hp : ∀ c ∈ p, blk c = true) (hq : ∀ c ∈ q, blk c = true) :
    (nb (p ++ (l ++ (q ++ 35 :: note)))).all okS = (nb l).all okS ∧ wds (nb (p ++ (l ++ (q ++ 35 :: note)))) = wds (nb l) := by
  have ap : p.all okS = true := List.all_eq_true.2 fun c hc => blk_ok (hp c hc)
  have aq : q.all okS = true := List.all_eq_true.2 fun c hc => blk_ok (hq c hc)
  have e1 : nb (p ++ (l ++ (q ++ 35 :: note))) = p ++ nb (l ++ (q ++ 35 :: note)) := by rw [nb_app, if_pos fun c hc => blk_35 (hp c hc)]
  have e2 : nb (q ++ 35 :: note) = q := by
    rw [nb_app, if_pos fun c hc => blk_35 (hq c hc)]
    show q ++ [] = q
    exact List.append_nil _
  rw [e1, nb_app, e2]
  by_cases h : ∀ c ∈ l, c ≠ 35
  · rw [if_pos h, nb_all h]
    refine ⟨by rw [all_app, all_app, ap, aq]; simp, ?_⟩
    unfold wds
    rw [wdF_ahead p _ _ hp, wdF_behind q hq]
  · rw [if_neg h]
    refine ⟨by rw [all_app, ap]; simp, ?_⟩
    unfold wds
    rw [wdF_ahead p _ _ hp]
end Go.Proofs.YtccklmleaffgiaaGreatDoor
