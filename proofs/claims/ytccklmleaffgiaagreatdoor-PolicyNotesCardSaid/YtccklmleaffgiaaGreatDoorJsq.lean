/-
  A policy's own text with blanks, empty lines and notes (for the law PolicyNotes): its lines' words are the same, and it is not too long.
-/
import Derived.Test.YtccklmleaffgiaaGreatDoorJoq
import Derived.Test.YtccklmleaffgiaaGreatDoorTmq
namespace Go.Proofs.YtccklmleaffgiaaGreatDoor
open Go.RowKit Go.Shelf
set_option linter.unusedVariables false

/-- A sign as it stands in the noted text. -/
def nqC (note : List UInt8) (c : UInt8) : List UInt8 := if c = 32 then [32, 9, 32] else if c = 10 then [13, 35] ++ note ++ [10, 32, 10] else [c]
/-- A text, sign by sign, with more blanks, notes, and lines of blanks alone. -/
def nq (note : List UInt8) : List UInt8 → List UInt8
  | [] => []
  | c :: t => nqC note c ++ nq note t
theorem nq_app (note : List UInt8) : ∀ (a b : List UInt8), nq note (a ++ b) = nq note a ++ nq note b
  | [], _ => rfl
  | c :: t, b => by
    show nqC note c ++ nq note (t ++ b) = nqC note c ++ nq note t ++ nq note b
    rw [nq_app note t b, List.append_assoc]
theorem nq_snoc (note : List UInt8) (c : UInt8) (l : List UInt8) : nq note (l ++ [c]) = nq note l ++ nqC note c := by
  rw [nq_app]
  show nq note l ++ (nqC note c ++ []) = _
  rw [List.append_nil]
theorem nq_ok (note : List UInt8) : ∀ (l : List UInt8), (∀ c ∈ l, okS c = true ∧ c ≠ 35 ∧ c ≠ 10) → (∀ c ∈ nq note l, okS c = true ∧ c ≠ 35 ∧ c ≠ 10) ∧ ∀ (w : List UInt8) (out : List (List UInt8)), wdF (nq note l) w out = wdF l w out
  | [], _ => ⟨fun c hc => (by cases hc), fun _ _ => rfl⟩
  | c :: t, h => by
    obtain ⟨h1, h2⟩ := nq_ok note t fun d hd => h d (List.mem_cons_of_mem _ hd)
    have hc := h c List.mem_cons_self
    by_cases h32 : c = 32
    · subst h32
      have e : nq note (32 :: t) = 32 :: ([9, 32] ++ nq note t) := rfl
      rw [e]
      refine ⟨fun d hd => ?_, fun w out => ?_⟩
      · rcases List.mem_cons.1 hd with rfl | hd
        · exact hc
        · rcases List.mem_append.1 hd with hd | hd
          · rcases List.mem_cons.1 hd with rfl | hd
            · exact ⟨by decide, by decide, by decide⟩
            · rw [List.mem_singleton] at hd
              subst hd
              exact ⟨by decide, by decide, by decide⟩
          · exact h1 d hd
      · show wdF ([9, 32] ++ nq note t) [] (psh out w) = wdF t [] (psh out w)
        rw [wdF_ahead [9, 32] _ _ (fun d hd => by
          rcases List.mem_cons.1 hd with rfl | hd
          · decide
          · rw [List.mem_singleton] at hd; subst hd; decide), h2]
    · have e : nq note (c :: t) = c :: nq note t := by
        show nqC note c ++ nq note t = _
        unfold nqC
        rw [if_neg h32, if_neg hc.2.2]
        rfl
      rw [e]
      refine ⟨fun d hd => ?_, fun w out => ?_⟩
      · rcases List.mem_cons.1 hd with rfl | hd
        · exact hc
        · exact h1 d hd
      · show (if blk c = true then wdF (nq note t) [] (psh out w) else wdF (nq note t) (w ++ [c]) out) = (if blk c = true then wdF t [] (psh out w) else wdF t (w ++ [c]) out)
        rw [h2, h2]
theorem blanks_line {p : List UInt8} (hp : ∀ c ∈ p, blk c = true) : (nb p).all okS = true ∧ wds (nb p) = [] := by
  rw [nb_all fun c hc => blk_35 (hp c hc)]
  refine ⟨List.all_eq_true.2 fun c hc => blk_ok (hp c hc), ?_⟩
  unfold wds
  rw [wdF_blanks p [] [] hp]
  rfl
theorem blk_10 {c : UInt8} (h : blk c = true) : c ≠ 10 := fun e => by subst e; exact absurd h (by decide)
theorem scan_quo (note : List UInt8) (hn : ∀ c ∈ note, c ≠ 10) : ∀ (l : List (List (List UInt8))) (p : List UInt8) (n : Nat) (acc : List (Nat × List (List UInt8))), (∀ ws ∈ l, ws ≠ [] ∧ ∀ x ∈ ws, GoodW x) → (∀ c ∈ p, blk c = true) →
    ∃ nums : List (Nat × List (List UInt8)), scan n (lns (p ++ nq note (joinF l))) acc = (acc ++ nums, 0) ∧ nums.map (·.2) = l
  | [], p, n, acc, _, hp => by
    obtain ⟨h1, h2⟩ := blanks_line hp
    refine ⟨[], ?_, rfl⟩
    show scan n (lns (p ++ [])) acc = _
    rw [List.append_nil, lns_none p fun c hc => blk_10 (hp c hc), scan_one, h1, h2, if_pos rfl, if_pos rfl, List.append_nil]
  | ws :: r, p, n, acc, h, hp => by
    obtain ⟨h1, h2⟩ := h ws List.mem_cons_self
    have hs := joinW_sign h2
    obtain ⟨k1, k2⟩ := nq_ok note (joinW ws) hs
    obtain ⟨g1, g2⟩ := note_line p (nq note (joinW ws)) [13] note hp (fun c hc => by rw [List.mem_singleton] at hc; rw [hc]; decide)
    have gn : nb (nq note (joinW ws)) = nq note (joinW ws) := nb_all fun c hc => (k1 c hc).2.1
    have gw : wds (nq note (joinW ws)) = ws := by
      unfold wds
      rw [k2]
      exact wds_join ws h2
    obtain ⟨b1, b2⟩ := blanks_line (p := [32]) (fun c hc => by rw [List.mem_singleton] at hc; rw [hc]; decide)
    obtain ⟨nums, e1, e2⟩ := scan_quo note hn r [] (n + 1 + 1) (acc ++ [(n, ws)]) (fun y hy => h y (List.mem_cons_of_mem _ hy)) (fun c hc => by cases hc)
    have e : p ++ nq note (joinF (ws :: r)) = (p ++ (nq note (joinW ws) ++ ([13] ++ 35 :: note))) ++ 10 :: ([32] ++ 10 :: ([] ++ nq note (joinF r))) := by
      rw [show joinF (ws :: r) = joinW ws ++ ([10] ++ joinF r) by simp [joinF], nq_app, nq_app, show nq note [10] = [13, 35] ++ note ++ [10, 32, 10] from by show nqC note 10 ++ [] = _; rw [List.append_nil]; rfl]
      simp
    have hno : ∀ c ∈ p ++ (nq note (joinW ws) ++ ([13] ++ 35 :: note)), c ≠ 10 := fun c hc => by
      rcases List.mem_append.1 hc with hc | hc
      · exact blk_10 (hp c hc)
      · rcases List.mem_append.1 hc with hc | hc
        · exact (k1 c hc).2.2
        · rcases List.mem_append.1 hc with hc | hc
          · rw [List.mem_singleton] at hc; rw [hc]; decide
          · rcases List.mem_cons.1 hc with hc | hc
            · rw [hc]; decide
            · exact hn c hc
    refine ⟨(n, ws) :: nums, ?_, by rw [List.map_cons, e2]⟩
    rw [e, lns_some _ _ hno, lns_some [32] _ (fun c hc => by rw [List.mem_singleton] at hc; rw [hc]; decide)]
    show (if (nb (p ++ (nq note (joinW ws) ++ ([13] ++ 35 :: note)))).all okS = true then scan (n + 1) ([32] :: lns ([] ++ nq note (joinF r))) (if wds (nb (p ++ (nq note (joinW ws) ++ ([13] ++ 35 :: note)))) = [] then acc else acc ++ [(n, wds (nb (p ++ (nq note (joinW ws) ++ ([13] ++ 35 :: note)))))]) else ([], n)) = _
    rw [g1, g2, gn, gw, if_pos (List.all_eq_true.2 fun c hc => (k1 c hc).1), if_neg h1]
    show (if (nb [32]).all okS = true then scan (n + 1 + 1) (lns ([] ++ nq note (joinF r))) (if wds (nb [32]) = [] then acc ++ [(n, ws)] else acc ++ [(n, ws)] ++ [(n + 1, wds (nb [32]))]) else ([], n + 1)) = _
    rw [b1, b2, if_pos rfl, if_pos rfl, e1, List.append_assoc]
    rfl
/-- The lines of the whole noted text. -/
theorem lines_quo (note : List UInt8) (hn : ∀ c ∈ note, c ≠ 10) (l : List (List (List UInt8))) (h : ∀ ws ∈ l, ws ≠ [] ∧ ∀ x ∈ ws, GoodW x) :
    (linesF (([35, 32] ++ note ++ [10, 10, 9]) ++ nq note (joinF l))).2 = 0 ∧ (linesF (([35, 32] ++ note ++ [10, 10, 9]) ++ nq note (joinF l))).1.map (·.2) = l := by
  obtain ⟨nums, e1, e2⟩ := scan_quo note hn l [9] 3 [] h (fun c hc => by rw [List.mem_singleton] at hc; rw [hc]; decide)
  have e : ([35, 32] ++ note ++ [10, 10, 9]) ++ nq note (joinF l) = (35 :: 32 :: note) ++ 10 :: ([] ++ 10 :: ([9] ++ nq note (joinF l))) := by simp
  have hx : linesF (([35, 32] ++ note ++ [10, 10, 9]) ++ nq note (joinF l)) = (nums, 0) := by
    unfold linesF
    rw [e, lns_some _ _ (fun c hc => by
      rcases List.mem_cons.1 hc with hc | hc
      · rw [hc]; decide
      · rcases List.mem_cons.1 hc with hc | hc
        · rw [hc]; decide
        · exact hn c hc), lns_some [] _ (fun c hc => by cases hc)]
    have hnb : nb (35 :: 32 :: note) = [] := rfl
    show (if (nb (35 :: 32 :: note)).all okS = true then scan (1 + 1) ([] :: lns ([9] ++ nq note (joinF l))) (if wds (nb (35 :: 32 :: note)) = [] then [] else _) else ([], 1)) = _
    rw [hnb]
    show scan 3 (lns ([9] ++ nq note (joinF l))) [] = _
    rw [e1]
    rfl
  rw [hx]
  exact ⟨rfl, e2⟩
theorem nq_word (note : List UInt8) : ∀ (w : List UInt8), (∀ c ∈ w, c ≠ 32 ∧ c ≠ 10) → nq note w = w
  | [], _ => rfl
  | c :: t, h => by
    obtain ⟨h1, h2⟩ := h c List.mem_cons_self
    show nqC note c ++ nq note t = _
    unfold nqC
    rw [if_neg h1, if_neg h2, nq_word note t fun d hd => h d (List.mem_cons_of_mem _ hd)]
    rfl
theorem good_plain {w : List UInt8} (h : GoodW w) : ∀ c ∈ w, c ≠ 32 ∧ c ≠ 10 := fun c hc => by
  obtain ⟨h1, h2, _⟩ := h.2 c hc
  exact ⟨fun e => by subst e; exact absurd h2 (by decide), fun e => by subst e; exact absurd h1 (by decide)⟩
theorem nq_tail (note : List UInt8) : ∀ (r : List (List UInt8)), (∀ x ∈ r, GoodW x ∧ x.length ≤ 30) → (nq note (Lib.joinTail [32] r)).length ≤ r.length * 33
  | [], _ => Nat.le_refl _
  | x :: r, h => by
    obtain ⟨h1, h2⟩ := h x List.mem_cons_self
    have ih := nq_tail note r fun y hy => h y (List.mem_cons_of_mem _ hy)
    have e : Lib.joinTail [32] (x :: r) = [32] ++ (x ++ Lib.joinTail [32] r) := by simp [Lib.joinTail]
    rw [e, nq_app, nq_app, nq_word note x (good_plain h1), show nq note [32] = [32, 9, 32] from rfl]
    simp only [List.length_append, List.length_cons, List.length_nil]
    omega
theorem nq_line (note : List UInt8) (ws : List (List UInt8)) (h : ∀ x ∈ ws, GoodW x ∧ x.length ≤ 30) : (nq note (joinW ws)).length ≤ ws.length * 33 := by
  cases ws with
  | nil => exact Nat.le_refl _
  | cons x r =>
    obtain ⟨h1, h2⟩ := h x List.mem_cons_self
    have ih := nq_tail note r fun y hy => h y (List.mem_cons_of_mem _ hy)
    unfold joinW
    rw [Lib.join_cons, nq_app, nq_word note x (good_plain h1)]
    simp only [List.length_append, List.length_cons]
    omega
theorem nq_short (note : List UInt8) (hn : note.length ≤ 30) : ∀ (l : List (List (List UInt8))), (∀ ws ∈ l, ws.length ≤ 39 ∧ ∀ w ∈ ws, GoodW w ∧ w.length ≤ 30) → (nq note (joinF l)).length ≤ l.length * 1330
  | [], _ => Nat.le_refl _
  | ws :: r, h => by
    obtain ⟨h1, h2⟩ := h ws List.mem_cons_self
    have ih := nq_short note hn r fun y hy => h y (List.mem_cons_of_mem _ hy)
    have h3 := nq_line note ws h2
    rw [show joinF (ws :: r) = joinW ws ++ ([10] ++ joinF r) by simp [joinF], nq_app, nq_app, show nq note [10] = [13, 35] ++ note ++ [10, 32, 10] from by show nqC note 10 ++ [] = _; rw [List.append_nil]; rfl]
    simp only [List.length_append, List.length_cons, List.length_nil]
    omega
/-- The noted text of a right policy is not too long. -/
theorem quo_short {k u : Int} (x : Bool) {L : List RV} (h : rightV k u L = true) (hs : ∀ r ∈ L, SmallV r) (hL : L.length ≤ 40) (note : List UInt8) (hn : note.length ≤ 30) : (nq note (joinF (polL k u x L))).length ≤ 60000 := by
  have h1 := nq_short note hn (polL k u x L) fun ws hws => ⟨(pol_short x h hs ws hws).1, fun w hw => ⟨(good_pol x (by
    unfold rightV at h
    simp only [Bool.and_eq_true, decide_eq_true_eq, List.all_eq_true] at h
    exact h.2.2) ws hws).2 w hw, (pol_short x h hs ws hws).2 w hw⟩⟩
  have h2 := polL_len k u x L
  omega
end Go.Proofs.YtccklmleaffgiaaGreatDoor
