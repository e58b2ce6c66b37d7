/-
  Lines of words by plain functions, more: what joined lines are; a text with a line more; a text with notes and blanks. Nothing here speaks of a program.
-/
import Derived.Test.YtieebnninhbdoaaTj
namespace Go.Proofs.Ytieebnninhbdoaa
open Go.RowKit

/-! ### lines put together -/
/-- A word: signs that may be, no blank, no note. -/
def GoodW (w : List UInt8) : Prop := w ≠ [] ∧ ∀ c ∈ w, okS c = true ∧ blk c = false ∧ c ≠ 35
theorem psh_good {out : List (List UInt8)} {w : List UInt8} (h1 : ∀ x ∈ out, GoodW x) (h2 : ∀ c ∈ w, okS c = true ∧ blk c = false ∧ c ≠ 35) : ∀ x ∈ psh out w, GoodW x := by
  cases w with
  | nil => exact h1
  | cons c t =>
    intro x hx
    have hx' : x ∈ out ++ [c :: t] := hx
    rcases List.mem_append.1 hx' with hx' | hx'
    · exact h1 x hx'
    · rw [List.mem_singleton] at hx'
      subst hx'
      exact ⟨List.cons_ne_nil _ _, h2⟩
theorem wdF_good : ∀ (l w : List UInt8) (out : List (List UInt8)), (∀ c ∈ l, okS c = true ∧ c ≠ 35) → (∀ x ∈ out, GoodW x) → (∀ c ∈ w, okS c = true ∧ blk c = false ∧ c ≠ 35) → ∀ x ∈ wdF l w out, GoodW x
  | [], w, out, _, h1, h2 => psh_good h1 h2
  | c :: t, w, out, h0, h1, h2 => by
    have hc := h0 c List.mem_cons_self
    have ht : ∀ d ∈ t, okS d = true ∧ d ≠ 35 := fun d hd => h0 d (List.mem_cons_of_mem _ hd)
    show ∀ x ∈ (if blk c = true then wdF t [] (psh out w) else wdF t (w ++ [c]) out), GoodW x
    split
    · exact wdF_good t [] _ ht (psh_good h1 h2) (fun c hc => by cases hc)
    · rename_i hb
      refine wdF_good t (w ++ [c]) out ht h1 (fun d hd => ?_)
      rcases List.mem_append.1 hd with hd | hd
      · exact h2 d hd
      · rw [List.mem_singleton] at hd
        subst hd
        exact ⟨hc.1, by simpa using hb, hc.2⟩
theorem nb_mem : ∀ {l : List UInt8}, ∀ c ∈ nb l, c ≠ 35
  | [], c, hc => by cases hc
  | d :: t, c, hc => by
    by_cases h : d = 35
    · subst h
      cases hc
    · rw [nb_cons d t h] at hc
      rcases List.mem_cons.1 hc with hc | hc
      · rw [hc]; exact h
      · exact nb_mem c hc
theorem wds_good {l : List UInt8} (h : (nb l).all okS = true) : ∀ x ∈ wds (nb l), GoodW x :=
  wdF_good (nb l) [] [] (fun c hc => ⟨List.all_eq_true.1 h c hc, nb_mem c hc⟩) (fun x hx => by cases hx) (fun c hc => by cases hc)
theorem wdF_word : ∀ (x r w : List UInt8) (out : List (List UInt8)), (∀ c ∈ x, blk c = false) → wdF (x ++ r) w out = wdF r (w ++ x) out
  | [], r, w, out, _ => by rw [List.nil_append, List.append_nil]
  | c :: t, r, w, out, h => by
    show (if blk c = true then _ else wdF (t ++ r) (w ++ [c]) out) = _
    rw [if_neg (by rw [h c List.mem_cons_self]; decide), wdF_word t r (w ++ [c]) out (fun d hd => h d (List.mem_cons_of_mem _ hd)), List.append_assoc]
    rfl
theorem wds_tail : ∀ (ws : List (List UInt8)) (w : List UInt8) (out : List (List UInt8)), w ≠ [] → (∀ x ∈ ws, GoodW x) → wdF (Lib.joinTail [32] ws) w out = out ++ w :: ws
  | [], w, out, hw, _ => psh_ne out hw
  | x :: r, w, out, hw, h => by
    have hx := h x List.mem_cons_self
    have e : Lib.joinTail [32] (x :: r) = 32 :: (x ++ Lib.joinTail [32] r) := by simp [Lib.joinTail]
    rw [e]
    show wdF (x ++ Lib.joinTail [32] r) [] (psh out w) = _
    rw [wdF_word x _ _ _ (fun c hc => (hx.2 c hc).2.1), List.nil_append, wds_tail r x _ hx.1 (fun y hy => h y (List.mem_cons_of_mem _ hy)), psh_ne out hw, List.append_assoc]
    rfl
theorem wds_join (ws : List (List UInt8)) (h : ∀ x ∈ ws, GoodW x) : wds (joinW ws) = ws := by
  cases ws with
  | nil => rfl
  | cons x r =>
    have hx := h x List.mem_cons_self
    unfold wds joinW
    rw [Lib.join_cons, wdF_word x _ _ _ (fun c hc => (hx.2 c hc).2.1), List.nil_append, wds_tail r x [] hx.1 (fun y hy => h y (List.mem_cons_of_mem _ hy))]
    rfl
theorem mem_tail {c : UInt8} : ∀ {r : List (List UInt8)}, c ∈ Lib.joinTail [32] r → c = 32 ∨ ∃ x ∈ r, c ∈ x
  | [], h => by cases h
  | x :: r, h => by
    have e : Lib.joinTail [32] (x :: r) = 32 :: (x ++ Lib.joinTail [32] r) := by simp [Lib.joinTail]
    rw [e] at h
    rcases List.mem_cons.1 h with h | h
    · exact .inl h
    · rcases List.mem_append.1 h with h | h
      · exact .inr ⟨x, List.mem_cons_self, h⟩
      · rcases mem_tail h with h | ⟨y, hy, hc⟩
        · exact .inl h
        · exact .inr ⟨y, List.mem_cons_of_mem _ hy, hc⟩
theorem joinW_sign {ws : List (List UInt8)} (h : ∀ x ∈ ws, GoodW x) : ∀ c ∈ joinW ws, okS c = true ∧ c ≠ 35 ∧ c ≠ 10 := by
  have word : ∀ x ∈ ws, ∀ c ∈ x, okS c = true ∧ c ≠ 35 ∧ c ≠ 10 := fun x hx c hc => by
    obtain ⟨h1, h2, h3⟩ := (h x hx).2 c hc
    refine ⟨h1, h3, fun e => ?_⟩
    subst e
    exact absurd h1 (by decide)
  intro c hc
  cases ws with
  | nil => cases hc
  | cons x r =>
    unfold joinW at hc
    rw [Lib.join_cons] at hc
    rcases List.mem_append.1 hc with hc | hc
    · exact word x List.mem_cons_self c hc
    · rcases mem_tail hc with hc | ⟨y, hy, hc⟩
      · subst hc
        exact ⟨by decide, by decide, by decide⟩
      · exact word y (List.mem_cons_of_mem _ hy) c hc
theorem nb_all {l : List UInt8} (h : ∀ c ∈ l, c ≠ 35) : nb l = l := by
  induction l with
  | nil => rfl
  | cons c t ih => rw [nb_cons c t (h c List.mem_cons_self), ih fun d hd => h d (List.mem_cons_of_mem _ hd)]
theorem lns_join : ∀ (l : List (List (List UInt8))), (∀ ws ∈ l, ∀ x ∈ ws, GoodW x) → lns (joinF l) = l.map joinW ++ [[]]
  | [], _ => rfl
  | ws :: r, h => by
    have e : joinF (ws :: r) = joinW ws ++ 10 :: joinF r := by simp [joinF]
    rw [e, lns_some _ _ (fun c hc => (joinW_sign (h ws List.mem_cons_self) c hc).2.2), lns_join r fun y hy => h y (List.mem_cons_of_mem _ hy)]
    rfl
/-- Lines with numbers from k on. -/
def numF : Nat → List (List (List UInt8)) → List (Nat × List (List UInt8))
  | _, [] => []
  | k, ws :: r => (k, ws) :: numF (k + 1) r
theorem numF_at : ∀ (l : List (List (List UInt8))) (k i : Nat), (numF k l)[i]? = l[i]?.map fun ws => (k + i, ws)
  | [], _, _ => rfl
  | ws :: r, k, 0 => rfl
  | ws :: r, k, i + 1 => by
    show (numF (k + 1) r)[i]? = r[i]?.map _
    rw [numF_at r (k + 1) i]
    congr 1
    funext ws
    rw [show k + 1 + i = k + (i + 1) by omega]
theorem numF_length (l : List (List (List UInt8))) : ∀ k, (numF k l).length = l.length := by
  induction l with
  | nil => intro k; rfl
  | cons x r ih => intro k; show (numF (k + 1) r).length + 1 = _; rw [ih]; rfl
theorem scan_join : ∀ (l : List (List (List UInt8))) (k : Nat) (acc : List (Nat × List (List UInt8))), (∀ ws ∈ l, ws ≠ [] ∧ ∀ x ∈ ws, GoodW x) → scan k (l.map joinW ++ [[]]) acc = (acc ++ numF k l, 0)
  | [], k, acc, _ => by
    show (acc, 0) = _
    simp [numF]
  | ws :: r, k, acc, h => by
    obtain ⟨h1, h2⟩ := h ws List.mem_cons_self
    have hs := joinW_sign h2
    have hn : nb (joinW ws) = joinW ws := nb_all fun c hc => (hs c hc).2.1
    show (if (nb (joinW ws)).all okS = true then scan (k + 1) (r.map joinW ++ [[]]) (if wds (nb (joinW ws)) = [] then acc else acc ++ [(k, wds (nb (joinW ws)))]) else ([], k)) = _
    rw [hn, if_pos (List.all_eq_true.2 fun c hc => (hs c hc).1), wds_join ws h2, if_neg h1, scan_join r (k + 1) _ fun y hy => h y (List.mem_cons_of_mem _ hy), List.append_assoc]
    rfl
theorem lines_join (l : List (List (List UInt8))) (h : ∀ ws ∈ l, ws ≠ [] ∧ ∀ x ∈ ws, GoodW x) : linesF (joinF l) = (numF 1 l, 0) := by
  unfold linesF
  rw [lns_join l fun ws hws => (h ws hws).2, scan_join l 1 [] h]
  rfl
/-- The lines that count have words. -/
theorem scan_good : ∀ (lines : List (List UInt8)) (n : Nat) (acc : List (Nat × List (List UInt8))), (∀ x ∈ acc, x.2 ≠ [] ∧ ∀ w ∈ x.2, GoodW w) → ∀ x ∈ (scan n lines acc).1, x.2 ≠ [] ∧ ∀ w ∈ x.2, GoodW w
  | [], _, acc, h, x, hx => h x hx
  | l :: r, n, acc, h, x, hx => by
    have hx' : x ∈ (if (nb l).all okS = true then scan (n + 1) r (if wds (nb l) = [] then acc else acc ++ [(n, wds (nb l))]) else ([], n)).1 := hx
    split at hx'
    · rename_i hok
      refine scan_good r (n + 1) _ ?_ x hx'
      intro y hy
      split at hy
      · exact h y hy
      · rename_i hne
        rcases List.mem_append.1 hy with hy | hy
        · exact h y hy
        · rw [List.mem_singleton] at hy
          subst hy
          exact ⟨hne, wds_good hok⟩
    · cases hx'
theorem lines_good (L : List UInt8) : ∀ x ∈ (linesF L).1, x.2 ≠ [] ∧ ∀ w ∈ x.2, GoodW w := scan_good _ _ _ fun x hx => by cases hx

/-! ### how long joined lines are -/
theorem joinT_len (r : List (List UInt8)) : (Lib.joinTail [32] r).length = (r.map fun x => x.length + 1).sum := by
  induction r with
  | nil => rfl
  | cons x r ih =>
    have e : Lib.joinTail [32] (x :: r) = 32 :: (x ++ Lib.joinTail [32] r) := by simp [Lib.joinTail]
    rw [e, List.length_cons, List.length_append, ih, List.map_cons, List.sum_cons]
    omega
theorem joinW_len (ws : List (List UInt8)) : (joinW ws).length ≤ (ws.map fun x => x.length + 1).sum := by
  cases ws with
  | nil => exact Nat.le_refl _
  | cons x r =>
    unfold joinW
    rw [Lib.join_cons, List.length_append, joinT_len, List.map_cons, List.sum_cons]
    omega
theorem psh_sum (out : List (List UInt8)) (w : List UInt8) : ((psh out w).map fun x => x.length + 1).sum ≤ (out.map fun x => x.length + 1).sum + w.length + 1 := by
  cases w with
  | nil => exact Nat.le_succ _
  | cons c t =>
    show ((out ++ [c :: t]).map fun x => x.length + 1).sum ≤ _
    rw [List.map_append, List.sum_append]
    simp
    omega
theorem wdF_sum : ∀ (l w : List UInt8) (out : List (List UInt8)), ((wdF l w out).map fun x => x.length + 1).sum ≤ (out.map fun x => x.length + 1).sum + w.length + l.length + 1
  | [], w, out => psh_sum out w
  | c :: t, w, out => by
    show ((if blk c = true then wdF t [] (psh out w) else wdF t (w ++ [c]) out).map fun x => x.length + 1).sum ≤ _
    split
    · have h1 := wdF_sum t [] (psh out w)
      have h2 := psh_sum out w
      simp only [List.length_nil, List.length_cons] at h1 ⊢
      omega
    · have h1 := wdF_sum t (w ++ [c]) out
      simp only [List.length_append, List.length_cons, List.length_nil] at h1 ⊢
      omega
theorem scan_sum : ∀ (lines : List (List UInt8)) (n : Nat) (acc : List (Nat × List (List UInt8))), (joinF ((scan n lines acc).1.map (·.2))).length ≤ (joinF (acc.map (·.2))).length + (lines.map fun l => l.length + 2).sum
  | [], _, acc => Nat.le_refl _
  | l :: r, n, acc => by
    show (joinF ((if (nb l).all okS = true then scan (n + 1) r (if wds (nb l) = [] then acc else acc ++ [(n, wds (nb l))]) else ([], n)).1.map (·.2))).length ≤ _
    rw [List.map_cons, List.sum_cons]
    split
    · have h1 := scan_sum r (n + 1) (if wds (nb l) = [] then acc else acc ++ [(n, wds (nb l))])
      have h2 : (joinF ((if wds (nb l) = [] then acc else acc ++ [(n, wds (nb l))]).map (·.2))).length ≤ (joinF (acc.map (·.2))).length + (l.length + 2) := by
        split
        · omega
        · rw [List.map_append]
          show (joinF (acc.map (·.2) ++ [wds (nb l)])).length ≤ _
          rw [joinF_snoc, List.length_append, List.length_append]
          have e1 := joinW_len (wds (nb l))
          have e2 := wdF_sum (nb l) [] []
          have e3 : (nb l).length ≤ l.length := (List.takeWhile_sublist _).length_le
          have e4 : wdF (nb l) [] [] = wds (nb l) := rfl
          rw [e4] at e2
          simp only [List.map_nil, List.sum_nil, List.length_nil, List.length_cons] at e2 ⊢
          omega
      omega
    · show 0 ≤ _
      omega
theorem lns_sum : ∀ (l : List UInt8), ((lns l).map fun x => x.length + 2).sum ≤ 2 * l.length + 2
  | [] => Nat.le_refl _
  | c :: t => by
    have ih := lns_sum t
    unfold lns
    split
    · simp only [List.map_cons, List.sum_cons, List.length_nil, List.length_cons]; omega
    · split
      · simp
        omega
      · rename_i x r e
        rw [e] at ih
        simp only [List.map_cons, List.sum_cons, List.length_cons] at ih ⊢
        omega
theorem joinF_len (L : List UInt8) : (joinF ((linesF L).1.map (·.2))).length ≤ 2 * L.length + 2 := by
  have h1 := scan_sum (lns L) 1 []
  have h2 := lns_sum L
  have e : (joinF (([] : List (Nat × List (List UInt8))).map (·.2))).length = 0 := rfl
  rw [e] at h1
  have h3 : scan 1 (lns L) [] = linesF L := rfl
  rw [h3] at h1
  omega
end Go.Proofs.Ytieebnninhbdoaa
