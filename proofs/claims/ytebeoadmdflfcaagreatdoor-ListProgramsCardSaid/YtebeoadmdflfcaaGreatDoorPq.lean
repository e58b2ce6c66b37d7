/-
  The words of a line with blanks and a note; list.Read at it, and where there are no words.
-/
import Derived.Test.YtebeoadmdflfcaaGreatDoorPp
namespace Go.Proofs.YtebeoadmdflfcaaGreatDoor
open Go.RowKit Go.Shelf
set_option linter.unusedVariables false

theorem subst_nil (c t f k : Nat) {w : List UInt8} (h : subst c t f k w = []) : w = [] := by
  cases w with
  | nil => rfl
  | cons b l =>
    rw [subst, List.append_eq_nil_iff] at h
    exfalso
    by_cases hb : isMk b = true
    · obtain ⟨v, hv⟩ := mkv_dg (c := c) (t := t) (f := f) (k := k) hb
      rw [hv] at h
      exact dd_ne v h.1
    · rw [mkv_non (by simpa using hb)] at h
      cases h.1
theorem psh_map (c t f k : Nat) (out : List (List UInt8)) (w : List UInt8) : psh (out.map (subst c t f k)) (subst c t f k w) = (psh out w).map (subst c t f k) := by
  by_cases h : w = []
  · subst h; rfl
  · rw [psh_ne _ h, psh_ne _ fun e => h (subst_nil c t f k e), List.map_append]
    rfl
theorem dg_blk {b : UInt8} (h : isDg b = true) : blk b = false ∧ okS b = true ∧ b ≠ 59 := by
  have h1 : 48 ≤ b.toNat ∧ b.toNat ≤ 57 := of_decide_eq_true h
  have h2 : blk b = false := by
    rw [blk_iff, decide_eq_false (by omega), decide_eq_false (by omega), decide_eq_false (by omega)]; rfl
  refine ⟨h2, ?_, ?_⟩
  · rw [okS_iff, h2, decide_eq_true (by omega), decide_eq_true (by omega)]; rfl
  · rintro rfl
    revert h1
    decide
theorem mkv_in (c t f k : Nat) (b : UInt8) : (isMk b = true ∧ ∀ x ∈ mkv c t f k b, isDg x = true) ∨ (isMk b = false ∧ mkv c t f k b = [b]) := by
  by_cases hb : isMk b = true
  · obtain ⟨v, hv⟩ := mkv_dg (c := c) (t := t) (f := f) (k := k) hb
    rw [hv]
    exact .inl ⟨hb, dd_isDg v⟩
  · have hb' : isMk b = false := by simpa using hb
    exact .inr ⟨hb', mkv_non hb'⟩
theorem mk_blk {b : UInt8} (h : isMk b = true) : blk b = false := by
  unfold isMk at h
  simp only [Bool.or_eq_true, beq_iff_eq] at h
  rcases h with ((h | h) | h) | h <;> (subst h; decide)
theorem wdF_subst (c t f k : Nat) : ∀ (p w : List UInt8) (out : List (List UInt8)), wdF (subst c t f k p) (subst c t f k w) (out.map (subst c t f k)) = (wdF p w out).map (subst c t f k) := by
  intro p
  induction p with
  | nil => intro w out; exact psh_map c t f k out w
  | cons b l ih =>
    intro w out
    rw [subst]
    by_cases hb : blk b = true
    · have hm : isMk b = false := by
        cases hq : isMk b with
        | false => rfl
        | true => rw [mk_blk hq] at hb; cases hb
      rw [mkv_non hm, List.singleton_append, wdF, wdF, if_pos hb, if_pos hb, psh_map]
      exact ih [] (psh out w)
    · have hb' : blk b = false := by simpa using hb
      have hx : ∀ x ∈ mkv c t f k b, blk x = false := fun x hx => by
        rcases mkv_in c t f k b with ⟨_, h⟩ | ⟨_, h⟩
        · exact (dg_blk (h x hx)).1
        · rw [h, List.mem_singleton] at hx; subst hx; exact hb'
      rw [wdF_app _ _ _ _ hx, wdF, if_neg hb]
      have e : subst c t f k w ++ mkv c t f k b = subst c t f k (w ++ [b]) := by rw [subst_app, subst, subst, List.append_nil]
      rw [e]
      exact ih (w ++ [b]) out
/-- Each blank made three. -/
def wid : List UInt8 → List UInt8
  | [] => []
  | b :: l => (if b = 32 then [13, 32, 32] else [b]) ++ wid l
theorem wid_snoc : ∀ (l : List UInt8) (b : UInt8), wid (l ++ [b]) = wid l ++ (if b = 32 then [13, 32, 32] else [b]) := by
  intro l
  induction l with
  | nil => intro b; simp [wid]
  | cons x l ih => intro b; rw [List.cons_append, wid, wid, ih, List.append_assoc]
theorem wdF_wid : ∀ (l w : List UInt8) (out : List (List UInt8)), wdF (wid l) w out = wdF l w out := by
  intro l
  induction l with
  | nil => intro w out; rfl
  | cons b l ih =>
    intro w out
    rw [wid]
    by_cases hb : b = 32
    · subst hb
      rw [if_pos rfl]
      show wdF (wid l) [] (psh out w) = _
      rw [ih]
      rfl
    · rw [if_neg hb, List.singleton_append, wdF, wdF, ih, ih]
theorem wdF_end : ∀ (x w : List UInt8) (out : List (List UInt8)), wdF (x ++ [9]) w out = wdF x w out := by
  intro x
  induction x with
  | nil => intro w out; show psh (psh out w) [] = psh out w; rfl
  | cons b l ih => intro w out; rw [List.cons_append, wdF, wdF, ih, ih]
theorem cut_at (a r : List UInt8) (c : UInt8) (h : ∀ x ∈ a, x ≠ c) : (Lib.cut (a ++ c :: r) [c]).1 = a := by
  rcases cut_one (a ++ c :: r) c with ⟨h1, _⟩ | ⟨a', r', h1, h2, h3⟩
  · exact absurd rfl (h1 c (by simp))
  · rw [h3]
    show a' = a
    have e : ∀ (x y : List UInt8), (∀ z ∈ x, z ≠ c) → (x ++ c :: y).takeWhile (· != c) = x := fun x y hx => by
      rw [List.takeWhile_append_of_pos (fun z hz => by simpa using hx z hz)]
      simp
    rw [← e a' r' h2, ← h1, e a r h]
/-- The line of an instruction is a pattern filled. -/
theorem line_pat (c t f k : Nat) : ∃ j, j < 42 ∧ lineL c t f k = subst c t f k (patQ j) ∧ (67 ∈ patQ j ∨ codeQ j = c) ∧ (84 ∈ patQ j ∨ t = 0) ∧ (70 ∈ patQ j ∨ f = 0) ∧ (75 ∈ patQ j ∨ k = 0) := by
  rcases line_shape c t f k with ⟨j, h1, h2, h3, h4, h5, h6⟩ | h
  · have e1 : patQ j = patP j := by unfold patQ; rw [if_pos h1]
    have e2 : codeQ j = codeP j := by unfold codeQ; rw [if_pos h1]
    exact ⟨j, by omega, by rw [e1]; exact h6, .inr (by rw [e2]; exact h2), by rw [e1]; exact h3, by rw [e1]; exact h4, by rw [e1]; exact h5⟩
  · exact ⟨41, by omega, h, .inl (by decide), .inl (by decide), .inl (by decide), .inl (by decide)⟩
theorem pat_ok : ∀ j, j < 42 → ∀ b ∈ patQ j, okS b = true ∧ b ≠ 59 := by decide +kernel
theorem line_ok (c t f k : Nat) : ∀ b ∈ lineL c t f k, okS b = true ∧ b ≠ 59 := by
  obtain ⟨j, hj, e, _⟩ := line_pat c t f k
  rw [e]
  have h : ∀ p : List UInt8, (∀ b ∈ p, okS b = true ∧ b ≠ 59) → ∀ b ∈ subst c t f k p, okS b = true ∧ b ≠ 59 := by
    intro p
    induction p with
    | nil => intro _ b hb; cases hb
    | cons x l ih =>
      intro hp b hb
      rw [subst, List.mem_append] at hb
      rcases hb with hb | hb
      · rcases mkv_in c t f k x with ⟨_, h⟩ | ⟨_, h⟩
        · exact (dg_blk (h b hb)).2
        · rw [h, List.mem_singleton] at hb; subst hb; exact hp b (by simp)
      · exact ih (fun y hy => hp y (by simp [hy])) b hb
  exact h _ (pat_ok j hj)
theorem wid_ok : ∀ l : List UInt8, (∀ b ∈ l, okS b = true ∧ b ≠ 59) → ∀ b ∈ wid l, okS b = true ∧ b ≠ 59 := by
  intro l
  induction l with
  | nil => intro _ b hb; cases hb
  | cons x l ih =>
    intro h b hb
    rw [wid, List.mem_append] at hb
    rcases hb with hb | hb
    · split at hb
      · simp only [List.mem_cons, List.not_mem_nil, or_false] at hb
        rcases hb with rfl | rfl | rfl <;> decide
      · rw [List.mem_singleton] at hb; subst hb; exact h b (by simp)
    · exact ih (fun y hy => h y (by simp [hy])) b hb
/-- A line's text with blanks and a note. -/
def widT (l note : List UInt8) : List UInt8 := (32 :: 9 :: wid l) ++ [9] ++ 59 :: note
theorem widT_cut (c t f k : Nat) (note : List UInt8) : (Lib.cut (widT (lineL c t f k) note) [59]).1 = (32 :: 9 :: wid (lineL c t f k)) ++ [9] ∧ ((32 :: 9 :: wid (lineL c t f k)) ++ [9]).all okS = true := by
  have h : ∀ b ∈ (32 :: 9 :: wid (lineL c t f k)) ++ [9], okS b = true ∧ b ≠ 59 := by
    intro b hb
    simp only [List.mem_append, List.mem_cons, List.not_mem_nil, or_false] at hb
    rcases hb with (rfl | rfl | hb) | rfl
    · decide
    · decide
    · exact wid_ok _ (line_ok c t f k) b hb
    · decide
  exact ⟨cut_at _ _ _ fun x hx => (h x hx).2, List.all_eq_true.2 fun x hx => (h x hx).1⟩
theorem widT_words (c t f k : Nat) (note : List UInt8) (j : Nat) (hj : j < 42) (e : lineL c t f k = subst c t f k (patQ j)) : wsOf (widT (lineL c t f k) note) = (flds j).map (subst c t f k) := by
  unfold wsOf
  rw [(widT_cut c t f k note).1]
  unfold wds
  rw [wdF_end]
  show wdF (wid (lineL c t f k)) [] [] = _
  rw [wdF_wid, e, ← wds_chk j hj]
  exact wdF_subst c t f k (patQ j) [] []
theorem flds_pos : ∀ j, j < 42 → 0 < (flds j).length := by decide +kernel
theorem subst_len (c t f k : Nat) (hc : c < 65536) (ht : t < 256) (hf : f < 256) (hk : k < 4294967296) : ∀ p : List UInt8, (subst c t f k p).length ≤ p.length * 11 := by
  intro p
  induction p with
  | nil => simp [subst]
  | cons b l ih =>
    have h : (mkv c t f k b).length ≤ 11 := by
      have hd : ∀ u, u < 4294967296 → (dd u).length ≤ 11 := fun u hu => by have := dd_len 9 u (by omega); omega
      unfold mkv
      split
      · exact hd c (by omega)
      · split
        · exact hd t (by omega)
        · split
          · exact hd f (by omega)
          · split
            · exact hd k hk
            · simp
    rw [subst, List.length_append, List.length_cons, Nat.add_mul]
    omega
theorem line_len (c t f k : Nat) (hc : c < 65536) (ht : t < 256) (hf : f < 256) (hk : k < 4294967296) : (lineL c t f k).length ≤ 220 := by
  obtain ⟨j, hj, e, _⟩ := line_pat c t f k
  have h := subst_len c t f k hc ht hf hk (patQ j)
  have h2 := (flds_chk j hj).2.2.1
  rw [e]
  omega
theorem wid_len : ∀ l : List UInt8, (wid l).length ≤ l.length * 3 := by
  intro l
  induction l with
  | nil => simp [wid]
  | cons b l ih =>
    rw [wid, List.length_append, List.length_cons]
    split <;> simp <;> omega
/-- Blanks around words, and a note behind a line, change nothing. -/
theorem readL_wide (c t f k : Nat) (hc : c < 65536) (ht : t < 256) (hf : f < 256) (hk : k < 4294967296) (note : List UInt8) (hn : note.length ≤ 1000) (w : World) (he : EnvN w) :
    Calls Tryz.prog 6 #[.string ⟨(widT (lineL c t f k) note).toArray⟩] w fun e w' => e = .returned (.tuple #[.agg (instA c t f k), .int .i64 0]) ∧ Below w.heap.size w w' := by
  obtain ⟨j, hj, e, h1, h2, h3, h4⟩ := line_pat c t f k
  have hws := widT_words c t f k note j hj e
  obtain ⟨hcut, hok⟩ := widT_cut c t f k note
  have hll := line_len c t f k hc ht hf hk
  have hwl := wid_len (lineL c t f k)
  have hlen : (wsOf (widT (lineL c t f k) note)).length = (flds j).length := by rw [hws, List.length_map]
  have hW : ∀ i, i < (flds j).length → wsN (widT (lineL c t f k) note) i = subst c t f k (fldN j i) := fun i hi => by
    unfold wsN fldN
    rw [hws, List.getD_eq_getElem?_getD, List.getElem?_map, List.getD_eq_getElem?_getD, List.getElem?_eq_getElem hi]
    rfl
  obtain ⟨q1, q2, q3, q4⟩ := flds_chk j hj
  obtain ⟨f1, f2⟩ := form_first c t f k j hj _ hW
  refine readL_any ⟨(widT (lineL c t f k) note).toArray⟩ ?_ ?_ ?_ ?_ ?_ c t f k 0 ?_ w he
  · show (widT (lineL c t f k) note).toArray.size ≤ _
    simp [widT]; omega
  · show (Lib.cut (widT (lineL c t f k) note) [59]).1.length ≤ _
    rw [hcut]; simp; omega
  · show 0 < (wsOf (widT (lineL c t f k) note)).length
    rw [hlen]; exact flds_pos j hj
  · show (wsOf (widT (lineL c t f k) note)).length ≤ _
    rw [hlen]; omega
  · show ∀ i, i < (wsOf (widT (lineL c t f k) note)).length → (wsN (widT (lineL c t f k) note) i).length ≤ _
    rw [hlen]
    intro i hi
    rw [hW i hi]
    have h5 := subst_len c t f k hc ht hf hk (fldN j i)
    have h6 := (q2 i (by omega)).1
    omega
  · refine .inl ⟨rfl, j, hj, ?_, ?_, ?_⟩
    · show fitQ (wsOf (widT (lineL c t f k) note)).length _ j = true
      rw [hlen]; exact f1
    · show ∀ i, i < j → fitQ (wsOf (widT (lineL c t f k) note)).length _ i = false
      rw [hlen]; exact f2
    · exact inst_line c t f k hc ht hf hk j hj _ hW h1 h2 h3 h4
set_option maxRecDepth 100000 in
set_option maxHeartbeats 4000000 in
theorem readL_empty (s : ByteArray) (hs : s.size ≤ 100000) (hL : (Lib.cut s.data.toList [59]).1.length ≤ 100000) (hn0 : (wsOf s.data.toList).length = 0) (w : World) :
    Calls Tryz.prog 6 #[.string s] w fun e w' => e = .returned (.tuple #[.agg zI, .int .i64 4]) ∧ Below w.heap.size w w' := by
  obtain ⟨W0, hW0⟩ : ∃ W, w.alloc (.cells zI 25) = W := ⟨_, rfl⟩
  have hb0 : Below w.heap.size w W0 := by rw [← hW0]; exact (Below.refl _ _).alloc (Nat.le_refl _) _
  have r0 : RowC W0 w.heap.size zI 25 := by rw [← hW0]; exact RowC.new _ _ _ _ rfl
  have hsp := split_words s (by omega) (by omega) W0
  rw [hn0] at hsp
  have HS := Lib.hid hsp
  have HB := Lib.hid hb0
  have HR := Lib.hid r0
  have HW := Lib.hid hW0
  clear hsp hb0 r0 hW0 hL
  go_enter Tryz.func6, Tryz.ntmps6
  go_upto_region 1 with fail
  rw [HW.out]
  go_wp2_with fail
  refine HS.out.mono ?_
  rintro e w1 ⟨A, rfl, _, hB1⟩
  have r1 := HR.out.below hB1 HR.out.lt
  have HR1 := Lib.hid r1
  have HB1 := Lib.hid (HB.out.trans (hB1.mono HB.out.size))
  have z0 := r1.cell 0 (.int .u16 0) rfl
  have z1 := r1.cell 1 (.int .u8 0) rfl
  have z2 := r1.cell 2 (.int .u8 0) rfl
  have z3 := r1.cell 3 (.int .u32 0) rfl
  have g0 := r1.frozen 0
  have g1 := r1.frozen 1
  have g2 := r1.frozen 2
  have g3 := r1.frozen 3
  clear hB1 r1 HS HB HR HW
  go_wp2
  exact bodyPost_ret (results_cell_row2L Tryz.results6 _ _ w.heap.size _ _ (0, 0) _ (.int .i64 4) (by rfl) (by rfl) (show RowC _ w.heap.size zI 25 from (((HR1.out.set 0 (.int .u16 0)).set 1 (.int .u8 0)).set 2 (.int .u8 0)).set 3 (.int .u32 0)) Tryz.underlying25 (by rfl) (show _ = some 4 by kernel_rfl)) rfl
    ⟨rfl, (((HB1.out.setCell (Nat.le_refl _) _).setCell (Nat.le_refl _) _).setCell (Nat.le_refl _) _).setCell (Nat.le_refl _) _⟩
theorem readL_note (note : List UInt8) (hn : note.length ≤ 1000) (w : World) :
    Calls Tryz.prog 6 #[.string ⟨(32 :: 59 :: note).toArray⟩] w fun e w' => e = .returned (.tuple #[.agg zI, .int .i64 4]) ∧ Below w.heap.size w w' := by
  have hcut : (Lib.cut (32 :: 59 :: note) [59]).1 = [32] := cut_at [32] note 59 (by decide)
  refine readL_empty ⟨(32 :: 59 :: note).toArray⟩ ?_ ?_ ?_ w
  · show (32 :: 59 :: note).toArray.size ≤ _
    simp; omega
  · show (Lib.cut (32 :: 59 :: note) [59]).1.length ≤ _
    rw [hcut]; decide
  · show (wsOf (32 :: 59 :: note)).length = 0
    unfold wsOf
    rw [hcut]; decide
end Go.Proofs.YtebeoadmdflfcaaGreatDoor
