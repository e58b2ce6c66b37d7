/-
  Lines of words, by plain functions: a text's lines, a line's told part, its words, what a text's lines are. Nothing here speaks of a program.
-/
import Derived.Lib.FieldsP
import Derived.Lib.CutLaws
import Derived.Lib.IndexBytes
import Derived.Lib.IndexLaws
import Derived.Laws.RangeAny
import Derived.WalkKit
namespace Go.Proofs.YtebeoadmdflfcaaGreatDoor
open Go.RowKit

/-- A text's lines. -/
def lns : List UInt8 → List (List UInt8)
  | [] => [[]]
  | c :: t => if c = 10 then [] :: lns t else match lns t with
    | [] => [[c]]
    | x :: r => (c :: x) :: r
theorem lns_none : ∀ (l : List UInt8), (∀ c ∈ l, c ≠ 10) → lns l = [l]
  | [], _ => rfl
  | c :: t, h => by
    have h1 : c ≠ 10 := h c (List.mem_cons_self)
    have h2 := lns_none t fun x hx => h x (List.mem_cons_of_mem _ hx)
    unfold lns
    rw [if_neg h1, h2]
theorem lns_some : ∀ (l r : List UInt8), (∀ c ∈ l, c ≠ 10) → lns (l ++ 10 :: r) = l :: lns r
  | [], r, _ => by show (if (10 : UInt8) = 10 then [] :: lns r else _) = _; rw [if_pos rfl]
  | c :: t, r, h => by
    have h1 : c ≠ 10 := h c (List.mem_cons_self)
    have h2 := lns_some t r fun x hx => h x (List.mem_cons_of_mem _ hx)
    show (if c = 10 then _ else match lns (t ++ 10 :: r) with | [] => [[c]] | x :: r => (c :: x) :: r) = _
    rw [if_neg h1, h2]
theorem lns_length : ∀ (l : List UInt8), 1 ≤ (lns l).length ∧ (lns l).length ≤ l.length + 1
  | [] => ⟨Nat.le_refl _, Nat.le_refl _⟩
  | c :: t => by
    have h := lns_length t
    unfold lns
    split
    · simp only [List.length_cons]; omega
    · split
      · simp
      · rename_i x r e
        rw [e] at h
        simp only [List.length_cons] at h ⊢
        omega
theorem lns_mem : ∀ (l x : List UInt8), x ∈ lns l → x.length ≤ l.length
  | [], x, h => by
    have : x ∈ [([] : List UInt8)] := h
    rw [List.mem_singleton] at this
    subst this; exact Nat.le_refl _
  | c :: t, x, h => by
    have ih := lns_mem t
    unfold lns at h
    split at h
    · rcases List.mem_cons.1 h with rfl | h
      · exact Nat.zero_le _
      · have := ih x h
        simp only [List.length_cons]; omega
    · split at h
      · rw [List.mem_singleton] at h
        subst h; simp
      · rename_i y r e
        rcases List.mem_cons.1 h with rfl | h
        · have := ih y (by rw [e]; exact List.mem_cons_self)
          simp only [List.length_cons]; omega
        · have := ih x (by rw [e]; exact List.mem_cons_of_mem _ h)
          simp only [List.length_cons]; omega
/-- A blank. -/
def blk (c : UInt8) : Bool := c == 32 || c == 9 || c == 13
/-- A sign that may be. -/
def okS (c : UInt8) : Bool := blk c || (decide (33 ≤ c.toNat) && decide (c.toNat ≤ 126))
/-- What stands ahead of a note. -/
def nb (l : List UInt8) : List UInt8 := l.takeWhile (· != 35)
/-- Words, the sign by sign. -/
def psh : List (List UInt8) → List UInt8 → List (List UInt8)
  | out, [] => out
  | out, c :: t => out ++ [c :: t]
theorem psh_ne (out : List (List UInt8)) {w : List UInt8} (h : w ≠ []) : psh out w = out ++ [w] := by
  cases w with
  | nil => exact absurd rfl h
  | cons c t => rfl
def wdF : List UInt8 → List UInt8 → List (List UInt8) → List (List UInt8)
  | [], w, out => psh out w
  | c :: t, w, out => if blk c = true then wdF t [] (psh out w) else wdF t (w ++ [c]) out
def wds (l : List UInt8) : List (List UInt8) := wdF l [] []
/-- The lines that count, behind acc; or the number of the first wrong one. -/
def scan : Nat → List (List UInt8) → List (Nat × List (List UInt8)) → List (Nat × List (List UInt8)) × Nat
  | _, [], acc => (acc, 0)
  | n, l :: r, acc => if (nb l).all okS = true then scan (n + 1) r (if wds (nb l) = [] then acc else acc ++ [(n, wds (nb l))]) else ([], n)
def linesF (l : List UInt8) : List (Nat × List (List UInt8)) × Nat := scan 1 (lns l) []

theorem okS_lt {c : UInt8} (h : okS c = true) : c.toNat < 128 := by
  have hc : c.toNat = c.toNat := rfl
  unfold okS blk at h
  simp only [Bool.or_eq_true, Bool.and_eq_true, decide_eq_true_eq, beq_iff_eq] at h
  rcases h with ((h | h) | h) | h
  · subst h; decide
  · subst h; decide
  · subst h; decide
  · omega
theorem blk_iff (c : UInt8) : blk c = (decide (c.toNat = 32) || decide (c.toNat = 9) || decide (c.toNat = 13)) := by
  have e : ∀ d : UInt8, (c == d) = decide (c.toNat = d.toNat) := fun d => by
    by_cases h : c = d
    · subst h; simp
    · rw [beq_eq_false_iff_ne.2 h, decide_eq_false (fun h' => h (UInt8.toNat_inj.1 h'))]
  unfold blk
  rw [e, e, e]; rfl
theorem okS_iff (c : UInt8) : okS c = (blk c || (decide (33 ≤ c.toNat) && decide (c.toNat ≤ 126))) := rfl

/-! ### strings.Cut at one byte -/
theorem cut_one (l : List UInt8) (c : UInt8) :
    ((∀ x ∈ l, x ≠ c) ∧ Lib.cut l [c] = (l, [], false)) ∨ ∃ a r, l = a ++ c :: r ∧ (∀ x ∈ a, x ≠ c) ∧ Lib.cut l [c] = (a, r, true) := by
  have hi := Lib.index_one l c
  have hge := Lib.indexByte_ge l c
  by_cases h : Lib.indexByte l c = -1
  · refine .inl ⟨fun x hx e => ?_, ?_⟩
    · subst e
      obtain ⟨k, hk⟩ := List.getElem?_of_mem hx
      exact Lib.indexByte_none h k hk
    · unfold Lib.cut
      rw [hi, h, if_neg (by decide)]
  · obtain ⟨o, ho⟩ : ∃ o : Nat, Lib.indexByte l c = o := ⟨(Lib.indexByte l c).toNat, by omega⟩
    obtain ⟨h1, h2⟩ := Lib.indexByte_some ho
    refine .inr ⟨l.take o, l.drop (o + 1), ?_, fun x hx e => ?_, ?_⟩
    · have hlt : o < l.length := (List.getElem?_eq_some_iff.1 h1).1
      have e2 : l.drop o = c :: l.drop (o + 1) := by
        rw [List.drop_eq_getElem_cons hlt]
        congr 1
        exact (List.getElem?_eq_some_iff.1 h1).2
      rw [← e2, List.take_append_drop]
    · subst e
      obtain ⟨k, hk⟩ := List.getElem?_of_mem hx
      have hk' : k < o := by
        have := (List.getElem?_eq_some_iff.1 hk).1
        simp at this; omega
      rw [List.getElem?_take_of_lt hk'] at hk
      exact h2 k hk' hk
    · unfold Lib.cut
      rw [hi, ho, if_pos (by omega)]
      simp
theorem takeWhile_cut (l : List UInt8) : (Lib.cut l [35]).1 = nb l := by
  rcases cut_one l 35 with ⟨h1, h2⟩ | ⟨a, r, rfl, h1, h2⟩
  · rw [h2]
    unfold nb
    have hh : ∀ t : List UInt8, (∀ x ∈ t, x ≠ 35) → t = t.takeWhile (· != 35) := by
      intro t
      induction t with
      | nil => intro _; rfl
      | cons c t ih =>
        intro h
        rw [List.takeWhile_cons, if_pos (by simpa using h c (List.mem_cons_self)), ← ih fun x hx => h x (List.mem_cons_of_mem _ hx)]
    exact hh l h1
  · rw [h2]
    unfold nb
    rw [List.takeWhile_append_of_pos (fun x hx => by simpa using h1 x hx)]
    simp

/-! ### strings.FieldsFunc at signs that may be -/
def isBl (r : Nat) : Bool := decide (r = 32) || decide (r = 9) || decide (r = 13)
/-- The word that a span which is open holds. -/
def wrd (l : List UInt8) (st : Option Nat) (pos : Nat) : List UInt8 := match st with | some a => (l.drop a).take (pos - a) | none => []
theorem piece_grow (l : List UInt8) (a pos : Nat) (h : a ≤ pos) (hp : pos < l.length) : (l.drop a).take (pos - a) ++ [l[pos]] = (l.drop a).take (pos + 1 - a) := by
  rw [show pos + 1 - a = (pos - a) + 1 by omega, List.take_add_one]
  congr 1
  rw [List.getElem?_drop, show a + (pos - a) = pos by omega, List.getElem?_eq_getElem hp]
  rfl
theorem piece_ne (l : List UInt8) (a pos : Nat) (h : a < pos) (hp : pos ≤ l.length) : (l.drop a).take (pos - a) ≠ [] := by
  intro h0
  have := congrArg List.length h0
  simp at this
  omega
theorem spans_wd (s : ByteArray) (hok : s.data.toList.all okS = true) : ∀ (f pos : Nat) (st : Option Nat) (acc : List (Nat × Nat)), s.size ≤ pos + f → pos ≤ s.size → (∀ a, st = some a → a < pos) →
    ((Lib.closeSpans s (Lib.spansFromP isBl s f pos st acc)).map fun p => (s.data.toList.drop p.1).take (p.2 - p.1)) = wdF (s.data.toList.drop pos) (wrd s.data.toList st pos) (acc.map fun p => (s.data.toList.drop p.1).take (p.2 - p.1)) := by
  have hlen : s.data.toList.length = s.size := Array.length_toList
  have hend : ∀ (st : Option Nat) (acc : List (Nat × Nat)), (∀ a, st = some a → a < s.size) → ((Lib.closeSpans s (acc, st)).map fun p => (s.data.toList.drop p.1).take (p.2 - p.1)) = wdF [] (wrd s.data.toList st s.size) (acc.map fun p => (s.data.toList.drop p.1).take (p.2 - p.1)) := fun st acc hst => by
    cases st with
    | none => rfl
    | some a =>
      have := piece_ne s.data.toList a s.size (hst a rfl) (by omega)
      simp only [Lib.closeSpans, wdF, wrd, List.map_append, List.map_cons, List.map_nil]
      rw [psh_ne _ this]
  intro f
  induction f with
  | zero =>
    intro pos st acc h1 h2 h3
    obtain rfl : pos = s.size := by omega
    have e : s.data.toList.drop s.size = [] := by rw [List.drop_eq_nil_iff]; omega
    rw [e]
    exact hend st acc h3
  | succ f ih =>
    intro pos st acc h1 h2 h3
    by_cases hlt : pos < s.size
    · have hgl : pos < s.data.toList.length := by omega
      have hob : okS (s.data.toList[pos]) = true := by
        rw [List.all_eq_true] at hok
        exact hok _ (List.getElem_mem hgl)
      have hgb : s.data.toList[pos] = s[pos]'hlt := by simp [ByteArray.getElem_eq_getElem_data]
      have hdec := decode_ascii s pos hlt (by rw [← hgb]; exact okS_lt hob)
      have ed : s.data.toList.drop pos = s.data.toList[pos] :: s.data.toList.drop (pos + 1) := List.drop_eq_getElem_cons hgl
      have ebl : isBl (s[pos]'hlt).toNat = blk (s.data.toList[pos]) := by rw [hgb, blk_iff]; rfl
      rw [ed]
      unfold Lib.spansFromP wdF
      rw [if_pos hlt, hdec]
      dsimp only
      rw [ebl]
      by_cases hb : blk (s.data.toList[pos]) = true
      · rw [if_pos hb, if_pos hb]
        cases st with
        | none =>
          dsimp only
          rw [ih (pos + 1) none acc (by omega) (by omega) (fun a h => by cases h)]
          rfl
        | some a =>
          dsimp only
          rw [ih (pos + 1) none (acc ++ [(a, pos)]) (by omega) (by omega) (fun a h => by cases h)]
          have hne := piece_ne s.data.toList a pos (h3 a rfl) (by omega)
          simp only [wrd, List.map_append, List.map_cons, List.map_nil]
          rw [psh_ne _ hne]
      · rw [if_neg hb, if_neg hb]
        cases st with
        | none =>
          dsimp only
          rw [ih (pos + 1) (some pos) acc (by omega) (by omega) (fun a h => by cases h; omega)]
          have := piece_grow s.data.toList pos pos (Nat.le_refl _) hgl
          simp only [wrd]
          rw [← this]
          simp
        | some a =>
          dsimp only
          rw [ih (pos + 1) (some a) acc (by omega) (by omega) (fun b h => by cases h; have := h3 a rfl; omega)]
          have := piece_grow s.data.toList a pos (by have := h3 a rfl; omega) hgl
          simp only [wrd]
          rw [← this]
    · obtain rfl : pos = s.size := by omega
      have e : s.data.toList.drop s.size = [] := by rw [List.drop_eq_nil_iff]; omega
      rw [e, Lib.spansFromP_end isBl s _ _ _ _ hlt]
      exact hend st acc h3
theorem fields_wd (s : ByteArray) (hok : s.data.toList.all okS = true) : Lib.goFieldsP isBl s = (wds s.data.toList).map fun w => (⟨w.toArray⟩ : ByteArray) := by
  have h := spans_wd s hok s.size 0 none [] (by omega) (Nat.zero_le _) (fun a h => by cases h)
  unfold Lib.goFieldsP Lib.spansOfP
  have e : ∀ p : Nat × Nat, s.extract p.1 p.2 = (⟨((s.data.toList.drop p.1).take (p.2 - p.1)).toArray⟩ : ByteArray) := fun p => Lib.extract_eq s p.1 p.2
  unfold wds
  rw [List.drop_zero] at h
  simp only [wrd, List.map_nil] at h
  rw [← h, List.map_map]
  exact List.map_congr_left fun p _ => e p
end Go.Proofs.YtebeoadmdflfcaaGreatDoor
