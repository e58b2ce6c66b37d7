/-
  Lines of words, by plain functions: a text's lines, a line's told part, its words, what a text's lines are. Nothing here speaks of a program.
-/
import Derived.Lib.FieldsP
import Derived.Lib.CutLaws
import Derived.Lib.IndexBytes
import Derived.Lib.IndexLaws
import Derived.Laws.RangeAny
import Derived.WalkKit
import Derived.Test.YtccklmleaffgiaaGreatDoorQ1
import Derived.Test.YtccklmleaffgiaaGreatDoorShelf
import Derived.Lib.OthersKept
import Derived.Deep.Draws
import Derived.RangeFuncNested
import Derived.RangeFuncBound
import Derived.RangeFuncCalls
import Derived.RangeFuncLeaves
import Derived.Shelf.Abstract
import Derived.Shelf.RegionOpen
import Derived.OwnWalkIn
import Derived.TacticsInMore
import Derived.LoopNIn
import Derived.LoopIn
import Derived.Maps.AppendAt
import Derived.Shelf.Strings.FieldsFuncAny
namespace Go.Proofs.YtccklmleaffgiaaGreatDoor
open Go.RowKit

/-- A text's lines. -/
def lns : List UInt8 → List (List UInt8)
  | [] => [[]]
  | c :: t => if c = 10 then [] :: lns t else match lns t with
    | [] => [[c]]
    | x :: r => (c :: x) :: r
theorem lns_none : ∀ (l : List UInt8), (∀ c ∈ l, c ≠ 10) → lns l = [l]
  | [], _ => rfl
  | c :: t, h => by
    have h1 : c ≠ 10 := h c (List.mem_cons_self)
    have h2 := lns_none t fun x hx => h x (List.mem_cons_of_mem _ hx)
    unfold lns
    rw [if_neg h1, h2]
theorem lns_some : ∀ (l r : List UInt8), (∀ c ∈ l, c ≠ 10) → lns (l ++ 10 :: r) = l :: lns r
  | [], r, _ => by show (if (10 : UInt8) = 10 then [] :: lns r else _) = _; rw [if_pos rfl]
  | c :: t, r, h => by
    have h1 : c ≠ 10 := h c (List.mem_cons_self)
    have h2 := lns_some t r fun x hx => h x (List.mem_cons_of_mem _ hx)
    show (if c = 10 then _ else match lns (t ++ 10 :: r) with | [] => [[c]] | x :: r => (c :: x) :: r) = _
    rw [if_neg h1, h2]
theorem lns_length : ∀ (l : List UInt8), 1 ≤ (lns l).length ∧ (lns l).length ≤ l.length + 1
  | [] => ⟨Nat.le_refl _, Nat.le_refl _⟩
  | c :: t => by
    have h := lns_length t
    unfold lns
    split
    · simp only [List.length_cons]; omega
    · split
      · simp
      · rename_i x r e
        rw [e] at h
        simp only [List.length_cons] at h ⊢
        omega
theorem lns_mem : ∀ (l x : List UInt8), x ∈ lns l → x.length ≤ l.length
  | [], x, h => by
    have : x ∈ [([] : List UInt8)] := h
    rw [List.mem_singleton] at this
    subst this; exact Nat.le_refl _
  | c :: t, x, h => by
    have ih := lns_mem t
    unfold lns at h
    split at h
    · rcases List.mem_cons.1 h with rfl | h
      · exact Nat.zero_le _
      · have := ih x h
        simp only [List.length_cons]; omega
    · split at h
      · rw [List.mem_singleton] at h
        subst h; simp
      · rename_i y r e
        rcases List.mem_cons.1 h with rfl | h
        · have := ih y (by rw [e]; exact List.mem_cons_self)
          simp only [List.length_cons]; omega
        · have := ih x (by rw [e]; exact List.mem_cons_of_mem _ h)
          simp only [List.length_cons]; omega
/-- A blank. -/
def blk (c : UInt8) : Bool := c == 32 || c == 9 || c == 13
/-- A sign that may be. -/
def okS (c : UInt8) : Bool := blk c || (decide (33 ≤ c.toNat) && decide (c.toNat ≤ 126))
/-- What stands ahead of a note. -/
def nb (l : List UInt8) : List UInt8 := l.takeWhile (· != 35)
/-- Words, the sign by sign. -/
def psh : List (List UInt8) → List UInt8 → List (List UInt8)
  | out, [] => out
  | out, c :: t => out ++ [c :: t]
theorem psh_ne (out : List (List UInt8)) {w : List UInt8} (h : w ≠ []) : psh out w = out ++ [w] := by
  cases w with
  | nil => exact absurd rfl h
  | cons c t => rfl
def wdF : List UInt8 → List UInt8 → List (List UInt8) → List (List UInt8)
  | [], w, out => psh out w
  | c :: t, w, out => if blk c = true then wdF t [] (psh out w) else wdF t (w ++ [c]) out
def wds (l : List UInt8) : List (List UInt8) := wdF l [] []
/-- The lines that count, behind acc; or the number of the first wrong one. -/
def scan : Nat → List (List UInt8) → List (Nat × List (List UInt8)) → List (Nat × List (List UInt8)) × Nat
  | _, [], acc => (acc, 0)
  | n, l :: r, acc => if (nb l).all okS = true then scan (n + 1) r (if wds (nb l) = [] then acc else acc ++ [(n, wds (nb l))]) else ([], n)
def linesF (l : List UInt8) : List (Nat × List (List UInt8)) × Nat := scan 1 (lns l) []

theorem okS_lt {c : UInt8} (h : okS c = true) : c.toNat < 128 := by
  have hc : c.toNat = c.toNat := rfl
  unfold okS blk at h
  simp only [Bool.or_eq_true, Bool.and_eq_true, decide_eq_true_eq, beq_iff_eq] at h
  rcases h with ((h | h) | h) | h
  · subst h; decide
  · subst h; decide
  · subst h; decide
  · omega
theorem blk_iff (c : UInt8) : blk c = (decide (c.toNat = 32) || decide (c.toNat = 9) || decide (c.toNat = 13)) := by
  have e : ∀ d : UInt8, (c == d) = decide (c.toNat = d.toNat) := fun d => by
    by_cases h : c = d
    · subst h; simp
    · rw [beq_eq_false_iff_ne.2 h, decide_eq_false (fun h' => h (UInt8.toNat_inj.1 h'))]
  unfold blk
  rw [e, e, e]; rfl
theorem okS_iff (c : UInt8) : okS c = (blk c || (decide (33 ≤ c.toNat) && decide (c.toNat ≤ 126))) := rfl

/-! ### strings.Cut at one byte -/
theorem cut_one (l : List UInt8) (c : UInt8) :
    ((∀ x ∈ l, x ≠ c) ∧ Lib.cut l [c] = (l, [], false)) ∨ ∃ a r, l = a ++ c :: r ∧ (∀ x ∈ a, x ≠ c) ∧ Lib.cut l [c] = (a, r, true) := by
  have hi := Lib.index_one l c
  have hge := Lib.indexByte_ge l c
  by_cases h : Lib.indexByte l c = -1
  · refine .inl ⟨fun x hx e => ?_, ?_⟩
    · subst e
      obtain ⟨k, hk⟩ := List.getElem?_of_mem hx
      exact Lib.indexByte_none h k hk
    · unfold Lib.cut
      rw [hi, h, if_neg (by decide)]
  · obtain ⟨o, ho⟩ : ∃ o : Nat, Lib.indexByte l c = o := ⟨(Lib.indexByte l c).toNat, by omega⟩
    obtain ⟨h1, h2⟩ := Lib.indexByte_some ho
    refine .inr ⟨l.take o, l.drop (o + 1), ?_, fun x hx e => ?_, ?_⟩
    · have hlt : o < l.length := (List.getElem?_eq_some_iff.1 h1).1
      have e2 : l.drop o = c :: l.drop (o + 1) := by
        rw [List.drop_eq_getElem_cons hlt]
        congr 1
        exact (List.getElem?_eq_some_iff.1 h1).2
      rw [← e2, List.take_append_drop]
    · subst e
      obtain ⟨k, hk⟩ := List.getElem?_of_mem hx
      have hk' : k < o := by
        have := (List.getElem?_eq_some_iff.1 hk).1
        simp at this; omega
      rw [List.getElem?_take_of_lt hk'] at hk
      exact h2 k hk' hk
    · unfold Lib.cut
      rw [hi, ho, if_pos (by omega)]
      simp
theorem takeWhile_cut (l : List UInt8) : (Lib.cut l [35]).1 = nb l := by
  rcases cut_one l 35 with ⟨h1, h2⟩ | ⟨a, r, rfl, h1, h2⟩
  · rw [h2]
    unfold nb
    have hh : ∀ t : List UInt8, (∀ x ∈ t, x ≠ 35) → t = t.takeWhile (· != 35) := by
      intro t
      induction t with
      | nil => intro _; rfl
      | cons c t ih =>
        intro h
        rw [List.takeWhile_cons, if_pos (by simpa using h c (List.mem_cons_self)), ← ih fun x hx => h x (List.mem_cons_of_mem _ hx)]
    exact hh l h1
  · rw [h2]
    unfold nb
    rw [List.takeWhile_append_of_pos (fun x hx => by simpa using h1 x hx)]
    simp

/-! ### strings.FieldsFunc at signs that may be -/
def isBl (r : Nat) : Bool := decide (r = 32) || decide (r = 9) || decide (r = 13)
/-- The word that a span which is open holds. -/
def wrd (l : List UInt8) (st : Option Nat) (pos : Nat) : List UInt8 := match st with | some a => (l.drop a).take (pos - a) | none => []
theorem piece_grow (l : List UInt8) (a pos : Nat) (h : a ≤ pos) (hp : pos < l.length) : (l.drop a).take (pos - a) ++ [l[pos]] = (l.drop a).take (pos + 1 - a) := by
  rw [show pos + 1 - a = (pos - a) + 1 by omega, List.take_add_one]
  congr 1
  rw [List.getElem?_drop, show a + (pos - a) = pos by omega, List.getElem?_eq_getElem hp]
  rfl
theorem piece_ne (l : List UInt8) (a pos : Nat) (h : a < pos) (hp : pos ≤ l.length) : (l.drop a).take (pos - a) ≠ [] := by
  intro h0
  have := congrArg List.length h0
  simp at this
  omega
theorem spans_wd (s : ByteArray) (hok : s.data.toList.all okS = true) : ∀ (f pos : Nat) (st : Option Nat) (acc : List (Nat × Nat)), s.size ≤ pos + f → pos ≤ s.size → (∀ a, st = some a → a < pos) →
    ((Lib.closeSpans s (Lib.spansFromP isBl s f pos st acc)).map fun p => (s.data.toList.drop p.1).take (p.2 - p.1)) = wdF (s.data.toList.drop pos) (wrd s.data.toList st pos) (acc.map fun p => (s.data.toList.drop p.1).take (p.2 - p.1)) := by
  have hlen : s.data.toList.length = s.size := Array.length_toList
  have hend : ∀ (st : Option Nat) (acc : List (Nat × Nat)), (∀ a, st = some a → a < s.size) → ((Lib.closeSpans s (acc, st)).map fun p => (s.data.toList.drop p.1).take (p.2 - p.1)) = wdF [] (wrd s.data.toList st s.size) (acc.map fun p => (s.data.toList.drop p.1).take (p.2 - p.1)) := fun st acc hst => by
    cases st with
    | none => rfl
    | some a =>
      have := piece_ne s.data.toList a s.size (hst a rfl) (by omega)
      simp only [Lib.closeSpans, wdF, wrd, List.map_append, List.map_cons, List.map_nil]
      rw [psh_ne _ this]
  intro f
  induction f with
  | zero =>
    intro pos st acc h1 h2 h3
    obtain rfl : pos = s.size := by omega
    have e : s.data.toList.drop s.size = [] := by rw [List.drop_eq_nil_iff]; omega
    rw [e]
    exact hend st acc h3
  | succ f ih =>
    intro pos st acc h1 h2 h3
    by_cases hlt : pos < s.size
    · have hgl : pos < s.data.toList.length := by omega
      have hob : okS (s.data.toList[pos]) = true := by
        rw [List.all_eq_true] at hok
        exact hok _ (List.getElem_mem hgl)
      have hgb : s.data.toList[pos] = s[pos]'hlt := by simp [ByteArray.getElem_eq_getElem_data]
      have hdec := decode_ascii s pos hlt (by rw [← hgb]; exact okS_lt hob)
      have ed : s.data.toList.drop pos = s.data.toList[pos] :: s.data.toList.drop (pos + 1) := List.drop_eq_getElem_cons hgl
      have ebl : isBl (s[pos]'hlt).toNat = blk (s.data.toList[pos]) := by rw [hgb, blk_iff]; rfl
      rw [ed]
      unfold Lib.spansFromP wdF
      rw [if_pos hlt, hdec]
      dsimp only
      rw [ebl]
      by_cases hb : blk (s.data.toList[pos]) = true
      · rw [if_pos hb, if_pos hb]
        cases st with
        | none =>
          dsimp only
          rw [ih (pos + 1) none acc (by omega) (by omega) (fun a h => by cases h)]
          rfl
        | some a =>
          dsimp only
          rw [ih (pos + 1) none (acc ++ [(a, pos)]) (by omega) (by omega) (fun a h => by cases h)]
          have hne := piece_ne s.data.toList a pos (h3 a rfl) (by omega)
          simp only [wrd, List.map_append, List.map_cons, List.map_nil]
          rw [psh_ne _ hne]
      · rw [if_neg hb, if_neg hb]
        cases st with
        | none =>
          dsimp only
          rw [ih (pos + 1) (some pos) acc (by omega) (by omega) (fun a h => by cases h; omega)]
          have := piece_grow s.data.toList pos pos (Nat.le_refl _) hgl
          simp only [wrd]
          rw [← this]
          simp
        | some a =>
          dsimp only
          rw [ih (pos + 1) (some a) acc (by omega) (by omega) (fun b h => by cases h; have := h3 a rfl; omega)]
          have := piece_grow s.data.toList a pos (by have := h3 a rfl; omega) hgl
          simp only [wrd]
          rw [← this]
    · obtain rfl : pos = s.size := by omega
      have e : s.data.toList.drop s.size = [] := by rw [List.drop_eq_nil_iff]; omega
      rw [e, Lib.spansFromP_end isBl s _ _ _ _ hlt]
      exact hend st acc h3
theorem fields_wd (s : ByteArray) (hok : s.data.toList.all okS = true) : Lib.goFieldsP isBl s = (wds s.data.toList).map fun w => (⟨w.toArray⟩ : ByteArray) := by
  have h := spans_wd s hok s.size 0 none [] (by omega) (Nat.zero_le _) (fun a h => by cases h)
  unfold Lib.goFieldsP Lib.spansOfP
  have e : ∀ p : Nat × Nat, s.extract p.1 p.2 = (⟨((s.data.toList.drop p.1).take (p.2 - p.1)).toArray⟩ : ByteArray) := fun p => Lib.extract_eq s p.1 p.2
  unfold wds
  rw [List.drop_zero] at h
  simp only [wrd, List.map_nil] at h
  rw [← h, List.map_map]
  exact List.map_congr_left fun p _ => e p
end Go.Proofs.YtccklmleaffgiaaGreatDoor

/-
  The contracts of strings.Cut at one byte, lex.isBlank, lex.split.
-/
namespace Go.Proofs.YtccklmleaffgiaaGreatDoor
open Go.RowKit Go.Shelf

theorem index1 (s : ByteArray) (c : UInt8) : Lib.indexB s ⟨#[c]⟩ = Lib.indexByte s.data.toList c := Lib.index_one _ _
set_option maxHeartbeats 2000000 in
set_option maxRecDepth 100000 in
theorem slcut_one (s : ByteArray) (c : UInt8) (hs : s.size ≤ 4294967296) (w : World) :
    Calls Tryz.prog 76 #[.string s, .string ⟨#[c]⟩] w fun e w' => e = .returned (.tuple #[.string ⟨(Lib.cut s.data.toList [c]).1.toArray⟩, .string ⟨(Lib.cut s.data.toList [c]).2.1.toArray⟩, .bool (Lib.cut s.data.toList [c]).2.2]) ∧ ∃ n, w' = w.drewN n := by
  rcases Lib.indexB_cases s ⟨#[c]⟩ with hix | ⟨i, hix, hroom⟩
  · obtain ⟨e1, e2, e3⟩ := Lib.cutB_miss s ⟨#[c]⟩ hix
    have e1' : (⟨(Lib.cut s.data.toList [c]).1.toArray⟩ : ByteArray) = _ := e1
    have e2' : (⟨(Lib.cut s.data.toList [c]).2.1.toArray⟩ : ByteArray) = _ := e2
    have e3' : (Lib.cut s.data.toList [c]).2.2 = _ := e3
    rw [e1', e2', e3']
    rw [index1] at hix
    go_enter Tryz.func76, Tryz.ntmps76
    go_wp2_with (go_at_call 92; refine (Tryz.stringslite_Index_one _ _ _).mono ?_; rintro e w' ⟨rfl, rfl⟩; rw [hix])
    go_ret3
    exact ⟨rfl, 0, rfl⟩
  · obtain ⟨e1, e2, e3⟩ := Lib.cutB_hit s ⟨#[c]⟩ i hix
    have e1' : (⟨(Lib.cut s.data.toList [c]).1.toArray⟩ : ByteArray) = _ := e1
    have e2' : (⟨(Lib.cut s.data.toList [c]).2.1.toArray⟩ : ByteArray) = _ := e2
    have e3' : (Lib.cut s.data.toList [c]).2.2 = _ := e3
    rw [e1', e2', e3']
    rw [index1] at hix
    have h1 : (⟨#[c]⟩ : ByteArray).size = 1 := rfl
    rw [h1] at hroom ⊢
    have c1 : (0 : Int) ≤ ↑i := by omega
    have c2 : (↑i : Int) ≤ ↑s.size := by omega
    have c3 : (0 : Int) ≤ ↑i + 1 := by omega
    have c4 : (↑i + 1 : Int) ≤ ↑s.size := by omega
    have hmx : Tryz.prog.follows .mixedOrders = true := by kernel_rfl
    have c5 : IntKind.i64.wrap ((i : Int) + 1) = i + 1 := IntWalk.i64_in _ (by omega)
    go_enter Tryz.func76, Tryz.ntmps76
    go_wp2_with (go_at_call 92; refine (Tryz.stringslite_Index_one _ _ _).mono ?_; rintro e w' ⟨rfl, rfl⟩; rw [hix])
    go_region_o
    go_wp2
    go_ret3
    exact ⟨rfl, 1, rfl⟩
set_option maxHeartbeats 1000000 in
theorem cut_any (s : ByteArray) (c : UInt8) (hs : s.size ≤ 4294967296) (w : World) :
    Calls Tryz.prog 55 #[.string s, .string ⟨#[c]⟩] w fun e w' => e = .returned (.tuple #[.string ⟨(Lib.cut s.data.toList [c]).1.toArray⟩, .string ⟨(Lib.cut s.data.toList [c]).2.1.toArray⟩, .bool (Lib.cut s.data.toList [c]).2.2]) ∧ ∃ n, w' = w.drewN n := by
  go_enter Tryz.func55, Tryz.ntmps55
  go_wp2_with (go_at_call 76; refine (slcut_one _ _ hs _).mono ?_; rintro e w' ⟨rfl, n, rfl⟩)
  go_ret3
  exact ⟨rfl, n, rfl⟩

set_option maxHeartbeats 1000000 in
theorem blank_any (r : Nat) (w : World) : Calls Tryz.prog 56 #[.int .i32 r] w fun e w' => e = .returned (.bool (isBl r)) ∧ w' = w := by
  unfold isBl
  go_enter Tryz.func56, Tryz.ntmps56
  by_cases h0 : r = 32
  · subst h0
    go_wp2
    go_ret
    exact ⟨rfl, rfl⟩
  · by_cases h1 : r = 9
    · subst h1
      go_wp2
      go_ret
      exact ⟨rfl, rfl⟩
    · by_cases h2 : r = 13
      · subst h2
        go_wp2
        go_ret
        exact ⟨rfl, rfl⟩
      · have d0 : ((r : Int) == 32) = false := beq_eq_false_iff_ne.2 (by omega)
        have d1 : ((r : Int) == 9) = false := beq_eq_false_iff_ne.2 (by omega)
        have d2 : ((r : Int) == 13) = false := beq_eq_false_iff_ne.2 (by omega)
        go_wp2
        go_ret
        exact ⟨by simp [h0, h1, h2], rfl⟩
theorem pred_blank (w : World) : PredAt Tryz.prog 56 #[] encR isBl w := fun W r _ => (blank_any r W).mono fun _ _ ⟨h1, h2⟩ => ⟨h1, 0, h2⟩
theorem fields_any (s : ByteArray) (hok : s.data.toList.all okS = true) (hs : s.size ≤ 4294967296) (w : World) :
    Calls Tryz.prog 57 #[.string s, .func (.func 56) #[] #[]] w fun e w' => ∃ A, e = .returned (.slice (some ⟨A, 0, none⟩) (wds s.data.toList).length (wds s.data.toList).length) ∧ w.heap.size ≤ A ∧
      w'.ownsRow w.heap.size 9 1 (.slice (some ⟨A, 0, none⟩) (wds s.data.toList).length (wds s.data.toList).length) (wds s.data.toList).length ((wds s.data.toList).map fun x => Value.string ⟨x.toArray⟩) ∧ Below w.heap.size w w' := by
  have h := Tryz.strings_FieldsFunc 56 #[] (enters_of Tryz.func56 (by kernel_rfl) rfl) isBl s w hs (pred_blank w)
  rw [fields_wd s hok, List.length_map, List.map_map] at h
  exact h
end Go.Proofs.YtccklmleaffgiaaGreatDoor

/-
  The contract of lex.split.
-/
namespace Go.Proofs.YtccklmleaffgiaaGreatDoor
open Go.RowKit Go.Shelf

/-- What split tells: the words in a row of the call's own, or nothing. -/
def SplitP (w : World) (l : List UInt8) (e : Ending) (w' : World) : Prop :=
  (((nb l).all okS = true ∧ ∃ A, e = .returned (.tuple #[.slice (some ⟨A, 0, none⟩) (wds (nb l)).length (wds (nb l)).length, .bool true]) ∧ w.heap.size ≤ A ∧
      w'.ownsRow w.heap.size 9 1 (.slice (some ⟨A, 0, none⟩) (wds (nb l)).length (wds (nb l)).length) (wds (nb l)).length ((wds (nb l)).map fun x => Value.string ⟨x.toArray⟩)) ∨
    ((nb l).all okS = false ∧ e = .returned (.tuple #[.slice none 0 0, .bool false]))) ∧ Below w.heap.size w w'
theorem ownsRow_lower {w : World} {base base' z n : Nat} {E : TypeId} {v : Value} {xs : List Value} (h : w.ownsRow base E z v n xs) (hb : base' ≤ base) : w.ownsRow base' E z v n xs := by
  obtain ⟨h1, h2⟩ := h
  refine ⟨h1, ?_⟩
  rcases h2 with h2 | ⟨gg, cap, cur, hv, hg, r⟩
  · exact Or.inl h2
  · exact Or.inr ⟨gg, cap, cur, hv, by omega, r⟩
theorem okS_val {c : UInt8} (h : okS c = true) (hb : isBl c.toNat = false) : 33 ≤ c.toNat ∧ c.toNat ≤ 126 := by
  rw [okS_iff, blk_iff] at h
  have hb' : (decide (c.toNat = 32) || decide (c.toNat = 9) || decide (c.toNat = 13)) = false := hb
  rw [hb', Bool.false_or] at h
  simpa using h
theorem not_okS {c : UInt8} (h : okS c = false) : isBl c.toNat = false ∧ (c.toNat < 33 ∨ 126 < c.toNat) ∧ c.toNat ≠ 32 := by
  rw [okS_iff, blk_iff] at h
  simp only [Bool.or_eq_false_iff, decide_eq_false_iff_not, Bool.and_eq_false_iff, Nat.not_le] at h
  refine ⟨?_, h.2, h.1.1.1⟩
  unfold isBl
  simp [h.1.1.1, h.1.1.2, h.1.2]
set_option maxHeartbeats 4000000 in
set_option maxRecDepth 100000 in
theorem split_any (s : ByteArray) (hs : s.size ≤ 4294967296) (w : World) : Calls Tryz.prog 31 #[.string s] w (SplitP w s.data.toList) := by
  have htk := takeWhile_cut s.data.toList
  obtain ⟨L, hL⟩ : ∃ L, nb s.data.toList = L := ⟨_, rfl⟩
  have hle : L.length ≤ s.size := by
    rw [← hL]
    exact (List.takeWhile_sublist _).length_le
  unfold SplitP
  have hcut := cut_any s 35 hs
  rw [hL] at htk ⊢
  rw [htk] at hcut
  obtain ⟨T, hT⟩ : ∃ T : ByteArray, T = ⟨L.toArray⟩ := ⟨_, rfl⟩
  have hTl : T.data.toList = L := by subst hT; rfl
  have hTs : T.size = L.length := by subst hT; exact List.size_toArray
  rw [← hT] at hcut
  clear hT
  generalize (Lib.cut s.data.toList [35]).2.1 = cr at hcut
  generalize (Lib.cut s.data.toList [35]).2.2 = cb at hcut
  have hfl := fun hok W => fields_any T hok (by omega) W
  rw [hTl] at hfl
  clear hL htk
  go_enter Tryz.func31, Tryz.ntmps31
  go_wp2_with (go_at_call 55; refine (hcut _).mono ?_; rintro e w' ⟨rfl, n, rfl⟩)
  go_loopw [] (fun wr => ∃ (pos : Nat), wr.heap[w.heap.size]? = some (.stringIter T pos) ∧ Below w.heap.size w wr ∧ pos ≤ T.size ∧ (∀ j x, j < pos → L[j]? = some x → okS x = true)) (fun wr => T.size - wr.iterPos w.heap.size)
  case atStart =>
    refine ⟨0, ?_, (bdn (Below.refl _ w) n).alloc (Nat.le_refl _) _, Nat.zero_le _, fun j x h => by omega⟩
    exact World.iter_heap (w.drewN n) T 0
  case round =>
    obtain ⟨pos, hit, hbw, hple, hpre⟩ := hrel
    have hsz : w.heap.size < wr.heap.size := (Array.getElem?_eq_some_iff.1 hit).1
    by_cases hp : pos < T.size
    · have hnx : ∀ ty, (Instr.next (.pointer (some ⟨w.heap.size, 0, none⟩)) true ty).run Tryz.prog wr = _ := fun ty => Lib.run_next_any_at wr w.heap.size T pos ty hit hp
      have hit2 := Lib.iterAt_heap wr w.heap.size T pos (pos + (Utf8.decode T pos).2) hit
      have hbw2 := Lib.below_iterAt hbw (k := w.heap.size) (by omega) T (pos + (Utf8.decode T pos).2)
      have hgl : pos < L.length := by omega
      have hLb : L[pos]? = some (T[pos]'hp) := by
        rw [← hTl, List.getElem?_eq_getElem (by rw [hTl]; exact hgl)]
        simp [ByteArray.getElem_eq_getElem_data]
      obtain ⟨c, hc⟩ : ∃ c, T[pos]'hp = c := ⟨_, rfl⟩
      rw [hc] at hLb
      cases hok : okS c
      · -- the first sign that may not be
        have hall : L.all okS = false := by
          rw [List.all_eq_false]
          exact ⟨c, List.mem_of_getElem? hLb, by rw [hok]; decide⟩
        obtain ⟨hnb, hrng, hn32⟩ := not_okS hok
        obtain ⟨r, hr, hrr⟩ : ∃ r : Nat, (Utf8.decode T pos).1 = r ∧ isBl r = false ∧ (r < 32 ∨ 126 < r) := by
          by_cases ha : c.toNat < 128
          · refine ⟨c.toNat, ?_, hnb, by omega⟩
            rw [decode_ascii T pos hp (by rw [hc]; exact ha), hc]
          · have := (decode_high T pos hp (by rw [hc]; omega)).1
            refine ⟨_, rfl, ?_, by omega⟩
            have h1 : ¬ (Utf8.decode T pos).1 = 32 := by omega
            have h2 : ¬ (Utf8.decode T pos).1 = 9 := by omega
            have h3 : ¬ (Utf8.decode T pos).1 = 13 := by omega
            unfold isBl
            simp [h1, h2, h3]
        obtain ⟨hrb, hrr⟩ := hrr
        have hHB := Lib.hid hbw2
        have hHA := Lib.hid hall
        rw [hr] at hnx
        generalize (wr.iterAt w.heap.size T (pos + (Utf8.decode T pos).2)) = W2 at *
        clear hfl hit2 hbw2 hall hrng hok hnb
        rcases hrr with hrr | hrr
        · have i1 : (r : Int) < 32 := by omega
          go_wp2_with (go_at_call 56; refine (blank_any _ _).mono ?_; rintro e w' ⟨rfl, rfl⟩; rw [hrb])
          go_ret2
          exact ⟨.inr ⟨hHA.out, rfl⟩, hHB.out⟩
        · have i1 : ¬ (r : Int) < 32 := by omega
          have i2 : (126 : Int) < (r : Int) := by omega
          go_wp2_with (go_at_call 56; refine (blank_any _ _).mono ?_; rintro e w' ⟨rfl, rfl⟩; rw [hrb])
          go_ret2
          exact ⟨.inr ⟨hHA.out, rfl⟩, hHB.out⟩
      · have hdec := decode_ascii T pos hp (by rw [hc]; exact okS_lt hok)
        rw [hc] at hdec
        rw [hdec] at hnx hit2 hbw2
        dsimp only at hnx hit2 hbw2
        have hHP : Hid (∀ j x, j < pos + 1 → L[j]? = some x → okS x = true) := Lib.hid (fun j x hj hx => by
          by_cases e : j = pos
          · subst e; rw [hLb] at hx; injection hx with hx; rw [← hx]; exact hok
          · exact hpre j x (by omega) hx)
        have hHI := Lib.hid (And.intro hit2 hbw2)
        have hHit := Lib.hid hit
        generalize (wr.iterAt w.heap.size T (pos + 1)) = W2 at *
        obtain ⟨r, hr⟩ : ∃ r : Nat, c.toNat = r := ⟨_, rfl⟩
        have hval := okS_val (c := c) hok
        rw [hr] at hnx hval
        clear hfl hit2 hbw2 hok hpre hLb
        cases hrb : isBl r
        · obtain ⟨v1, v2⟩ := hval hrb
          have i1 : ¬ (r : Int) < 32 := by omega
          have i2 : ¬ (126 : Int) < (r : Int) := by omega
          go_wp2_with (go_at_call 56; refine (blank_any _ _).mono ?_; rintro e w' ⟨rfl, rfl⟩; rw [hrb])
          go_roundw
          case rel => exact ⟨pos + 1, hHI.out.1, hHI.out.2, hp, hHP.out⟩
          case measure => simp only [World.iterPos, hHI.out.1, hHit.out]; omega
        · go_wp2_with (go_at_call 56; refine (blank_any _ _).mono ?_; rintro e w' ⟨rfl, rfl⟩; rw [hrb])
          go_roundw
          case rel => exact ⟨pos + 1, hHI.out.1, hHI.out.2, hp, hHP.out⟩
          case measure => simp only [World.iterPos, hHI.out.1, hHit.out]; omega
    · have hnx : ∀ ty, (Instr.next (.pointer (some ⟨w.heap.size, 0, none⟩)) true ty).run Tryz.prog wr = _ := fun ty => Lib.run_next_end_at wr w.heap.size T pos ty hit hp
      have hall : L.all okS = true := by
        rw [List.all_eq_true]
        intro x hx
        obtain ⟨j, hj⟩ := List.getElem?_of_mem hx
        exact hpre j x (by have := (List.getElem?_eq_some_iff.1 hj).1; omega) hj
      have hfl2 := hfl hall
      have hHA := Lib.hid hall
      clear hfl hpre hall
      go_wp2_with (go_at_call 57; refine (hfl2 _).mono ?_; rintro e W1 ⟨A, rfl, hA, hown, hB1⟩)
      go_ret2
      exact ⟨.inl ⟨hHA.out, A, rfl, by omega, ownsRow_lower hown (by omega)⟩, hbw.trans (hB1.mono (by omega))⟩
end Go.Proofs.YtccklmleaffgiaaGreatDoor

/-
  The iterator lex.each: its contract; what a text's lines are, line by line.
-/
namespace Go.Proofs.YtccklmleaffgiaaGreatDoor
open Go.RowKit Go.Shelf
attribute [local go_sem] Oper.semAt_some

/-- How many lines a text has; its i-th one. -/
abbrev nl (L : List UInt8) : Nat := (lns L).length
abbrev lnAt (L : List UInt8) (i : Fin (nl L)) : List UInt8 := (lns L)[i.1]'i.2
theorem finRange_take {n k : Nat} (h : k < n) : (List.finRange n).take (k + 1) = (List.finRange n).take k ++ [⟨k, h⟩] := by
  rw [List.take_add_one]
  congr 1
  rw [List.getElem?_eq_getElem (by simpa using h)]
  simp
theorem finRange_takeAll (n : Nat) : (List.finRange n).take n = List.finRange n := List.take_of_length_le (by simp)
/-- The lines that count, of these. -/
def accL (L : List UInt8) (pre : List (Fin (nl L))) : List (Nat × List (List UInt8)) :=
  pre.foldl (fun acc i => if wds (nb (lnAt L i)) = [] then acc else acc ++ [(i.1 + 1, wds (nb (lnAt L i)))]) []
theorem accL_snoc (L : List UInt8) (pre : List (Fin (nl L))) (x : Fin (nl L)) : accL L (pre ++ [x]) = if wds (nb (lnAt L x)) = [] then accL L pre else accL L pre ++ [(x.1 + 1, wds (nb (lnAt L x)))] := by
  unfold accL
  rw [List.foldl_append]
  rfl
theorem accL_length (L : List UInt8) (pre : List (Fin (nl L))) : (accL L pre).length ≤ pre.length := by
  suffices h : ∀ (l : List (Fin (nl L))) (acc : List (Nat × List (List UInt8))), (l.foldl (fun acc i => if wds (nb (lnAt L i)) = [] then acc else acc ++ [(i.1 + 1, wds (nb (lnAt L i)))]) acc).length ≤ acc.length + l.length by
    have := h pre []
    unfold accL
    simpa using this
  intro l
  induction l with
  | nil => intro acc; exact Nat.le_refl _
  | cons x l ih =>
    intro acc
    have h1 := ih (if wds (nb (lnAt L x)) = [] then acc else acc ++ [(x.1 + 1, wds (nb (lnAt L x)))])
    have h2 : (if wds (nb (lnAt L x)) = [] then acc else acc ++ [(x.1 + 1, wds (nb (lnAt L x)))]).length ≤ acc.length + 1 := by
      split
      · omega
      · simp
    simp only [List.foldl_cons, List.length_cons]
    omega
theorem scan_acc (L : List UInt8) : ∀ k, k ≤ nl L → (∀ i : Fin (nl L), i.1 < k → (nb (lnAt L i)).all okS = true) → linesF L = scan (k + 1) ((lns L).drop k) (accL L ((List.finRange (nl L)).take k)) := by
  intro k
  induction k with
  | zero => intro _ _; rfl
  | succ k ih =>
    intro hk hok
    have hkl : k < (lns L).length := hk
    rw [ih (by omega) (fun i hi => hok i (by omega)), finRange_take (show k < nl L from hkl), accL_snoc, List.drop_eq_getElem_cons hkl]
    have h1 := hok ⟨k, hkl⟩ (by show k < k + 1; omega)
    show (if (nb ((lns L)[k]'hkl)).all okS = true then _ else _) = _
    rw [if_pos h1]
theorem lines_ok (L : List UInt8) (hok : ∀ i : Fin (nl L), (nb (lnAt L i)).all okS = true) : linesF L = (accL L (List.finRange (nl L)), 0) := by
  rw [scan_acc L (nl L) (Nat.le_refl _) (fun i _ => hok i), List.drop_eq_nil_of_le (Nat.le_refl _), finRange_takeAll]
  rfl
theorem lines_bad (L : List UInt8) (k : Fin (nl L)) (hok : ∀ i : Fin (nl L), i.1 < k.1 → (nb (lnAt L i)).all okS = true) (hb : (nb (lnAt L k)).all okS = false) : linesF L = ([], k.1 + 1) := by
  rw [scan_acc L k.1 (Nat.le_of_lt k.2) hok, List.drop_eq_getElem_cons k.2]
  show (if (nb ((lns L)[k.1]'k.2)).all okS = true then _ else _) = _
  rw [if_neg (by rw [show (nb ((lns L)[k.1]'k.2)).all okS = false from hb]; decide)]

set_option maxRecDepth 100000 in
set_option maxHeartbeats 4000000 in
theorem each1_in (N : Nat) (hn : 1 ≤ N) (s : ByteArray) (hs : s.size ≤ 4294967296) (l Bx : Nat) (J Jx : List (Fin (nl s.data.toList)) → World → Prop) (W : World) (hJ : AbidesFrom W.heap.size J)
    (hY : ∀ pre x W', J pre W' → pre.length < nl s.data.toList → YieldAt Fence.wide (N - 1) Tryz.prog l #[.int .i64 ((x.1 : Int) + 1), .string ⟨(lnAt s.data.toList x).toArray⟩] W' fun e W'' =>
      (e = .returned (.bool true) ∧ J (pre ++ [x]) W'' ∧ True) ∨ (e = .returned (.bool false) ∧ Jx (pre ++ [x]) W''))
    (h1 : W.cell? ⟨Bx, 0, none⟩ = some (.string s)) (h0 : J [] W) :
    CallsIn Fence.wide N Tryz.prog 54 #[.func (.yield l) #[] #[], .pointer (some ⟨Bx, 0, none⟩)] W fun e W' => (∃ v, e = .returned v) ∧
      ((∃ ys, ys = List.finRange (nl s.data.toList) ∧ J ys W') ∨ (∃ pre, pre <+: List.finRange (nl s.data.toList) ∧ Jx pre W')) := by
  have hro : (Fence.wide).round = none := rfl
  have hnl : 1 ≤ nl s.data.toList := (lns_length s.data.toList).1
  have hnl2 : nl s.data.toList ≤ s.data.toList.length + 1 := (lns_length s.data.toList).2
  have hsz : s.data.toList.length = s.size := Array.length_toList
  refine callsIn_of_wp Tryz.func54 rfl trivial ?_ hro
  simp only [Tryz.ntmps54, List.size_toArray, List.length_cons, List.length_nil, Nat.reduceAdd, Nat.reduceSub, Array.replicate_succ, Array.replicate_zero, List.push_toArray, List.append_toArray, List.nil_append, List.cons_append]
  gi_wp2
  gi_loopw [3, 4, 5] (fun r m i wr => ∃ (k : Nat) (R : ByteArray), k ≤ nl s.data.toList ∧ r = .string R ∧ R.size ≤ s.size ∧ m = .bool (decide (k < nl s.data.toList)) ∧ i = .int .i64 ((k + 1 : Nat) : Int) ∧ (k < nl s.data.toList → lns R.data.toList = (lns s.data.toList).drop k) ∧ J ((List.finRange (nl s.data.toList)).take k) wr)
    (fun _ _ i _ => nl s.data.toList + 1 - (intOf i).toNat)
  case atStart =>
    refine ⟨0, s, Nat.zero_le _, rfl, Nat.le_refl _, ?_, rfl, fun _ => rfl, h0⟩
    rw [decide_eq_true (by omega)]
  case round =>
    obtain ⟨k, R, hk, rfl, hRs, rfl, rfl, hR, hJs⟩ := hrel
    by_cases hlt : k < nl s.data.toList
    · have hd : decide (k < nl s.data.toList) = true := decide_eq_true hlt
      rw [hd]
      have hR' := hR hlt
      have hsnoc := finRange_take hlt
      obtain ⟨a, r, more, hcut, hla, hlr, hrs, hmr⟩ : ∃ (a r : List UInt8) (more : Bool), Lib.cut R.data.toList [10] = (a, r, more) ∧ a = lnAt s.data.toList ⟨k, hlt⟩ ∧ (more = true → lns r = (lns s.data.toList).drop (k + 1)) ∧ r.length ≤ R.size ∧ more = decide (k + 1 < nl s.data.toList) := by
        have hdr : (lns s.data.toList).drop k = lnAt s.data.toList ⟨k, hlt⟩ :: (lns s.data.toList).drop (k + 1) := List.drop_eq_getElem_cons hlt
        have hRl : R.data.toList.length = R.size := Array.length_toList
        have hl2 : ((lns s.data.toList).drop (k + 1)).length = nl s.data.toList - (k + 1) := List.length_drop
        rcases cut_one R.data.toList 10 with ⟨c1, c2⟩ | ⟨a, r, c0, c1, c2⟩
        · refine ⟨_, _, _, c2, ?_, fun h => (by cases h), Nat.zero_le _, ?_⟩
          · rw [lns_none _ c1, hdr] at hR'
            injection hR' with e1 e2
          · rw [lns_none _ c1, hdr] at hR'
            injection hR' with e1 e2
            rw [← e2] at hl2
            symm
            rw [decide_eq_false_iff_not]
            simp at hl2
            omega
        · rw [c0, lns_some _ _ c1, hdr] at hR'
          injection hR' with e1 e2
          refine ⟨_, _, _, c2, e1, fun _ => e2, ?_, ?_⟩
          · rw [← hRl, c0]
            simp
            omega
          · have := (lns_length r).1
            rw [e2, hl2] at this
            symm
            rw [decide_eq_true_iff]
            omega
      have hcc := fun w => cut_any R 10 (by omega) w
      rw [hcut] at hcc
      dsimp only at hcc
      have HRN : Hid (∀ q, J ((List.finRange (nl s.data.toList)).take k) (wr.drewN q)) := Lib.hid fun q => hJ _ wr (wr.drewN q) none hJs ⟨rfl, rfl, rfl, Nat.le_refl _, fun _ _ _ => rfl⟩ (fun r e => by cases e)
      have HLR := Lib.hid (And.intro hlr (And.intro hrs hmr))
      have HJS := Lib.hid hJs
      subst hla
      have hw1 : IntKind.i64.wrap (((k + 1 : Nat) : Int) + 1) = ((k + 1 + 1 : Nat) : Int) := by rw [IntWalk.i64_in _ (by omega)]; omega
      have hy0 := fun q => hY ((List.finRange (nl s.data.toList)).take k) ⟨k, hlt⟩ (wr.drewN q) (HRN.out q) (by simp; omega)
      rw [← hsnoc] at hy0
      have HY0 := Lib.hid hy0
      clear hcut hlr hrs hmr hR hR' hJs hy0 hsnoc hd
      gi_wp2_with (refine ⟨trivial, ?_⟩; gi_at_call 55; refine (callsIn_wide.2 (hcc _)).mono ?_; rintro e w1 ⟨rfl, q, rfl⟩; obtain ⟨fn, tmps, assign, body, hy, hRR⟩ := HY0.out q; dsimp only at hy)
      refine hRR.mono ?_
      rintro e W3 (⟨rfl, hJ3, _⟩ | ⟨rfl, hJx3⟩)
      · gi_wp2
        go_roundw
        case rel =>
          obtain ⟨hlr, hrs, hmr⟩ := HLR.out
          refine ⟨k + 1, ⟨r.toArray⟩, by omega, rfl, ?_, by rw [hmr], by go_num, fun h => hlr (by rw [hmr]; exact decide_eq_true h), hJ3⟩
          show r.toArray.size ≤ s.size
          rw [List.size_toArray]
          omega
        case measure => simp [intOf] <;> omega
      · gi_wp2
        refine bodyPost_ret (results_none rfl _ _ _) rfl ?_
        exact ⟨⟨_, rfl⟩, .inr ⟨_, List.take_prefix _ _, hJx3⟩⟩
    · obtain rfl : k = nl s.data.toList := by omega
      rw [finRange_takeAll] at hJs
      have hd : decide (nl s.data.toList < nl s.data.toList) = false := decide_eq_false (by omega)
      rw [hd]
      gi_wp2
      go_end0
      exact ⟨⟨_, rfl⟩, .inl ⟨_, rfl, hJs⟩⟩
theorem each_any (s : ByteArray) (w : World) : Calls Tryz.prog 30 #[.string s] w fun e w' => e = .returned (.func (.func 54) #[] #[.pointer (some ⟨w.heap.size, 0, none⟩)]) ∧ w' = w.alloc (.cells #[.string s] 9) := by
  go_enter Tryz.func30, Tryz.ntmps30
  go_wp2
  go_ret
  exact ⟨rfl, rfl⟩
end Go.Proofs.YtccklmleaffgiaaGreatDoor

/-
  Lines in memory; the contract of lex.Lines.
-/
namespace Go.Proofs.YtccklmleaffgiaaGreatDoor
open Go.RowKit Go.Shelf
attribute [local go_sem] Oper.semAt_some

/-- A line: its number, the block and the room of its words' row, the words. -/
structure Ln where
  num : Nat
  b : Nat
  cap : Nat
  ws : List (List UInt8)
/-- The block b holds these words from its beginning on. -/
def WR (w : World) (b : Nat) (ws : List (List UInt8)) : Prop := ∃ cur : Array Value, RowC w b cur 9 ∧ ∀ (j : Nat) (x : List UInt8), ws[j]? = some x → cur[j]? = some (Value.string ⟨x.toArray⟩)
section
variable {w w' : World} {b : Nat} {ws : List (List UInt8)}
theorem WR.below {N : Nat} (h : WR w b ws) (hb : Below N w w') (hN : b < N) : WR w' b ws := by
  obtain ⟨cur, h1, h2⟩ := h
  exact ⟨cur, h1.below hb hN, h2⟩
theorem WR.of_block (h : WR w b ws) (hb : w'.heap[b]? = w.heap[b]?) : WR w' b ws := by
  obtain ⟨cur, h1, h2⟩ := h
  exact ⟨cur, hb.trans h1, h2⟩
theorem WR.lt (h : WR w b ws) : b < w.heap.size := by
  obtain ⟨cur, h1, h2⟩ := h
  exact h1.lt
theorem WR.cell (h : WR w b ws) {j : Nat} {x : List UInt8} (hx : ws[j]? = some x) : w.cell? ⟨b, j, none⟩ = some (.string ⟨x.toArray⟩) := by
  obtain ⟨cur, h1, h2⟩ := h
  exact h1.cell j _ (h2 j x hx)
theorem WR.of_own {A B n : Nat} (h : w.ownsRow B 9 1 (.slice (some ⟨A, 0, none⟩) n n) ws.length (ws.map fun x => Value.string ⟨x.toArray⟩)) : WR w A ws := by
  obtain ⟨h1, h2⟩ := h
  rcases h2 with ⟨hv, h0⟩ | ⟨gg, cap, cur, hv, hg, hh, h3, h4, h5, h6⟩
  · injection hv with e1
    cases e1
  · injection hv with e1 e2 e3
    injection e1 with e1
    injection e1 with e1
    subst e1
    refine ⟨cur, hh, fun j x hx => ?_⟩
    have hj : j < ws.length := (List.getElem?_eq_some_iff.1 hx).1
    have := congrArg (·[j]?) h6
    simp only [Nat.mul_one] at this
    rw [List.getElem?_take_of_lt hj, List.getElem?_map, hx] at this
    rw [← Array.getElem?_toList]
    exact this
end
/-- The cells of these lines. -/
def lcell (ls : List Ln) (i : Nat) : Value := match ls[i / 2]? with
  | none => undef
  | some x => if i % 2 = 0 then .int .i64 (x.num : Nat) else .slice (some ⟨x.b, 0, none⟩) x.ws.length x.cap
def LR (w : World) (ls : List Ln) : Prop := ∀ x ∈ ls, x.ws ≠ [] ∧ x.ws.length ≤ x.cap ∧ WR w x.b x.ws
def Ln.tell (x : Ln) : Nat × List (List UInt8) := (x.num, x.ws)
theorem LR.of {w w' : World} {ls : List Ln} (h : LR w ls) (hb : ∀ b, b < w.heap.size → (∃ cur T, w.heap[b]? = some (.cells cur T) ∧ T = 9) → w'.heap[b]? = w.heap[b]?) : LR w' ls := fun x hx => by
  obtain ⟨h1, h3, h2⟩ := h x hx
  refine ⟨h1, h3, h2.of_block (hb _ h2.lt ?_)⟩
  obtain ⟨cur, hc, _⟩ := h2
  exact ⟨cur, _, hc, rfl⟩
theorem LR.below {w w' : World} {ls : List Ln} (h : LR w ls) (hb : Below w.heap.size w w') : LR w' ls := h.of fun b hlt _ => hb.block b hlt
theorem lcell_snoc (ls : List Ln) (x : Ln) (i : Nat) (hi : i < (ls.length + 1) * 2) : catC (ls.length * 2) (lcell ls) (fun i => if i = 0 then .int .i64 (x.num : Nat) else .slice (some ⟨x.b, 0, none⟩) x.ws.length x.cap) i = lcell (ls ++ [x]) i := by
  unfold catC lcell
  by_cases h : i < ls.length * 2
  · rw [if_pos h, List.getElem?_append_left (by omega)]
  · rw [if_neg h]
    have e1 : i / 2 = ls.length := by omega
    rw [e1, List.getElem?_append_right (Nat.le_refl _), Nat.sub_self]
    show _ = if i % 2 = 0 then _ else _
    by_cases h0 : i % 2 = 0
    · rw [if_pos h0]
      exact if_pos (by omega)
    · rw [if_neg h0]
      exact if_neg (by omega)
theorem lcells_snoc (ls : List Ln) (x : Ln) : (List.range (ls.length * 2)).map (lcell ls) ++ [.int .i64 (x.num : Nat), .slice (some ⟨x.b, 0, none⟩) x.ws.length x.cap] = (List.range ((ls ++ [x]).length * 2)).map (lcell (ls ++ [x])) := by
  rw [show (ls ++ [x]).length * 2 = ls.length * 2 + 1 + 1 by simp; omega, List.range_succ, List.range_succ]
  simp only [List.map_append, List.map_cons, List.map_nil, List.append_assoc, List.cons_append, List.nil_append]
  have e0 := lcell_snoc ls x (ls.length * 2) (by omega)
  have e1 := lcell_snoc ls x (ls.length * 2 + 1) (by omega)
  rw [← e0, ← e1]
  congr 1
  · exact List.map_congr_left fun i hi => by
      have hi' := List.mem_range.1 hi
      rw [← lcell_snoc ls x i (by omega)]
      unfold catC
      rw [if_pos hi']
  · have two : ∀ {a b c d : Value}, a = c → b = d → [a, b] = [c, d] := fun h k => by rw [h, k]
    refine two ?_ ?_
    · unfold catC
      rw [if_neg (by omega)]
      exact (if_pos (by omega)).symm
    · unfold catC
      rw [if_neg (by omega)]
      exact (if_neg (by omega)).symm
/-- An own row is never a row of another type. -/
theorem OwnC.not_row {w : World} {base z n c b : Nat} {E T : TypeId} {A : Option Addr} {F : Nat → Value} {cur : Array Value} (h : OwnC w base E z A n c F) (hb : w.heap[b]? = some (.cells cur T)) (hne : T ≠ E) : some b ≠ (Value.slice A n c).ownBlock := by
  obtain ⟨_, h2⟩ := h
  rcases h2 with ⟨hv, _⟩ | ⟨gg, cap, cur', hv, _, hh, _⟩
  · injection hv with e1; subst e1; simp [Value.ownBlock]
  · injection hv with e1; subst e1
    intro e
    have e' : b = gg := by simpa [Value.ownBlock] using e
    subst e'
    rw [hb] at hh
    injection hh with hh
    injection hh with _ h3
    exact hne h3
theorem results_cells3 {P : Program} {fn : Func} {p q r : Tmp} {t1 t2 t3 : TypeId} (h : fn.results = #[.cell p t1, .cell q t2, .cell r t3]) (tmps : Array Value) (w : World) (a1 a2 a3 : Addr) (v1 v2 v3 : Value)
    (hp : tmps.getD p undef = .pointer (some a1)) (hq : tmps.getD q undef = .pointer (some a2)) (hr : tmps.getD r undef = .pointer (some a3))
    (i1 : (isAgg t1).run P w = .ok false w) (i2 : (isAgg t2).run P w = .ok false w) (i3 : (isAgg t3).run P w = .ok false w)
    (c1 : w.cell? a1 = some v1) (c2 : w.cell? a2 = some v2) (c3 : w.cell? a3 = some v3) :
    (results fn tmps).run P w = .ok (.tuple #[v1, v2, v3]) w := by
  have hp' : tmps[p]?.getD undef = .pointer (some a1) := by simpa using hp
  have hq' : tmps[q]?.getD undef = .pointer (some a2) := by simpa using hq
  have hr' : tmps[r]?.getD undef = .pointer (some a3) := by simpa using hr
  simp [results, h, hp', hq', hr', asAddr, loadVar, i1, i2, i3, run_load, c1, c2, c3, Result.andThen]
end Go.Proofs.YtccklmleaffgiaaGreatDoor

/-
  The contract of lex.Lines.
-/
namespace Go.Proofs.YtccklmleaffgiaaGreatDoor
open Go.RowKit Go.Shelf
attribute [local go_sem] Oper.semAt_some

theorem rowC_kept {W W' : World} {row : Option Nat} {b : Nat} {D : Array Value} {T : TypeId} (h : RowC W b D T) (hg : W.grownBy W' row) (hrow : ∀ r, row = some r → ∃ o : Obj, W.heap[r]? = some o ∧ o.isCells = false) : RowC W' b D T :=
  (grownBy_keeps_cells hg hrow h rfl).trans h
theorem ownC_kept {W W' : World} {row : Option Nat} {base z n c : Nat} {E : TypeId} {A : Option Addr} {F : Nat → Value} (h : OwnC W base E z A n c F) (hg : W.grownBy W' row) (hrow : ∀ r, row = some r → ∃ o : Obj, W.heap[r]? = some o ∧ o.isCells = false) : OwnC W' base E z A n c F := by
  obtain ⟨h1, h2⟩ := h
  refine ⟨h1, ?_⟩
  rcases h2 with h2 | ⟨gg, cap, cur, hv, hgb, hh, r⟩
  · exact .inl h2
  · exact .inr ⟨gg, cap, cur, hv, hgb, (grownBy_keeps_cells hg hrow hh rfl).trans hh, r⟩
theorem LR.kept {W W' : World} {row : Option Nat} {ls : List Ln} (h : LR W ls) (hg : W.grownBy W' row) (hrow : ∀ r, row = some r → ∃ o : Obj, W.heap[r]? = some o ∧ o.isCells = false) : LR W' ls :=
  h.of fun _ _ ⟨_, _, hc, _⟩ => grownBy_keeps_cells hg hrow hc rfl
theorem others_below {W W' : World} (h : Below W.heap.size W W') : KeepsOthers W W' := ⟨h.size, fun k _ ho _ => (h.block k (Array.getElem?_eq_some_iff.1 ho).1).trans ho⟩
theorem h_last (W : World) (o : Obj) (k : Nat) (hk : k = W.heap.size) : (W.alloc o).heap[k]? = some o := by subst hk; exact heap_alloc_last W o
theorem h_old (W : World) (o v : Obj) (k : Nat) (h : W.heap[k]? = some v) : (W.alloc o).heap[k]? = some v := by
  rw [Below.heap_alloc _ _ _ (Array.getElem?_eq_some_iff.1 h).1]
  exact h

theorem OwnC.own_cells {W : World} {base z k c : Nat} {E : TypeId} {A : Option Addr} {F : Nat → Value} (h : OwnC W base E z A k c F) (j : Nat) (o : Obj) (hj : (Value.slice A k c).ownBlock = some j) (ho : W.heap[j]? = some o) : o.isCells = true := by
  obtain ⟨_, h2⟩ := h
  rcases h2 with ⟨hv, _⟩ | ⟨gg, cap, cur, hv, _, hh, _⟩
  · injection hv with e1; subst e1; simp [Value.ownBlock] at hj
  · injection hv with e1; subst e1
    have e' : gg = j := by simpa [Value.ownBlock] using hj
    subst e'
    rw [hh] at ho
    injection ho with ho
    rw [← ho]; rfl
/-- A store into a row of another type leaves an own row as it was. -/
theorem ownC_setRow {W : World} {base z n c b : Nat} {E T : TypeId} {A : Option Addr} {F : Nat → Value} {D : Array Value} (h : OwnC W base E z A n c F) (hb : RowC W b D T) (hne : T ≠ E) (i : Nat) (v : Value) : OwnC (W.setCell ⟨b, i, none⟩ v) base E z A n c F := by
  obtain ⟨h1, h2⟩ := h
  refine ⟨h1, ?_⟩
  rcases h2 with h2 | ⟨gg, cap, cur, hv, hgb, hh, r⟩
  · exact .inl h2
  · refine .inr ⟨gg, cap, cur, hv, hgb, (Below.heap_setCell _ _ _ _ ?_).trans hh, r⟩
    intro e
    subst e
    rw [show W.heap[gg]? = _ from hb] at hh
    injection hh with hh
    injection hh with _ h3
    exact hne h3

theorem pre_last {n : Nat} {pre : List (Fin n)} {x : Fin n} (h : pre ++ [x] <+: List.finRange n) (i : Fin n) (hi : i.1 < x.1) : i ∈ pre := by
  obtain ⟨t, ht⟩ := h
  have h1 : (List.finRange n)[pre.length]? = some x := by
    rw [← ht, List.append_assoc, List.getElem?_append_right (Nat.le_refl _), Nat.sub_self]
    rfl
  have h2 : x.1 = pre.length := by
    obtain ⟨hl, he⟩ := List.getElem?_eq_some_iff.1 h1
    rw [← he]
    simp
  have h3 : (List.finRange n)[i.1]? = some i := by
    rw [List.getElem?_eq_getElem (by simp)]
    simp
  rw [← ht, List.append_assoc, List.getElem?_append_left (by omega)] at h3
  exact List.mem_of_getElem? h3

theorem infoLn : (Tryz.prog.info? 87).map (fun i => (i.zero, i.size, i.bytes)) = some (some (.agg #[.int .i64 0, .slice none 0 0]), 2, 32) := by kernel_rfl
theorem each_stops (s : ByteArray) (hs : s.size ≤ 4294967296) (N : Nat) (hn : 1 ≤ N) (Bx : Nat) (w : World) (hBx : Bx < w.heap.size) (h1 : w.cell? ⟨Bx, 0, none⟩ = some (.string s)) :
    SeqStopsK Fence.wide N Tryz.prog 54 #[.pointer (some ⟨Bx, 0, none⟩)]
      (fun x : Fin (nl s.data.toList) => #[Value.int .i64 ((x.1 : Int) + 1), Value.string ⟨(lnAt s.data.toList x).toArray⟩]) (fun _ _ => True) (fun ys => ys = List.finRange (nl s.data.toList)) (fun pre => pre <+: List.finRange (nl s.data.toList)) (nl s.data.toList) w := fun l J Jx W hW hJ _ hY h0 =>
  each1_in N hn s hs l Bx J Jx W hJ hY ((hW.cell (p := ⟨Bx, 0, none⟩) hBx).trans h1) h0

/-- .. and behind the first line that is wrong. -/
def LnX (w : World) (L : List UInt8) (pre : List (Fin (nl L))) (W : World) : Prop :=
  ∃ pre' x, pre = pre' ++ [x] ∧ (RowC W w.heap.size #[.slice none 0 0] 56 ∧ RowC W (w.heap.size + 1) #[.int .i64 ((x.1 + 1 : Nat) : Int)] 3 ∧ RowC W (w.heap.size + 1 + 1) #[.int .i64 13] 27) ∧
    (∀ i ∈ pre', (nb (lnAt L i)).all okS = true) ∧ (nb (lnAt L x)).all okS = false

end Go.Proofs.YtccklmleaffgiaaGreatDoor
