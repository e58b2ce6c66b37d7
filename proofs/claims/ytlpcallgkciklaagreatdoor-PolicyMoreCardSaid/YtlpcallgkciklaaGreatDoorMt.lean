/-
  Lines of words, by plain functions: a text's lines, a line's told part, its words, what a text's lines are. Nothing here speaks of a program.
-/
import Derived.Lib.FieldsP
import Derived.Lib.CutLaws
import Derived.Lib.IndexBytes
import Derived.Lib.IndexLaws
import Derived.Laws.RangeAny
import Derived.WalkKit
import Derived.Test.YtlpcallgkciklaaGreatDoorRw
import Derived.Test.YtlpcallgkciklaaGreatDoorShelf
import Derived.Lib.OthersKept
import Derived.Deep.Draws
import Derived.RangeFuncNested
import Derived.RangeFuncBound
import Derived.RangeFuncCalls
import Derived.RangeFuncLeaves
import Derived.Shelf.Abstract
import Derived.Shelf.RegionOpen
import Derived.OwnWalkIn
import Derived.TacticsInMore
import Derived.LoopNIn
import Derived.LoopIn
import Derived.Maps.AppendAt
import Derived.Shelf.Strings.FieldsFuncAny
import Derived.BigQuiet
import Derived.Test.YtlpcallgkciklaaGreatDoorShb
import Derived.Shelf.Strings.BuilderK
namespace Go.Proofs.YtlpcallgkciklaaGreatDoor
open Go.RowKit

/-- A text's lines. -/
def lns : List UInt8 → List (List UInt8)
  | [] => [[]]
  | c :: t => if c = 10 then [] :: lns t else match lns t with
    | [] => [[c]]
    | x :: r => (c :: x) :: r
theorem lns_none : ∀ (l : List UInt8), (∀ c ∈ l, c ≠ 10) → lns l = [l]
  | [], _ => rfl
  | c :: t, h => by
    have h1 : c ≠ 10 := h c (List.mem_cons_self)
    have h2 := lns_none t fun x hx => h x (List.mem_cons_of_mem _ hx)
    unfold lns
    rw [if_neg h1, h2]
theorem lns_some : ∀ (l r : List UInt8), (∀ c ∈ l, c ≠ 10) → lns (l ++ 10 :: r) = l :: lns r
  | [], r, _ => by show (if (10 : UInt8) = 10 then [] :: lns r else _) = _; rw [if_pos rfl]
  | c :: t, r, h => by
    have h1 : c ≠ 10 := h c (List.mem_cons_self)
    have h2 := lns_some t r fun x hx => h x (List.mem_cons_of_mem _ hx)
    show (if c = 10 then _ else match lns (t ++ 10 :: r) with | [] => [[c]] | x :: r => (c :: x) :: r) = _
    rw [if_neg h1, h2]
theorem lns_length : ∀ (l : List UInt8), 1 ≤ (lns l).length ∧ (lns l).length ≤ l.length + 1
  | [] => ⟨Nat.le_refl _, Nat.le_refl _⟩
  | c :: t => by
    have h := lns_length t
    unfold lns
    split
    · simp only [List.length_cons]; omega
    · split
      · simp
      · rename_i x r e
        rw [e] at h
        simp only [List.length_cons] at h ⊢
        omega
theorem lns_mem : ∀ (l x : List UInt8), x ∈ lns l → x.length ≤ l.length
  | [], x, h => by
    have : x ∈ [([] : List UInt8)] := h
    rw [List.mem_singleton] at this
    subst this; exact Nat.le_refl _
  | c :: t, x, h => by
    have ih := lns_mem t
    unfold lns at h
    split at h
    · rcases List.mem_cons.1 h with rfl | h
      · exact Nat.zero_le _
      · have := ih x h
        simp only [List.length_cons]; omega
    · split at h
      · rw [List.mem_singleton] at h
        subst h; simp
      · rename_i y r e
        rcases List.mem_cons.1 h with rfl | h
        · have := ih y (by rw [e]; exact List.mem_cons_self)
          simp only [List.length_cons]; omega
        · have := ih x (by rw [e]; exact List.mem_cons_of_mem _ h)
          simp only [List.length_cons]; omega
/-- A blank. -/
def blk (c : UInt8) : Bool := c == 32 || c == 9 || c == 13
/-- A sign that may be. -/
def okS (c : UInt8) : Bool := blk c || (decide (33 ≤ c.toNat) && decide (c.toNat ≤ 126))
/-- What stands ahead of a note. -/
def nb (l : List UInt8) : List UInt8 := l.takeWhile (· != 35)
/-- Words, the sign by sign. -/
def psh : List (List UInt8) → List UInt8 → List (List UInt8)
  | out, [] => out
  | out, c :: t => out ++ [c :: t]
theorem psh_ne (out : List (List UInt8)) {w : List UInt8} (h : w ≠ []) : psh out w = out ++ [w] := by
  cases w with
  | nil => exact absurd rfl h
  | cons c t => rfl
def wdF : List UInt8 → List UInt8 → List (List UInt8) → List (List UInt8)
  | [], w, out => psh out w
  | c :: t, w, out => if blk c = true then wdF t [] (psh out w) else wdF t (w ++ [c]) out
def wds (l : List UInt8) : List (List UInt8) := wdF l [] []
/-- The lines that count, behind acc; or the number of the first wrong one. -/
def scan : Nat → List (List UInt8) → List (Nat × List (List UInt8)) → List (Nat × List (List UInt8)) × Nat
  | _, [], acc => (acc, 0)
  | n, l :: r, acc => if (nb l).all okS = true then scan (n + 1) r (if wds (nb l) = [] then acc else acc ++ [(n, wds (nb l))]) else ([], n)
def linesF (l : List UInt8) : List (Nat × List (List UInt8)) × Nat := scan 1 (lns l) []

theorem okS_lt {c : UInt8} (h : okS c = true) : c.toNat < 128 := by
  have hc : c.toNat = c.toNat := rfl
  unfold okS blk at h
  simp only [Bool.or_eq_true, Bool.and_eq_true, decide_eq_true_eq, beq_iff_eq] at h
  rcases h with ((h | h) | h) | h
  · subst h; decide
  · subst h; decide
  · subst h; decide
  · omega
theorem blk_iff (c : UInt8) : blk c = (decide (c.toNat = 32) || decide (c.toNat = 9) || decide (c.toNat = 13)) := by
  have e : ∀ d : UInt8, (c == d) = decide (c.toNat = d.toNat) := fun d => by
    by_cases h : c = d
    · subst h; simp
    · rw [beq_eq_false_iff_ne.2 h, decide_eq_false (fun h' => h (UInt8.toNat_inj.1 h'))]
  unfold blk
  rw [e, e, e]; rfl
theorem okS_iff (c : UInt8) : okS c = (blk c || (decide (33 ≤ c.toNat) && decide (c.toNat ≤ 126))) := rfl

/-! ### strings.Cut at one byte -/
theorem cut_one (l : List UInt8) (c : UInt8) :
    ((∀ x ∈ l, x ≠ c) ∧ Lib.cut l [c] = (l, [], false)) ∨ ∃ a r, l = a ++ c :: r ∧ (∀ x ∈ a, x ≠ c) ∧ Lib.cut l [c] = (a, r, true) := by
  have hi := Lib.index_one l c
  have hge := Lib.indexByte_ge l c
  by_cases h : Lib.indexByte l c = -1
  · refine .inl ⟨fun x hx e => ?_, ?_⟩
    · subst e
      obtain ⟨k, hk⟩ := List.getElem?_of_mem hx
      exact Lib.indexByte_none h k hk
    · unfold Lib.cut
      rw [hi, h, if_neg (by decide)]
  · obtain ⟨o, ho⟩ : ∃ o : Nat, Lib.indexByte l c = o := ⟨(Lib.indexByte l c).toNat, by omega⟩
    obtain ⟨h1, h2⟩ := Lib.indexByte_some ho
    refine .inr ⟨l.take o, l.drop (o + 1), ?_, fun x hx e => ?_, ?_⟩
    · have hlt : o < l.length := (List.getElem?_eq_some_iff.1 h1).1
      have e2 : l.drop o = c :: l.drop (o + 1) := by
        rw [List.drop_eq_getElem_cons hlt]
        congr 1
        exact (List.getElem?_eq_some_iff.1 h1).2
      rw [← e2, List.take_append_drop]
    · subst e
      obtain ⟨k, hk⟩ := List.getElem?_of_mem hx
      have hk' : k < o := by
        have := (List.getElem?_eq_some_iff.1 hk).1
        simp at this; omega
      rw [List.getElem?_take_of_lt hk'] at hk
      exact h2 k hk' hk
    · unfold Lib.cut
      rw [hi, ho, if_pos (by omega)]
      simp
theorem takeWhile_cut (l : List UInt8) : (Lib.cut l [35]).1 = nb l := by
  rcases cut_one l 35 with ⟨h1, h2⟩ | ⟨a, r, rfl, h1, h2⟩
  · rw [h2]
    unfold nb
    have hh : ∀ t : List UInt8, (∀ x ∈ t, x ≠ 35) → t = t.takeWhile (· != 35) := by
      intro t
      induction t with
      | nil => intro _; rfl
      | cons c t ih =>
        intro h
        rw [List.takeWhile_cons, if_pos (by simpa using h c (List.mem_cons_self)), ← ih fun x hx => h x (List.mem_cons_of_mem _ hx)]
    exact hh l h1
  · rw [h2]
    unfold nb
    rw [List.takeWhile_append_of_pos (fun x hx => by simpa using h1 x hx)]
    simp

/-! ### strings.FieldsFunc at signs that may be -/
def isBl (r : Nat) : Bool := decide (r = 32) || decide (r = 9) || decide (r = 13)
/-- The word that a span which is open holds. -/
def wrd (l : List UInt8) (st : Option Nat) (pos : Nat) : List UInt8 := match st with | some a => (l.drop a).take (pos - a) | none => []
theorem piece_grow (l : List UInt8) (a pos : Nat) (h : a ≤ pos) (hp : pos < l.length) : (l.drop a).take (pos - a) ++ [l[pos]] = (l.drop a).take (pos + 1 - a) := by
  rw [show pos + 1 - a = (pos - a) + 1 by omega, List.take_add_one]
  congr 1
  rw [List.getElem?_drop, show a + (pos - a) = pos by omega, List.getElem?_eq_getElem hp]
  rfl
theorem piece_ne (l : List UInt8) (a pos : Nat) (h : a < pos) (hp : pos ≤ l.length) : (l.drop a).take (pos - a) ≠ [] := by
  intro h0
  have := congrArg List.length h0
  simp at this
  omega
theorem spans_wd (s : ByteArray) (hok : s.data.toList.all okS = true) : ∀ (f pos : Nat) (st : Option Nat) (acc : List (Nat × Nat)), s.size ≤ pos + f → pos ≤ s.size → (∀ a, st = some a → a < pos) →
    ((Lib.closeSpans s (Lib.spansFromP isBl s f pos st acc)).map fun p => (s.data.toList.drop p.1).take (p.2 - p.1)) = wdF (s.data.toList.drop pos) (wrd s.data.toList st pos) (acc.map fun p => (s.data.toList.drop p.1).take (p.2 - p.1)) := by
  have hlen : s.data.toList.length = s.size := Array.length_toList
  have hend : ∀ (st : Option Nat) (acc : List (Nat × Nat)), (∀ a, st = some a → a < s.size) → ((Lib.closeSpans s (acc, st)).map fun p => (s.data.toList.drop p.1).take (p.2 - p.1)) = wdF [] (wrd s.data.toList st s.size) (acc.map fun p => (s.data.toList.drop p.1).take (p.2 - p.1)) := fun st acc hst => by
    cases st with
    | none => rfl
    | some a =>
      have := piece_ne s.data.toList a s.size (hst a rfl) (by omega)
      simp only [Lib.closeSpans, wdF, wrd, List.map_append, List.map_cons, List.map_nil]
      rw [psh_ne _ this]
  intro f
  induction f with
  | zero =>
    intro pos st acc h1 h2 h3
    obtain rfl : pos = s.size := by omega
    have e : s.data.toList.drop s.size = [] := by rw [List.drop_eq_nil_iff]; omega
    rw [e]
    exact hend st acc h3
  | succ f ih =>
    intro pos st acc h1 h2 h3
    by_cases hlt : pos < s.size
    · have hgl : pos < s.data.toList.length := by omega
      have hob : okS (s.data.toList[pos]) = true := by
        rw [List.all_eq_true] at hok
        exact hok _ (List.getElem_mem hgl)
      have hgb : s.data.toList[pos] = s[pos]'hlt := by simp [ByteArray.getElem_eq_getElem_data]
      have hdec := decode_ascii s pos hlt (by rw [← hgb]; exact okS_lt hob)
      have ed : s.data.toList.drop pos = s.data.toList[pos] :: s.data.toList.drop (pos + 1) := List.drop_eq_getElem_cons hgl
      have ebl : isBl (s[pos]'hlt).toNat = blk (s.data.toList[pos]) := by rw [hgb, blk_iff]; rfl
      rw [ed]
      unfold Lib.spansFromP wdF
      rw [if_pos hlt, hdec]
      dsimp only
      rw [ebl]
      by_cases hb : blk (s.data.toList[pos]) = true
      · rw [if_pos hb, if_pos hb]
        cases st with
        | none =>
          dsimp only
          rw [ih (pos + 1) none acc (by omega) (by omega) (fun a h => by cases h)]
          rfl
        | some a =>
          dsimp only
          rw [ih (pos + 1) none (acc ++ [(a, pos)]) (by omega) (by omega) (fun a h => by cases h)]
          have hne := piece_ne s.data.toList a pos (h3 a rfl) (by omega)
          simp only [wrd, List.map_append, List.map_cons, List.map_nil]
          rw [psh_ne _ hne]
      · rw [if_neg hb, if_neg hb]
        cases st with
        | none =>
          dsimp only
          rw [ih (pos + 1) (some pos) acc (by omega) (by omega) (fun a h => by cases h; omega)]
          have := piece_grow s.data.toList pos pos (Nat.le_refl _) hgl
          simp only [wrd]
          rw [← this]
          simp
        | some a =>
          dsimp only
          rw [ih (pos + 1) (some a) acc (by omega) (by omega) (fun b h => by cases h; have := h3 a rfl; omega)]
          have := piece_grow s.data.toList a pos (by have := h3 a rfl; omega) hgl
          simp only [wrd]
          rw [← this]
    · obtain rfl : pos = s.size := by omega
      have e : s.data.toList.drop s.size = [] := by rw [List.drop_eq_nil_iff]; omega
      rw [e, Lib.spansFromP_end isBl s _ _ _ _ hlt]
      exact hend st acc h3
theorem fields_wd (s : ByteArray) (hok : s.data.toList.all okS = true) : Lib.goFieldsP isBl s = (wds s.data.toList).map fun w => (⟨w.toArray⟩ : ByteArray) := by
  have h := spans_wd s hok s.size 0 none [] (by omega) (Nat.zero_le _) (fun a h => by cases h)
  unfold Lib.goFieldsP Lib.spansOfP
  have e : ∀ p : Nat × Nat, s.extract p.1 p.2 = (⟨((s.data.toList.drop p.1).take (p.2 - p.1)).toArray⟩ : ByteArray) := fun p => Lib.extract_eq s p.1 p.2
  unfold wds
  rw [List.drop_zero] at h
  simp only [wrd, List.map_nil] at h
  rw [← h, List.map_map]
  exact List.map_congr_left fun p _ => e p
end Go.Proofs.YtlpcallgkciklaaGreatDoor

/-
  The contracts of strings.Cut at one byte, lex.isBlank, lex.split.
-/
namespace Go.Proofs.YtlpcallgkciklaaGreatDoor
open Go.RowKit Go.Shelf

theorem index1 (s : ByteArray) (c : UInt8) : Lib.indexB s ⟨#[c]⟩ = Lib.indexByte s.data.toList c := Lib.index_one _ _
set_option maxHeartbeats 2000000 in
set_option maxRecDepth 100000 in
theorem slcut_one (s : ByteArray) (c : UInt8) (hs : s.size ≤ 4294967296) (w : World) :
    Calls Tryz.prog 96 #[.string s, .string ⟨#[c]⟩] w fun e w' => e = .returned (.tuple #[.string ⟨(Lib.cut s.data.toList [c]).1.toArray⟩, .string ⟨(Lib.cut s.data.toList [c]).2.1.toArray⟩, .bool (Lib.cut s.data.toList [c]).2.2]) ∧ ∃ n, w' = w.drewN n := by
  rcases Lib.indexB_cases s ⟨#[c]⟩ with hix | ⟨i, hix, hroom⟩
  · obtain ⟨e1, e2, e3⟩ := Lib.cutB_miss s ⟨#[c]⟩ hix
    have e1' : (⟨(Lib.cut s.data.toList [c]).1.toArray⟩ : ByteArray) = _ := e1
    have e2' : (⟨(Lib.cut s.data.toList [c]).2.1.toArray⟩ : ByteArray) = _ := e2
    have e3' : (Lib.cut s.data.toList [c]).2.2 = _ := e3
    rw [e1', e2', e3']
    rw [index1] at hix
    go_enter Tryz.func96, Tryz.ntmps96
    go_wp2_with (go_at_call 111; refine (Tryz.stringslite_Index_one _ _ _).mono ?_; rintro e w' ⟨rfl, rfl⟩; rw [hix])
    go_ret3
    exact ⟨rfl, 0, rfl⟩
  · obtain ⟨e1, e2, e3⟩ := Lib.cutB_hit s ⟨#[c]⟩ i hix
    have e1' : (⟨(Lib.cut s.data.toList [c]).1.toArray⟩ : ByteArray) = _ := e1
    have e2' : (⟨(Lib.cut s.data.toList [c]).2.1.toArray⟩ : ByteArray) = _ := e2
    have e3' : (Lib.cut s.data.toList [c]).2.2 = _ := e3
    rw [e1', e2', e3']
    rw [index1] at hix
    have h1 : (⟨#[c]⟩ : ByteArray).size = 1 := rfl
    rw [h1] at hroom ⊢
    have c1 : (0 : Int) ≤ ↑i := by omega
    have c2 : (↑i : Int) ≤ ↑s.size := by omega
    have c3 : (0 : Int) ≤ ↑i + 1 := by omega
    have c4 : (↑i + 1 : Int) ≤ ↑s.size := by omega
    have hmx : Tryz.prog.follows .mixedOrders = true := by kernel_rfl
    have c5 : IntKind.i64.wrap ((i : Int) + 1) = i + 1 := IntWalk.i64_in _ (by omega)
    go_enter Tryz.func96, Tryz.ntmps96
    go_wp2_with (go_at_call 111; refine (Tryz.stringslite_Index_one _ _ _).mono ?_; rintro e w' ⟨rfl, rfl⟩; rw [hix])
    go_region_o
    go_wp2
    go_ret3
    exact ⟨rfl, 1, rfl⟩
set_option maxHeartbeats 1000000 in
theorem cut_any (s : ByteArray) (c : UInt8) (hs : s.size ≤ 4294967296) (w : World) :
    Calls Tryz.prog 74 #[.string s, .string ⟨#[c]⟩] w fun e w' => e = .returned (.tuple #[.string ⟨(Lib.cut s.data.toList [c]).1.toArray⟩, .string ⟨(Lib.cut s.data.toList [c]).2.1.toArray⟩, .bool (Lib.cut s.data.toList [c]).2.2]) ∧ ∃ n, w' = w.drewN n := by
  go_enter Tryz.func74, Tryz.ntmps74
  go_wp2_with (go_at_call 96; refine (slcut_one _ _ hs _).mono ?_; rintro e w' ⟨rfl, n, rfl⟩)
  go_ret3
  exact ⟨rfl, n, rfl⟩

set_option maxHeartbeats 1000000 in
theorem blank_any (r : Nat) (w : World) : Calls Tryz.prog 75 #[.int .i32 r] w fun e w' => e = .returned (.bool (isBl r)) ∧ w' = w := by
  unfold isBl
  go_enter Tryz.func75, Tryz.ntmps75
  by_cases h0 : r = 32
  · subst h0
    go_wp2
    go_ret
    exact ⟨rfl, rfl⟩
  · by_cases h1 : r = 9
    · subst h1
      go_wp2
      go_ret
      exact ⟨rfl, rfl⟩
    · by_cases h2 : r = 13
      · subst h2
        go_wp2
        go_ret
        exact ⟨rfl, rfl⟩
      · have d0 : ((r : Int) == 32) = false := beq_eq_false_iff_ne.2 (by omega)
        have d1 : ((r : Int) == 9) = false := beq_eq_false_iff_ne.2 (by omega)
        have d2 : ((r : Int) == 13) = false := beq_eq_false_iff_ne.2 (by omega)
        go_wp2
        go_ret
        exact ⟨by simp [h0, h1, h2], rfl⟩
theorem pred_blank (w : World) : PredAt Tryz.prog 75 #[] encR isBl w := fun W r _ => (blank_any r W).mono fun _ _ ⟨h1, h2⟩ => ⟨h1, 0, h2⟩
theorem fields_any (s : ByteArray) (hok : s.data.toList.all okS = true) (hs : s.size ≤ 4294967296) (w : World) :
    Calls Tryz.prog 76 #[.string s, .func (.func 75) #[] #[]] w fun e w' => ∃ A, e = .returned (.slice (some ⟨A, 0, none⟩) (wds s.data.toList).length (wds s.data.toList).length) ∧ w.heap.size ≤ A ∧
      w'.ownsRow w.heap.size 9 1 (.slice (some ⟨A, 0, none⟩) (wds s.data.toList).length (wds s.data.toList).length) (wds s.data.toList).length ((wds s.data.toList).map fun x => Value.string ⟨x.toArray⟩) ∧ Below w.heap.size w w' := by
  have h := Tryz.strings_FieldsFunc 75 #[] (enters_of Tryz.func75 (by kernel_rfl) rfl) isBl s w hs (pred_blank w)
  rw [fields_wd s hok, List.length_map, List.map_map] at h
  exact h
end Go.Proofs.YtlpcallgkciklaaGreatDoor

/-
  The contract of lex.split.
-/
namespace Go.Proofs.YtlpcallgkciklaaGreatDoor
open Go.RowKit Go.Shelf

/-- What split tells: the words in a row of the call's own, or nothing. -/
def SplitP (w : World) (l : List UInt8) (e : Ending) (w' : World) : Prop :=
  (((nb l).all okS = true ∧ ∃ A, e = .returned (.tuple #[.slice (some ⟨A, 0, none⟩) (wds (nb l)).length (wds (nb l)).length, .bool true]) ∧ w.heap.size ≤ A ∧
      w'.ownsRow w.heap.size 9 1 (.slice (some ⟨A, 0, none⟩) (wds (nb l)).length (wds (nb l)).length) (wds (nb l)).length ((wds (nb l)).map fun x => Value.string ⟨x.toArray⟩)) ∨
    ((nb l).all okS = false ∧ e = .returned (.tuple #[.slice none 0 0, .bool false]))) ∧ Below w.heap.size w w'
theorem ownsRow_lower {w : World} {base base' z n : Nat} {E : TypeId} {v : Value} {xs : List Value} (h : w.ownsRow base E z v n xs) (hb : base' ≤ base) : w.ownsRow base' E z v n xs := by
  obtain ⟨h1, h2⟩ := h
  refine ⟨h1, ?_⟩
  rcases h2 with h2 | ⟨gg, cap, cur, hv, hg, r⟩
  · exact Or.inl h2
  · exact Or.inr ⟨gg, cap, cur, hv, by omega, r⟩
theorem okS_val {c : UInt8} (h : okS c = true) (hb : isBl c.toNat = false) : 33 ≤ c.toNat ∧ c.toNat ≤ 126 := by
  rw [okS_iff, blk_iff] at h
  have hb' : (decide (c.toNat = 32) || decide (c.toNat = 9) || decide (c.toNat = 13)) = false := hb
  rw [hb', Bool.false_or] at h
  simpa using h
theorem not_okS {c : UInt8} (h : okS c = false) : isBl c.toNat = false ∧ (c.toNat < 33 ∨ 126 < c.toNat) ∧ c.toNat ≠ 32 := by
  rw [okS_iff, blk_iff] at h
  simp only [Bool.or_eq_false_iff, decide_eq_false_iff_not, Bool.and_eq_false_iff, Nat.not_le] at h
  refine ⟨?_, h.2, h.1.1.1⟩
  unfold isBl
  simp [h.1.1.1, h.1.1.2, h.1.2]
set_option maxHeartbeats 4000000 in
set_option maxRecDepth 100000 in
theorem split_any (s : ByteArray) (hs : s.size ≤ 4294967296) (w : World) : Calls Tryz.prog 48 #[.string s] w (SplitP w s.data.toList) := by
  have htk := takeWhile_cut s.data.toList
  obtain ⟨L, hL⟩ : ∃ L, nb s.data.toList = L := ⟨_, rfl⟩
  have hle : L.length ≤ s.size := by
    rw [← hL]
    exact (List.takeWhile_sublist _).length_le
  unfold SplitP
  have hcut := cut_any s 35 hs
  rw [hL] at htk ⊢
  rw [htk] at hcut
  obtain ⟨T, hT⟩ : ∃ T : ByteArray, T = ⟨L.toArray⟩ := ⟨_, rfl⟩
  have hTl : T.data.toList = L := by subst hT; rfl
  have hTs : T.size = L.length := by subst hT; exact List.size_toArray
  rw [← hT] at hcut
  clear hT
  generalize (Lib.cut s.data.toList [35]).2.1 = cr at hcut
  generalize (Lib.cut s.data.toList [35]).2.2 = cb at hcut
  have hfl := fun hok W => fields_any T hok (by omega) W
  rw [hTl] at hfl
  clear hL htk
  go_enter Tryz.func48, Tryz.ntmps48
  go_wp2_with (go_at_call 74; refine (hcut _).mono ?_; rintro e w' ⟨rfl, n, rfl⟩)
  go_loopw [] (fun wr => ∃ (pos : Nat), wr.heap[w.heap.size]? = some (.stringIter T pos) ∧ Below w.heap.size w wr ∧ pos ≤ T.size ∧ (∀ j x, j < pos → L[j]? = some x → okS x = true)) (fun wr => T.size - wr.iterPos w.heap.size)
  case atStart =>
    refine ⟨0, ?_, (bdn (Below.refl _ w) n).alloc (Nat.le_refl _) _, Nat.zero_le _, fun j x h => by omega⟩
    exact World.iter_heap (w.drewN n) T 0
  case round =>
    obtain ⟨pos, hit, hbw, hple, hpre⟩ := hrel
    have hsz : w.heap.size < wr.heap.size := (Array.getElem?_eq_some_iff.1 hit).1
    by_cases hp : pos < T.size
    · have hnx : ∀ ty, (Instr.next (.pointer (some ⟨w.heap.size, 0, none⟩)) true ty).run Tryz.prog wr = _ := fun ty => Lib.run_next_any_at wr w.heap.size T pos ty hit hp
      have hit2 := Lib.iterAt_heap wr w.heap.size T pos (pos + (Utf8.decode T pos).2) hit
      have hbw2 := Lib.below_iterAt hbw (k := w.heap.size) (by omega) T (pos + (Utf8.decode T pos).2)
      have hgl : pos < L.length := by omega
      have hLb : L[pos]? = some (T[pos]'hp) := by
        rw [← hTl, List.getElem?_eq_getElem (by rw [hTl]; exact hgl)]
        simp [ByteArray.getElem_eq_getElem_data]
      obtain ⟨c, hc⟩ : ∃ c, T[pos]'hp = c := ⟨_, rfl⟩
      rw [hc] at hLb
      cases hok : okS c
      · -- the first sign that may not be
        have hall : L.all okS = false := by
          rw [List.all_eq_false]
          exact ⟨c, List.mem_of_getElem? hLb, by rw [hok]; decide⟩
        obtain ⟨hnb, hrng, hn32⟩ := not_okS hok
        obtain ⟨r, hr, hrr⟩ : ∃ r : Nat, (Utf8.decode T pos).1 = r ∧ isBl r = false ∧ (r < 32 ∨ 126 < r) := by
          by_cases ha : c.toNat < 128
          · refine ⟨c.toNat, ?_, hnb, by omega⟩
            rw [decode_ascii T pos hp (by rw [hc]; exact ha), hc]
          · have := (decode_high T pos hp (by rw [hc]; omega)).1
            refine ⟨_, rfl, ?_, by omega⟩
            have h1 : ¬ (Utf8.decode T pos).1 = 32 := by omega
            have h2 : ¬ (Utf8.decode T pos).1 = 9 := by omega
            have h3 : ¬ (Utf8.decode T pos).1 = 13 := by omega
            unfold isBl
            simp [h1, h2, h3]
        obtain ⟨hrb, hrr⟩ := hrr
        have hHB := Lib.hid hbw2
        have hHA := Lib.hid hall
        rw [hr] at hnx
        generalize (wr.iterAt w.heap.size T (pos + (Utf8.decode T pos).2)) = W2 at *
        clear hfl hit2 hbw2 hall hrng hok hnb
        rcases hrr with hrr | hrr
        · have i1 : (r : Int) < 32 := by omega
          go_wp2_with (go_at_call 75; refine (blank_any _ _).mono ?_; rintro e w' ⟨rfl, rfl⟩; rw [hrb])
          go_ret2
          exact ⟨.inr ⟨hHA.out, rfl⟩, hHB.out⟩
        · have i1 : ¬ (r : Int) < 32 := by omega
          have i2 : (126 : Int) < (r : Int) := by omega
          go_wp2_with (go_at_call 75; refine (blank_any _ _).mono ?_; rintro e w' ⟨rfl, rfl⟩; rw [hrb])
          go_ret2
          exact ⟨.inr ⟨hHA.out, rfl⟩, hHB.out⟩
      · have hdec := decode_ascii T pos hp (by rw [hc]; exact okS_lt hok)
        rw [hc] at hdec
        rw [hdec] at hnx hit2 hbw2
        dsimp only at hnx hit2 hbw2
        have hHP : Hid (∀ j x, j < pos + 1 → L[j]? = some x → okS x = true) := Lib.hid (fun j x hj hx => by
          by_cases e : j = pos
          · subst e; rw [hLb] at hx; injection hx with hx; rw [← hx]; exact hok
          · exact hpre j x (by omega) hx)
        have hHI := Lib.hid (And.intro hit2 hbw2)
        have hHit := Lib.hid hit
        generalize (wr.iterAt w.heap.size T (pos + 1)) = W2 at *
        obtain ⟨r, hr⟩ : ∃ r : Nat, c.toNat = r := ⟨_, rfl⟩
        have hval := okS_val (c := c) hok
        rw [hr] at hnx hval
        clear hfl hit2 hbw2 hok hpre hLb
        cases hrb : isBl r
        · obtain ⟨v1, v2⟩ := hval hrb
          have i1 : ¬ (r : Int) < 32 := by omega
          have i2 : ¬ (126 : Int) < (r : Int) := by omega
          go_wp2_with (go_at_call 75; refine (blank_any _ _).mono ?_; rintro e w' ⟨rfl, rfl⟩; rw [hrb])
          go_roundw
          case rel => exact ⟨pos + 1, hHI.out.1, hHI.out.2, hp, hHP.out⟩
          case measure => simp only [World.iterPos, hHI.out.1, hHit.out]; omega
        · go_wp2_with (go_at_call 75; refine (blank_any _ _).mono ?_; rintro e w' ⟨rfl, rfl⟩; rw [hrb])
          go_roundw
          case rel => exact ⟨pos + 1, hHI.out.1, hHI.out.2, hp, hHP.out⟩
          case measure => simp only [World.iterPos, hHI.out.1, hHit.out]; omega
    · have hnx : ∀ ty, (Instr.next (.pointer (some ⟨w.heap.size, 0, none⟩)) true ty).run Tryz.prog wr = _ := fun ty => Lib.run_next_end_at wr w.heap.size T pos ty hit hp
      have hall : L.all okS = true := by
        rw [List.all_eq_true]
        intro x hx
        obtain ⟨j, hj⟩ := List.getElem?_of_mem hx
        exact hpre j x (by have := (List.getElem?_eq_some_iff.1 hj).1; omega) hj
      have hfl2 := hfl hall
      have hHA := Lib.hid hall
      clear hfl hpre hall
      go_wp2_with (go_at_call 76; refine (hfl2 _).mono ?_; rintro e W1 ⟨A, rfl, hA, hown, hB1⟩)
      go_ret2
      exact ⟨.inl ⟨hHA.out, A, rfl, by omega, ownsRow_lower hown (by omega)⟩, hbw.trans (hB1.mono (by omega))⟩
end Go.Proofs.YtlpcallgkciklaaGreatDoor

/-
  The iterator lex.each: its contract; what a text's lines are, line by line.
-/
namespace Go.Proofs.YtlpcallgkciklaaGreatDoor
open Go.RowKit Go.Shelf
attribute [local go_sem] Oper.semAt_some

/-- How many lines a text has; its i-th one. -/
abbrev nl (L : List UInt8) : Nat := (lns L).length
abbrev lnAt (L : List UInt8) (i : Fin (nl L)) : List UInt8 := (lns L)[i.1]'i.2
theorem finRange_take {n k : Nat} (h : k < n) : (List.finRange n).take (k + 1) = (List.finRange n).take k ++ [⟨k, h⟩] := by
  rw [List.take_add_one]
  congr 1
  rw [List.getElem?_eq_getElem (by simpa using h)]
  simp
theorem finRange_takeAll (n : Nat) : (List.finRange n).take n = List.finRange n := List.take_of_length_le (by simp)
/-- The lines that count, of these. -/
def accL (L : List UInt8) (pre : List (Fin (nl L))) : List (Nat × List (List UInt8)) :=
  pre.foldl (fun acc i => if wds (nb (lnAt L i)) = [] then acc else acc ++ [(i.1 + 1, wds (nb (lnAt L i)))]) []
theorem accL_snoc (L : List UInt8) (pre : List (Fin (nl L))) (x : Fin (nl L)) : accL L (pre ++ [x]) = if wds (nb (lnAt L x)) = [] then accL L pre else accL L pre ++ [(x.1 + 1, wds (nb (lnAt L x)))] := by
  unfold accL
  rw [List.foldl_append]
  rfl
theorem accL_length (L : List UInt8) (pre : List (Fin (nl L))) : (accL L pre).length ≤ pre.length := by
  suffices h : ∀ (l : List (Fin (nl L))) (acc : List (Nat × List (List UInt8))), (l.foldl (fun acc i => if wds (nb (lnAt L i)) = [] then acc else acc ++ [(i.1 + 1, wds (nb (lnAt L i)))]) acc).length ≤ acc.length + l.length by
    have := h pre []
    unfold accL
    simpa using this
  intro l
  induction l with
  | nil => intro acc; exact Nat.le_refl _
  | cons x l ih =>
    intro acc
    have h1 := ih (if wds (nb (lnAt L x)) = [] then acc else acc ++ [(x.1 + 1, wds (nb (lnAt L x)))])
    have h2 : (if wds (nb (lnAt L x)) = [] then acc else acc ++ [(x.1 + 1, wds (nb (lnAt L x)))]).length ≤ acc.length + 1 := by
      split
      · omega
      · simp
    simp only [List.foldl_cons, List.length_cons]
    omega
theorem scan_acc (L : List UInt8) : ∀ k, k ≤ nl L → (∀ i : Fin (nl L), i.1 < k → (nb (lnAt L i)).all okS = true) → linesF L = scan (k + 1) ((lns L).drop k) (accL L ((List.finRange (nl L)).take k)) := by
  intro k
  induction k with
  | zero => intro _ _; rfl
  | succ k ih =>
    intro hk hok
    have hkl : k < (lns L).length := hk
    rw [ih (by omega) (fun i hi => hok i (by omega)), finRange_take (show k < nl L from hkl), accL_snoc, List.drop_eq_getElem_cons hkl]
    have h1 := hok ⟨k, hkl⟩ (by show k < k + 1; omega)
    show (if (nb ((lns L)[k]'hkl)).all okS = true then _ else _) = _
    rw [if_pos h1]
theorem lines_ok (L : List UInt8) (hok : ∀ i : Fin (nl L), (nb (lnAt L i)).all okS = true) : linesF L = (accL L (List.finRange (nl L)), 0) := by
  rw [scan_acc L (nl L) (Nat.le_refl _) (fun i _ => hok i), List.drop_eq_nil_of_le (Nat.le_refl _), finRange_takeAll]
  rfl
theorem lines_bad (L : List UInt8) (k : Fin (nl L)) (hok : ∀ i : Fin (nl L), i.1 < k.1 → (nb (lnAt L i)).all okS = true) (hb : (nb (lnAt L k)).all okS = false) : linesF L = ([], k.1 + 1) := by
  rw [scan_acc L k.1 (Nat.le_of_lt k.2) hok, List.drop_eq_getElem_cons k.2]
  show (if (nb ((lns L)[k.1]'k.2)).all okS = true then _ else _) = _
  rw [if_neg (by rw [show (nb ((lns L)[k.1]'k.2)).all okS = false from hb]; decide)]

set_option maxRecDepth 100000 in
set_option maxHeartbeats 4000000 in
theorem each1_in (N : Nat) (hn : 1 ≤ N) (s : ByteArray) (hs : s.size ≤ 4294967296) (l Bx : Nat) (J Jx : List (Fin (nl s.data.toList)) → World → Prop) (W : World) (hJ : AbidesFrom W.heap.size J)
    (hY : ∀ pre x W', J pre W' → pre.length < nl s.data.toList → YieldAt Fence.wide (N - 1) Tryz.prog l #[.int .i64 ((x.1 : Int) + 1), .string ⟨(lnAt s.data.toList x).toArray⟩] W' fun e W'' =>
      (e = .returned (.bool true) ∧ J (pre ++ [x]) W'' ∧ True) ∨ (e = .returned (.bool false) ∧ Jx (pre ++ [x]) W''))
    (h1 : W.cell? ⟨Bx, 0, none⟩ = some (.string s)) (h0 : J [] W) :
    CallsIn Fence.wide N Tryz.prog 73 #[.func (.yield l) #[] #[], .pointer (some ⟨Bx, 0, none⟩)] W fun e W' => (∃ v, e = .returned v) ∧
      ((∃ ys, ys = List.finRange (nl s.data.toList) ∧ J ys W') ∨ (∃ pre, pre <+: List.finRange (nl s.data.toList) ∧ Jx pre W')) := by
  have hro : (Fence.wide).round = none := rfl
  have hnl : 1 ≤ nl s.data.toList := (lns_length s.data.toList).1
  have hnl2 : nl s.data.toList ≤ s.data.toList.length + 1 := (lns_length s.data.toList).2
  have hsz : s.data.toList.length = s.size := Array.length_toList
  refine callsIn_of_wp Tryz.func73 rfl trivial ?_ hro
  simp only [Tryz.ntmps73, List.size_toArray, List.length_cons, List.length_nil, Nat.reduceAdd, Nat.reduceSub, Array.replicate_succ, Array.replicate_zero, List.push_toArray, List.append_toArray, List.nil_append, List.cons_append]
  gi_wp2
  gi_loopw [3, 4, 5] (fun r m i wr => ∃ (k : Nat) (R : ByteArray), k ≤ nl s.data.toList ∧ r = .string R ∧ R.size ≤ s.size ∧ m = .bool (decide (k < nl s.data.toList)) ∧ i = .int .i64 ((k + 1 : Nat) : Int) ∧ (k < nl s.data.toList → lns R.data.toList = (lns s.data.toList).drop k) ∧ J ((List.finRange (nl s.data.toList)).take k) wr)
    (fun _ _ i _ => nl s.data.toList + 1 - (intOf i).toNat)
  case atStart =>
    refine ⟨0, s, Nat.zero_le _, rfl, Nat.le_refl _, ?_, rfl, fun _ => rfl, h0⟩
    rw [decide_eq_true (by omega)]
  case round =>
    obtain ⟨k, R, hk, rfl, hRs, rfl, rfl, hR, hJs⟩ := hrel
    by_cases hlt : k < nl s.data.toList
    · have hd : decide (k < nl s.data.toList) = true := decide_eq_true hlt
      rw [hd]
      have hR' := hR hlt
      have hsnoc := finRange_take hlt
      obtain ⟨a, r, more, hcut, hla, hlr, hrs, hmr⟩ : ∃ (a r : List UInt8) (more : Bool), Lib.cut R.data.toList [10] = (a, r, more) ∧ a = lnAt s.data.toList ⟨k, hlt⟩ ∧ (more = true → lns r = (lns s.data.toList).drop (k + 1)) ∧ r.length ≤ R.size ∧ more = decide (k + 1 < nl s.data.toList) := by
        have hdr : (lns s.data.toList).drop k = lnAt s.data.toList ⟨k, hlt⟩ :: (lns s.data.toList).drop (k + 1) := List.drop_eq_getElem_cons hlt
        have hRl : R.data.toList.length = R.size := Array.length_toList
        have hl2 : ((lns s.data.toList).drop (k + 1)).length = nl s.data.toList - (k + 1) := List.length_drop
        rcases cut_one R.data.toList 10 with ⟨c1, c2⟩ | ⟨a, r, c0, c1, c2⟩
        · refine ⟨_, _, _, c2, ?_, fun h => (by cases h), Nat.zero_le _, ?_⟩
          · rw [lns_none _ c1, hdr] at hR'
            injection hR' with e1 e2
          · rw [lns_none _ c1, hdr] at hR'
            injection hR' with e1 e2
            rw [← e2] at hl2
            symm
            rw [decide_eq_false_iff_not]
            simp at hl2
            omega
        · rw [c0, lns_some _ _ c1, hdr] at hR'
          injection hR' with e1 e2
          refine ⟨_, _, _, c2, e1, fun _ => e2, ?_, ?_⟩
          · rw [← hRl, c0]
            simp
            omega
          · have := (lns_length r).1
            rw [e2, hl2] at this
            symm
            rw [decide_eq_true_iff]
            omega
      have hcc := fun w => cut_any R 10 (by omega) w
      rw [hcut] at hcc
      dsimp only at hcc
      have HRN : Hid (∀ q, J ((List.finRange (nl s.data.toList)).take k) (wr.drewN q)) := Lib.hid fun q => hJ _ wr (wr.drewN q) none hJs ⟨rfl, rfl, rfl, Nat.le_refl _, fun _ _ _ => rfl⟩ (fun r e => by cases e)
      have HLR := Lib.hid (And.intro hlr (And.intro hrs hmr))
      have HJS := Lib.hid hJs
      subst hla
      have hw1 : IntKind.i64.wrap (((k + 1 : Nat) : Int) + 1) = ((k + 1 + 1 : Nat) : Int) := by rw [IntWalk.i64_in _ (by omega)]; omega
      have hy0 := fun q => hY ((List.finRange (nl s.data.toList)).take k) ⟨k, hlt⟩ (wr.drewN q) (HRN.out q) (by simp; omega)
      rw [← hsnoc] at hy0
      have HY0 := Lib.hid hy0
      clear hcut hlr hrs hmr hR hR' hJs hy0 hsnoc hd
      gi_wp2_with (refine ⟨trivial, ?_⟩; gi_at_call 74; refine (callsIn_wide.2 (hcc _)).mono ?_; rintro e w1 ⟨rfl, q, rfl⟩; obtain ⟨fn, tmps, assign, body, hy, hRR⟩ := HY0.out q; dsimp only at hy)
      refine hRR.mono ?_
      rintro e W3 (⟨rfl, hJ3, _⟩ | ⟨rfl, hJx3⟩)
      · gi_wp2
        go_roundw
        case rel =>
          obtain ⟨hlr, hrs, hmr⟩ := HLR.out
          refine ⟨k + 1, ⟨r.toArray⟩, by omega, rfl, ?_, by rw [hmr], by go_num, fun h => hlr (by rw [hmr]; exact decide_eq_true h), hJ3⟩
          show r.toArray.size ≤ s.size
          rw [List.size_toArray]
          omega
        case measure => simp [intOf] <;> omega
      · gi_wp2
        refine bodyPost_ret (results_none rfl _ _ _) rfl ?_
        exact ⟨⟨_, rfl⟩, .inr ⟨_, List.take_prefix _ _, hJx3⟩⟩
    · obtain rfl : k = nl s.data.toList := by omega
      rw [finRange_takeAll] at hJs
      have hd : decide (nl s.data.toList < nl s.data.toList) = false := decide_eq_false (by omega)
      rw [hd]
      gi_wp2
      go_end0
      exact ⟨⟨_, rfl⟩, .inl ⟨_, rfl, hJs⟩⟩
theorem each_any (s : ByteArray) (w : World) : Calls Tryz.prog 47 #[.string s] w fun e w' => e = .returned (.func (.func 73) #[] #[.pointer (some ⟨w.heap.size, 0, none⟩)]) ∧ w' = w.alloc (.cells #[.string s] 9) := by
  go_enter Tryz.func47, Tryz.ntmps47
  go_wp2
  go_ret
  exact ⟨rfl, rfl⟩
end Go.Proofs.YtlpcallgkciklaaGreatDoor

/-
  Lines in memory; the contract of lex.Lines.
-/
namespace Go.Proofs.YtlpcallgkciklaaGreatDoor
open Go.RowKit Go.Shelf
attribute [local go_sem] Oper.semAt_some

/-- A line: its number, the block and the room of its words' row, the words. -/
structure Ln where
  num : Nat
  b : Nat
  cap : Nat
  ws : List (List UInt8)
/-- The block b holds these words from its beginning on. -/
def WR (w : World) (b : Nat) (ws : List (List UInt8)) : Prop := ∃ cur : Array Value, RowC w b cur 9 ∧ ∀ (j : Nat) (x : List UInt8), ws[j]? = some x → cur[j]? = some (Value.string ⟨x.toArray⟩)
section
variable {w w' : World} {b : Nat} {ws : List (List UInt8)}
theorem WR.below {N : Nat} (h : WR w b ws) (hb : Below N w w') (hN : b < N) : WR w' b ws := by
  obtain ⟨cur, h1, h2⟩ := h
  exact ⟨cur, h1.below hb hN, h2⟩
theorem WR.of_block (h : WR w b ws) (hb : w'.heap[b]? = w.heap[b]?) : WR w' b ws := by
  obtain ⟨cur, h1, h2⟩ := h
  exact ⟨cur, hb.trans h1, h2⟩
theorem WR.lt (h : WR w b ws) : b < w.heap.size := by
  obtain ⟨cur, h1, h2⟩ := h
  exact h1.lt
theorem WR.cell (h : WR w b ws) {j : Nat} {x : List UInt8} (hx : ws[j]? = some x) : w.cell? ⟨b, j, none⟩ = some (.string ⟨x.toArray⟩) := by
  obtain ⟨cur, h1, h2⟩ := h
  exact h1.cell j _ (h2 j x hx)
theorem WR.of_own {A B n : Nat} (h : w.ownsRow B 9 1 (.slice (some ⟨A, 0, none⟩) n n) ws.length (ws.map fun x => Value.string ⟨x.toArray⟩)) : WR w A ws := by
  obtain ⟨h1, h2⟩ := h
  rcases h2 with ⟨hv, h0⟩ | ⟨gg, cap, cur, hv, hg, hh, h3, h4, h5, h6⟩
  · injection hv with e1
    cases e1
  · injection hv with e1 e2 e3
    injection e1 with e1
    injection e1 with e1
    subst e1
    refine ⟨cur, hh, fun j x hx => ?_⟩
    have hj : j < ws.length := (List.getElem?_eq_some_iff.1 hx).1
    have := congrArg (·[j]?) h6
    simp only [Nat.mul_one] at this
    rw [List.getElem?_take_of_lt hj, List.getElem?_map, hx] at this
    rw [← Array.getElem?_toList]
    exact this
end
/-- The cells of these lines. -/
def lcell (ls : List Ln) (i : Nat) : Value := match ls[i / 2]? with
  | none => undef
  | some x => if i % 2 = 0 then .int .i64 (x.num : Nat) else .slice (some ⟨x.b, 0, none⟩) x.ws.length x.cap
def LR (w : World) (ls : List Ln) : Prop := ∀ x ∈ ls, x.ws ≠ [] ∧ x.ws.length ≤ x.cap ∧ WR w x.b x.ws
def Ln.tell (x : Ln) : Nat × List (List UInt8) := (x.num, x.ws)
theorem LR.of {w w' : World} {ls : List Ln} (h : LR w ls) (hb : ∀ b, b < w.heap.size → (∃ cur T, w.heap[b]? = some (.cells cur T) ∧ T = 9) → w'.heap[b]? = w.heap[b]?) : LR w' ls := fun x hx => by
  obtain ⟨h1, h3, h2⟩ := h x hx
  refine ⟨h1, h3, h2.of_block (hb _ h2.lt ?_)⟩
  obtain ⟨cur, hc, _⟩ := h2
  exact ⟨cur, _, hc, rfl⟩
theorem LR.below {w w' : World} {ls : List Ln} (h : LR w ls) (hb : Below w.heap.size w w') : LR w' ls := h.of fun b hlt _ => hb.block b hlt
theorem lcell_snoc (ls : List Ln) (x : Ln) (i : Nat) (hi : i < (ls.length + 1) * 2) : catC (ls.length * 2) (lcell ls) (fun i => if i = 0 then .int .i64 (x.num : Nat) else .slice (some ⟨x.b, 0, none⟩) x.ws.length x.cap) i = lcell (ls ++ [x]) i := by
  unfold catC lcell
  by_cases h : i < ls.length * 2
  · rw [if_pos h, List.getElem?_append_left (by omega)]
  · rw [if_neg h]
    have e1 : i / 2 = ls.length := by omega
    rw [e1, List.getElem?_append_right (Nat.le_refl _), Nat.sub_self]
    show _ = if i % 2 = 0 then _ else _
    by_cases h0 : i % 2 = 0
    · rw [if_pos h0]
      exact if_pos (by omega)
    · rw [if_neg h0]
      exact if_neg (by omega)
theorem lcells_snoc (ls : List Ln) (x : Ln) : (List.range (ls.length * 2)).map (lcell ls) ++ [.int .i64 (x.num : Nat), .slice (some ⟨x.b, 0, none⟩) x.ws.length x.cap] = (List.range ((ls ++ [x]).length * 2)).map (lcell (ls ++ [x])) := by
  rw [show (ls ++ [x]).length * 2 = ls.length * 2 + 1 + 1 by simp; omega, List.range_succ, List.range_succ]
  simp only [List.map_append, List.map_cons, List.map_nil, List.append_assoc, List.cons_append, List.nil_append]
  have e0 := lcell_snoc ls x (ls.length * 2) (by omega)
  have e1 := lcell_snoc ls x (ls.length * 2 + 1) (by omega)
  rw [← e0, ← e1]
  congr 1
  · exact List.map_congr_left fun i hi => by
      have hi' := List.mem_range.1 hi
      rw [← lcell_snoc ls x i (by omega)]
      unfold catC
      rw [if_pos hi']
  · have two : ∀ {a b c d : Value}, a = c → b = d → [a, b] = [c, d] := fun h k => by rw [h, k]
    refine two ?_ ?_
    · unfold catC
      rw [if_neg (by omega)]
      exact (if_pos (by omega)).symm
    · unfold catC
      rw [if_neg (by omega)]
      exact (if_neg (by omega)).symm
/-- An own row is never a row of another type. -/
theorem OwnC.not_row {w : World} {base z n c b : Nat} {E T : TypeId} {A : Option Addr} {F : Nat → Value} {cur : Array Value} (h : OwnC w base E z A n c F) (hb : w.heap[b]? = some (.cells cur T)) (hne : T ≠ E) : some b ≠ (Value.slice A n c).ownBlock := by
  obtain ⟨_, h2⟩ := h
  rcases h2 with ⟨hv, _⟩ | ⟨gg, cap, cur', hv, _, hh, _⟩
  · injection hv with e1; subst e1; simp [Value.ownBlock]
  · injection hv with e1; subst e1
    intro e
    have e' : b = gg := by simpa [Value.ownBlock] using e
    subst e'
    rw [hb] at hh
    injection hh with hh
    injection hh with _ h3
    exact hne h3
theorem results_cells3 {P : Program} {fn : Func} {p q r : Tmp} {t1 t2 t3 : TypeId} (h : fn.results = #[.cell p t1, .cell q t2, .cell r t3]) (tmps : Array Value) (w : World) (a1 a2 a3 : Addr) (v1 v2 v3 : Value)
    (hp : tmps.getD p undef = .pointer (some a1)) (hq : tmps.getD q undef = .pointer (some a2)) (hr : tmps.getD r undef = .pointer (some a3))
    (i1 : (isAgg t1).run P w = .ok false w) (i2 : (isAgg t2).run P w = .ok false w) (i3 : (isAgg t3).run P w = .ok false w)
    (c1 : w.cell? a1 = some v1) (c2 : w.cell? a2 = some v2) (c3 : w.cell? a3 = some v3) :
    (results fn tmps).run P w = .ok (.tuple #[v1, v2, v3]) w := by
  have hp' : tmps[p]?.getD undef = .pointer (some a1) := by simpa using hp
  have hq' : tmps[q]?.getD undef = .pointer (some a2) := by simpa using hq
  have hr' : tmps[r]?.getD undef = .pointer (some a3) := by simpa using hr
  simp [results, h, hp', hq', hr', asAddr, loadVar, i1, i2, i3, run_load, c1, c2, c3, Result.andThen]
end Go.Proofs.YtlpcallgkciklaaGreatDoor

/-
  The contract of lex.Lines.
-/
namespace Go.Proofs.YtlpcallgkciklaaGreatDoor
open Go.RowKit Go.Shelf
attribute [local go_sem] Oper.semAt_some

theorem rowC_kept {W W' : World} {row : Option Nat} {b : Nat} {D : Array Value} {T : TypeId} (h : RowC W b D T) (hg : W.grownBy W' row) (hrow : ∀ r, row = some r → ∃ o : Obj, W.heap[r]? = some o ∧ o.isCells = false) : RowC W' b D T :=
  (grownBy_keeps_cells hg hrow h rfl).trans h
theorem ownC_kept {W W' : World} {row : Option Nat} {base z n c : Nat} {E : TypeId} {A : Option Addr} {F : Nat → Value} (h : OwnC W base E z A n c F) (hg : W.grownBy W' row) (hrow : ∀ r, row = some r → ∃ o : Obj, W.heap[r]? = some o ∧ o.isCells = false) : OwnC W' base E z A n c F := by
  obtain ⟨h1, h2⟩ := h
  refine ⟨h1, ?_⟩
  rcases h2 with h2 | ⟨gg, cap, cur, hv, hgb, hh, r⟩
  · exact .inl h2
  · exact .inr ⟨gg, cap, cur, hv, hgb, (grownBy_keeps_cells hg hrow hh rfl).trans hh, r⟩
theorem LR.kept {W W' : World} {row : Option Nat} {ls : List Ln} (h : LR W ls) (hg : W.grownBy W' row) (hrow : ∀ r, row = some r → ∃ o : Obj, W.heap[r]? = some o ∧ o.isCells = false) : LR W' ls :=
  h.of fun _ _ ⟨_, _, hc, _⟩ => grownBy_keeps_cells hg hrow hc rfl
theorem others_below {W W' : World} (h : Below W.heap.size W W') : KeepsOthers W W' := ⟨h.size, fun k _ ho _ => (h.block k (Array.getElem?_eq_some_iff.1 ho).1).trans ho⟩
theorem h_last (W : World) (o : Obj) (k : Nat) (hk : k = W.heap.size) : (W.alloc o).heap[k]? = some o := by subst hk; exact heap_alloc_last W o
theorem h_old (W : World) (o v : Obj) (k : Nat) (h : W.heap[k]? = some v) : (W.alloc o).heap[k]? = some v := by
  rw [Below.heap_alloc _ _ _ (Array.getElem?_eq_some_iff.1 h).1]
  exact h

theorem OwnC.own_cells {W : World} {base z k c : Nat} {E : TypeId} {A : Option Addr} {F : Nat → Value} (h : OwnC W base E z A k c F) (j : Nat) (o : Obj) (hj : (Value.slice A k c).ownBlock = some j) (ho : W.heap[j]? = some o) : o.isCells = true := by
  obtain ⟨_, h2⟩ := h
  rcases h2 with ⟨hv, _⟩ | ⟨gg, cap, cur, hv, _, hh, _⟩
  · injection hv with e1; subst e1; simp [Value.ownBlock] at hj
  · injection hv with e1; subst e1
    have e' : gg = j := by simpa [Value.ownBlock] using hj
    subst e'
    rw [hh] at ho
    injection ho with ho
    rw [← ho]; rfl
/-- A store into a row of another type leaves an own row as it was. -/
theorem ownC_setRow {W : World} {base z n c b : Nat} {E T : TypeId} {A : Option Addr} {F : Nat → Value} {D : Array Value} (h : OwnC W base E z A n c F) (hb : RowC W b D T) (hne : T ≠ E) (i : Nat) (v : Value) : OwnC (W.setCell ⟨b, i, none⟩ v) base E z A n c F := by
  obtain ⟨h1, h2⟩ := h
  refine ⟨h1, ?_⟩
  rcases h2 with h2 | ⟨gg, cap, cur, hv, hgb, hh, r⟩
  · exact .inl h2
  · refine .inr ⟨gg, cap, cur, hv, hgb, (Below.heap_setCell _ _ _ _ ?_).trans hh, r⟩
    intro e
    subst e
    rw [show W.heap[gg]? = _ from hb] at hh
    injection hh with hh
    injection hh with _ h3
    exact hne h3

theorem pre_last {n : Nat} {pre : List (Fin n)} {x : Fin n} (h : pre ++ [x] <+: List.finRange n) (i : Fin n) (hi : i.1 < x.1) : i ∈ pre := by
  obtain ⟨t, ht⟩ := h
  have h1 : (List.finRange n)[pre.length]? = some x := by
    rw [← ht, List.append_assoc, List.getElem?_append_right (Nat.le_refl _), Nat.sub_self]
    rfl
  have h2 : x.1 = pre.length := by
    obtain ⟨hl, he⟩ := List.getElem?_eq_some_iff.1 h1
    rw [← he]
    simp
  have h3 : (List.finRange n)[i.1]? = some i := by
    rw [List.getElem?_eq_getElem (by simp)]
    simp
  rw [← ht, List.append_assoc, List.getElem?_append_left (by omega)] at h3
  exact List.mem_of_getElem? h3

def LinesP (w : World) (L : List UInt8) (e : Ending) (w' : World) : Prop :=
  (((linesF L).2 = 0 ∧ ∃ A c ls, e = .returned (.tuple #[.slice A ls.length c, .int .i64 0, .int .i64 0]) ∧ ls.map Ln.tell = (linesF L).1 ∧ OwnC w' w.heap.size 97 2 A ls.length c (lcell ls) ∧ LR w' ls) ∨
    ((linesF L).2 ≠ 0 ∧ e = .returned (.tuple #[.slice none 0 0, .int .i64 ((linesF L).2 : Nat), .int .i64 13]))) ∧ Below w.heap.size w w'

set_option maxRecDepth 100000 in
set_option maxHeartbeats 1000000 in
theorem lines_long (s : ByteArray) (hs : 65536 < s.size) (w : World) : Calls Tryz.prog 29 #[.string s] w fun e w' => e = .returned (.tuple #[.slice none 0 0, .int .i64 0, .int .i64 3]) ∧ Below w.heap.size w w' := by
  have i1 : (65536 : Int) < (s.size : Int) := by omega
  go_enter Tryz.func29, Tryz.ntmps29
  go_wp2
  have r0 : RowC (((w.alloc (.cells #[.slice none 0 0] 72)).alloc (.cells #[.int .i64 0] 3)).alloc (.cells #[.int .i64 3] 37)) w.heap.size #[.slice none 0 0] 72 := h_old _ _ _ _ (h_old _ _ _ _ (h_last _ _ _ rfl))
  have r1 : RowC (((w.alloc (.cells #[.slice none 0 0] 72)).alloc (.cells #[.int .i64 0] 3)).alloc (.cells #[.int .i64 3] 37)) (w.heap.size + 1) #[.int .i64 0] 3 := h_old _ _ _ _ (h_last _ _ _ (by simp))
  have r2 : RowC (((w.alloc (.cells #[.slice none 0 0] 72)).alloc (.cells #[.int .i64 0] 3)).alloc (.cells #[.int .i64 3] 37)) (w.heap.size + 1 + 1) #[.int .i64 3] 37 := h_last _ _ _ (by simp)
  refine bodyPost_ret (results_cells3 Tryz.results29 _ _ ⟨w.heap.size, 0, none⟩ ⟨w.heap.size + 1, 0, none⟩ ⟨w.heap.size + 1 + 1, 0, none⟩ (.slice none 0 0) (.int .i64 0) (.int .i64 3) rfl rfl rfl (Tryz.isAgg72 _) (Tryz.isAgg3 _) (Tryz.isAgg37 _) ?_ ?_ ?_) rfl ⟨rfl, ?_⟩
  · exact r0.cell 0 _ rfl
  · exact r1.cell 0 _ rfl
  · exact r2.cell 0 _ rfl
  · exact (((Below.refl _ w).alloc (Nat.le_refl _) _).alloc (by simp) _).alloc (by simp; omega) _

theorem infoLn : (Tryz.prog.info? 97).map (fun i => (i.zero, i.size, i.bytes)) = some (some (.agg #[.int .i64 0, .slice none 0 0]), 2, 32) := by kernel_rfl
theorem each_stops (s : ByteArray) (hs : s.size ≤ 4294967296) (N : Nat) (hn : 1 ≤ N) (Bx : Nat) (w : World) (hBx : Bx < w.heap.size) (h1 : w.cell? ⟨Bx, 0, none⟩ = some (.string s)) :
    SeqStopsK Fence.wide N Tryz.prog 73 #[.pointer (some ⟨Bx, 0, none⟩)]
      (fun x : Fin (nl s.data.toList) => #[Value.int .i64 ((x.1 : Int) + 1), Value.string ⟨(lnAt s.data.toList x).toArray⟩]) (fun _ _ => True) (fun ys => ys = List.finRange (nl s.data.toList)) (fun pre => pre <+: List.finRange (nl s.data.toList)) (nl s.data.toList) w := fun l J Jx W hW hJ _ hY h0 =>
  each1_in N hn s hs l Bx J Jx W hJ hY ((hW.cell (p := ⟨Bx, 0, none⟩) hBx).trans h1) h0

/-- The variables of a call of Lines, and the lines so far. -/
def LnI (w : World) (L : List UInt8) (pre : List (Fin (nl L))) (W : World) : Prop :=
  ∃ A c ls, (RowC W w.heap.size #[.slice none 0 0] 72 ∧ RowC W (w.heap.size + 1) #[.int .i64 0] 3 ∧ RowC W (w.heap.size + 1 + 1) #[.int .i64 0] 37 ∧ RowC W (w.heap.size + 1 + 1 + 1) #[.slice A ls.length c] 72) ∧
    OwnC W w.heap.size 97 2 A ls.length c (lcell ls) ∧ LR W ls ∧ ls.map Ln.tell = accL L pre ∧ ∀ i ∈ pre, (nb (lnAt L i)).all okS = true
/-- .. and behind the first line that is wrong. -/
def LnX (w : World) (L : List UInt8) (pre : List (Fin (nl L))) (W : World) : Prop :=
  ∃ pre' x, pre = pre' ++ [x] ∧ (RowC W w.heap.size #[.slice none 0 0] 72 ∧ RowC W (w.heap.size + 1) #[.int .i64 ((x.1 + 1 : Nat) : Int)] 3 ∧ RowC W (w.heap.size + 1 + 1) #[.int .i64 13] 37) ∧
    (∀ i ∈ pre', (nb (lnAt L i)).all okS = true) ∧ (nb (lnAt L x)).all okS = false

set_option maxRecDepth 100000 in
set_option maxHeartbeats 8000000 in
theorem lines_any (s : ByteArray) (hs : s.size ≤ 65536) (w : World) : Calls Tryz.prog 29 #[.string s] w (LinesP w s.data.toList) := by
  have i1 : ¬ (65536 : Int) < (s.size : Int) := by omega
  have HS := Lib.hid hs
  refine (callsIn_wide (n := 8)).1 ?_
  have hro : (Fence.wide).round = none := rfl
  refine callsIn_of_wp_marks Tryz.func29 rfl trivial ?_ hro
  simp only [Tryz.ntmps29, List.size_toArray, List.length_cons, List.length_nil, Nat.reduceAdd, Nat.reduceSub, Array.replicate_succ, Array.replicate_zero, List.push_toArray, List.append_toArray, List.nil_append, List.cons_append]
  gi_wp2_with (refine ⟨trivial, ?_⟩; gi_at_call 47; refine (callsIn_wide.2 (each_any _ _)).mono ?_; rintro e w2 ⟨rfl, rfl⟩)
  have k0 : RowC (((((w.alloc (.cells #[.slice none 0 0] 72)).alloc (.cells #[.int .i64 0] 3)).alloc (.cells #[.int .i64 0] 37)).alloc (.cells #[.slice none 0 0] 72)).alloc (.cells #[.string s] 9)) w.heap.size #[.slice none 0 0] 72 := h_old _ _ _ _ (h_old _ _ _ _ (h_old _ _ _ _ (h_old _ _ _ _ (h_last _ _ _ rfl))))
  have k1 : RowC (((((w.alloc (.cells #[.slice none 0 0] 72)).alloc (.cells #[.int .i64 0] 3)).alloc (.cells #[.int .i64 0] 37)).alloc (.cells #[.slice none 0 0] 72)).alloc (.cells #[.string s] 9)) (w.heap.size + 1) #[.int .i64 0] 3 := h_old _ _ _ _ (h_old _ _ _ _ (h_old _ _ _ _ (h_last _ _ _ (by simp))))
  have k2 : RowC (((((w.alloc (.cells #[.slice none 0 0] 72)).alloc (.cells #[.int .i64 0] 3)).alloc (.cells #[.int .i64 0] 37)).alloc (.cells #[.slice none 0 0] 72)).alloc (.cells #[.string s] 9)) (w.heap.size + 1 + 1) #[.int .i64 0] 37 := h_old _ _ _ _ (h_old _ _ _ _ (h_last _ _ _ (by simp)))
  have k3 : RowC (((((w.alloc (.cells #[.slice none 0 0] 72)).alloc (.cells #[.int .i64 0] 3)).alloc (.cells #[.int .i64 0] 37)).alloc (.cells #[.slice none 0 0] 72)).alloc (.cells #[.string s] 9)) (w.heap.size + 1 + 1 + 1) #[.slice none 0 0] 72 := h_old _ _ _ _ (h_last _ _ _ (by simp))
  have k4 : RowC (((((w.alloc (.cells #[.slice none 0 0] 72)).alloc (.cells #[.int .i64 0] 3)).alloc (.cells #[.int .i64 0] 37)).alloc (.cells #[.slice none 0 0] 72)).alloc (.cells #[.string s] 9)) (w.heap.size + 1 + 1 + 1 + 1) #[.string s] 9 := h_last _ _ _ (by simp)
  have hsz : (((((w.alloc (.cells #[.slice none 0 0] 72)).alloc (.cells #[.int .i64 0] 3)).alloc (.cells #[.int .i64 0] 37)).alloc (.cells #[.slice none 0 0] 72)).alloc (.cells #[.string s] 9)).heap.size = w.heap.size + 5 := by simp
  have hbw : Below w.heap.size w (((((w.alloc (.cells #[.slice none 0 0] 72)).alloc (.cells #[.int .i64 0] 3)).alloc (.cells #[.int .i64 0] 37)).alloc (.cells #[.slice none 0 0] 72)).alloc (.cells #[.string s] 9)) := (((((Below.refl _ w).alloc (Nat.le_refl _) _).alloc (by simp) _).alloc (by simp; omega) _).alloc (by simp; omega) _).alloc (by simp; omega) _
  generalize (((((w.alloc (.cells #[.slice none 0 0] 72)).alloc (.cells #[.int .i64 0] 3)).alloc (.cells #[.int .i64 0] 37)).alloc (.cells #[.slice none 0 0] 72)).alloc (.cells #[.string s] 9)) = V0 at *
  refine wpIn_rangeFunc_ownG hro (by decide) (gf := 73) (lb := #[.pointer (some ⟨w.heap.size + 1 + 1 + 1 + 1, 0, none⟩)]) rfl trivial (enters_of Tryz.func73 (by kernel_rfl) rfl)
    (each_stops s (by omega) (8 - 1) (by decide) (w.heap.size + 1 + 1 + 1 + 1) V0 (by omega) (k4.cell 0 _ rfl)) (fun _ _ => trivial) (fun _ _ _ _ _ _ _ _ => trivial) (Below.refl _ _) (fun _ => rfl)
    (fun pre W => LnI w s.data.toList pre W ∧ Below w.heap.size w W) (fun c pre W => (c = .ret ∧ LnX w s.data.toList pre W) ∧ Below w.heap.size w W)
    (OwnFrom.and (Own.from (fun pre A B row hs hg hr => by
      obtain ⟨A', c, ls, ⟨h0, h1, h2, h3⟩, h4, h5, h6, h7⟩ := hs
      exact ⟨A', c, ls, ⟨rowC_kept h0 hg hr, rowC_kept h1 hg hr, rowC_kept h2 hg hr, rowC_kept h3 hg hr⟩, ownC_kept h4 hg hr, h5.kept hg hr, h6, h7⟩) _) (ownFrom_below (Nat.le_refl _) (by omega)))
    (fun cc => OwnFrom.and (Own.from (fun pre A B row hs hg hr => by
      obtain ⟨hcc, pre', x, h, ⟨h0, h1, h2⟩, h3, h4⟩ := hs
      exact ⟨hcc, pre', x, h, ⟨rowC_kept h0 hg hr, rowC_kept h1 hg hr, rowC_kept h2 hg hr⟩, h3, h4⟩) _) (ownFrom_below (Nat.le_refl _) (by omega)))
    ⟨⟨none, 0, [], ⟨k0, k1, k2, k3⟩, OwnC.nil_, fun x hx => (by cases hx), rfl, fun i hi => (by cases hi)⟩, hbw⟩
    (fun x => { tmps := #[.string s, undef, .pointer (some ⟨w.heap.size, 0, none⟩), .pointer (some ⟨w.heap.size + 1, 0, none⟩), .pointer (some ⟨w.heap.size + 1 + 1, 0, none⟩), .pointer (some ⟨w.heap.size + 1 + 1 + 1, 0, none⟩), .int .i64 ((x.1 : Int) + 1), .string ⟨(lnAt s.data.toList x).toArray⟩, undef, undef, .string s, .int .i64 s.size, .bool false, .string s, .func (.func 73) #[] #[.pointer (some ⟨w.heap.size + 1 + 1 + 1 + 1, 0, none⟩)], .int .i64 ((x.1 : Int) + 1), .string ⟨(lnAt s.data.toList x).toArray⟩, undef, undef, undef, undef, undef, undef, undef, undef, undef, undef, undef, undef, undef, undef, undef, undef, undef, undef], defers := [] }) ?assign ?body ?done ?stop
  case assign =>
    intro l x W K hK
    gi_wp2
    exact hK
  case body =>
    rintro l pre x W ⟨⟨A, c, ls, ⟨h0, h1, h2, h3⟩, h4, h5, h6, h7⟩, hB⟩ hlen
    have hls : ls.length ≤ pre.length := by
      have e := congrArg List.length h6
      have := accL_length s.data.toList pre
      rw [List.length_map] at e
      omega
    have hnl : nl s.data.toList ≤ s.data.toList.length + 1 := (lns_length s.data.toList).2
    have hsl : s.data.toList.length = s.size := Array.length_toList
    have hll := lns_mem s.data.toList (lnAt s.data.toList x) (List.getElem_mem _)
    have hsplit := fun Z => split_any ⟨(lnAt s.data.toList x).toArray⟩ (by show (lnAt s.data.toList x).toArray.size ≤ _; rw [List.size_toArray]; omega) Z
    have hdata : (⟨(lnAt s.data.toList x).toArray⟩ : ByteArray).data.toList = lnAt s.data.toList x := rfl
    rw [hdata] at hsplit
    have hwn := wds (nb (lnAt s.data.toList x))
    have H7 := Lib.hid h7
    have H6 := Lib.hid h6
    have H5 := Lib.hid h5
    have HB := Lib.hid hB
    have HX : Hid (∀ (ws : List (List UInt8)), wds (nb (lnAt s.data.toList x)) = ws → accL s.data.toList (pre ++ [x]) = if ws = [] then accL s.data.toList pre else accL s.data.toList pre ++ [(x.1 + 1, ws)]) := Lib.hid fun ws hws => by rw [accL_snoc, hws]
    have f0 := h0.cell 0 _ rfl
    have g0 := h0.frozen 0
    cases hok : (nb (lnAt s.data.toList x)).all okS
    · -- the first line that is wrong
      have HOK := Lib.hid hok
      have hsp : ∀ Z, Calls Tryz.prog 48 #[.string ⟨(lnAt s.data.toList x).toArray⟩] Z fun e w' => e = .returned (.tuple #[.slice none 0 0, .bool false]) ∧ Below Z.heap.size Z w' := fun Z => (hsplit Z).mono fun e w' hh => by
        obtain ⟨hc, hb⟩ := hh
        rcases hc with ⟨hc, _⟩ | ⟨_, hc⟩
        · rw [hok] at hc; cases hc
        · exact ⟨hc, hb⟩
      clear hsplit hok h7 h6 h5 hB
      have HH := Lib.hid (And.intro h0 (And.intro h1 h2))
      gi_wp2_with (refine ⟨trivial, ?_⟩; gi_at_call 48; refine (CallsIn.inRound l (callsIn_wide.2 (hsp W))).mono ?_; rintro e w4 ⟨rfl, hB4⟩; have q0 := (h0.below hB4 h0.lt).cell 0 _ rfl; have q1 := (h1.below hB4 h1.lt).cell 0 _ rfl; have q2 := (h2.below hB4 h2.lt).cell 0 _ rfl; have y0 := (h0.below hB4 h0.lt).frozen 0; have y1 := (h1.below hB4 h1.lt).frozen 0; have y2 := (h2.below hB4 h2.lt).frozen 0)
      have hb4 := HB.out
      obtain ⟨h0, h1, h2⟩ := HH.out
      have hk : w.heap.size ≤ W.heap.size := hb4.size
      have t0 := ((h0.below hB4 h0.lt).set 0 (.slice none 0 0)).setOther (g := w.heap.size + 1) 0 (.int .i64 ((x.1 : Int) + 1)) (by omega)
      have t1 := ((h1.below hB4 h1.lt).setOther (g := w.heap.size) 0 (.slice none 0 0) (by omega)).set 0 (.int .i64 ((x.1 : Int) + 1))
      have t2 := ((h2.below hB4 h2.lt).setOther (g := w.heap.size) 0 (.slice none 0 0) (by omega)).setOther (g := w.heap.size + 1) 0 (.int .i64 ((x.1 : Int) + 1)) (by omega)
      have s0 := t0.setOther (g := w.heap.size + 1 + 1) 0 (.int .i64 13) (by omega)
      have s1 := t1.setOther (g := w.heap.size + 1 + 1) 0 (.int .i64 13) (by omega)
      have s2 := t2.set 0 (.int .i64 13)
      refine ⟨((((others_below hB4).trans (KeepsOthers.setCell _ _ _)).trans (KeepsOthers.setCell _ _ _)).trans (KeepsOthers.setCell _ _ _)).from _, ⟨rfl, pre, x, rfl, ⟨s0, ?_, s2⟩, H7.out, HOK.out⟩,
        (((hb4.trans (hB4.mono hk)).setCell (p := ⟨w.heap.size, 0, none⟩) (Nat.le_refl _) _).setCell (p := ⟨w.heap.size + 1, 0, none⟩) (Nat.le_succ _) _).setCell (p := ⟨w.heap.size + 1 + 1, 0, none⟩) (by show w.heap.size ≤ w.heap.size + 1 + 1; omega) _⟩
      have e1 : ((x.1 + 1 : Nat) : Int) = (x.1 : Int) + 1 := by omega
      rw [e1]
      exact s1
    · cases hws : wds (nb (lnAt s.data.toList x)) with
      | nil =>
        have hsp : ∀ Z, Calls Tryz.prog 48 #[.string ⟨(lnAt s.data.toList x).toArray⟩] Z fun e w' => ∃ B, e = .returned (.tuple #[.slice (some ⟨B, 0, none⟩) 0 0, .bool true]) ∧ Below Z.heap.size Z w' := fun Z => (hsplit Z).mono fun e w' hh => by
          obtain ⟨hc, hb⟩ := hh
          rcases hc with ⟨_, B, hc, _⟩ | ⟨hc, _⟩
          · rw [hws] at hc
            exact ⟨B, hc, hb⟩
          · rw [hok] at hc; cases hc
        have HOK := Lib.hid hok
        have HWS := Lib.hid (HX.out _ hws)
        have HH := Lib.hid (And.intro h0 (And.intro h1 (And.intro h2 (And.intro h3 h4))))
        clear hsplit hok hws h7 h6 h5 hB
        gi_wp2_with (refine ⟨trivial, ?_⟩; gi_at_call 48; refine (CallsIn.inRound l (callsIn_wide.2 (hsp W))).mono ?_; rintro e w4 ⟨B4, rfl, hB4⟩)
        have hb4 := HB.out
        refine ⟨(others_below hB4).from _, trivial, ⟨A, c, ls, ⟨h0.below hB4 h0.lt, h1.below hB4 h1.lt, h2.below hB4 h2.lt, h3.below hB4 h3.lt⟩, h4.below hB4 (Nat.le_refl _), H5.out.below hB4, ?_, ?_⟩, hb4.trans (hB4.mono hb4.size)⟩
        · rw [H6.out, HWS.out]; exact (if_pos trivial).symm
        · intro i hi
          rcases List.mem_append.1 hi with hi | hi
          · exact H7.out i hi
          · rw [List.mem_singleton] at hi
            subst hi
            exact HOK.out
      | cons w0 wr =>
        obtain ⟨ws, hwe⟩ : ∃ ws, w0 :: wr = ws := ⟨_, rfl⟩
        have hne : ws ≠ [] := by rw [← hwe]; exact List.cons_ne_nil _ _
        rw [hwe] at hws
        have hsp : ∀ Z, Calls Tryz.prog 48 #[.string ⟨(lnAt s.data.toList x).toArray⟩] Z fun e w' => ∃ B, e = .returned (.tuple #[.slice (some ⟨B, 0, none⟩) ws.length ws.length, .bool true]) ∧ WR w' B ws ∧ Z.heap.size ≤ B ∧ Below Z.heap.size Z w' := fun Z => (hsplit Z).mono fun e w' hh => by
          obtain ⟨hc, hb⟩ := hh
          rcases hc with ⟨_, B, hc, hB0, hown⟩ | ⟨hc, _⟩
          · rw [hws] at hc hown
            exact ⟨B, hc, WR.of_own hown, hB0, hb⟩
          · rw [hok] at hc; cases hc
        have HOK := Lib.hid hok
        have HWS := Lib.hid (HX.out _ hws)
        have HNE := Lib.hid hne
        have hlen0 : (0 : Int) < (ws.length : Int) := by
          have := List.length_pos_iff.2 hne
          omega
        obtain ⟨i0, hi0, hz0, hz1, hz2⟩ := info_parts infoLn
        have HB0 : Hid (w.heap.size ≤ W.heap.size) := Lib.hid hB.size
        clear hsplit hok hws h7 h6 h5 hB hwe hne HX
        gi_wp2_with (first
          | (refine ⟨trivial, ?_⟩; gi_at_call 48; refine (CallsIn.inRound l (callsIn_wide.2 (hsp W))).mono ?_; rintro e w4 ⟨B4, rfl, hWR, hBz, hB4⟩
             have q3 := (h3.below hB4 h3.lt).cell 0 _ rfl
             have own4 := h4.below hB4 (Nat.le_refl _))
          | (gi_at_builtin
             refine wpListIn_append_own _ rfl _ _ 72 rfl w.heap.size 97 i0 _ 2 32 Tryz.underlying72 hi0 hz0 hz1 hz2 rfl (by decide) _ _ _ rfl (World.ownsRow.alloc own4 _) ⟨w4.heap.size, 0, none⟩ 1 1 [.int .i64 ((x.1 : Int) + 1), .slice (some ⟨B4, 0, none⟩) ws.length ws.length] rfl rfl (cell_two_new' _ _ _ _) (by simp [Value.oneCell']) (by unfold maxLen; omega) (by omega) (by have := hB4.size; have := HB0.out; simp; omega) ?_
             intro v' w7 hown7 hgrow7 _
             obtain ⟨A7, c7, rfl⟩ := ownsRow_parts hown7
             have hnr := (OwnC.alloc own4 (.cells #[.int .i64 ((x.1 : Int) + 1), .slice (some ⟨B4, 0, none⟩) ws.length ws.length] 97)).not_row (h_old _ _ _ _ (h3.below hB4 h3.lt)) (by decide)
             have hlt4 : w.heap.size + 1 + 1 + 1 < (w4.alloc (.cells #[.int .i64 ((x.1 : Int) + 1), .slice (some ⟨B4, 0, none⟩) ws.length ws.length] 97)).heap.size := by have := (h3.below hB4 h3.lt).lt; simp; omega
             have r3 : RowC w7 (w.heap.size + 1 + 1 + 1) #[.slice A ls.length c] 72 := (hgrow7.block _ hlt4 hnr).trans (h_old _ _ _ _ (h3.below hB4 h3.lt))
             have q37 := r3.cell 0 _ rfl
             have y37 := r3.frozen 0))
        have hb4 := HB.out
        have hk : w.heap.size ≤ W.heap.size := hb4.size
        have hbl : Below w.heap.size w4 w7 := ((Below.refl _ w4).alloc (by have := hB4.size; omega) _).grown hgrow7 (by have := hB4.size; simp; omega) (fun k e => by have := (World.ownsRow.lt own4 k e).1; omega)
        have hne3 : ∀ b', (∃ cur T, w4.heap[b']? = some (Obj.cells cur T) ∧ T ≠ 97) → w7.heap[b']? = w4.heap[b']? := fun b' hh => by
          obtain ⟨cur, T, hc, hT⟩ := hh
          have hb' : b' < w4.heap.size := (Array.getElem?_eq_some_iff.1 hc).1
          exact (hgrow7.block b' (by simp; omega) ((OwnC.alloc own4 (.cells #[.int .i64 ((x.1 : Int) + 1), .slice (some ⟨B4, 0, none⟩) ws.length ws.length] 97)).not_row (h_old _ _ _ _ hc) hT)).trans (Below.heap_alloc _ _ _ hb')
        have z0 := (h0.below hB4 h0.lt)
        have z1 := (h1.below hB4 h1.lt)
        have z2 := (h2.below hB4 h2.lt)
        have r0 : RowC w7 _ _ _ := (hne3 _ ⟨_, _, z0, by decide⟩).trans z0
        have r1 : RowC w7 _ _ _ := (hne3 _ ⟨_, _, z1, by decide⟩).trans z1
        have r2 : RowC w7 _ _ _ := (hne3 _ ⟨_, _, z2, by decide⟩).trans z2
        have hlr : LR (w7.setCell ⟨w.heap.size + 1 + 1 + 1, 0, none⟩ (.slice A7 (ls.length + 1) c7)) (ls ++ [⟨x.1 + 1, B4, ws.length, ws⟩]) := by
          have h4r : LR w4 (ls ++ [⟨x.1 + 1, B4, ws.length, ws⟩]) := fun y hy => by
            rcases List.mem_append.1 hy with hy | hy
            · exact H5.out.below hB4 y hy
            · rw [List.mem_singleton] at hy
              subst hy
              exact ⟨HNE.out, Nat.le_refl _, hWR⟩
          have h7r : LR w7 (ls ++ [⟨x.1 + 1, B4, ws.length, ws⟩]) := h4r.of fun b' _ ⟨cur, T, hc, hT⟩ => hne3 b' ⟨cur, T, hc, by rw [hT]; decide⟩
          refine h7r.of fun b' _ ⟨cur, T, hc, hT⟩ => Below.heap_setCell _ _ _ _ ?_
          intro e
          have e' : b' = w.heap.size + 1 + 1 + 1 := e
          subst e'
          rw [show w7.heap[w.heap.size + 1 + 1 + 1]? = _ from r3] at hc
          injection hc with hc
          injection hc with _ hc
          rw [hT] at hc
          exact absurd hc (by decide)
        have hown8 : OwnC (w7.setCell ⟨w.heap.size + 1 + 1 + 1, 0, none⟩ (.slice A7 (ls.length + 1) c7)) w.heap.size 97 2 A7 (ls ++ [(⟨x.1 + 1, B4, ws.length, ws⟩ : Ln)]).length c7 (lcell (ls ++ [⟨x.1 + 1, B4, ws.length, ws⟩])) := by
          have h7o : OwnC w7 w.heap.size 97 2 A7 (ls ++ [(⟨x.1 + 1, B4, ws.length, ws⟩ : Ln)]).length c7 (lcell (ls ++ [⟨x.1 + 1, B4, ws.length, ws⟩])) := by
            unfold OwnC
            rw [← lcells_snoc]
            rw [List.length_append]
            exact hown7
          exact ownC_setRow h7o r3 (by decide) 0 _
        refine ⟨((((others_below hB4).trans (KeepsOthers.alloc _ _)).trans (KeepsOthers.of_grownBy hgrow7 fun j o hj ho => (OwnC.alloc own4 _).own_cells j o hj ho)).trans (KeepsOthers.setCell _ _ _)).from _, trivial, ⟨A7, c7, ls ++ [⟨x.1 + 1, B4, ws.length, ws⟩], ⟨r0.setOther _ _ (by omega), r1.setOther _ _ (by omega), r2.setOther _ _ (by omega), ?_⟩, hown8, hlr, ?_, ?_⟩, ((hb4.trans (hB4.mono hk)).trans hbl).setCell (p := ⟨w.heap.size + 1 + 1 + 1, 0, none⟩) (by show w.heap.size ≤ w.heap.size + 1 + 1 + 1; omega) _⟩
        · rw [List.length_append]
          exact r3.set 0 _
        · rw [HWS.out, if_neg HNE.out, List.map_append, H6.out]
          rfl
        · intro i hi
          rcases List.mem_append.1 hi with hi | hi
          · exact H7.out i hi
          · rw [List.mem_singleton] at hi
            subst hi
            exact HOK.out
  case done =>
    rintro D ys W hD rfl ⟨⟨A, c, ls, ⟨h0, h1, h2, h3⟩, h4, h5, h6, h7⟩, hB⟩ hK
    have hlin : linesF s.data.toList = (accL s.data.toList (List.finRange (nl s.data.toList)), 0) := lines_ok _ fun i => h7 i (List.mem_finRange i)
    have q0 := h0.cell 0 _ rfl
    have q1 := h1.cell 0 _ rfl
    have q2 := h2.cell 0 _ rfl
    have q3 := h3.cell 0 _ rfl
    have y0 := h0.frozen 0
    have y1 := h1.frozen 0
    have y2 := h2.frozen 0
    have HH := Lib.hid (And.intro h0 (And.intro h1 (And.intro h2 (And.intro h4 (And.intro h5 (And.intro h6 (And.intro hB hlin)))))))
    clear h0 h1 h2 h3 h4 h5 h6 h7 hB hlin
    gi_wp2
    obtain ⟨h0, h1, h2, h4, h5, h6, hB, hlin⟩ := HH.out
    have hK1 := ((((KeepsOthers.setCell W ⟨w.heap.size, 0, none⟩ (.slice A ls.length c)).trans (KeepsOthers.setCell _ ⟨w.heap.size + 1, 0, none⟩ (.int .i64 0))).trans (KeepsOthers.setCell _ ⟨w.heap.size + 1 + 1, 0, none⟩ (.int .i64 0)))).same D _ hK rfl
    have t0 := ((h0.set 0 (.slice A ls.length c)).setOther (g := w.heap.size + 1) 0 (.int .i64 0) (by omega)).setOther (g := w.heap.size + 1 + 1) 0 (.int .i64 0) (by omega)
    have t1 := ((h1.setOther (g := w.heap.size) 0 (.slice A ls.length c) (by omega)).set 0 (.int .i64 0)).setOther (g := w.heap.size + 1 + 1) 0 (.int .i64 0) (by omega)
    have t2 := ((h2.setOther (g := w.heap.size) 0 (.slice A ls.length c) (by omega)).setOther (g := w.heap.size + 1) 0 (.int .i64 0) (by omega)).set 0 (.int .i64 0)
    have o1 := ownC_setRow h4 h0 (by decide) 0 (.slice A ls.length c)
    have o2 := ownC_setRow o1 (h1.setOther (g := w.heap.size) 0 (.slice A ls.length c) (by omega)) (by decide) 0 (.int .i64 0)
    have o3 := ownC_setRow o2 ((h2.setOther (g := w.heap.size) 0 (.slice A ls.length c) (by omega)).setOther (g := w.heap.size + 1) 0 (.int .i64 0) (by omega)) (by decide) 0 (.int .i64 0)
    have o4 := ownC_kept o3 (grownBy_putObj' _ D (.deferred none)) (fun r e => by cases e; exact ⟨_, hK1, rfl⟩)
    have l1 : LR (((W.setCell ⟨w.heap.size, 0, none⟩ (.slice A ls.length c)).setCell ⟨w.heap.size + 1, 0, none⟩ (.int .i64 0)).setCell ⟨w.heap.size + 1 + 1, 0, none⟩ (.int .i64 0)) ls := h5.of fun b' _ hh => by
      obtain ⟨cur, T, hc, hT⟩ := hh
      have n0 : b' ≠ w.heap.size := fun e => by
        rw [e, show W.heap[w.heap.size]? = _ from h0] at hc
        injection hc with hc
        injection hc with _ hc
        rw [hT] at hc
        exact absurd hc (by decide)
      have n1 : b' ≠ w.heap.size + 1 := fun e => by
        rw [e, show W.heap[w.heap.size + 1]? = _ from h1] at hc
        injection hc with hc
        injection hc with _ hc
        rw [hT] at hc
        exact absurd hc (by decide)
      have n2 : b' ≠ w.heap.size + 1 + 1 := fun e => by
        rw [e, show W.heap[w.heap.size + 1 + 1]? = _ from h2] at hc
        injection hc with hc
        injection hc with _ hc
        rw [hT] at hc
        exact absurd hc (by decide)
      rw [Below.heap_setCell _ _ _ _ n2, Below.heap_setCell _ _ _ _ n1, Below.heap_setCell _ _ _ _ n0]
    have l2 := l1.kept (grownBy_putObj' _ D (.deferred none)) (fun r e => by cases e; exact ⟨_, hK1, rfl⟩)
    have k0 := rowC_kept t0 (grownBy_putObj' _ D (.deferred none)) (fun r e => by cases e; exact ⟨_, hK1, rfl⟩)
    have k1 := rowC_kept t1 (grownBy_putObj' _ D (.deferred none)) (fun r e => by cases e; exact ⟨_, hK1, rfl⟩)
    have k2 := rowC_kept t2 (grownBy_putObj' _ D (.deferred none)) (fun r e => by cases e; exact ⟨_, hK1, rfl⟩)
    refine ⟨by simp, .inl ⟨_, _, rfl, run_takeDeferred hK1, ?_⟩⟩
    refine ⟨_, results_cells3 Tryz.results29 _ _ ⟨w.heap.size, 0, none⟩ ⟨w.heap.size + 1, 0, none⟩ ⟨w.heap.size + 1 + 1, 0, none⟩ (.slice A ls.length c) (.int .i64 0) (.int .i64 0) rfl rfl rfl (Tryz.isAgg72 _) (Tryz.isAgg3 _) (Tryz.isAgg37 _) (k0.cell 0 _ rfl) (k1.cell 0 _ rfl) (k2.cell 0 _ rfl), .inl ⟨?_, A, c, ls, rfl, ?_, o4, l2⟩, ((((hB.setCell (p := ⟨w.heap.size, 0, none⟩) (Nat.le_refl _) _).setCell (p := ⟨w.heap.size + 1, 0, none⟩) (Nat.le_succ _) _).setCell (p := ⟨w.heap.size + 1 + 1, 0, none⟩) (by show w.heap.size ≤ w.heap.size + 1 + 1; omega) _)).trans (belowK_b (w := w) (Nat.le_refl _) _ D _ _ (by omega) hK1 rfl rfl)⟩
    · rw [hlin]
    · rw [hlin]; exact h6
  case stop =>
    rintro D c pre W hD hpre ⟨⟨rfl, pre', x, rfl, ⟨h0, h1, h2⟩, h3, h4⟩, hB⟩ hK
    have hlin : linesF s.data.toList = ([], x.1 + 1) := lines_bad _ x (fun i hi => h3 i (pre_last hpre i hi)) h4
    gi_wp2
    refine ⟨by simp, .inl ⟨_, _, rfl, run_takeDeferred hK, ?_⟩⟩
    have k0 := rowC_kept h0 (grownBy_putObj' _ D (.deferred none)) (fun r e => by cases e; exact ⟨_, hK, rfl⟩)
    have k1 := rowC_kept h1 (grownBy_putObj' _ D (.deferred none)) (fun r e => by cases e; exact ⟨_, hK, rfl⟩)
    have k2 := rowC_kept h2 (grownBy_putObj' _ D (.deferred none)) (fun r e => by cases e; exact ⟨_, hK, rfl⟩)
    refine ⟨_, results_cells3 Tryz.results29 _ _ ⟨w.heap.size, 0, none⟩ ⟨w.heap.size + 1, 0, none⟩ ⟨w.heap.size + 1 + 1, 0, none⟩ (.slice none 0 0) (.int .i64 ((x.1 + 1 : Nat) : Int)) (.int .i64 13) rfl rfl rfl (Tryz.isAgg72 _) (Tryz.isAgg3 _) (Tryz.isAgg37 _) (k0.cell 0 _ rfl) (k1.cell 0 _ rfl) (k2.cell 0 _ rfl), .inr ⟨?_, ?_⟩, hB.trans (belowK_b (w := w) (Nat.le_refl _) W D _ _ (by omega) hK rfl rfl)⟩
    · rw [hlin]; exact Nat.succ_ne_zero _
    · rw [hlin]
end Go.Proofs.YtlpcallgkciklaaGreatDoor

/-
  The document's words of a line.
-/
namespace Go.Proofs.YtlpcallgkciklaaGreatDoor
open Go.RowKit

theorem infoS : (Tryz.prog.info? 9).map (fun i => (i.zero, i.size, i.bytes)) = some (some (.string ⟨#[]⟩), 1, 16) := by kernel_rfl
theorem one_str (w : World) (s : ByteArray) (E : TypeId) : Cel (w.alloc (.cells #[.string s] E)) (w.heap.size + 1) 1 (some ⟨w.heap.size, 0, none⟩) 1 1 (fun _ => .string s) :=
  Cel.mk_ (by omega) (by decide) (by decide) (fun i hi => by
    obtain rfl : i = 0 := by omega
    exact (RowC.new w #[.string s] E _ rfl).cell 0 _ rfl)
theorem ixStrT (S : ByteArray) (p : Nat) (b : UInt8) (h : S.data.toList[p]? = some b) (W : World) : (Instr.index 9 (.string S) (.int .i64 p)).run Tryz.prog W = .ok (.int .u8 b.toNat) W := by
  have hp : p < S.size := by
    have := (List.getElem?_eq_some_iff.1 h).1
    rw [Array.length_toList] at this
    exact this
  have hb : S[p]'hp = b := by
    obtain ⟨h1, h2⟩ := List.getElem?_eq_some_iff.1 h
    simpa [ByteArray.getElem_eq_getElem_data] using h2
  simp [Instr.index, run_underlying Tryz.underlying9, asIntOf, hp, hb, go_sem]
/-- Words as cells. -/
def strs (ws : List (List UInt8)) (i : Nat) : Value := .string ⟨(ws.getD i []).toArray⟩
theorem strs_snoc (ws : List (List UInt8)) (x : List UInt8) (i : Nat) (hi : i < (ws.length + 1) * 1) : catC (ws.length * 1) (strs ws) (fun _ => .string ⟨x.toArray⟩) i = strs (ws ++ [x]) i := by
  unfold catC strs
  rw [List.getD_eq_getElem?_getD, List.getD_eq_getElem?_getD]
  by_cases h : i < ws.length * 1
  · rw [if_pos h, List.getElem?_append_left (by omega)]
  · rw [if_neg h]
    obtain rfl : i = ws.length := by omega
    rw [List.getElem?_append_right (Nat.le_refl _), Nat.sub_self]
    rfl
theorem nb_cons (c : UInt8) (t : List UInt8) (h : c ≠ 35) : nb (c :: t) = c :: nb t := by
  unfold nb
  rw [List.takeWhile_cons, if_pos (by simpa using h)]
theorem nb_note (t : List UInt8) : nb (35 :: t) = [] := rfl
theorem wdF_length : ∀ (l w : List UInt8) (out : List (List UInt8)), (wdF l w out).length ≤ out.length + w.length + l.length
  | [], w, out => by
    show (psh out w).length ≤ _
    cases w with
    | nil => exact Nat.le_add_right _ _
    | cons c t => show (out ++ [c :: t]).length ≤ _; simp
  | c :: t, w, out => by
    show (if blk c = true then wdF t [] (psh out w) else wdF t (w ++ [c]) out).length ≤ _
    split
    · have h1 := wdF_length t [] (psh out w)
      have h2 : (psh out w).length ≤ out.length + w.length := by
        cases w with
        | nil => exact Nat.le_add_right _ _
        | cons c t => show (out ++ [c :: t]).length ≤ _; simp
      simp only [List.length_nil, List.length_cons] at h1 ⊢
      omega
    · have h1 := wdF_length t (w ++ [c]) out
      simp only [List.length_append, List.length_cons, List.length_nil] at h1 ⊢
      omega
/-- What the document's Words tells. -/
def WordsP (w : World) (l : List UInt8) (e : Ending) (w' : World) : Prop :=
  (((nb l).all okS = true ∧ ∃ A c, e = .returned (.tuple #[.slice A (wds (nb l)).length c, .bool true]) ∧ OwnC w' w.heap.size 9 1 A (wds (nb l)).length c (strs (wds (nb l)))) ∨
    ((nb l).all okS = false ∧ e = .returned (.tuple #[.slice none 0 0, .bool false]))) ∧ Below w.heap.size w w'
theorem byte_ext {s t : ByteArray} (h : s.data.toList = t.data.toList) : s = t := by
  obtain ⟨⟨a⟩⟩ := s
  obtain ⟨⟨b⟩⟩ := t
  simp at h
  rw [h]
end Go.Proofs.YtlpcallgkciklaaGreatDoor

/-
  lex.Lines once more: the words' slices have no room behind them.
-/
namespace Go.Proofs.YtlpcallgkciklaaGreatDoor
open Go.RowKit Go.Shelf
attribute [local go_sem] Oper.semAt_some

def LRc (w : World) (ls : List Ln) : Prop := ∀ x ∈ ls, x.ws ≠ [] ∧ x.ws.length = x.cap ∧ WR w x.b x.ws
theorem LRc.of {w w' : World} {ls : List Ln} (h : LRc w ls) (hb : ∀ b, b < w.heap.size → (∃ cur T, w.heap[b]? = some (.cells cur T) ∧ T = 9) → w'.heap[b]? = w.heap[b]?) : LRc w' ls := fun x hx => by
  obtain ⟨h1, h3, h2⟩ := h x hx
  refine ⟨h1, h3, h2.of_block (hb _ h2.lt ?_)⟩
  obtain ⟨cur, hc, _⟩ := h2
  exact ⟨cur, _, hc, rfl⟩
theorem LRc.below {w w' : World} {ls : List Ln} (h : LRc w ls) (hb : Below w.heap.size w w') : LRc w' ls := h.of fun b hlt _ => hb.block b hlt
theorem LRc.kept {W W' : World} {row : Option Nat} {ls : List Ln} (h : LRc W ls) (hg : W.grownBy W' row) (hrow : ∀ r, row = some r → ∃ o : Obj, W.heap[r]? = some o ∧ o.isCells = false) : LRc W' ls :=
  h.of fun _ _ ⟨_, _, hc, _⟩ => grownBy_keeps_cells hg hrow hc rfl
theorem LRc.lr {w : World} {ls : List Ln} (h : LRc w ls) : LR w ls := fun x hx => ⟨(h x hx).1, Nat.le_of_eq (h x hx).2.1, (h x hx).2.2⟩
def LinesC (w : World) (L : List UInt8) (e : Ending) (w' : World) : Prop :=
  (((linesF L).2 = 0 ∧ ∃ A c ls, e = .returned (.tuple #[.slice A ls.length c, .int .i64 0, .int .i64 0]) ∧ ls.map Ln.tell = (linesF L).1 ∧ OwnC w' w.heap.size 97 2 A ls.length c (lcell ls) ∧ LRc w' ls) ∨
    ((linesF L).2 ≠ 0 ∧ e = .returned (.tuple #[.slice none 0 0, .int .i64 ((linesF L).2 : Nat), .int .i64 13]))) ∧ Below w.heap.size w w'

/-- The variables of a call of Lines, and the lines so far. -/
def LnIc (w : World) (L : List UInt8) (pre : List (Fin (nl L))) (W : World) : Prop :=
  ∃ A c ls, (RowC W w.heap.size #[.slice none 0 0] 72 ∧ RowC W (w.heap.size + 1) #[.int .i64 0] 3 ∧ RowC W (w.heap.size + 1 + 1) #[.int .i64 0] 37 ∧ RowC W (w.heap.size + 1 + 1 + 1) #[.slice A ls.length c] 72) ∧
    OwnC W w.heap.size 97 2 A ls.length c (lcell ls) ∧ LRc W ls ∧ ls.map Ln.tell = accL L pre ∧ ∀ i ∈ pre, (nb (lnAt L i)).all okS = true
set_option maxRecDepth 100000 in
set_option maxHeartbeats 8000000 in
theorem lines_cap (s : ByteArray) (hs : s.size ≤ 65536) (w : World) : Calls Tryz.prog 29 #[.string s] w (LinesC w s.data.toList) := by
  have i1 : ¬ (65536 : Int) < (s.size : Int) := by omega
  have HS := Lib.hid hs
  refine (callsIn_wide (n := 8)).1 ?_
  have hro : (Fence.wide).round = none := rfl
  refine callsIn_of_wp_marks Tryz.func29 rfl trivial ?_ hro
  simp only [Tryz.ntmps29, List.size_toArray, List.length_cons, List.length_nil, Nat.reduceAdd, Nat.reduceSub, Array.replicate_succ, Array.replicate_zero, List.push_toArray, List.append_toArray, List.nil_append, List.cons_append]
  gi_wp2_with (refine ⟨trivial, ?_⟩; gi_at_call 47; refine (callsIn_wide.2 (each_any _ _)).mono ?_; rintro e w2 ⟨rfl, rfl⟩)
  have k0 : RowC (((((w.alloc (.cells #[.slice none 0 0] 72)).alloc (.cells #[.int .i64 0] 3)).alloc (.cells #[.int .i64 0] 37)).alloc (.cells #[.slice none 0 0] 72)).alloc (.cells #[.string s] 9)) w.heap.size #[.slice none 0 0] 72 := h_old _ _ _ _ (h_old _ _ _ _ (h_old _ _ _ _ (h_old _ _ _ _ (h_last _ _ _ rfl))))
  have k1 : RowC (((((w.alloc (.cells #[.slice none 0 0] 72)).alloc (.cells #[.int .i64 0] 3)).alloc (.cells #[.int .i64 0] 37)).alloc (.cells #[.slice none 0 0] 72)).alloc (.cells #[.string s] 9)) (w.heap.size + 1) #[.int .i64 0] 3 := h_old _ _ _ _ (h_old _ _ _ _ (h_old _ _ _ _ (h_last _ _ _ (by simp))))
  have k2 : RowC (((((w.alloc (.cells #[.slice none 0 0] 72)).alloc (.cells #[.int .i64 0] 3)).alloc (.cells #[.int .i64 0] 37)).alloc (.cells #[.slice none 0 0] 72)).alloc (.cells #[.string s] 9)) (w.heap.size + 1 + 1) #[.int .i64 0] 37 := h_old _ _ _ _ (h_old _ _ _ _ (h_last _ _ _ (by simp)))
  have k3 : RowC (((((w.alloc (.cells #[.slice none 0 0] 72)).alloc (.cells #[.int .i64 0] 3)).alloc (.cells #[.int .i64 0] 37)).alloc (.cells #[.slice none 0 0] 72)).alloc (.cells #[.string s] 9)) (w.heap.size + 1 + 1 + 1) #[.slice none 0 0] 72 := h_old _ _ _ _ (h_last _ _ _ (by simp))
  have k4 : RowC (((((w.alloc (.cells #[.slice none 0 0] 72)).alloc (.cells #[.int .i64 0] 3)).alloc (.cells #[.int .i64 0] 37)).alloc (.cells #[.slice none 0 0] 72)).alloc (.cells #[.string s] 9)) (w.heap.size + 1 + 1 + 1 + 1) #[.string s] 9 := h_last _ _ _ (by simp)
  have hsz : (((((w.alloc (.cells #[.slice none 0 0] 72)).alloc (.cells #[.int .i64 0] 3)).alloc (.cells #[.int .i64 0] 37)).alloc (.cells #[.slice none 0 0] 72)).alloc (.cells #[.string s] 9)).heap.size = w.heap.size + 5 := by simp
  have hbw : Below w.heap.size w (((((w.alloc (.cells #[.slice none 0 0] 72)).alloc (.cells #[.int .i64 0] 3)).alloc (.cells #[.int .i64 0] 37)).alloc (.cells #[.slice none 0 0] 72)).alloc (.cells #[.string s] 9)) := (((((Below.refl _ w).alloc (Nat.le_refl _) _).alloc (by simp) _).alloc (by simp; omega) _).alloc (by simp; omega) _).alloc (by simp; omega) _
  generalize (((((w.alloc (.cells #[.slice none 0 0] 72)).alloc (.cells #[.int .i64 0] 3)).alloc (.cells #[.int .i64 0] 37)).alloc (.cells #[.slice none 0 0] 72)).alloc (.cells #[.string s] 9)) = V0 at *
  refine wpIn_rangeFunc_ownG hro (by decide) (gf := 73) (lb := #[.pointer (some ⟨w.heap.size + 1 + 1 + 1 + 1, 0, none⟩)]) rfl trivial (enters_of Tryz.func73 (by kernel_rfl) rfl)
    (each_stops s (by omega) (8 - 1) (by decide) (w.heap.size + 1 + 1 + 1 + 1) V0 (by omega) (k4.cell 0 _ rfl)) (fun _ _ => trivial) (fun _ _ _ _ _ _ _ _ => trivial) (Below.refl _ _) (fun _ => rfl)
    (fun pre W => LnIc w s.data.toList pre W ∧ Below w.heap.size w W) (fun c pre W => (c = .ret ∧ LnX w s.data.toList pre W) ∧ Below w.heap.size w W)
    (OwnFrom.and (Own.from (fun pre A B row hs hg hr => by
      obtain ⟨A', c, ls, ⟨h0, h1, h2, h3⟩, h4, h5, h6, h7⟩ := hs
      exact ⟨A', c, ls, ⟨rowC_kept h0 hg hr, rowC_kept h1 hg hr, rowC_kept h2 hg hr, rowC_kept h3 hg hr⟩, ownC_kept h4 hg hr, h5.kept hg hr, h6, h7⟩) _) (ownFrom_below (Nat.le_refl _) (by omega)))
    (fun cc => OwnFrom.and (Own.from (fun pre A B row hs hg hr => by
      obtain ⟨hcc, pre', x, h, ⟨h0, h1, h2⟩, h3, h4⟩ := hs
      exact ⟨hcc, pre', x, h, ⟨rowC_kept h0 hg hr, rowC_kept h1 hg hr, rowC_kept h2 hg hr⟩, h3, h4⟩) _) (ownFrom_below (Nat.le_refl _) (by omega)))
    ⟨⟨none, 0, [], ⟨k0, k1, k2, k3⟩, OwnC.nil_, fun x hx => (by cases hx), rfl, fun i hi => (by cases hi)⟩, hbw⟩
    (fun x => { tmps := #[.string s, undef, .pointer (some ⟨w.heap.size, 0, none⟩), .pointer (some ⟨w.heap.size + 1, 0, none⟩), .pointer (some ⟨w.heap.size + 1 + 1, 0, none⟩), .pointer (some ⟨w.heap.size + 1 + 1 + 1, 0, none⟩), .int .i64 ((x.1 : Int) + 1), .string ⟨(lnAt s.data.toList x).toArray⟩, undef, undef, .string s, .int .i64 s.size, .bool false, .string s, .func (.func 73) #[] #[.pointer (some ⟨w.heap.size + 1 + 1 + 1 + 1, 0, none⟩)], .int .i64 ((x.1 : Int) + 1), .string ⟨(lnAt s.data.toList x).toArray⟩, undef, undef, undef, undef, undef, undef, undef, undef, undef, undef, undef, undef, undef, undef, undef, undef, undef, undef], defers := [] }) ?assign ?body ?done ?stop
  case assign =>
    intro l x W K hK
    gi_wp2
    exact hK
  case body =>
    rintro l pre x W ⟨⟨A, c, ls, ⟨h0, h1, h2, h3⟩, h4, h5, h6, h7⟩, hB⟩ hlen
    have hls : ls.length ≤ pre.length := by
      have e := congrArg List.length h6
      have := accL_length s.data.toList pre
      rw [List.length_map] at e
      omega
    have hnl : nl s.data.toList ≤ s.data.toList.length + 1 := (lns_length s.data.toList).2
    have hsl : s.data.toList.length = s.size := Array.length_toList
    have hll := lns_mem s.data.toList (lnAt s.data.toList x) (List.getElem_mem _)
    have hsplit := fun Z => split_any ⟨(lnAt s.data.toList x).toArray⟩ (by show (lnAt s.data.toList x).toArray.size ≤ _; rw [List.size_toArray]; omega) Z
    have hdata : (⟨(lnAt s.data.toList x).toArray⟩ : ByteArray).data.toList = lnAt s.data.toList x := rfl
    rw [hdata] at hsplit
    have hwn := wds (nb (lnAt s.data.toList x))
    have H7 := Lib.hid h7
    have H6 := Lib.hid h6
    have H5 := Lib.hid h5
    have HB := Lib.hid hB
    have HX : Hid (∀ (ws : List (List UInt8)), wds (nb (lnAt s.data.toList x)) = ws → accL s.data.toList (pre ++ [x]) = if ws = [] then accL s.data.toList pre else accL s.data.toList pre ++ [(x.1 + 1, ws)]) := Lib.hid fun ws hws => by rw [accL_snoc, hws]
    have f0 := h0.cell 0 _ rfl
    have g0 := h0.frozen 0
    cases hok : (nb (lnAt s.data.toList x)).all okS
    · -- the first line that is wrong
      have HOK := Lib.hid hok
      have hsp : ∀ Z, Calls Tryz.prog 48 #[.string ⟨(lnAt s.data.toList x).toArray⟩] Z fun e w' => e = .returned (.tuple #[.slice none 0 0, .bool false]) ∧ Below Z.heap.size Z w' := fun Z => (hsplit Z).mono fun e w' hh => by
        obtain ⟨hc, hb⟩ := hh
        rcases hc with ⟨hc, _⟩ | ⟨_, hc⟩
        · rw [hok] at hc; cases hc
        · exact ⟨hc, hb⟩
      clear hsplit hok h7 h6 h5 hB
      have HH := Lib.hid (And.intro h0 (And.intro h1 h2))
      gi_wp2_with (refine ⟨trivial, ?_⟩; gi_at_call 48; refine (CallsIn.inRound l (callsIn_wide.2 (hsp W))).mono ?_; rintro e w4 ⟨rfl, hB4⟩; have q0 := (h0.below hB4 h0.lt).cell 0 _ rfl; have q1 := (h1.below hB4 h1.lt).cell 0 _ rfl; have q2 := (h2.below hB4 h2.lt).cell 0 _ rfl; have y0 := (h0.below hB4 h0.lt).frozen 0; have y1 := (h1.below hB4 h1.lt).frozen 0; have y2 := (h2.below hB4 h2.lt).frozen 0)
      have hb4 := HB.out
      obtain ⟨h0, h1, h2⟩ := HH.out
      have hk : w.heap.size ≤ W.heap.size := hb4.size
      have t0 := ((h0.below hB4 h0.lt).set 0 (.slice none 0 0)).setOther (g := w.heap.size + 1) 0 (.int .i64 ((x.1 : Int) + 1)) (by omega)
      have t1 := ((h1.below hB4 h1.lt).setOther (g := w.heap.size) 0 (.slice none 0 0) (by omega)).set 0 (.int .i64 ((x.1 : Int) + 1))
      have t2 := ((h2.below hB4 h2.lt).setOther (g := w.heap.size) 0 (.slice none 0 0) (by omega)).setOther (g := w.heap.size + 1) 0 (.int .i64 ((x.1 : Int) + 1)) (by omega)
      have s0 := t0.setOther (g := w.heap.size + 1 + 1) 0 (.int .i64 13) (by omega)
      have s1 := t1.setOther (g := w.heap.size + 1 + 1) 0 (.int .i64 13) (by omega)
      have s2 := t2.set 0 (.int .i64 13)
      refine ⟨((((others_below hB4).trans (KeepsOthers.setCell _ _ _)).trans (KeepsOthers.setCell _ _ _)).trans (KeepsOthers.setCell _ _ _)).from _, ⟨rfl, pre, x, rfl, ⟨s0, ?_, s2⟩, H7.out, HOK.out⟩,
        (((hb4.trans (hB4.mono hk)).setCell (p := ⟨w.heap.size, 0, none⟩) (Nat.le_refl _) _).setCell (p := ⟨w.heap.size + 1, 0, none⟩) (Nat.le_succ _) _).setCell (p := ⟨w.heap.size + 1 + 1, 0, none⟩) (by show w.heap.size ≤ w.heap.size + 1 + 1; omega) _⟩
      have e1 : ((x.1 + 1 : Nat) : Int) = (x.1 : Int) + 1 := by omega
      rw [e1]
      exact s1
    · cases hws : wds (nb (lnAt s.data.toList x)) with
      | nil =>
        have hsp : ∀ Z, Calls Tryz.prog 48 #[.string ⟨(lnAt s.data.toList x).toArray⟩] Z fun e w' => ∃ B, e = .returned (.tuple #[.slice (some ⟨B, 0, none⟩) 0 0, .bool true]) ∧ Below Z.heap.size Z w' := fun Z => (hsplit Z).mono fun e w' hh => by
          obtain ⟨hc, hb⟩ := hh
          rcases hc with ⟨_, B, hc, _⟩ | ⟨hc, _⟩
          · rw [hws] at hc
            exact ⟨B, hc, hb⟩
          · rw [hok] at hc; cases hc
        have HOK := Lib.hid hok
        have HWS := Lib.hid (HX.out _ hws)
        have HH := Lib.hid (And.intro h0 (And.intro h1 (And.intro h2 (And.intro h3 h4))))
        clear hsplit hok hws h7 h6 h5 hB
        gi_wp2_with (refine ⟨trivial, ?_⟩; gi_at_call 48; refine (CallsIn.inRound l (callsIn_wide.2 (hsp W))).mono ?_; rintro e w4 ⟨B4, rfl, hB4⟩)
        have hb4 := HB.out
        refine ⟨(others_below hB4).from _, trivial, ⟨A, c, ls, ⟨h0.below hB4 h0.lt, h1.below hB4 h1.lt, h2.below hB4 h2.lt, h3.below hB4 h3.lt⟩, h4.below hB4 (Nat.le_refl _), H5.out.below hB4, ?_, ?_⟩, hb4.trans (hB4.mono hb4.size)⟩
        · rw [H6.out, HWS.out]; exact (if_pos trivial).symm
        · intro i hi
          rcases List.mem_append.1 hi with hi | hi
          · exact H7.out i hi
          · rw [List.mem_singleton] at hi
            subst hi
            exact HOK.out
      | cons w0 wr =>
        obtain ⟨ws, hwe⟩ : ∃ ws, w0 :: wr = ws := ⟨_, rfl⟩
        have hne : ws ≠ [] := by rw [← hwe]; exact List.cons_ne_nil _ _
        rw [hwe] at hws
        have hsp : ∀ Z, Calls Tryz.prog 48 #[.string ⟨(lnAt s.data.toList x).toArray⟩] Z fun e w' => ∃ B, e = .returned (.tuple #[.slice (some ⟨B, 0, none⟩) ws.length ws.length, .bool true]) ∧ WR w' B ws ∧ Z.heap.size ≤ B ∧ Below Z.heap.size Z w' := fun Z => (hsplit Z).mono fun e w' hh => by
          obtain ⟨hc, hb⟩ := hh
          rcases hc with ⟨_, B, hc, hB0, hown⟩ | ⟨hc, _⟩
          · rw [hws] at hc hown
            exact ⟨B, hc, WR.of_own hown, hB0, hb⟩
          · rw [hok] at hc; cases hc
        have HOK := Lib.hid hok
        have HWS := Lib.hid (HX.out _ hws)
        have HNE := Lib.hid hne
        have hlen0 : (0 : Int) < (ws.length : Int) := by
          have := List.length_pos_iff.2 hne
          omega
        obtain ⟨i0, hi0, hz0, hz1, hz2⟩ := info_parts infoLn
        have HB0 : Hid (w.heap.size ≤ W.heap.size) := Lib.hid hB.size
        clear hsplit hok hws h7 h6 h5 hB hwe hne HX
        gi_wp2_with (first
          | (refine ⟨trivial, ?_⟩; gi_at_call 48; refine (CallsIn.inRound l (callsIn_wide.2 (hsp W))).mono ?_; rintro e w4 ⟨B4, rfl, hWR, hBz, hB4⟩
             have q3 := (h3.below hB4 h3.lt).cell 0 _ rfl
             have own4 := h4.below hB4 (Nat.le_refl _))
          | (gi_at_builtin
             refine wpListIn_append_own _ rfl _ _ 72 rfl w.heap.size 97 i0 _ 2 32 Tryz.underlying72 hi0 hz0 hz1 hz2 rfl (by decide) _ _ _ rfl (World.ownsRow.alloc own4 _) ⟨w4.heap.size, 0, none⟩ 1 1 [.int .i64 ((x.1 : Int) + 1), .slice (some ⟨B4, 0, none⟩) ws.length ws.length] rfl rfl (cell_two_new' _ _ _ _) (by simp [Value.oneCell']) (by unfold maxLen; omega) (by omega) (by have := hB4.size; have := HB0.out; simp; omega) ?_
             intro v' w7 hown7 hgrow7 _
             obtain ⟨A7, c7, rfl⟩ := ownsRow_parts hown7
             have hnr := (OwnC.alloc own4 (.cells #[.int .i64 ((x.1 : Int) + 1), .slice (some ⟨B4, 0, none⟩) ws.length ws.length] 97)).not_row (h_old _ _ _ _ (h3.below hB4 h3.lt)) (by decide)
             have hlt4 : w.heap.size + 1 + 1 + 1 < (w4.alloc (.cells #[.int .i64 ((x.1 : Int) + 1), .slice (some ⟨B4, 0, none⟩) ws.length ws.length] 97)).heap.size := by have := (h3.below hB4 h3.lt).lt; simp; omega
             have r3 : RowC w7 (w.heap.size + 1 + 1 + 1) #[.slice A ls.length c] 72 := (hgrow7.block _ hlt4 hnr).trans (h_old _ _ _ _ (h3.below hB4 h3.lt))
             have q37 := r3.cell 0 _ rfl
             have y37 := r3.frozen 0))
        have hb4 := HB.out
        have hk : w.heap.size ≤ W.heap.size := hb4.size
        have hbl : Below w.heap.size w4 w7 := ((Below.refl _ w4).alloc (by have := hB4.size; omega) _).grown hgrow7 (by have := hB4.size; simp; omega) (fun k e => by have := (World.ownsRow.lt own4 k e).1; omega)
        have hne3 : ∀ b', (∃ cur T, w4.heap[b']? = some (Obj.cells cur T) ∧ T ≠ 97) → w7.heap[b']? = w4.heap[b']? := fun b' hh => by
          obtain ⟨cur, T, hc, hT⟩ := hh
          have hb' : b' < w4.heap.size := (Array.getElem?_eq_some_iff.1 hc).1
          exact (hgrow7.block b' (by simp; omega) ((OwnC.alloc own4 (.cells #[.int .i64 ((x.1 : Int) + 1), .slice (some ⟨B4, 0, none⟩) ws.length ws.length] 97)).not_row (h_old _ _ _ _ hc) hT)).trans (Below.heap_alloc _ _ _ hb')
        have z0 := (h0.below hB4 h0.lt)
        have z1 := (h1.below hB4 h1.lt)
        have z2 := (h2.below hB4 h2.lt)
        have r0 : RowC w7 _ _ _ := (hne3 _ ⟨_, _, z0, by decide⟩).trans z0
        have r1 : RowC w7 _ _ _ := (hne3 _ ⟨_, _, z1, by decide⟩).trans z1
        have r2 : RowC w7 _ _ _ := (hne3 _ ⟨_, _, z2, by decide⟩).trans z2
        have hlr : LRc (w7.setCell ⟨w.heap.size + 1 + 1 + 1, 0, none⟩ (.slice A7 (ls.length + 1) c7)) (ls ++ [⟨x.1 + 1, B4, ws.length, ws⟩]) := by
          have h4r : LRc w4 (ls ++ [⟨x.1 + 1, B4, ws.length, ws⟩]) := fun y hy => by
            rcases List.mem_append.1 hy with hy | hy
            · exact H5.out.below hB4 y hy
            · rw [List.mem_singleton] at hy
              subst hy
              exact ⟨HNE.out, rfl, hWR⟩
          have h7r : LRc w7 (ls ++ [⟨x.1 + 1, B4, ws.length, ws⟩]) := h4r.of fun b' _ ⟨cur, T, hc, hT⟩ => hne3 b' ⟨cur, T, hc, by rw [hT]; decide⟩
          refine h7r.of fun b' _ ⟨cur, T, hc, hT⟩ => Below.heap_setCell _ _ _ _ ?_
          intro e
          have e' : b' = w.heap.size + 1 + 1 + 1 := e
          subst e'
          rw [show w7.heap[w.heap.size + 1 + 1 + 1]? = _ from r3] at hc
          injection hc with hc
          injection hc with _ hc
          rw [hT] at hc
          exact absurd hc (by decide)
        have hown8 : OwnC (w7.setCell ⟨w.heap.size + 1 + 1 + 1, 0, none⟩ (.slice A7 (ls.length + 1) c7)) w.heap.size 97 2 A7 (ls ++ [(⟨x.1 + 1, B4, ws.length, ws⟩ : Ln)]).length c7 (lcell (ls ++ [⟨x.1 + 1, B4, ws.length, ws⟩])) := by
          have h7o : OwnC w7 w.heap.size 97 2 A7 (ls ++ [(⟨x.1 + 1, B4, ws.length, ws⟩ : Ln)]).length c7 (lcell (ls ++ [⟨x.1 + 1, B4, ws.length, ws⟩])) := by
            unfold OwnC
            rw [← lcells_snoc]
            rw [List.length_append]
            exact hown7
          exact ownC_setRow h7o r3 (by decide) 0 _
        refine ⟨((((others_below hB4).trans (KeepsOthers.alloc _ _)).trans (KeepsOthers.of_grownBy hgrow7 fun j o hj ho => (OwnC.alloc own4 _).own_cells j o hj ho)).trans (KeepsOthers.setCell _ _ _)).from _, trivial, ⟨A7, c7, ls ++ [⟨x.1 + 1, B4, ws.length, ws⟩], ⟨r0.setOther _ _ (by omega), r1.setOther _ _ (by omega), r2.setOther _ _ (by omega), ?_⟩, hown8, hlr, ?_, ?_⟩, ((hb4.trans (hB4.mono hk)).trans hbl).setCell (p := ⟨w.heap.size + 1 + 1 + 1, 0, none⟩) (by show w.heap.size ≤ w.heap.size + 1 + 1 + 1; omega) _⟩
        · rw [List.length_append]
          exact r3.set 0 _
        · rw [HWS.out, if_neg HNE.out, List.map_append, H6.out]
          rfl
        · intro i hi
          rcases List.mem_append.1 hi with hi | hi
          · exact H7.out i hi
          · rw [List.mem_singleton] at hi
            subst hi
            exact HOK.out
  case done =>
    rintro D ys W hD rfl ⟨⟨A, c, ls, ⟨h0, h1, h2, h3⟩, h4, h5, h6, h7⟩, hB⟩ hK
    have hlin : linesF s.data.toList = (accL s.data.toList (List.finRange (nl s.data.toList)), 0) := lines_ok _ fun i => h7 i (List.mem_finRange i)
    have q0 := h0.cell 0 _ rfl
    have q1 := h1.cell 0 _ rfl
    have q2 := h2.cell 0 _ rfl
    have q3 := h3.cell 0 _ rfl
    have y0 := h0.frozen 0
    have y1 := h1.frozen 0
    have y2 := h2.frozen 0
    have HH := Lib.hid (And.intro h0 (And.intro h1 (And.intro h2 (And.intro h4 (And.intro h5 (And.intro h6 (And.intro hB hlin)))))))
    clear h0 h1 h2 h3 h4 h5 h6 h7 hB hlin
    gi_wp2
    obtain ⟨h0, h1, h2, h4, h5, h6, hB, hlin⟩ := HH.out
    have hK1 := ((((KeepsOthers.setCell W ⟨w.heap.size, 0, none⟩ (.slice A ls.length c)).trans (KeepsOthers.setCell _ ⟨w.heap.size + 1, 0, none⟩ (.int .i64 0))).trans (KeepsOthers.setCell _ ⟨w.heap.size + 1 + 1, 0, none⟩ (.int .i64 0)))).same D _ hK rfl
    have t0 := ((h0.set 0 (.slice A ls.length c)).setOther (g := w.heap.size + 1) 0 (.int .i64 0) (by omega)).setOther (g := w.heap.size + 1 + 1) 0 (.int .i64 0) (by omega)
    have t1 := ((h1.setOther (g := w.heap.size) 0 (.slice A ls.length c) (by omega)).set 0 (.int .i64 0)).setOther (g := w.heap.size + 1 + 1) 0 (.int .i64 0) (by omega)
    have t2 := ((h2.setOther (g := w.heap.size) 0 (.slice A ls.length c) (by omega)).setOther (g := w.heap.size + 1) 0 (.int .i64 0) (by omega)).set 0 (.int .i64 0)
    have o1 := ownC_setRow h4 h0 (by decide) 0 (.slice A ls.length c)
    have o2 := ownC_setRow o1 (h1.setOther (g := w.heap.size) 0 (.slice A ls.length c) (by omega)) (by decide) 0 (.int .i64 0)
    have o3 := ownC_setRow o2 ((h2.setOther (g := w.heap.size) 0 (.slice A ls.length c) (by omega)).setOther (g := w.heap.size + 1) 0 (.int .i64 0) (by omega)) (by decide) 0 (.int .i64 0)
    have o4 := ownC_kept o3 (grownBy_putObj' _ D (.deferred none)) (fun r e => by cases e; exact ⟨_, hK1, rfl⟩)
    have l1 : LRc (((W.setCell ⟨w.heap.size, 0, none⟩ (.slice A ls.length c)).setCell ⟨w.heap.size + 1, 0, none⟩ (.int .i64 0)).setCell ⟨w.heap.size + 1 + 1, 0, none⟩ (.int .i64 0)) ls := h5.of fun b' _ hh => by
      obtain ⟨cur, T, hc, hT⟩ := hh
      have n0 : b' ≠ w.heap.size := fun e => by
        rw [e, show W.heap[w.heap.size]? = _ from h0] at hc
        injection hc with hc
        injection hc with _ hc
        rw [hT] at hc
        exact absurd hc (by decide)
      have n1 : b' ≠ w.heap.size + 1 := fun e => by
        rw [e, show W.heap[w.heap.size + 1]? = _ from h1] at hc
        injection hc with hc
        injection hc with _ hc
        rw [hT] at hc
        exact absurd hc (by decide)
      have n2 : b' ≠ w.heap.size + 1 + 1 := fun e => by
        rw [e, show W.heap[w.heap.size + 1 + 1]? = _ from h2] at hc
        injection hc with hc
        injection hc with _ hc
        rw [hT] at hc
        exact absurd hc (by decide)
      rw [Below.heap_setCell _ _ _ _ n2, Below.heap_setCell _ _ _ _ n1, Below.heap_setCell _ _ _ _ n0]
    have l2 := l1.kept (grownBy_putObj' _ D (.deferred none)) (fun r e => by cases e; exact ⟨_, hK1, rfl⟩)
    have k0 := rowC_kept t0 (grownBy_putObj' _ D (.deferred none)) (fun r e => by cases e; exact ⟨_, hK1, rfl⟩)
    have k1 := rowC_kept t1 (grownBy_putObj' _ D (.deferred none)) (fun r e => by cases e; exact ⟨_, hK1, rfl⟩)
    have k2 := rowC_kept t2 (grownBy_putObj' _ D (.deferred none)) (fun r e => by cases e; exact ⟨_, hK1, rfl⟩)
    refine ⟨by simp, .inl ⟨_, _, rfl, run_takeDeferred hK1, ?_⟩⟩
    refine ⟨_, results_cells3 Tryz.results29 _ _ ⟨w.heap.size, 0, none⟩ ⟨w.heap.size + 1, 0, none⟩ ⟨w.heap.size + 1 + 1, 0, none⟩ (.slice A ls.length c) (.int .i64 0) (.int .i64 0) rfl rfl rfl (Tryz.isAgg72 _) (Tryz.isAgg3 _) (Tryz.isAgg37 _) (k0.cell 0 _ rfl) (k1.cell 0 _ rfl) (k2.cell 0 _ rfl), .inl ⟨?_, A, c, ls, rfl, ?_, o4, l2⟩, ((((hB.setCell (p := ⟨w.heap.size, 0, none⟩) (Nat.le_refl _) _).setCell (p := ⟨w.heap.size + 1, 0, none⟩) (Nat.le_succ _) _).setCell (p := ⟨w.heap.size + 1 + 1, 0, none⟩) (by show w.heap.size ≤ w.heap.size + 1 + 1; omega) _)).trans (belowK_b (w := w) (Nat.le_refl _) _ D _ _ (by omega) hK1 rfl rfl)⟩
    · rw [hlin]
    · rw [hlin]; exact h6
  case stop =>
    rintro D c pre W hD hpre ⟨⟨rfl, pre', x, rfl, ⟨h0, h1, h2⟩, h3, h4⟩, hB⟩ hK
    have hlin : linesF s.data.toList = ([], x.1 + 1) := lines_bad _ x (fun i hi => h3 i (pre_last hpre i hi)) h4
    gi_wp2
    refine ⟨by simp, .inl ⟨_, _, rfl, run_takeDeferred hK, ?_⟩⟩
    have k0 := rowC_kept h0 (grownBy_putObj' _ D (.deferred none)) (fun r e => by cases e; exact ⟨_, hK, rfl⟩)
    have k1 := rowC_kept h1 (grownBy_putObj' _ D (.deferred none)) (fun r e => by cases e; exact ⟨_, hK, rfl⟩)
    have k2 := rowC_kept h2 (grownBy_putObj' _ D (.deferred none)) (fun r e => by cases e; exact ⟨_, hK, rfl⟩)
    refine ⟨_, results_cells3 Tryz.results29 _ _ ⟨w.heap.size, 0, none⟩ ⟨w.heap.size + 1, 0, none⟩ ⟨w.heap.size + 1 + 1, 0, none⟩ (.slice none 0 0) (.int .i64 ((x.1 + 1 : Nat) : Int)) (.int .i64 13) rfl rfl rfl (Tryz.isAgg72 _) (Tryz.isAgg3 _) (Tryz.isAgg37 _) (k0.cell 0 _ rfl) (k1.cell 0 _ rfl) (k2.cell 0 _ rfl), .inr ⟨?_, ?_⟩, hB.trans (belowK_b (w := w) (Nat.le_refl _) W D _ _ (by omega) hK rfl rfl)⟩
    · rw [hlin]; exact Nat.succ_ne_zero _
    · rw [hlin]
/-- The words of a line are few. -/
theorem scan_few : ∀ (lines : List (List UInt8)) (n N : Nat) (acc : List (Nat × List (List UInt8))), (∀ l ∈ lines, l.length ≤ N) → (∀ x ∈ acc, x.2.length ≤ N) → ∀ x ∈ (scan n lines acc).1, x.2.length ≤ N
  | [], n, N, acc, _, ha => ha
  | l :: r, n, N, acc, hl, ha => by
    show ∀ x ∈ (if (nb l).all okS = true then scan (n + 1) r (if wds (nb l) = [] then acc else acc ++ [(n, wds (nb l))]) else ([], n)).1, _
    split
    · refine scan_few r (n + 1) N _ (fun z hz => hl z (List.mem_cons_of_mem _ hz)) ?_
      split
      · exact ha
      · intro x hx
        rcases List.mem_append.1 hx with h | h
        · exact ha x h
        · rw [List.mem_singleton] at h
          subst h
          have h1 := wdF_length (nb l) [] []
          have h2 : (nb l).length ≤ l.length := by unfold nb; exact (List.takeWhile_sublist _).length_le
          have h3 := hl l (List.mem_cons_self ..)
          show (wds (nb l)).length ≤ N
          unfold wds
          simp only [List.length_nil] at h1
          omega
    · intro x hx
      cases hx
theorem lines_few (L : List UInt8) : ∀ x ∈ (linesF L).1, x.2.length ≤ L.length := scan_few _ _ _ _ (fun l hl => lns_mem L l hl) fun x hx => by cases hx
end Go.Proofs.YtlpcallgkciklaaGreatDoor

/-
  The document's lines of a text.
-/
namespace Go.Proofs.YtlpcallgkciklaaGreatDoor
open Go.RowKit

theorem WR.of_ownC {w : World} {base n c : Nat} {A : Option Addr} {ws : List (List UInt8)} (h : OwnC w base 9 1 A n c (strs ws)) (hn : n = ws.length) (h0 : ws ≠ []) : ∃ b, A = some ⟨b, 0, none⟩ ∧ WR w b ws := by
  obtain ⟨h1, h2⟩ := h
  rcases h2 with ⟨hv, h00⟩ | ⟨gg, cap, cur, hv, hg, hh, h3, h4, h5, h6⟩
  · have := List.length_pos_iff.2 h0
    omega
  · injection hv with e1 e2 e3
    refine ⟨gg, e1, cur, hh, fun j x hx => ?_⟩
    have hj : j < ws.length := (List.getElem?_eq_some_iff.1 hx).1
    have h7 := congrArg (fun l : List Value => l[j]?) h6
    simp only [Nat.mul_one] at h7
    rw [List.getElem?_take_of_lt (by omega), List.getElem?_map, List.getElem?_range (by omega)] at h7
    rw [← Array.getElem?_toList, h7]
    show some (strs ws j) = _
    unfold strs
    rw [List.getD_eq_getElem?_getD, hx]
    rfl
theorem app_cellsG {P : Program} (w : World) {ops : Array Oper} {rest : List Oper} {o : Oper} {a : Act} {Q : Exit → Act → World → Prop} (hgd : o.guard = none) (s x : Operand) (t E : TypeId)
    (ho : o.op = .call { callee := .builtin .append, args := #[s, x], argTypes := #[t, t] })
    (ht : P.underlying t = some (.slice E)) {zv : Value} {z by_ : Nat} (hinfo : (P.info? E).map (fun i => (i.zero, i.size, i.bytes)) = some (some zv, z, by_)) (hzs : zv.cells.size = z) (hz : 0 < z)
    {base n c m d : Nat} {A C : Option Addr} {F G : Nat → Value} (hs : a.eval s = .slice A n c) (hown : OwnC w base E z A n c F) (hx : a.eval x = .slice C m d) {B : Nat} (hr : Cel w B z C m d G) (h1c : ∀ i, i < m * z → (G i).oneCell' = true)
    (hn : n + m ≤ maxLen) (hby : (n + m) * by_ ≤ 140737488355328) (hbase : base ≤ w.heap.size) (N : Nat) (hN : n + m = N) (H : Nat → Value) (hH : ∀ i, i < N * z → catC (n * z) F G i = H i)
    (h : ∀ A' c' w', OwnC w' base E z A' N c' H → w.grownBy w' (Value.slice A n c).ownBlock → Below base w w' → wpList P ops Q rest (a.put o.dst (.slice A' N c')) w') : wpList P ops Q (o :: rest) a w := by
  subst hN
  exact wpList_plain hgd fun _ hK => wp_cells w s x t E ho ht hinfo hzs hz hs hown hx hr h1c hn hby hbase fun A' c' w' h1 h2 h3 => hK _ _ (h A' c' w' (h1.congr hH) h2 h3)
theorem two_ln (w : World) (n : Int) (v : Value) (E : TypeId) : Cel (w.alloc (.cells #[.int .i64 n, v] E)) (w.heap.size + 1) 2 (some ⟨w.heap.size, 0, none⟩) 1 1 (fun i => if i = 0 then .int .i64 n else v) :=
  Cel.mk_ (by omega) (by decide) (by decide) (fun i hi => by
    have hr := RowC.new w #[.int .i64 n, v] E _ rfl
    by_cases h : i = 0
    · subst h
      exact hr.cell 0 _ rfl
    · obtain rfl : i = 1 := by omega
      exact hr.cell 1 _ rfl)
theorem LR.grown {w4 w5 : World} {ls : List Ln} {base n c : Nat} {E : TypeId} {A : Option Addr} {F : Nat → Value} {O : Obj} (h : LR w4 ls) (hown : OwnC w4 base E 2 A n c F) (hE : 9 ≠ E) (hg : (w4.alloc O).grownBy w5 (Value.slice A n c).ownBlock) : LR w5 ls :=
  h.of fun b hlt hh => by
    obtain ⟨cur, T, hc, hT⟩ := hh
    exact (hg.block b (by simp; omega) ((hown.alloc O).not_row (h_old _ _ _ _ hc) (by rw [hT]; exact hE))).trans (Below.heap_alloc _ _ _ hlt)
theorem seg_ten (L : List UInt8) (a i : Nat) (ha : a ≤ i) (hi : L[i]? = some 10) (hno : ∀ c ∈ (L.drop a).take (i - a), c ≠ 10) : lns (L.drop a) = (L.drop a).take (i - a) :: lns (L.drop (i + 1)) := by
  have hlt := (List.getElem?_eq_some_iff.1 hi).1
  have e : L.drop a = (L.drop a).take (i - a) ++ 10 :: L.drop (i + 1) := by
    have e1 : L.drop i = 10 :: L.drop (i + 1) := by
      rw [List.drop_eq_getElem_cons hlt]
      congr 1
      exact (List.getElem?_eq_some_iff.1 hi).2
    rw [← e1, show L.drop i = (L.drop a).drop (i - a) by rw [List.drop_drop]; congr 1; omega, List.take_append_drop]
  have h := lns_some _ (L.drop (i + 1)) hno
  rw [← e] at h
  exact h
theorem seg_end (L : List UInt8) (a : Nat) (_ha : a ≤ L.length) (hno : ∀ c ∈ (L.drop a).take (L.length - a), c ≠ 10) : lns (L.drop a) = [(L.drop a).take (L.length - a)] := by
  rw [List.take_of_length_le (by rw [List.length_drop]; exact Nat.le_refl _)] at hno ⊢
  exact lns_none _ hno
theorem seg_more (L : List UInt8) (a i : Nat) (ha : a ≤ i) {b : UInt8} (hi : L[i]? = some b) (hb : b ≠ 10) (hno : ∀ c ∈ (L.drop a).take (i - a), c ≠ 10) : ∀ c ∈ (L.drop a).take (i + 1 - a), c ≠ 10 := by
  intro c hc
  rw [show i + 1 - a = (i - a) + 1 by omega, List.take_add_one] at hc
  rcases List.mem_append.1 hc with hc | hc
  · exact hno c hc
  · rw [List.getElem?_drop, show a + (i - a) = i by omega, hi] at hc
    simp at hc
    rw [hc]; exact hb

end Go.Proofs.YtlpcallgkciklaaGreatDoor

/-
  The laws' told, at lines that are the same; what the chapter's example says.
-/
namespace Go.Proofs.YtlpcallgkciklaaGreatDoor
open Go.RowKit

theorem scan_le (N : Nat) : ∀ (lines : List (List UInt8)) (n : Nat) (acc : List (Nat × List (List UInt8))), (∀ l ∈ lines, l.length ≤ N) → (∀ x ∈ acc, x.2.length ≤ N) → ∀ x ∈ (scan n lines acc).1, x.2.length ≤ N
  | [], _, acc, _, h2, x, hx => h2 x hx
  | l :: r, n, acc, h1, h2, x, hx => by
    have hx' : x ∈ (if (nb l).all okS = true then scan (n + 1) r (if wds (nb l) = [] then acc else acc ++ [(n, wds (nb l))]) else ([], n)).1 := hx
    split at hx'
    · refine scan_le N r (n + 1) _ (fun y hy => h1 y (List.mem_cons_of_mem _ hy)) ?_ x hx'
      intro y hy
      split at hy
      · exact h2 y hy
      · rcases List.mem_append.1 hy with hy | hy
        · exact h2 y hy
        · rw [List.mem_singleton] at hy
          subst hy
          have e1 := wdF_length (nb l) [] []
          have e2 : (nb l).length ≤ l.length := (List.takeWhile_sublist _).length_le
          have e3 := h1 l List.mem_cons_self
          simp only [List.length_nil] at e1
          show (wdF (nb l) [] []).length ≤ N
          omega
    · simp at hx'
theorem lines_le {L : List UInt8} {ls : List Ln} (he : ls.map Ln.tell = (linesF L).1) : ∀ x ∈ ls, x.ws.length ≤ L.length := fun x hx => by
  have h := scan_le L.length (lns L) 1 [] (fun l hl => lns_mem L l hl) (fun y hy => by cases hy) x.tell (by
    show x.tell ∈ (linesF L).1
    rw [← he]
    exact List.mem_map_of_mem hx)
  exact h
abbrev exL : ByteArray := ⟨#[97, 32, 98, 32, 35, 32, 99, 10, 10, 100]⟩
theorem ex_lines : linesF exL.data.toList = ([(1, [[97], [98]]), (3, [[100]])], 0) := by kernel_rfl
end Go.Proofs.YtlpcallgkciklaaGreatDoor

/-
  lex.Join: each line's words with one blank between, and a line's end.
-/
namespace Go.Proofs.YtlpcallgkciklaaGreatDoor
open Go.RowKit Go.Shelf

theorem ws_k (B b : Nat) (bs : List Value) (s : ByteArray) (w : World) (h : Lib.IsBuilderF 94 5 B b bs w) (hlen : bs.length + s.size ≤ 140737488355328) (hBw : B ≤ w.heap.size) :
    Calls Tryz.prog 42 #[.pointer (some ⟨b, 0, none⟩), .string s] w fun e w' => e = .returned (.tuple #[.int .i64 s.size, .nilIface]) ∧ (Lib.BuilderAtF 94 5 B b (.pointer (some ⟨b, 0, none⟩)) (bs ++ Lib.strCells s) w' ∧ Below B w w' ∧ Lib.OthersKept 5 (some b) w w') :=
  Any.Builder_WriteString_k { Tryz.lays156 with } Tryz.Builder_Extra_156 B b bs s w h hlen hBw

/-- A line's words with one blank between. -/
def joinW (ws : List (List UInt8)) : List UInt8 := Lib.join ws [32]
/-- Lines put together. -/
def joinF (l : List (List (List UInt8))) : List UInt8 := (l.map fun ws => joinW ws ++ [10]).flatten
theorem joinF_snoc (l : List (List (List UInt8))) (ws : List (List UInt8)) : joinF (l ++ [ws]) = joinF l ++ (joinW ws ++ [10]) := by
  unfold joinF
  rw [List.map_append, List.flatten_append]
  simp
theorem joinF_append (l m : List (List (List UInt8))) : joinF (l ++ m) = joinF l ++ joinF m := by
  unfold joinF
  rw [List.map_append, List.flatten_append]
theorem strCells_data (s : ByteArray) : Lib.strCells s = Lib.byteCells s.data.toList := by
  rfl
theorem bf_below {T e : TypeId} {B b : Nat} {bs : List Value} {W W' : World} (h : Lib.IsBuilderF T e B b bs W) (hb : Below W.heap.size W W') : Lib.IsBuilderF T e B b bs W' := by
  have one : ∀ p, Lib.BuilderAtF T e B b p bs W → Lib.BuilderAtF T e B b p bs W' := fun p h => by
    have hlt := h.lt
    obtain ⟨h1, v, h2, h3, h4⟩ := h
    exact ⟨h1, v, (hb.block b hlt).trans h2, h3.kept (row := none) ⟨hb.os, hb.tape, hb.output, hb.size, fun k hk _ => hb.block k hk⟩ (Classical.em _), h4⟩
  exact h.elim (fun x => .inl (one _ x)) (fun x => .inr (one _ x))
theorem joinw_any (b c : Nat) (ws : List (List UInt8)) (w : World) (h : WR w b ws) (hc : ws.length ≤ c) (hlen : (joinW ws).length ≤ 140737488355328) (hn : ws.length ≤ 140737488355328) :
    Calls Tryz.prog 43 #[.slice (some ⟨b, 0, none⟩) ws.length c, .string ⟨#[32]⟩] w fun e w' => e = .returned (.string ⟨(joinW ws).toArray⟩) ∧ Below w.heap.size w w' := by
  have hx : (ws.map fun x => (⟨x.toArray⟩ : ByteArray)).map (·.data.toList) = ws := by
    rw [List.map_map]
    exact (List.map_congr_left fun x _ => rfl).trans (List.map_id _)
  have hj := Tryz.strings_Join b 0 c (ws.map fun x => ⟨x.toArray⟩) ⟨#[32]⟩ w (fun j x hx => by
    rw [List.getElem?_map] at hx
    cases hy : ws[j]? with
    | none => rw [hy] at hx; cases hx
    | some y =>
      rw [hy] at hx
      injection hx with hx
      rw [← hx, Nat.zero_add]
      exact h.cell hy) h.lt (by rw [List.length_map]; exact hn) (by rw [List.length_map]; exact hc) (by rw [hx]; exact hlen)
  rw [hx, List.length_map] at hj
  exact hj
theorem joinF_le (l : List (List (List UInt8))) (k : Nat) : (joinF (l.take k)).length ≤ (joinF l).length := by
  have h := joinF_append (l.take k) (l.drop k)
  rw [List.take_append_drop] at h
  rw [h, List.length_append]
  omega
theorem joinF_snoc_take (ls : List Ln) (k : Nat) (x : Ln) (hx : ls[k]? = some x) : joinF ((ls.map (·.ws)).take (k + 1)) = joinF ((ls.map (·.ws)).take k) ++ (joinW x.ws ++ [10]) := by
  rw [List.take_add_one, List.getElem?_map, hx]
  exact joinF_snoc _ _

set_option maxRecDepth 100000 in
set_option maxHeartbeats 4000000 in
theorem join_any (A : Option Addr) (c : Nat) (ls : List Ln) (w : World) (h1 : Cel w w.heap.size 2 A ls.length c (lcell ls)) (h2 : LR w ls) (hN : (joinF (ls.map (·.ws))).length ≤ 140737488355328) (hws : ∀ x ∈ ls, x.ws.length ≤ 140737488355328) :
    Calls Tryz.prog 27 #[.slice A ls.length c] w fun e w' => e = .returned (.string ⟨(joinF (ls.map (·.ws))).toArray⟩) ∧ Below w.heap.size w w' := by
  obtain ⟨n, hn⟩ : ∃ n, ls.length = n := ⟨_, rfl⟩
  obtain ⟨hc1, hm1⟩ := h1.le
  unfold maxLen at hm1
  rw [hn] at h1 hc1 ⊢
  have HC := Lib.hid (And.intro h1 (And.intro h2 (And.intro hN hws)))
  have HLN := Lib.hid hn
  clear h1 h2 hN hws hn
  go_enter Tryz.func27, Tryz.ntmps27
  go_wp2
  go_loopw [8] (fun i wr => ∃ k : Nat, k ≤ n ∧ i = .int .i64 k ∧ Lib.IsBuilderF 94 5 w.heap.size w.heap.size (Lib.byteCells (joinF ((ls.map (·.ws)).take k))) wr ∧ Below w.heap.size w wr) (fun i _ => n - (intOf i).toNat)
  case atStart => exact ⟨0, Nat.zero_le _, rfl, Lib.IsBuilderF.of (Lib.fresh_isBuilder 94 5 w), (Below.refl _ w).alloc (Nat.le_refl _) _⟩
  case round =>
    obtain ⟨k, hk, rfl, hI, hbw⟩ := hrel
    obtain ⟨h1, h2, hN, hws⟩ := HC.out
    by_cases hlt : k < n
    · obtain ⟨x, hx⟩ : ∃ x, ls[k]? = some x := ⟨_, List.getElem?_eq_getElem (by have := HLN.out; omega)⟩
      obtain ⟨b1, o1, rfl, hb1, hcc⟩ := h1.at_ (by omega)
      obtain ⟨hne, hcap, hwr⟩ := h2 x (List.mem_of_getElem? hx)
      have v1 : wr.cell? ⟨b1, o1 + k * 2, none⟩ = some (.int .i64 (x.num : Nat)) := by
        have := (hbw.cell (p := ⟨b1, o1 + k * 2, none⟩) hb1).trans (hcc (k * 2) (by omega))
        unfold lcell at this
        rw [show k * 2 / 2 = k by omega, hx, show k * 2 % 2 = 0 by omega] at this
        exact this
      have v2 : wr.cell? ⟨b1, o1 + k * 2 + 1, none⟩ = some (.slice (some ⟨x.b, 0, none⟩) x.ws.length x.cap) := by
        have := (hbw.cell (p := ⟨b1, o1 + (k * 2 + 1), none⟩) hb1).trans (hcc (k * 2 + 1) (by omega))
        unfold lcell at this
        rw [show (k * 2 + 1) / 2 = k by omega, hx, show (k * 2 + 1) % 2 = 1 by omega] at this
        exact this
      have hst := joinF_snoc_take ls k x hx
      have hle := joinF_le (ls.map (·.ws)) (k + 1)
      rw [hst] at hle
      simp only [List.length_append, List.length_cons, List.length_nil] at hle
      have hjl : (joinW x.ws).length ≤ 140737488355328 := by omega
      have hwl := hws x (List.mem_of_getElem? hx)
      have HJ : Hid (∀ Z, WR Z x.b x.ws → Calls Tryz.prog 43 #[.slice (some ⟨x.b, 0, none⟩) x.ws.length x.cap, .string ⟨#[32]⟩] Z fun e w' => e = .returned (.string ⟨(joinW x.ws).toArray⟩) ∧ Below Z.heap.size Z w') := Lib.hid fun Z hZ => joinw_any x.b x.cap x.ws Z hZ hcap hjl hwl
      have hwr1 : WR (wr.alloc (.cells #[.int .i64 (x.num : Nat), .slice (some ⟨x.b, 0, none⟩) x.ws.length x.cap] 97)) x.b x.ws := (hwr.below hbw hwr.lt).of_block (Below.heap_alloc _ _ _ (Nat.lt_of_lt_of_le hwr.lt hbw.size))
      have HST := Lib.hid hst
      have HI := Lib.hid hI
      have HBW := Lib.hid hbw
      generalize hJ : joinF ((ls.map (·.ws)).take k) = J at *
      generalize joinW x.ws = jw at *
      have i1 : (0 : Int) ≤ (k : Int) := by omega
      have i2 : (k : Int) < (n : Int) := by omega
      have i3 : IntKind.i64.wrap ((k : Int) + 1) = (k : Int) + 1 := IntWalk.i64_in _ (by omega)
      clear h1 h2 hN hws hcc hst hI hbw hJ hwr hne
      have hsz := HBW.out.size
      have hNb := HC.out.2.2.1
      go_wp2_with (go_at_call 43; refine (HJ.out _ hwr1).mono ?_; rintro e w4 ⟨rfl, hB4⟩)
      have I4 := bf_below (HI.out.alloc (.cells #[.int .i64 (x.num : Nat), .slice (some ⟨x.b, 0, none⟩) x.ws.length x.cap] 97)) hB4
      have b4 : Below w.heap.size w w4 := (HBW.out.alloc hsz _).trans (hB4.mono (by simp; omega))
      refine (ws_k w.heap.size w.heap.size _ ⟨jw.toArray⟩ w4 I4 (by rw [Lib.byteCells_length]; show J.length + jw.toArray.size ≤ _; rw [List.size_toArray]; omega) b4.size).mono ?_
      rintro e w5 ⟨rfl, hA5, hB5, _⟩
      have I5 : Lib.IsBuilderF 94 5 w.heap.size w.heap.size (Lib.byteCells (J ++ jw)) w5 := by
        rw [Lib.byteCells_append]
        exact Or.inr hA5
      have b5 := b4.trans hB5
      clear hA5 I4
      go_wp2_with fail
      refine (ws_k w.heap.size w.heap.size _ ⟨#[10]⟩ w5 I5 (by rw [Lib.byteCells_length, List.length_append]; show _ + 1 ≤ _; omega) b5.size).mono ?_
      rintro e w6 ⟨rfl, hA6, hB6, _⟩
      have I6 : Lib.IsBuilderF 94 5 w.heap.size w.heap.size (Lib.byteCells (J ++ (jw ++ [10]))) w6 := by
        rw [← List.append_assoc, Lib.byteCells_append]
        exact Or.inr hA6
      rw [← HST.out] at I6
      have b6 := b5.trans hB6
      have HI6 := Lib.hid (And.intro I6 b6)
      clear I6 b6 hA6
      go_wp2
      exact ⟨⟨k + 1, hlt, by go_num, HI6.out.1, HI6.out.2⟩, by simp [intOf]; omega⟩
    · obtain rfl : k = n := by omega
      have i2 : ¬ (k : Int) < (k : Int) := by omega
      have HT : Hid ((ls.map (·.ws)).take k = ls.map (·.ws)) := Lib.hid (List.take_of_length_le (by rw [List.length_map, HLN.out]; exact Nat.le_refl _))
      rw [HT.out] at hI
      have HI := Lib.hid hI
      have HBW := Lib.hid hbw
      clear h1 h2 hN hws hI hbw
      go_wp2_with (go_at_call 44; refine (Tryz.Builder_String_any_k w.heap.size w.heap.size _ _ HI.out HBW.out.size).mono ?_; rintro e w3 ⟨rfl, _, hB3, _⟩)
      go_ret
      exact ⟨rfl, HBW.out.trans hB3⟩
end Go.Proofs.YtlpcallgkciklaaGreatDoor

/-
  Lines of words by plain functions, more: what joined lines are; a text with a line more; a text with notes and blanks. Nothing here speaks of a program.
-/
namespace Go.Proofs.YtlpcallgkciklaaGreatDoor
open Go.RowKit

/-! ### lines put together -/
/-- A word: signs that may be, no blank, no note. -/
def GoodW (w : List UInt8) : Prop := w ≠ [] ∧ ∀ c ∈ w, okS c = true ∧ blk c = false ∧ c ≠ 35
theorem psh_good {out : List (List UInt8)} {w : List UInt8} (h1 : ∀ x ∈ out, GoodW x) (h2 : ∀ c ∈ w, okS c = true ∧ blk c = false ∧ c ≠ 35) : ∀ x ∈ psh out w, GoodW x := by
  cases w with
  | nil => exact h1
  | cons c t =>
    intro x hx
    have hx' : x ∈ out ++ [c :: t] := hx
    rcases List.mem_append.1 hx' with hx' | hx'
    · exact h1 x hx'
    · rw [List.mem_singleton] at hx'
      subst hx'
      exact ⟨List.cons_ne_nil _ _, h2⟩
theorem wdF_good : ∀ (l w : List UInt8) (out : List (List UInt8)), (∀ c ∈ l, okS c = true ∧ c ≠ 35) → (∀ x ∈ out, GoodW x) → (∀ c ∈ w, okS c = true ∧ blk c = false ∧ c ≠ 35) → ∀ x ∈ wdF l w out, GoodW x
  | [], w, out, _, h1, h2 => psh_good h1 h2
  | c :: t, w, out, h0, h1, h2 => by
    have hc := h0 c List.mem_cons_self
    have ht : ∀ d ∈ t, okS d = true ∧ d ≠ 35 := fun d hd => h0 d (List.mem_cons_of_mem _ hd)
    show ∀ x ∈ (if blk c = true then wdF t [] (psh out w) else wdF t (w ++ [c]) out), GoodW x
    split
    · exact wdF_good t [] _ ht (psh_good h1 h2) (fun c hc => by cases hc)
    · rename_i hb
      refine wdF_good t (w ++ [c]) out ht h1 (fun d hd => ?_)
      rcases List.mem_append.1 hd with hd | hd
      · exact h2 d hd
      · rw [List.mem_singleton] at hd
        subst hd
        exact ⟨hc.1, by simpa using hb, hc.2⟩
theorem nb_mem : ∀ {l : List UInt8}, ∀ c ∈ nb l, c ≠ 35
  | [], c, hc => by cases hc
  | d :: t, c, hc => by
    by_cases h : d = 35
    · subst h
      cases hc
    · rw [nb_cons d t h] at hc
      rcases List.mem_cons.1 hc with hc | hc
      · rw [hc]; exact h
      · exact nb_mem c hc
theorem wds_good {l : List UInt8} (h : (nb l).all okS = true) : ∀ x ∈ wds (nb l), GoodW x :=
  wdF_good (nb l) [] [] (fun c hc => ⟨List.all_eq_true.1 h c hc, nb_mem c hc⟩) (fun x hx => by cases hx) (fun c hc => by cases hc)
theorem wdF_word : ∀ (x r w : List UInt8) (out : List (List UInt8)), (∀ c ∈ x, blk c = false) → wdF (x ++ r) w out = wdF r (w ++ x) out
  | [], r, w, out, _ => by rw [List.nil_append, List.append_nil]
  | c :: t, r, w, out, h => by
    show (if blk c = true then _ else wdF (t ++ r) (w ++ [c]) out) = _
    rw [if_neg (by rw [h c List.mem_cons_self]; decide), wdF_word t r (w ++ [c]) out (fun d hd => h d (List.mem_cons_of_mem _ hd)), List.append_assoc]
    rfl
theorem wds_tail : ∀ (ws : List (List UInt8)) (w : List UInt8) (out : List (List UInt8)), w ≠ [] → (∀ x ∈ ws, GoodW x) → wdF (Lib.joinTail [32] ws) w out = out ++ w :: ws
  | [], w, out, hw, _ => psh_ne out hw
  | x :: r, w, out, hw, h => by
    have hx := h x List.mem_cons_self
    have e : Lib.joinTail [32] (x :: r) = 32 :: (x ++ Lib.joinTail [32] r) := by simp [Lib.joinTail]
    rw [e]
    show wdF (x ++ Lib.joinTail [32] r) [] (psh out w) = _
    rw [wdF_word x _ _ _ (fun c hc => (hx.2 c hc).2.1), List.nil_append, wds_tail r x _ hx.1 (fun y hy => h y (List.mem_cons_of_mem _ hy)), psh_ne out hw, List.append_assoc]
    rfl
theorem wds_join (ws : List (List UInt8)) (h : ∀ x ∈ ws, GoodW x) : wds (joinW ws) = ws := by
  cases ws with
  | nil => rfl
  | cons x r =>
    have hx := h x List.mem_cons_self
    unfold wds joinW
    rw [Lib.join_cons, wdF_word x _ _ _ (fun c hc => (hx.2 c hc).2.1), List.nil_append, wds_tail r x [] hx.1 (fun y hy => h y (List.mem_cons_of_mem _ hy))]
    rfl
theorem mem_tail {c : UInt8} : ∀ {r : List (List UInt8)}, c ∈ Lib.joinTail [32] r → c = 32 ∨ ∃ x ∈ r, c ∈ x
  | [], h => by cases h
  | x :: r, h => by
    have e : Lib.joinTail [32] (x :: r) = 32 :: (x ++ Lib.joinTail [32] r) := by simp [Lib.joinTail]
    rw [e] at h
    rcases List.mem_cons.1 h with h | h
    · exact .inl h
    · rcases List.mem_append.1 h with h | h
      · exact .inr ⟨x, List.mem_cons_self, h⟩
      · rcases mem_tail h with h | ⟨y, hy, hc⟩
        · exact .inl h
        · exact .inr ⟨y, List.mem_cons_of_mem _ hy, hc⟩
theorem joinW_sign {ws : List (List UInt8)} (h : ∀ x ∈ ws, GoodW x) : ∀ c ∈ joinW ws, okS c = true ∧ c ≠ 35 ∧ c ≠ 10 := by
  have word : ∀ x ∈ ws, ∀ c ∈ x, okS c = true ∧ c ≠ 35 ∧ c ≠ 10 := fun x hx c hc => by
    obtain ⟨h1, h2, h3⟩ := (h x hx).2 c hc
    refine ⟨h1, h3, fun e => ?_⟩
    subst e
    exact absurd h1 (by decide)
  intro c hc
  cases ws with
  | nil => cases hc
  | cons x r =>
    unfold joinW at hc
    rw [Lib.join_cons] at hc
    rcases List.mem_append.1 hc with hc | hc
    · exact word x List.mem_cons_self c hc
    · rcases mem_tail hc with hc | ⟨y, hy, hc⟩
      · subst hc
        exact ⟨by decide, by decide, by decide⟩
      · exact word y (List.mem_cons_of_mem _ hy) c hc
theorem nb_all {l : List UInt8} (h : ∀ c ∈ l, c ≠ 35) : nb l = l := by
  induction l with
  | nil => rfl
  | cons c t ih => rw [nb_cons c t (h c List.mem_cons_self), ih fun d hd => h d (List.mem_cons_of_mem _ hd)]
theorem lns_join : ∀ (l : List (List (List UInt8))), (∀ ws ∈ l, ∀ x ∈ ws, GoodW x) → lns (joinF l) = l.map joinW ++ [[]]
  | [], _ => rfl
  | ws :: r, h => by
    have e : joinF (ws :: r) = joinW ws ++ 10 :: joinF r := by simp [joinF]
    rw [e, lns_some _ _ (fun c hc => (joinW_sign (h ws List.mem_cons_self) c hc).2.2), lns_join r fun y hy => h y (List.mem_cons_of_mem _ hy)]
    rfl
/-- Lines with numbers from k on. -/
def numF : Nat → List (List (List UInt8)) → List (Nat × List (List UInt8))
  | _, [] => []
  | k, ws :: r => (k, ws) :: numF (k + 1) r
theorem numF_at : ∀ (l : List (List (List UInt8))) (k i : Nat), (numF k l)[i]? = l[i]?.map fun ws => (k + i, ws)
  | [], _, _ => rfl
  | ws :: r, k, 0 => rfl
  | ws :: r, k, i + 1 => by
    show (numF (k + 1) r)[i]? = r[i]?.map _
    rw [numF_at r (k + 1) i]
    congr 1
    funext ws
    rw [show k + 1 + i = k + (i + 1) by omega]
theorem numF_length (l : List (List (List UInt8))) : ∀ k, (numF k l).length = l.length := by
  induction l with
  | nil => intro k; rfl
  | cons x r ih => intro k; show (numF (k + 1) r).length + 1 = _; rw [ih]; rfl
theorem scan_join : ∀ (l : List (List (List UInt8))) (k : Nat) (acc : List (Nat × List (List UInt8))), (∀ ws ∈ l, ws ≠ [] ∧ ∀ x ∈ ws, GoodW x) → scan k (l.map joinW ++ [[]]) acc = (acc ++ numF k l, 0)
  | [], k, acc, _ => by
    show (acc, 0) = _
    simp [numF]
  | ws :: r, k, acc, h => by
    obtain ⟨h1, h2⟩ := h ws List.mem_cons_self
    have hs := joinW_sign h2
    have hn : nb (joinW ws) = joinW ws := nb_all fun c hc => (hs c hc).2.1
    show (if (nb (joinW ws)).all okS = true then scan (k + 1) (r.map joinW ++ [[]]) (if wds (nb (joinW ws)) = [] then acc else acc ++ [(k, wds (nb (joinW ws)))]) else ([], k)) = _
    rw [hn, if_pos (List.all_eq_true.2 fun c hc => (hs c hc).1), wds_join ws h2, if_neg h1, scan_join r (k + 1) _ fun y hy => h y (List.mem_cons_of_mem _ hy), List.append_assoc]
    rfl
theorem lines_join (l : List (List (List UInt8))) (h : ∀ ws ∈ l, ws ≠ [] ∧ ∀ x ∈ ws, GoodW x) : linesF (joinF l) = (numF 1 l, 0) := by
  unfold linesF
  rw [lns_join l fun ws hws => (h ws hws).2, scan_join l 1 [] h]
  rfl
/-- The lines that count have words. -/
theorem scan_good : ∀ (lines : List (List UInt8)) (n : Nat) (acc : List (Nat × List (List UInt8))), (∀ x ∈ acc, x.2 ≠ [] ∧ ∀ w ∈ x.2, GoodW w) → ∀ x ∈ (scan n lines acc).1, x.2 ≠ [] ∧ ∀ w ∈ x.2, GoodW w
  | [], _, acc, h, x, hx => h x hx
  | l :: r, n, acc, h, x, hx => by
    have hx' : x ∈ (if (nb l).all okS = true then scan (n + 1) r (if wds (nb l) = [] then acc else acc ++ [(n, wds (nb l))]) else ([], n)).1 := hx
    split at hx'
    · rename_i hok
      refine scan_good r (n + 1) _ ?_ x hx'
      intro y hy
      split at hy
      · exact h y hy
      · rename_i hne
        rcases List.mem_append.1 hy with hy | hy
        · exact h y hy
        · rw [List.mem_singleton] at hy
          subst hy
          exact ⟨hne, wds_good hok⟩
    · cases hx'
theorem lines_good (L : List UInt8) : ∀ x ∈ (linesF L).1, x.2 ≠ [] ∧ ∀ w ∈ x.2, GoodW w := scan_good _ _ _ fun x hx => by cases hx

/-! ### how long joined lines are -/
theorem joinT_len (r : List (List UInt8)) : (Lib.joinTail [32] r).length = (r.map fun x => x.length + 1).sum := by
  induction r with
  | nil => rfl
  | cons x r ih =>
    have e : Lib.joinTail [32] (x :: r) = 32 :: (x ++ Lib.joinTail [32] r) := by simp [Lib.joinTail]
    rw [e, List.length_cons, List.length_append, ih, List.map_cons, List.sum_cons]
    omega
theorem joinW_len (ws : List (List UInt8)) : (joinW ws).length ≤ (ws.map fun x => x.length + 1).sum := by
  cases ws with
  | nil => exact Nat.le_refl _
  | cons x r =>
    unfold joinW
    rw [Lib.join_cons, List.length_append, joinT_len, List.map_cons, List.sum_cons]
    omega
theorem psh_sum (out : List (List UInt8)) (w : List UInt8) : ((psh out w).map fun x => x.length + 1).sum ≤ (out.map fun x => x.length + 1).sum + w.length + 1 := by
  cases w with
  | nil => exact Nat.le_succ _
  | cons c t =>
    show ((out ++ [c :: t]).map fun x => x.length + 1).sum ≤ _
    rw [List.map_append, List.sum_append]
    simp
    omega
theorem wdF_sum : ∀ (l w : List UInt8) (out : List (List UInt8)), ((wdF l w out).map fun x => x.length + 1).sum ≤ (out.map fun x => x.length + 1).sum + w.length + l.length + 1
  | [], w, out => psh_sum out w
  | c :: t, w, out => by
    show ((if blk c = true then wdF t [] (psh out w) else wdF t (w ++ [c]) out).map fun x => x.length + 1).sum ≤ _
    split
    · have h1 := wdF_sum t [] (psh out w)
      have h2 := psh_sum out w
      simp only [List.length_nil, List.length_cons] at h1 ⊢
      omega
    · have h1 := wdF_sum t (w ++ [c]) out
      simp only [List.length_append, List.length_cons, List.length_nil] at h1 ⊢
      omega
theorem scan_sum : ∀ (lines : List (List UInt8)) (n : Nat) (acc : List (Nat × List (List UInt8))), (joinF ((scan n lines acc).1.map (·.2))).length ≤ (joinF (acc.map (·.2))).length + (lines.map fun l => l.length + 2).sum
  | [], _, acc => Nat.le_refl _
  | l :: r, n, acc => by
    show (joinF ((if (nb l).all okS = true then scan (n + 1) r (if wds (nb l) = [] then acc else acc ++ [(n, wds (nb l))]) else ([], n)).1.map (·.2))).length ≤ _
    rw [List.map_cons, List.sum_cons]
    split
    · have h1 := scan_sum r (n + 1) (if wds (nb l) = [] then acc else acc ++ [(n, wds (nb l))])
      have h2 : (joinF ((if wds (nb l) = [] then acc else acc ++ [(n, wds (nb l))]).map (·.2))).length ≤ (joinF (acc.map (·.2))).length + (l.length + 2) := by
        split
        · omega
        · rw [List.map_append]
          show (joinF (acc.map (·.2) ++ [wds (nb l)])).length ≤ _
          rw [joinF_snoc, List.length_append, List.length_append]
          have e1 := joinW_len (wds (nb l))
          have e2 := wdF_sum (nb l) [] []
          have e3 : (nb l).length ≤ l.length := (List.takeWhile_sublist _).length_le
          have e4 : wdF (nb l) [] [] = wds (nb l) := rfl
          rw [e4] at e2
          simp only [List.map_nil, List.sum_nil, List.length_nil, List.length_cons] at e2 ⊢
          omega
      omega
    · show 0 ≤ _
      omega
theorem lns_sum : ∀ (l : List UInt8), ((lns l).map fun x => x.length + 2).sum ≤ 2 * l.length + 2
  | [] => Nat.le_refl _
  | c :: t => by
    have ih := lns_sum t
    unfold lns
    split
    · simp only [List.map_cons, List.sum_cons, List.length_nil, List.length_cons]; omega
    · split
      · simp
        omega
      · rename_i x r e
        rw [e] at ih
        simp only [List.map_cons, List.sum_cons, List.length_cons] at ih ⊢
        omega
theorem joinF_len (L : List UInt8) : (joinF ((linesF L).1.map (·.2))).length ≤ 2 * L.length + 2 := by
  have h1 := scan_sum (lns L) 1 []
  have h2 := lns_sum L
  have e : (joinF (([] : List (Nat × List (List UInt8))).map (·.2))).length = 0 := rfl
  rw [e] at h1
  have h3 : scan 1 (lns L) [] = linesF L := rfl
  rw [h3] at h1
  omega
end Go.Proofs.YtlpcallgkciklaaGreatDoor

/-
  What Lines tells of a text that is right, and of another one; a text with a line more behind it.
-/
namespace Go.Proofs.YtlpcallgkciklaaGreatDoor
open Go.RowKit

theorem tell_ws (ls : List Ln) : ls.map (·.ws) = (ls.map Ln.tell).map (·.2) := by
  rw [List.map_map]; rfl
/-- What Lines tells of a text that is right. -/
def OkL (W : World) (L : List UInt8) (e : Ending) (w' : World) : Prop :=
  ∃ A c ls, e = .returned (.tuple #[.slice A ls.length c, .int .i64 0, .int .i64 0]) ∧ (ls.map Ln.tell = (linesF L).1 ∧ OwnC w' W.heap.size 97 2 A ls.length c (lcell ls) ∧ LR w' ls) ∧ Below W.heap.size W w'
theorem lines_okL (s : ByteArray) (hs : s.size ≤ 65536) (hz : (linesF s.data.toList).2 = 0) (W : World) : Calls Tryz.prog 29 #[.string s] W (OkL W s.data.toList) :=
  (lines_any s hs W).mono fun e w' hh => by
    obtain ⟨hc, hb⟩ := hh
    rcases hc with ⟨_, A, c, ls, he, h1, h2, h3⟩ | ⟨h0, _⟩
    · exact ⟨A, c, ls, he, ⟨h1, h2, h3⟩, hb⟩
    · exact absurd hz h0
theorem lines_noL (s : ByteArray) (hs : s.size ≤ 65536) (hz : (linesF s.data.toList).2 ≠ 0) (W : World) : Calls Tryz.prog 29 #[.string s] W fun e w' => e = .returned (.tuple #[.slice none 0 0, .int .i64 ((linesF s.data.toList).2 : Nat), .int .i64 13]) ∧ Below W.heap.size W w' :=
  (lines_any s hs W).mono fun e w' hh => by
    obtain ⟨hc, hb⟩ := hh
    rcases hc with ⟨h0, _⟩ | ⟨_, he⟩
    · exact absurd h0 hz
    · exact ⟨he, hb⟩
theorem scan_len : ∀ (lines : List (List UInt8)) (n : Nat) (acc : List (Nat × List (List UInt8))), (scan n lines acc).1.length ≤ acc.length + lines.length
  | [], _, acc => Nat.le_refl _
  | l :: r, n, acc => by
    show (if (nb l).all okS = true then scan (n + 1) r (if wds (nb l) = [] then acc else acc ++ [(n, wds (nb l))]) else ([], n)).1.length ≤ _
    split
    · have h1 := scan_len r (n + 1) (if wds (nb l) = [] then acc else acc ++ [(n, wds (nb l))])
      have h2 : (if wds (nb l) = [] then acc else acc ++ [(n, wds (nb l))]).length ≤ acc.length + 1 := by
        split
        · omega
        · simp
      simp only [List.length_cons]
      omega
    · exact Nat.zero_le _
theorem lines_okL_len {L : List UInt8} {ls : List Ln} (h : ls.map Ln.tell = (linesF L).1) : ls.length ≤ L.length + 1 := by
  have h1 := scan_len (lns L) 1 []
  have h2 := (lns_length L).2
  have h3 := congrArg List.length h
  rw [List.length_map] at h3
  have h4 : scan 1 (lns L) [] = linesF L := rfl
  rw [h4] at h1
  simp only [List.length_nil] at h1
  omega
theorem numF_ws (l : List (List (List UInt8))) (k : Nat) : (numF k l).map (·.2) = l := by
  apply List.ext_getElem?
  intro i
  rw [List.getElem?_map, numF_at]
  cases l[i]? <;> rfl

theorem lines_some (s : ByteArray) (hs : s.size ≤ 65536) (W : World) : Calls Tryz.prog 29 #[.string s] W fun e w' => ∃ A n c k k', e = .returned (.tuple #[.slice A n c, .int .i64 k, .int .i64 k']) ∧ Below W.heap.size W w' :=
  (lines_any s hs W).mono fun e w' hh => by
    obtain ⟨hc, hb⟩ := hh
    rcases hc with ⟨_, A, c, ls, he, h1, h2, h3⟩ | ⟨_, he⟩
    · exact ⟨A, _, c, _, _, he, hb⟩
    · exact ⟨none, 0, 0, _, _, he, hb⟩
theorem lns_app : ∀ (l r : List UInt8), lns (l ++ 10 :: r) = lns l ++ lns r
  | [], r => by
    show (if (10 : UInt8) = 10 then [] :: lns r else _) = _
    rw [if_pos rfl]
    rfl
  | c :: t, r => by
    have ih := lns_app t r
    by_cases h : c = 10
    · show (if c = 10 then [] :: lns (t ++ 10 :: r) else _) = (if c = 10 then [] :: lns t else _) ++ _
      rw [if_pos h, if_pos h, ih]
      rfl
    · show (if c = 10 then _ else match lns (t ++ 10 :: r) with | [] => [[c]] | x :: q => (c :: x) :: q) = (if c = 10 then _ else match lns t with | [] => [[c]] | x :: q => (c :: x) :: q) ++ _
      rw [if_neg h, if_neg h, ih]
      cases ht : lns t with
      | nil =>
        have := (lns_length t).1
        rw [ht] at this
        simp at this
      | cons x q => rfl
theorem lns_cons_len (c : UInt8) (t : List UInt8) : (lns (c :: t)).length = (lns t).length + (if c = 10 then 1 else 0) := by
  by_cases h : c = 10
  · show (if c = 10 then [] :: lns t else _ : List (List UInt8)).length = _
    rw [if_pos h, if_pos h]
    rfl
  · show (if c = 10 then _ else match lns t with | [] => [[c]] | x :: q => (c :: x) :: q : List (List UInt8)).length = _
    rw [if_neg h, if_neg h]
    cases ht : lns t with
    | nil =>
      have := (lns_length t).1
      rw [ht] at this
      simp at this
    | cons x q => rfl
theorem lns_snoc_len (c : UInt8) : ∀ (l : List UInt8), (lns (l ++ [c])).length = (lns l).length + (if c = 10 then 1 else 0)
  | [] => lns_cons_len c []
  | d :: t => by
    show (lns (d :: (t ++ [c]))).length = _
    rw [lns_cons_len, lns_cons_len, lns_snoc_len c t]
    omega
theorem many_step (L : List UInt8) (i : Nat) (b : UInt8) (h : L[i]? = some b) : (lns (L.take (i + 1))).length = (lns (L.take i)).length + (if b = 10 then 1 else 0) := by
  rw [List.take_add_one, h]
  exact lns_snoc_len b _
theorem scan_app (b : List (List UInt8)) : ∀ (a : List (List UInt8)) (n : Nat) (acc : List (Nat × List (List UInt8))), 1 ≤ n → scan n (a ++ b) acc = if (scan n a acc).2 = 0 then scan (n + a.length) b (scan n a acc).1 else ([], (scan n a acc).2)
  | [], n, acc, _ => rfl
  | l :: r, n, acc, hn => by
    show (if (nb l).all okS = true then scan (n + 1) (r ++ b) (if wds (nb l) = [] then acc else acc ++ [(n, wds (nb l))]) else ([], n)) = _
    have e : scan n (l :: r) acc = if (nb l).all okS = true then scan (n + 1) r (if wds (nb l) = [] then acc else acc ++ [(n, wds (nb l))]) else ([], n) := rfl
    rw [e]
    by_cases h : (nb l).all okS = true
    · rw [if_pos h, if_pos h, scan_app b r (n + 1) _ (by omega), List.length_cons, show n + (r.length + 1) = n + 1 + r.length by omega]
    · rw [if_neg h, if_neg h, if_neg (by show ¬ n = 0; omega)]
theorem scan_one (k : Nat) (m : List UInt8) (acc : List (Nat × List (List UInt8))) : scan k [m] acc = if (nb m).all okS = true then (if wds (nb m) = [] then acc else acc ++ [(k, wds (nb m))], 0) else ([], k) := rfl
theorem lines_more (L M : List UInt8) (hM : ∀ c ∈ M, c ≠ 10) : linesF (L ++ 10 :: M) = if (linesF L).2 = 0 then scan (nl L + 1) [M] (linesF L).1 else ([], (linesF L).2) := by
  have h := scan_app [M] (lns L) 1 [] (Nat.le_refl _)
  have e1 : scan 1 (lns L) [] = linesF L := rfl
  rw [e1] at h
  have e2 : linesF (L ++ 10 :: M) = scan 1 (lns L ++ [M]) [] := by
    unfold linesF
    rw [lns_app, lns_none M hM]
  rw [e2, h, Nat.add_comm 1]
theorem lines_lone (M : List UInt8) (hM : ∀ c ∈ M, c ≠ 10) : linesF M = scan 1 [M] [] := by
  unfold linesF
  rw [lns_none M hM]
end Go.Proofs.YtlpcallgkciklaaGreatDoor
