/-
  Layer 21: asm.Assemble, asm.Size; the program of items of which none is a mark and none jumps; the chapter's example.
-/
import Derived.Test.YtiofgaadfbjnoaaAs10
import Derived.Test.YtiofgaadfbjnoaaAs3
namespace Go.Proofs.Ytiofgaadfbjnoaa
open Go.RowKit Go.Shelf
set_option linter.unusedVariables false

theorem rSt_more (l : List IT) (x : IT) : (rSt l).2.length ≤ (rSt (l ++ [x])).2.length := by
  rw [rSt_snoc]
  unfold rStep
  split <;> simp
theorem rch_pos : ∀ (l : List IT), l ≠ [] → 0 < (rchI l).length := fun l => by
  induction l using snocInd with
  | nil => intro h; exact absurd rfl h
  | snoc l x ih =>
    intro _
    by_cases h : l = []
    · subst h
      show 0 < (rSt ([] ++ [x])).2.length
      rw [rSt_snoc]
      unfold rStep
      rw [if_pos (by simp [rSt])]
      simp [rSt]
    · exact Nat.lt_of_lt_of_le (ih h) (rSt_more l x)

/-- No mark, no jump. -/
def plainI (x : IT) : Prop := x.m = 0 ∧ x.t = 0 ∧ x.f = 0 ∧ ik x ≠ 13 ∧ isBrK (ik x) = false
def iv (x : IT) : IV := ⟨x.c, 0, 0, x.k⟩
theorem pSt_plain : ∀ (l : List IT), (∀ x ∈ l, plainI x) → (pSt l).1 = l.map iv := fun l => by
  induction l using snocInd with
  | nil => intro _; rfl
  | snoc l x ih =>
    intro h
    obtain ⟨h1, h2, h3, h4, _⟩ := h x (by simp)
    rw [pSt_snoc]
    unfold pStep
    rw [if_neg (by rw [h1]; simp), if_neg h4, h2, h3, if_neg (by simp [farN])]
    rw [ih fun y hy => h y (List.mem_append.2 (.inl hy)), List.map_append]
    rfl
theorem progI_plain (l : List IT) (h : ∀ x ∈ rchI l, plainI x) : progI l = (rchI l).map iv := by
  unfold progI
  rw [pSt_plain _ fun x hx => h x (List.mem_reverse.1 hx), List.map_reverse, List.reverse_reverse]
/-- What leads on. -/
theorem rSt_on : ∀ (l : List IT), (∀ x ∈ l, plainI x ∧ ik x ≠ 14 ∧ ik x ≠ 15) → rSt l = ((fun k => decide (k = 0)), l) := fun l => by
  induction l using snocInd with
  | nil => intro _; rfl
  | snoc l x ih =>
    intro h
    obtain ⟨⟨h1, h2, h3, h4, h5⟩, h6, h7⟩ := h x (by simp)
    rw [rSt_snoc, ih fun y hy => h y (List.mem_append.2 (.inl hy))]
    unfold rStep
    rw [if_pos (by simp)]
    have hl : ledS (fun k => decide (k = 0)) x = fun k => decide (k = 0) := by
      funext k
      unfold ledS leadsI
      rw [if_neg (by rintro (h | h); exact h6 h; exact h7 h), if_neg h4, if_neg (by rw [h5]; decide)]
      by_cases e : k = 0 <;> simp [e]
    rw [hl]
theorem rchI_ret (l : List IT) (x : IT) (h : ∀ x ∈ l, plainI x ∧ ik x ≠ 14 ∧ ik x ≠ 15) : rchI (l ++ [x]) = l ++ [x] := by
  show (rSt (l ++ [x])).2 = _
  rw [rSt_snoc, rSt_on l h]
  unfold rStep
  rw [if_pos (by simp)]

theorem size_ok (A : Option Addr) (n c : Nat) (l : List IT) (w : World) (hn : l.length = n) (hn1 : n ≤ 1000000) (hr : Cel w w.heap.size 5 A n c (itcell fun i => l[i]!)) (hok : ∀ x ∈ l, x.ok) (hF : FormedI l) :
    Calls Try.prog 9 #[.slice A n c] w fun e w' => e = .returned (.int .i64 ((progI l).length : Nat)) ∧ Below w.heap.size w w' := by
  have HG := Lib.hid (gFormed_ok A n c l w hn hn1 hr hok hF)
  have HP := Lib.hid (fun w1 (hb : Below w.heap.size w w1) => programOf_any A n c l w1 hn hn1 ((hr.below hb).more hb.size) hok (rch_pos l hF.2.2.1))
  have hl := progI_len l
  rw [hn] at hl
  clear hr hok hF
  go_enter Try.func9, Try.ntmps9
  go_wp2_with (first
    | (go_at_call 17
       refine HG.out.mono ?_
       rintro e w1 ⟨rfl, hB1⟩)
    | (go_at_call 18
       refine (HP.out _ hB1).mono ?_
       rintro e w2 ⟨A2, c2, rfl, _, hB2⟩
       have hb2 := hB1.trans (hB2.mono hB1.size)))
  go_ret
  exact ⟨rfl, hb2⟩
/-- What is told of a program: none, if check finds something. -/
theorem assemble_ok (A : Option Addr) (n c : Nat) (l : List IT) (w : World) (hn : l.length = n) (hn1 : n ≤ 1000000) (hr : Cel w w.heap.size 5 A n c (itcell fun i => l[i]!)) (hok : ∀ x ∈ l, x.ok) (hF : FormedI l) (E : Nat) (hE : (checkF (fun i => (progI l)[i]!) (progI l).length).2 = E) :
    Calls Try.prog 8 #[.slice A n c] w fun e w' => ∃ A' n' c', e = .returned (.tuple #[.slice A' n' c', .int .i64 (E : Nat)]) ∧ Below w.heap.size w w' ∧ (E ≠ 0 → A' = none ∧ n' = 0 ∧ c' = 0) ∧ (E = 0 → n' = (progI l).length ∧ OwnC w' w.heap.size 52 4 A' n' c' (icell fun i => (progI l)[i]!)) := by
  have HG := Lib.hid (gFormed_ok A n c l w hn hn1 hr hok hF)
  have HP := Lib.hid (fun w1 (hb : Below w.heap.size w w1) => programOf_any A n c l w1 hn hn1 ((hr.below hb).more hb.size) hok (rch_pos l hF.2.2.1))
  have HC : Hid (∀ (w1 : World) A1 c1, Cel w1 w1.heap.size 4 A1 (progI l).length c1 (icell fun i => (progI l)[i]!) → Calls Try.prog 19 #[.slice A1 (progI l).length c1] w1 fun e w' => ∃ z : Int, e = .returned (.tuple #[.int .i64 z, .int .i64 (E : Nat)]) ∧ Below w1.heap.size w1 w') := Lib.hid fun w1 A1 c1 h1 => by
    refine (check_any A1 _ c1 _ w1 ⟨h1, fun i hi => ?_⟩).mono ?_
    · show ((progI l)[i]!).ok
      rw [getElem!_pos (progI l) i hi]
      exact progI_ok l (by omega) hok _ (List.getElem_mem _)
    · rintro e w' ⟨rfl, hB⟩
      exact ⟨_, by rw [hE], hB⟩
  have hl := progI_len l
  rw [hn] at hl
  obtain ⟨m, hm⟩ : ∃ m, (progI l).length = m := ⟨_, rfl⟩
  rw [hm] at HP HC hl ⊢
  clear hr hok hF hE hm
  by_cases h0 : E = 0
  · subst h0
    go_enter Try.func8, Try.ntmps8
    go_wp2_with (first
      | (go_at_call 17
         refine HG.out.mono ?_
         rintro e w1 ⟨rfl, hB1⟩)
      | (go_at_call 18
         refine (HP.out _ hB1).mono ?_
         rintro e w2 ⟨A2, c2, rfl, hO2, hB2⟩
         have hb2 := hB1.trans (hB2.mono hB1.size)
         have HO2 := Lib.hid hO2
         clear hO2)
      | (go_at_call 19
         refine (HC.out _ _ _ HO2.out.cel).mono ?_
         rintro e w3 ⟨z, rfl, hB3⟩
         have hb3 := hb2.trans (hB3.mono hb2.size)))
    go_ret2
    exact ⟨A2, m, c2, rfl, hb3, fun h => absurd rfl h, fun _ => ⟨rfl, (HO2.out.below hB3 (Nat.le_refl _)).lower hB1.size⟩⟩
  · have t0 : (((E : Nat) : Int) != 0) = true := by simp; omega
    go_enter Try.func8, Try.ntmps8
    go_wp2_with (first
      | (go_at_call 17
         refine HG.out.mono ?_
         rintro e w1 ⟨rfl, hB1⟩)
      | (go_at_call 18
         refine (HP.out _ hB1).mono ?_
         rintro e w2 ⟨A2, c2, rfl, hO2, hB2⟩
         have hb2 := hB1.trans (hB2.mono hB1.size)
         have HO2 := Lib.hid hO2
         clear hO2)
      | (go_at_call 19
         refine (HC.out _ _ _ HO2.out.cel).mono ?_
         rintro e w3 ⟨z, rfl, hB3⟩
         have hb3 := hb2.trans (hB3.mono hb2.size)))
    go_ret2
    exact ⟨none, 0, 0, rfl, hb3, fun _ => ⟨rfl, rfl, rfl⟩, fun h => absurd h h0⟩
end Go.Proofs.Ytiofgaadfbjnoaa
