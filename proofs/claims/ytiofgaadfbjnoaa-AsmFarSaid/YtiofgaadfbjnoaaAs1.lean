/-
  Layer 21, pure: items as numbers; when they are formed; which of them some way leads to; the program of items; and items in memory.
-/
import Derived.Test.YtiofgaadfbjnoaaKk
namespace Go.Proofs.Ytiofgaadfbjnoaa
open Go.RowKit Go.Shelf
set_option linter.unusedVariables false

theorem snocInd {α : Type} {motive : List α → Prop} (nil : motive []) (snoc : ∀ l x, motive l → motive (l ++ [x])) (l : List α) : motive l := by
  have h : ∀ l : List α, motive l.reverse := fun l => by
    induction l with
    | nil => exact nil
    | cons x l ih => rw [List.reverse_cons]; exact snoc _ _ ih
  have h2 := h l.reverse
  rwa [List.reverse_reverse] at h2
/-- An item as numbers. -/
structure IT where
  m : Int
  c : Nat
  k : Nat
  t : Int
  f : Int
instance : Inhabited IT := ⟨⟨0, 0, 0, 0, 0⟩⟩
instance : Inhabited IV := ⟨⟨0, 0, 0, 0⟩⟩
def IT.ok (x : IT) : Prop := x.c < 65536 ∧ x.k < 4294967296 ∧ (Lit.int .i64 x.m).wf = true ∧ (Lit.int .i64 x.t).wf = true ∧ (Lit.int .i64 x.f).wf = true
/-- What its code means. -/
def ik (x : IT) : Int := (ofF x.c).1
theorem ik_range (x : IT) : 0 ≤ ik x ∧ ik x ≤ 28 := ofF_range _
def isBrK (K : Int) : Bool := K == 25 || K == 26 || K == 27 || K == 28
/-- The marks to which it may lead, 0 the next one. -/
def leadsI (x : IT) : List Int := if ik x = 14 ∨ ik x = 15 then [] else if ik x = 13 then [x.t] else if isBrK (ik x) = true then [x.t, x.f] else [0]
/-- The marks that are led to behind an item that some way leads to. -/
def ledS (S : Int → Bool) (x : IT) : Int → Bool := fun k => (decide (k ≠ 0) && S k) || (leadsI x).contains k
def rStep (st : (Int → Bool) × List IT) (x : IT) : (Int → Bool) × List IT := if (st.1 0 || st.1 x.m) = true then (ledS st.1 x, st.2 ++ [x]) else st
def rSt (l : List IT) : (Int → Bool) × List IT := l.foldl rStep ((fun k => decide (k = 0)), [])
theorem rSt_snoc (l : List IT) (x : IT) : rSt (l ++ [x]) = rStep (rSt l) x := by simp [rSt]
/-- The items that some way leads to. -/
def rchI (l : List IT) : List IT := (rSt l).2
theorem rSt_len : ∀ (l : List IT), (rSt l).2.length ≤ l.length := fun l => by
  induction l using snocInd with
  | nil => exact Nat.le_refl _
  | snoc l x ih =>
    rw [rSt_snoc]
    unfold rStep
    split
    · simp only [List.length_append, List.length_cons, List.length_nil]; omega
    · simp only [List.length_append, List.length_cons, List.length_nil]; omega
theorem rSt_mem : ∀ (l : List IT), ∀ x ∈ (rSt l).2, x ∈ l := fun l => by
  induction l using snocInd with
  | nil => intro x hx; cases hx
  | snoc l y ih =>
    intro x hx
    rw [rSt_snoc] at hx
    unfold rStep at hx
    split at hx
    · rcases List.mem_append.1 hx with hx | hx
      · exact List.mem_append.2 (.inl (ih x hx))
      · exact List.mem_append.2 (.inr hx)
    · exact List.mem_append.2 (.inl (ih x hx))
/-- How far a mark is, from the end of what stands behind. -/
def farN (P : List IV) (pl : Int → Nat) (to : Int) : Nat := if to = 0 then 0 else P.length - pl to
def pStep (st : List IV × (Int → Nat)) (x : IT) : List IV × (Int → Nat) :=
  if x.m ≠ 0 then (st.1, fun k => if k = x.m then st.1.length else st.2 k)
  else if ik x = 13 then (st.1 ++ [⟨5, 0, 0, farN st.1 st.2 x.t⟩], st.2)
  else if 255 < farN st.1 st.2 x.t ∨ 255 < farN st.1 st.2 x.f then (st.1 ++ [⟨5, 0, 0, farN st.1 st.2 x.f⟩, ⟨5, 0, 0, farN st.1 st.2 x.t + 1⟩, ⟨x.c, 0, 1, x.k⟩], st.2)
  else (st.1 ++ [⟨x.c, farN st.1 st.2 x.t, farN st.1 st.2 x.f, x.k⟩], st.2)
def pSt (l : List IT) : List IV × (Int → Nat) := l.foldl pStep ([], fun _ => 0)
theorem pSt_snoc (l : List IT) (x : IT) : pSt (l ++ [x]) = pStep (pSt l) x := by simp [pSt]
/-- The program of items. -/
def progI (l : List IT) : List IV := (pSt (rchI l).reverse).1.reverse
theorem pSt_bound : ∀ (l : List IT), (pSt l).1.length ≤ 3 * l.length ∧ ∀ k, (pSt l).2 k ≤ (pSt l).1.length := fun l => by
  induction l using snocInd with
  | nil => exact ⟨Nat.le_refl _, fun _ => Nat.le_refl _⟩
  | snoc l x ih =>
    obtain ⟨h1, h2⟩ := ih
    rw [pSt_snoc]
    unfold pStep
    repeat' split
    all_goals simp only [List.length_append, List.length_cons, List.length_nil]
    · refine ⟨by omega, fun k => ?_⟩
      split
      · exact Nat.le_refl _
      · exact h2 k
    all_goals exact ⟨by omega, fun k => Nat.le_trans (h2 k) (by omega)⟩
theorem farN_le (P : List IV) (pl : Int → Nat) (to : Int) : farN P pl to ≤ P.length := by
  unfold farN
  split <;> omega
theorem progI_len (l : List IT) : (progI l).length ≤ 3 * l.length := by
  have h1 := (pSt_bound (rchI l).reverse).1
  have h2 := rSt_len l
  unfold progI
  rw [List.length_reverse]
  rw [List.length_reverse] at h1
  have h3 : (rchI l).length ≤ l.length := h2
  omega
theorem pSt_ok : ∀ (l : List IT), l.length ≤ 1000000 → (∀ x ∈ l, x.ok) → ∀ v ∈ (pSt l).1, v.ok := fun l => by
  induction l using snocInd with
  | nil => intro _ _ v hv; cases hv
  | snoc l x ih =>
    intro hl hx v hv
    rw [List.length_append] at hl
    simp only [List.length_cons, List.length_nil] at hl
    have ihv := ih (by omega) fun y hy => hx y (List.mem_append.2 (.inl hy))
    have hxo := hx x (by simp)
    obtain ⟨b1, b2⟩ := pSt_bound l
    have ft := farN_le (pSt l).1 (pSt l).2 x.t
    have ff := farN_le (pSt l).1 (pSt l).2 x.f
    rw [pSt_snoc] at hv
    unfold pStep at hv
    split at hv
    · exact ihv v hv
    · split at hv
      · rcases List.mem_append.1 hv with hv | hv
        · exact ihv v hv
        · rw [List.mem_singleton] at hv
          subst hv
          exact ⟨by show 5 < 65536; omega, by show 0 < 256; omega, by show 0 < 256; omega, by show farN _ _ _ < 4294967296; omega⟩
      · split at hv
        · rcases List.mem_append.1 hv with hv | hv
          · exact ihv v hv
          · simp only [List.mem_cons, List.not_mem_nil, or_false] at hv
            rcases hv with rfl | rfl | rfl
            · exact ⟨by show 5 < 65536; omega, by show 0 < 256; omega, by show 0 < 256; omega, by show farN _ _ _ < 4294967296; omega⟩
            · exact ⟨by show 5 < 65536; omega, by show 0 < 256; omega, by show 0 < 256; omega, by show farN _ _ _ + 1 < 4294967296; omega⟩
            · exact ⟨hxo.1, by show 0 < 256; omega, by show 1 < 256; omega, hxo.2.1⟩
        · rename_i hn
          rcases List.mem_append.1 hv with hv | hv
          · exact ihv v hv
          · rw [List.mem_singleton] at hv
            subst hv
            exact ⟨hxo.1, by show farN _ _ _ < 256; omega, by show farN _ _ _ < 256; omega, hxo.2.1⟩
theorem progI_ok (l : List IT) (hl : l.length ≤ 1000000) (hx : ∀ x ∈ l, x.ok) : ∀ v ∈ progI l, v.ok := fun v hv => by
  unfold progI at hv
  refine pSt_ok (rchI l).reverse ?_ ?_ v (List.mem_reverse.1 hv)
  · rw [List.length_reverse]
    have h2 : (rchI l).length ≤ l.length := rSt_len l
    omega
  · intro x hx2
    exact hx x (rSt_mem l x (List.mem_reverse.1 hx2))

/-! ### when items are formed -/
def MarkOk (l : List IT) (i : Nat) : Prop := l[i]!.m ≠ 0 → (∀ j, j < i → l[j]!.m ≠ l[i]!.m) ∧ 0 ≤ l[i]!.m ∧ l[i]!.c = 0 ∧ l[i]!.k = 0 ∧ l[i]!.t = 0 ∧ l[i]!.f = 0
def BehindI (l : List IT) (i : Nat) (to : Int) : Prop := to = 0 ∨ ∃ j, i < j ∧ j < l.length ∧ l[j]!.m = to
def mayN (x : IT) : Bool := if isBrK (ik x) = true then true else if ik x = 13 then x.f == 0 else x.t == 0 && x.f == 0
def ItemOk (l : List IT) (i : Nat) : Prop := (ofF l[i]!.c).2.2 = true ∧ mayN l[i]! = true ∧ BehindI l i l[i]!.t ∧ BehindI l i l[i]!.f
def FormedI (l : List IT) : Prop := (∀ i, i < l.length → MarkOk l i) ∧ (∀ i, i < l.length → ItemOk l i) ∧ l ≠ [] ∧ (ik l[l.length - 1]! = 14 ∨ ik l[l.length - 1]! = 15)

/-! ### items in memory -/
def irow (x : IT) : List Value := [.int .i64 x.m, .int .u16 x.c, .int .u32 x.k, .int .i64 x.t, .int .i64 x.f]
def srow (x : IT) : List Value := [.int .i64 x.m, .int .u16 x.c, .int .u32 x.k, .int .i64 x.t, .int .i64 x.f, .int .i64 (ik x)]
def itcell (G : Nat → IT) (i : Nat) : Value := (irow (G (i / 5))).getD (i % 5) undef
def stcell (G : Nat → IT) (i : Nat) : Value := (srow (G (i / 6))).getD (i % 6) undef
theorem itcell_at (G : Nat → IT) (i j : Nat) (hj : j < 5) : itcell G (i * 5 + j) = (irow (G i)).getD j undef := by
  unfold itcell
  rw [show (i * 5 + j) / 5 = i by omega, show (i * 5 + j) % 5 = j by omega]
theorem stcell_at (G : Nat → IT) (i j : Nat) (hj : j < 6) : stcell G (i * 6 + j) = (srow (G i)).getD j undef := by
  unfold stcell
  rw [show (i * 6 + j) / 6 = i by omega, show (i * 6 + j) % 6 = j by omega]
theorem itcell_one (G : Nat → IT) (i : Nat) : (itcell G i).oneCell' = true := by
  have h : i % 5 < 5 := Nat.mod_lt _ (by decide)
  unfold itcell irow
  generalize i % 5 = j at h
  match j, h with
  | 0, _ => rfl
  | 1, _ => rfl
  | 2, _ => rfl
  | 3, _ => rfl
  | 4, _ => rfl
theorem stcell_one (G : Nat → IT) (i : Nat) : (stcell G i).oneCell' = true := by
  have h : i % 6 < 6 := Nat.mod_lt _ (by decide)
  unfold stcell srow
  generalize i % 6 = j at h
  match j, h with
  | 0, _ => rfl
  | 1, _ => rfl
  | 2, _ => rfl
  | 3, _ => rfl
  | 4, _ => rfl
  | 5, _ => rfl
theorem itcell_cat (G : Nat → IT) (k : Nat) (x : IT) (hx : G k = x) : ∀ i, i < (k + 1) * 5 → catC (k * 5) (itcell G) (itcell fun _ => x) i = itcell G i := fun i hi => by
  unfold catC
  split
  · rfl
  · unfold itcell
    rw [show i / 5 = k by omega, hx, show (i - k * 5) % 5 = i % 5 by omega]
theorem stcell_cat (G : Nat → IT) (k : Nat) (x : IT) (hx : G k = x) : ∀ i, i < (k + 1) * 6 → catC (k * 6) (stcell G) (stcell fun _ => x) i = stcell G i := fun i hi => by
  unfold catC
  split
  · rfl
  · unfold stcell
    rw [show i / 6 = k by omega, hx, show (i - k * 6) % 6 = i % 6 by omega]
theorem one_item (w : World) (x : IT) (E : TypeId) : Cel (w.alloc (.cells #[.int .i64 x.m, .int .u16 x.c, .int .u32 x.k, .int .i64 x.t, .int .i64 x.f] E)) (w.heap.size + 1) 5 (some ⟨w.heap.size, 0, none⟩) 1 1 (itcell fun _ => x) :=
  Cel.mk_ (Nat.lt_succ_self _) (Nat.le_refl _) (by decide) fun i hi => by
    have hi' : i < 5 := by omega
    rw [Nat.zero_add, cell_of_row _ _ _ _ _ _ (heap_alloc_last w _)]
    match i, hi' with
    | 0, _ => rfl
    | 1, _ => rfl
    | 2, _ => rfl
    | 3, _ => rfl
    | 4, _ => rfl
theorem one_step (w : World) (x : IT) (E : TypeId) : Cel (w.alloc (.cells #[.int .i64 x.m, .int .u16 x.c, .int .u32 x.k, .int .i64 x.t, .int .i64 x.f, .int .i64 (ik x)] E)) (w.heap.size + 1) 6 (some ⟨w.heap.size, 0, none⟩) 1 1 (stcell fun _ => x) :=
  Cel.mk_ (Nat.lt_succ_self _) (Nat.le_refl _) (by decide) fun i hi => by
    have hi' : i < 6 := by omega
    rw [Nat.zero_add, cell_of_row _ _ _ _ _ _ (heap_alloc_last w _)]
    match i, hi' with
    | 0, _ => rfl
    | 1, _ => rfl
    | 2, _ => rfl
    | 3, _ => rfl
    | 4, _ => rfl
    | 5, _ => rfl
end Go.Proofs.Ytiofgaadfbjnoaa
