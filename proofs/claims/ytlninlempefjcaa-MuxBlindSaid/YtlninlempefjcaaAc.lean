/-
  The contracts of abi.each, an iterator, and of abi.Named and abi.Select, which range over it.
-/
import Derived.Test.YtlninlempefjcaaAb
namespace Go.Proofs.Ytlninlempefjcaa
open Go.RowKit Go.Shelf
attribute [local go_sem] Oper.semAt_some

/-- The first k of five, in order. -/
def upAb : (k : Nat) → k ≤ 5 → List (Fin 5)
  | 0, _ => []
  | k + 1, h => upAb k (by omega) ++ [⟨k, by omega⟩]
theorem upA_length : ∀ k h, (upAb k h).length = k
  | 0, _ => rfl
  | k + 1, h => by unfold upAb; rw [List.length_append, upA_length k]; rfl
theorem upA_all : upAb 5 (Nat.le_refl _) = List.finRange 5 := rfl

set_option maxRecDepth 100000 in
set_option maxHeartbeats 4000000 in
theorem each_in (l : Nat) (J Jx : List (Fin 5) → World → Prop)
    (hY : ∀ pre x W, J pre W → pre.length < 5 → YieldAt Fence.wide (6 - 1 - 1) Try.prog l #[.int .i64 (x.1 : Int), .agg (infA x.1)] W fun e W' =>
      (e = .returned (.bool true) ∧ J (pre ++ [x]) W' ∧ True) ∨ (e = .returned (.bool false) ∧ Jx (pre ++ [x]) W'))
    (hJ : ∀ pre W o, J pre W → J pre (W.alloc o))
    (W : World) (h0 : J [] W) :
    CallsIn Fence.wide (6 - 1) Try.prog 45 #[.func (.yield l) #[] #[]] W fun e W' => (∃ v, e = .returned v) ∧
      ((∃ ys, ys = List.finRange 5 ∧ J ys W') ∨ (∃ pre, True ∧ Jx pre W')) := by
  have hro : (Fence.wide).round = none := rfl
  refine callsIn_of_wp Try.func45 rfl trivial ?_ hro
  simp only [Try.ntmps45, List.size_toArray, List.length_cons, List.length_nil, Nat.reduceAdd, Nat.reduceSub, Array.replicate_succ, Array.replicate_zero, List.push_toArray, List.append_toArray, List.nil_append, List.cons_append]
  gi_wp2_with (refine ⟨trivial, ?_⟩; gi_at_call 52; refine (callsIn_wide.2 (rows_w _)).mono ?_; rintro e w1 ⟨rfl, rfl⟩)

  gi_loopw [5] (fun i wr => ∃ (k : Nat) (hk : k ≤ 5), i = .int .i64 (k : Nat) ∧ J (upAb k hk) wr)
    (fun i _ => 5 - (intOf i).toNat)
  case atStart => exact ⟨0, by omega, rfl, hJ _ _ _ h0⟩
  case round =>
    obtain ⟨k, hk, rfl, hJs⟩ := hrel
    by_cases hlt : k < 5
    · have hix := ixA k hlt
      have i1 : (0 : Int) ≤ (k : Int) := by omega
      have i2 : (k : Int) < 5 := by omega
      obtain ⟨fn, tmps, assign, body, hy, hR⟩ := hY (upAb k hk) ⟨k, hlt⟩ (wr.alloc (.cells (infA k) 88)) (hJ _ _ _ hJs) (by rw [upA_length]; exact hlt)
      dsimp only at hy
      gi_wp2
      refine hR.mono ?_
      rintro e W3 (⟨rfl, hJ3, _⟩ | ⟨rfl, hJx3⟩)
      · gi_wp2
        go_roundw
        case rel => exact ⟨k + 1, by omega, by go_num, hJ3⟩
        case measure => simp [intOf] <;> omega
      · gi_wp2
        refine bodyPost_ret (results_none rfl _ _ _) rfl ?_
        exact ⟨⟨_, rfl⟩, .inr ⟨_, trivial, hJx3⟩⟩
    · obtain rfl : k = 5 := by omega
      gi_wp2
      go_end0
      exact ⟨⟨_, rfl⟩, .inl ⟨_, rfl, hJs⟩⟩

theorem each_stops (w : World) :
    SeqStopsK Fence.wide (6 - 1) Try.prog 45 #[] (fun x : Fin 5 => #[.int .i64 (x.1 : Int), .agg (infA x.1)]) (fun _ _ => True) (fun ys => ys = List.finRange 5) (fun _ => True) 5 w := fun l J Jx W hW hJ _ hY h0 =>
  each_in l J Jx hY (fun pre W o h => hJ pre W _ none h (World.grownBy_alloc W o none) (fun r e => by cases e)) W h0

/-- The block b holds just these cells. -/
def RowB (w : World) (b : Nat) (cs : Array Value) (T : TypeId) : Prop := w.heap[b]? = some (.cells cs T)
section
variable {b : Nat} {w w' : World} {cs : Array Value} {T : TypeId}
theorem RowB.lt (h : RowB w b cs T) : b < w.heap.size := (Array.getElem?_eq_some_iff.1 h).1
theorem RowB.below {N : Nat} (h : RowB w b cs T) (hb : Below N w w') (hB : b < N) : RowB w' b cs T := (hb.block b hB).trans h
theorem RowB.cell (h : RowB w b cs T) (i : Nat) (v : Value) (hv : cs[i]? = some v) : w.cell? ⟨b, i, none⟩ = some v := by
  rw [cell_of_row w b i _ _ (0, 0) h, hv]
theorem RowB.frozen (h : RowB w b cs T) (i : Nat) : w.frozen? ⟨b, i, none⟩ = false := by
  have h' : w.heap[b]? = some (.cells cs T) := h
  simp [World.frozen?, h']
theorem RowB.set (h : RowB w b cs T) (i : Nat) (v : Value) : RowB (w.setCell ⟨b, i, none⟩ v) b (cs.setIfInBounds i v) T := by
  unfold RowB
  rw [setCell_eq_setRow w b i _ _ (0, 0) _ h]
  exact setRow_heap w b _ _ _ _ h
theorem RowB.setOther {g : Nat} (h : RowB w b cs T) (i : Nat) (v : Value) (hn : b ≠ g) : RowB (w.setCell ⟨g, i, none⟩ v) b cs T := (Below.heap_setCell _ _ _ _ hn).trans h
theorem RowB.kept {row : Option Nat} (h : RowB w b cs T) (hg : w.grownBy w' row) (hrow : ∀ r, row = some r → ∃ o : Obj, w.heap[r]? = some o ∧ o.isCells = false) : RowB w' b cs T :=
  (grownBy_keeps_cells hg hrow h rfl).trans h
theorem RowB.alloc (h : RowB w b cs T) (o : Obj) : RowB (w.alloc o) b cs T := (Below.heap_alloc _ _ _ h.lt).trans h
end
theorem RowB.new (w : World) (cs : Array Value) (T : TypeId) (k : Nat) (hk : k = w.heap.size) : RowB (w.alloc (.cells cs T)) k cs T := by subst hk; exact heap_alloc_last w _

theorem RowB.putObj {W : World} {b D : Nat} {cs : Array Value} {T : TypeId} (h : RowB W b cs T) (o : Obj) (hn : b ≠ D) : RowB (W.putObj D o) b cs T := (World.putObj_heap_other hn).trans h

/-- What a look for a name gives. -/
def NmR (P : Fin 5 → Bool) (w : World) (e : Ending) (w' : World) : Prop :=
  ∃ (v er : Int), ((∃ x, P x = true ∧ v = x.1 ∧ er = 0) ∨ ((∀ x, P x = false) ∧ v = 0 ∧ er = 14)) ∧ e = .returned (.tuple #[.int .i64 v, .int .i64 er]) ∧ Below w.heap.size w w'
/-- No two names are the same. -/
theorem nmA_apart : ∀ x y : Fin 5, ((nmA x.1).toList == (nmA y.1).toList) = (x == y) := by
  have h : ((List.finRange 5).all fun x => (List.finRange 5).all fun y => ((nmA x.1).toList == (nmA y.1).toList) == (x == y)) = true := by kernel_rfl
  intro x y
  have h1 := List.all_eq_true.1 (List.all_eq_true.1 h x (List.mem_finRange x)) y (List.mem_finRange y)
  simpa using h1
end Go.Proofs.Ytlninlempefjcaa
