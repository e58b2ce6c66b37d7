/-
  Lines in memory; the contract of lex.Lines.
-/
import Derived.Test.YtieebnninhbdoaaTd
import Derived.Maps.AppendAt
namespace Go.Proofs.Ytieebnninhbdoaa
open Go.RowKit Go.Shelf
attribute [local go_sem] Oper.semAt_some

/-- A line: its number, the block and the room of its words' row, the words. -/
structure Ln where
  num : Nat
  b : Nat
  cap : Nat
  ws : List (List UInt8)
/-- The block b holds these words from its beginning on. -/
def WR (w : World) (b : Nat) (ws : List (List UInt8)) : Prop := ∃ cur : Array Value, RowC w b cur 9 ∧ ∀ (j : Nat) (x : List UInt8), ws[j]? = some x → cur[j]? = some (Value.string ⟨x.toArray⟩)
section
variable {w w' : World} {b : Nat} {ws : List (List UInt8)}
theorem WR.below {N : Nat} (h : WR w b ws) (hb : Below N w w') (hN : b < N) : WR w' b ws := by
  obtain ⟨cur, h1, h2⟩ := h
  exact ⟨cur, h1.below hb hN, h2⟩
theorem WR.of_block (h : WR w b ws) (hb : w'.heap[b]? = w.heap[b]?) : WR w' b ws := by
  obtain ⟨cur, h1, h2⟩ := h
  exact ⟨cur, hb.trans h1, h2⟩
theorem WR.lt (h : WR w b ws) : b < w.heap.size := by
  obtain ⟨cur, h1, h2⟩ := h
  exact h1.lt
theorem WR.cell (h : WR w b ws) {j : Nat} {x : List UInt8} (hx : ws[j]? = some x) : w.cell? ⟨b, j, none⟩ = some (.string ⟨x.toArray⟩) := by
  obtain ⟨cur, h1, h2⟩ := h
  exact h1.cell j _ (h2 j x hx)
theorem WR.of_own {A B n : Nat} (h : w.ownsRow B 9 1 (.slice (some ⟨A, 0, none⟩) n n) ws.length (ws.map fun x => Value.string ⟨x.toArray⟩)) : WR w A ws := by
  obtain ⟨h1, h2⟩ := h
  rcases h2 with ⟨hv, h0⟩ | ⟨gg, cap, cur, hv, hg, hh, h3, h4, h5, h6⟩
  · injection hv with e1
    cases e1
  · injection hv with e1 e2 e3
    injection e1 with e1
    injection e1 with e1
    subst e1
    refine ⟨cur, hh, fun j x hx => ?_⟩
    have hj : j < ws.length := (List.getElem?_eq_some_iff.1 hx).1
    have := congrArg (·[j]?) h6
    simp only [Nat.mul_one] at this
    rw [List.getElem?_take_of_lt hj, List.getElem?_map, hx] at this
    rw [← Array.getElem?_toList]
    exact this
end
/-- The cells of these lines. -/
def lcell (ls : List Ln) (i : Nat) : Value := match ls[i / 2]? with
  | none => undef
  | some x => if i % 2 = 0 then .int .i64 (x.num : Nat) else .slice (some ⟨x.b, 0, none⟩) x.ws.length x.cap
def LR (w : World) (ls : List Ln) : Prop := ∀ x ∈ ls, x.ws ≠ [] ∧ x.ws.length ≤ x.cap ∧ WR w x.b x.ws
def Ln.tell (x : Ln) : Nat × List (List UInt8) := (x.num, x.ws)
theorem LR.of {w w' : World} {ls : List Ln} (h : LR w ls) (hb : ∀ b, b < w.heap.size → (∃ cur T, w.heap[b]? = some (.cells cur T) ∧ T = 9) → w'.heap[b]? = w.heap[b]?) : LR w' ls := fun x hx => by
  obtain ⟨h1, h3, h2⟩ := h x hx
  refine ⟨h1, h3, h2.of_block (hb _ h2.lt ?_)⟩
  obtain ⟨cur, hc, _⟩ := h2
  exact ⟨cur, _, hc, rfl⟩
theorem LR.below {w w' : World} {ls : List Ln} (h : LR w ls) (hb : Below w.heap.size w w') : LR w' ls := h.of fun b hlt _ => hb.block b hlt
theorem lcell_snoc (ls : List Ln) (x : Ln) (i : Nat) (hi : i < (ls.length + 1) * 2) : catC (ls.length * 2) (lcell ls) (fun i => if i = 0 then .int .i64 (x.num : Nat) else .slice (some ⟨x.b, 0, none⟩) x.ws.length x.cap) i = lcell (ls ++ [x]) i := by
  unfold catC lcell
  by_cases h : i < ls.length * 2
  · rw [if_pos h, List.getElem?_append_left (by omega)]
  · rw [if_neg h]
    have e1 : i / 2 = ls.length := by omega
    rw [e1, List.getElem?_append_right (Nat.le_refl _), Nat.sub_self]
    show _ = if i % 2 = 0 then _ else _
    by_cases h0 : i % 2 = 0
    · rw [if_pos h0]
      exact if_pos (by omega)
    · rw [if_neg h0]
      exact if_neg (by omega)
theorem lcells_snoc (ls : List Ln) (x : Ln) : (List.range (ls.length * 2)).map (lcell ls) ++ [.int .i64 (x.num : Nat), .slice (some ⟨x.b, 0, none⟩) x.ws.length x.cap] = (List.range ((ls ++ [x]).length * 2)).map (lcell (ls ++ [x])) := by
  rw [show (ls ++ [x]).length * 2 = ls.length * 2 + 1 + 1 by simp; omega, List.range_succ, List.range_succ]
  simp only [List.map_append, List.map_cons, List.map_nil, List.append_assoc, List.cons_append, List.nil_append]
  have e0 := lcell_snoc ls x (ls.length * 2) (by omega)
  have e1 := lcell_snoc ls x (ls.length * 2 + 1) (by omega)
  rw [← e0, ← e1]
  congr 1
  · exact List.map_congr_left fun i hi => by
      have hi' := List.mem_range.1 hi
      rw [← lcell_snoc ls x i (by omega)]
      unfold catC
      rw [if_pos hi']
  · have two : ∀ {a b c d : Value}, a = c → b = d → [a, b] = [c, d] := fun h k => by rw [h, k]
    refine two ?_ ?_
    · unfold catC
      rw [if_neg (by omega)]
      exact (if_pos (by omega)).symm
    · unfold catC
      rw [if_neg (by omega)]
      exact (if_neg (by omega)).symm
/-- An own row is never a row of another type. -/
theorem OwnC.not_row {w : World} {base z n c b : Nat} {E T : TypeId} {A : Option Addr} {F : Nat → Value} {cur : Array Value} (h : OwnC w base E z A n c F) (hb : w.heap[b]? = some (.cells cur T)) (hne : T ≠ E) : some b ≠ (Value.slice A n c).ownBlock := by
  obtain ⟨_, h2⟩ := h
  rcases h2 with ⟨hv, _⟩ | ⟨gg, cap, cur', hv, _, hh, _⟩
  · injection hv with e1; subst e1; simp [Value.ownBlock]
  · injection hv with e1; subst e1
    intro e
    have e' : b = gg := by simpa [Value.ownBlock] using e
    subst e'
    rw [hb] at hh
    injection hh with hh
    injection hh with _ h3
    exact hne h3
theorem results_cells3 {P : Program} {fn : Func} {p q r : Tmp} {t1 t2 t3 : TypeId} (h : fn.results = #[.cell p t1, .cell q t2, .cell r t3]) (tmps : Array Value) (w : World) (a1 a2 a3 : Addr) (v1 v2 v3 : Value)
    (hp : tmps.getD p undef = .pointer (some a1)) (hq : tmps.getD q undef = .pointer (some a2)) (hr : tmps.getD r undef = .pointer (some a3))
    (i1 : (isAgg t1).run P w = .ok false w) (i2 : (isAgg t2).run P w = .ok false w) (i3 : (isAgg t3).run P w = .ok false w)
    (c1 : w.cell? a1 = some v1) (c2 : w.cell? a2 = some v2) (c3 : w.cell? a3 = some v3) :
    (results fn tmps).run P w = .ok (.tuple #[v1, v2, v3]) w := by
  have hp' : tmps[p]?.getD undef = .pointer (some a1) := by simpa using hp
  have hq' : tmps[q]?.getD undef = .pointer (some a2) := by simpa using hq
  have hr' : tmps[r]?.getD undef = .pointer (some a3) := by simpa using hr
  simp [results, h, hp', hq', hr', asAddr, loadVar, i1, i2, i3, run_load, c1, c2, c3, Result.andThen]
end Go.Proofs.Ytieebnninhbdoaa
