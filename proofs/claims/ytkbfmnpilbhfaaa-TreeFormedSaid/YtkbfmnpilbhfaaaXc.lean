/-
  Layer 19 (tree): a row of nodes in memory; the closure of tree.halved that calls itself; tree.halved.
-/
import Derived.Test.YtkbfmnpilbhfaaaXb
import Derived.Deep.DeepAppendRoom
import Derived.StillTailTactics
import Derived.Deep.Cut
namespace Go.Proofs.Ytkbfmnpilbhfaaa
open Go.RowKit

def ndA (v : Nd) : Array Value := #[.bool v.leaf, .int .u32 v.num, .int .i64 v.place, .int .i64 v.low, .int .i64 v.high]
/-- The cells of nodes. -/
def ndC (T : Nat → Nd) (i : Nat) : Value :=
  if i % 5 = 0 then .bool (T (i / 5)).leaf else if i % 5 = 1 then .int .u32 (T (i / 5)).num else if i % 5 = 2 then .int .i64 (T (i / 5)).place else if i % 5 = 3 then .int .i64 (T (i / 5)).low else .int .i64 (T (i / 5)).high
theorem ndC0 (T : Nat → Nd) (k : Nat) : ndC T (k * 5) = .bool (T k).leaf := by
  unfold ndC
  have e1 : (k * 5) % 5 = 0 := by omega
  have e2 : (k * 5) / 5 = k := by omega
  rw [e1, e2]; rfl
theorem ndC1 (T : Nat → Nd) (k : Nat) : ndC T (k * 5 + 1) = .int .u32 (T k).num := by
  unfold ndC
  have e1 : (k * 5 + 1) % 5 = 1 := by omega
  have e2 : (k * 5 + 1) / 5 = k := by omega
  rw [e1, e2]; rfl
theorem ndC2 (T : Nat → Nd) (k : Nat) : ndC T (k * 5 + 2) = .int .i64 (T k).place := by
  unfold ndC
  have e1 : (k * 5 + 2) % 5 = 2 := by omega
  have e2 : (k * 5 + 2) / 5 = k := by omega
  rw [e1, e2]; rfl
theorem ndC3 (T : Nat → Nd) (k : Nat) : ndC T (k * 5 + 3) = .int .i64 (T k).low := by
  unfold ndC
  have e1 : (k * 5 + 3) % 5 = 3 := by omega
  have e2 : (k * 5 + 3) / 5 = k := by omega
  rw [e1, e2]; rfl
theorem ndC4 (T : Nat → Nd) (k : Nat) : ndC T (k * 5 + 4) = .int .i64 (T k).high := by
  unfold ndC
  have e1 : (k * 5 + 4) % 5 = 4 := by omega
  have e2 : (k * 5 + 4) / 5 = k := by omega
  rw [e1, e2]; rfl
/-- A slice that reads as nodes. -/
theorem nd_at {w : World} {B n c : Nat} {A : Option Addr} {T : Nat → Nd} (h : Cel w B 5 A n c (ndC T)) (hn : 0 < n) :
    ∃ b off, A = some ⟨b, off, none⟩ ∧ b < B ∧ n ≤ c ∧ ∀ k, k < n → w.cell? ⟨b, off + k * 5, none⟩ = some (.bool (T k).leaf) ∧ w.cell? ⟨b, off + k * 5 + 1, none⟩ = some (.int .u32 (T k).num) ∧ w.cell? ⟨b, off + k * 5 + 2, none⟩ = some (.int .i64 (T k).place) ∧
      w.cell? ⟨b, off + k * 5 + 3, none⟩ = some (.int .i64 (T k).low) ∧ w.cell? ⟨b, off + k * 5 + 4, none⟩ = some (.int .i64 (T k).high) := by
  obtain ⟨b, off, rfl, hb, hc⟩ := h.at_ (by omega)
  refine ⟨b, off, rfl, hb, h.le.1, fun k hk => ⟨?_, ?_, ?_, ?_, ?_⟩⟩
  · rw [hc (k * 5) (by omega), ndC0]
  · rw [Nat.add_assoc, hc (k * 5 + 1) (by omega), ndC1]
  · rw [Nat.add_assoc, hc (k * 5 + 2) (by omega), ndC2]
  · rw [Nat.add_assoc, hc (k * 5 + 3) (by omega), ndC3]
  · rw [Nat.add_assoc, hc (k * 5 + 4) (by omega), ndC4]

theorem infoN : (Try.prog.info? 35).map (fun i => (i.zero, i.size, i.bytes)) = some (some (.agg #[.bool false, .int .u32 0, .int .i64 0, .int .i64 0, .int .i64 0]), 5, 32) := by kernel_rfl

theorem OwnC.keptOther {w w' : World} {base z n c g : Nat} {E : TypeId} {F : Nat → Value} (h : OwnC w base E z (some ⟨g, 0, none⟩) n c F) (hb : w'.heap[g]? = w.heap[g]?) : OwnC w' base E z (some ⟨g, 0, none⟩) n c F := by
  obtain ⟨h1, h2⟩ := h
  refine ⟨h1, ?_⟩
  rcases h2 with h2 | ⟨gg, cap, cur, hv, hgb, hh, r⟩
  · exact .inl h2
  · have e : gg = g := by injection hv with e1; injection e1 with e2; injection e2 with e3; exact e3.symm
    subst e
    exact .inr ⟨gg, cap, cur, hv, hgb, hb.trans hh, r⟩
theorem OwnC.blk {w : World} {base z n c g : Nat} {E : TypeId} {F : Nat → Value} (h : OwnC w base E z (some ⟨g, 0, none⟩) n c F) : ∃ cur, RowC w g cur E ∧ base ≤ g := by
  rcases h.2 with ⟨h2, _⟩ | ⟨gg, cap, cur, hv, hgb, hh, r⟩
  · cases h2
  · have e : gg = g := by injection hv with e1; injection e1 with e2; injection e2 with e3; exact e3.symm
    subst e
    exact ⟨cur, hh, hgb⟩
/-- One node more, in its place. -/
theorem app_node {w : World} {ops : Array Oper} {rest : List Oper} {o : Oper} {a : Act} {Q : Exit → Act → World → Prop} (hgd : o.guard = none) (s x : Operand)
    (ho : o.op = .call { callee := .builtin .append, args := #[s, x], argTypes := #[23, 23] })
    {WS N k H : Nat} {T : Nat → Nd} (v : Nd) (hs : a.eval s = .slice (some ⟨WS, 0, none⟩) k N) (hown : OwnC w WS 35 5 (some ⟨WS, 0, none⟩) k N (ndC T)) (hx : a.eval x = .slice (some ⟨H, 0, none⟩) 1 1)
    (hrow : RowC w H (ndA v) 35) (hv : T k = v) (hroom : k + 1 ≤ N)
    (h : ∀ w', OwnC w' WS 35 5 (some ⟨WS, 0, none⟩) (k + 1) N (ndC T) → w.grownBy w' (some WS) → wpList Try.prog ops Q rest (a.put o.dst (.slice (some ⟨WS, 0, none⟩) (k + 1) N)) w') : wpList Try.prog ops Q (o :: rest) a w := by
  obtain ⟨i0, hi0, hz0, hz1, hz2⟩ := info_parts infoN
  subst hv
  refine wpList_append_own_spare w hgd s x 23 ho WS 35 i0 5 Try.underlying23 hi0 hz1 WS k N _ hs hown ⟨H, 0, none⟩ 1 1 (ndA (T k)).toList hx rfl ?_ ?_ hroom ?_
  · intro j u hj
    rw [Go.WideShapes.add_plain, Nat.zero_add]
    refine hrow.cell j u ?_
    rw [← hj]
    simp
  · intro u hu
    simp only [ndA, List.mem_cons, List.not_mem_nil, or_false] at hu
    rcases hu with rfl | rfl | rfl | rfl | rfl <;> rfl
  · intro w' h1 h2
    refine h w' ?_ h2
    unfold OwnC
    have e : (List.range ((k + 1) * 5)).map (ndC T) = (List.range (k * 5)).map (ndC T) ++ (ndA (T k)).toList := by
      rw [show (k + 1) * 5 = k * 5 + 1 + 1 + 1 + 1 + 1 from by omega]
      simp only [List.range_succ, List.map_append, List.map_cons, List.map_nil, List.append_assoc]
      rw [ndC0, ndC1, show k * 5 + 1 + 1 = k * 5 + 2 from rfl, ndC2, show k * 5 + 2 + 1 = k * 5 + 3 from rfl, ndC3, show k * 5 + 3 + 1 = k * 5 + 4 from rfl, ndC4]
      rfl
    rw [e]
    exact h1

/-- What lies in memory while a tree grows. -/
structure GS (WS N : Nat) (T : Nat → Nd) (s : Nat) (w : World) : Prop where
  own : OwnC w WS 35 5 (some ⟨WS, 0, none⟩) s N (ndC T)
  tv : RowC w (WS + 1) #[.slice (some ⟨WS, 0, none⟩) s N] 23
  gv : RowC w (WS + 2) #[.func (.func 17) #[] #[.pointer (some ⟨WS + 2, 0, none⟩), .pointer (some ⟨WS + 1, 0, none⟩)]] 43
/-- Only the row and the slice's variable have changed. -/
def Only2 (WS : Nat) (w w' : World) : Prop := w.heap.size ≤ w'.heap.size ∧ ∀ b, b < w.heap.size → b ≠ WS → b ≠ WS + 1 → w'.heap[b]? = w.heap[b]?
theorem Only2.trans {WS : Nat} {w w' w'' : World} (h : Only2 WS w w') (h' : Only2 WS w' w'') : Only2 WS w w'' := ⟨Nat.le_trans h.1 h'.1, fun b h1 h2 h3 => (h'.2 b (Nat.lt_of_lt_of_le h1 h.1) h2 h3).trans (h.2 b h1 h2 h3)⟩
theorem Only2.below {WS : Nat} {w w' : World} (h : Below w.heap.size w w') : Only2 WS w w' := ⟨h.size, fun b h1 _ _ => h.block b h1⟩
theorem GS.below {WS N : Nat} {T : Nat → Nd} {s : Nat} {w w' : World} (h : GS WS N T s w) (hb : Below w.heap.size w w') : GS WS N T s w' :=
  ⟨h.own.below hb (Nat.le_refl _), h.tv.below hb h.tv.lt, h.gv.below hb h.gv.lt⟩
/-- What the end of the closure does: one node more. -/
theorem GS.step {WS N : Nat} {T : Nat → Nd} {s : Nat} {w w1 w2 : World} (h : GS WS N T s w) (hb : Below w.heap.size w w1) (hown : OwnC w2 WS 35 5 (some ⟨WS, 0, none⟩) (s + 1) N (ndC T)) (hg : w1.grownBy w2 (some WS)) :
    GS WS N T (s + 1) (w2.setCell ⟨WS + 1, 0, none⟩ (.slice (some ⟨WS, 0, none⟩) (s + 1) N)) ∧ Below WS w (w2.setCell ⟨WS + 1, 0, none⟩ (.slice (some ⟨WS, 0, none⟩) (s + 1) N)) ∧ Only2 WS w (w2.setCell ⟨WS + 1, 0, none⟩ (.slice (some ⟨WS, 0, none⟩) (s + 1) N)) ∧ RowC w2 (WS + 1) #[.slice (some ⟨WS, 0, none⟩) s N] 23 := by
  have h1 := h.below hb
  have ht : RowC w2 (WS + 1) #[.slice (some ⟨WS, 0, none⟩) s N] 23 := (hg.block (WS + 1) h1.tv.lt (by simp)).trans h1.tv
  have hv := (hg.block (WS + 2) h1.gv.lt (by simp)).trans h1.gv
  have hlt := h.tv.lt
  refine ⟨⟨hown.keptOther (Below.heap_setCell _ _ _ _ (show WS ≠ WS + 1 by omega)), ht.set 0 _, RowC.setOther hv 0 _ (by omega)⟩, ?_, ⟨?_, ?_⟩, ht⟩
  · have b1 : Below WS w w1 := hb.mono (by omega)
    have b2 : Below WS w w2 := b1.grown hg (Nat.le_trans (show WS ≤ w.heap.size by omega) hb.size) (fun k hk => by injection hk with hk; omega)
    exact b2.setCell (show WS ≤ WS + 1 by omega) _
  · have h1 := hb.size
    have h2 := hg.size
    have h3 := (Below.refl WS w2).setCell (p := ⟨WS + 1, 0, none⟩) (show WS ≤ WS + 1 by omega) (.slice (some ⟨WS, 0, none⟩) (s + 1) N) |>.size
    exact Nat.le_trans h1 (Nat.le_trans h2 h3)
  · intro b hb1 hb2 hb3
    refine (Below.heap_setCell _ _ _ _ hb3).trans ?_
    have := hb.size
    exact (hg.block b (by omega) (by intro e; injection e with e; omega)).trans (hb.block b hb1)
/-- Five stores into a block of one's own. -/
theorem GS.five {WS N : Nat} {T : Nat → Nd} {s X : Nat} {w : World} {cs : Array Value} (h : GS WS N T s w) (hx : RowC w X cs 35) (hcs : cs.size = 5) (hX : WS + 3 ≤ X) (v0 v1 v2 v3 v4 : Value) :
    GS WS N T s (((((w.setCell ⟨X, 0, none⟩ v0).setCell ⟨X, 1, none⟩ v1).setCell ⟨X, 2, none⟩ v2).setCell ⟨X, 3, none⟩ v3).setCell ⟨X, 4, none⟩ v4) ∧
    RowC (((((w.setCell ⟨X, 0, none⟩ v0).setCell ⟨X, 1, none⟩ v1).setCell ⟨X, 2, none⟩ v2).setCell ⟨X, 3, none⟩ v3).setCell ⟨X, 4, none⟩ v4) X #[v0, v1, v2, v3, v4] 35 ∧
    Below X w (((((w.setCell ⟨X, 0, none⟩ v0).setCell ⟨X, 1, none⟩ v1).setCell ⟨X, 2, none⟩ v2).setCell ⟨X, 3, none⟩ v3).setCell ⟨X, 4, none⟩ v4) := by
  have hb : Below X w (((((w.setCell ⟨X, 0, none⟩ v0).setCell ⟨X, 1, none⟩ v1).setCell ⟨X, 2, none⟩ v2).setCell ⟨X, 3, none⟩ v3).setCell ⟨X, 4, none⟩ v4) :=
    (((((Below.refl X w).setCell (p := ⟨X, 0, none⟩) (Nat.le_refl _) _).setCell (p := ⟨X, 1, none⟩) (Nat.le_refl _) _).setCell (p := ⟨X, 2, none⟩) (Nat.le_refl _) _).setCell (p := ⟨X, 3, none⟩) (Nat.le_refl _) _).setCell (p := ⟨X, 4, none⟩) (Nat.le_refl _) _
  refine ⟨⟨h.own.keptOther (hb.block _ (by omega)), h.tv.below hb (by omega), h.gv.below hb (by omega)⟩, ?_, hb⟩
  have r := ((((hx.set 0 v0).set 1 v1).set 2 v2).set 3 v3).set 4 v4
  have e : ((((cs.setIfInBounds 0 v0).setIfInBounds 1 v1).setIfInBounds 2 v2).setIfInBounds 3 v3).setIfInBounds 4 v4 = #[v0, v1, v2, v3, v4] := by
    apply Array.ext (by simp [hcs])
    intro i h1 h2
    have hi : i = 0 ∨ i = 1 ∨ i = 2 ∨ i = 3 ∨ i = 4 := by simp [hcs] at h1; omega
    rcases hi with rfl | rfl | rfl | rfl | rfl <;> simp [hcs]
  rw [e] at r
  exact r
end Go.Proofs.Ytkbfmnpilbhfaaa
