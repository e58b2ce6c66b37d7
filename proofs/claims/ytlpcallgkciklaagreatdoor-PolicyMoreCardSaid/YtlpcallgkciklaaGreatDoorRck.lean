/-
  Layer 16: the laws' own rule: a document's rule as the program's.
-/
import Derived.Test.YtlpcallgkciklaaGreatDoorRb
import Derived.Test.YtlpcallgkciklaaGreatDoorMo
import Derived.Test.YtlpcallgkciklaaGreatDoorMem
import Derived.Deep.RegionHeld3
namespace Go.Proofs.YtlpcallgkciklaaGreatDoor
open Go.RowKit Go.Shelf
set_option linter.unusedVariables false

theorem bTr {w w' w'' : World} (h : Below w.heap.size w w') (h2 : Below w'.heap.size w' w'') : Below w.heap.size w w'' := h.trans (h2.mono h.size)
theorem OwnC.set_low {w : World} {base z n c g : Nat} {E : TypeId} {A : Option Addr} {F : Nat → Value} (h : OwnC w base E z A n c F) (hg : g < base) (i : Nat) (v : Value) : OwnC (w.setCell ⟨g, i, none⟩ v) base E z A n c F := by
  obtain ⟨h1, h2⟩ := h
  refine ⟨h1, ?_⟩
  rcases h2 with h2 | ⟨gg, cap, cur, hv, hgg, hh, r⟩
  · exact Or.inl h2
  · exact Or.inr ⟨gg, cap, cur, hv, hgg, (Below.heap_setCell w ⟨g, i, none⟩ v gg (by show gg ≠ g; omega)).trans hh, r⟩
theorem step_cellsR {P : Program} {w : World} {ops : Array Oper} {o : Oper} {a : Act} {K : Act → World → Prop} {Q : Exit → Act → World → Prop} {R : Prop} (hgd : o.guard = none) (s x : Operand) (t E : TypeId)
    (ho : o.op = .call { callee := .builtin .append, args := #[s, x], argTypes := #[t, t] })
    (ht : P.underlying t = some (.slice E)) {zv : Value} {z by_ : Nat} (hinfo : (P.info? E).map (fun i => (i.zero, i.size, i.bytes)) = some (some zv, z, by_)) (hzs : zv.cells.size = z) (hz : 0 < z)
    {base n c m d : Nat} {A C : Option Addr} {F G : Nat → Value} (hs : a.eval s = .slice A n c) (hown : OwnC w base E z A n c F) (hx : a.eval x = .slice C m d) {B : Nat} (hr : Cel w B z C m d G) (h1c : ∀ i, i < m * z → (G i).oneCell' = true)
    (hn : n + m ≤ maxLen) (hby : (n + m) * by_ ≤ 140737488355328) (hbase : base ≤ w.heap.size) (N : Nat) (hN : n + m = N) (H : Nat → Value) (hH : ∀ i, i < N * z → catC (n * z) F G i = H i)
    (h : ∀ A' c' w', OwnC w' base E z A' N c' H → Below base w w' → K (a.put o.dst (.slice A' N c')) w') :
    if Region.wanted o (yielded ops a.tmps) = true then Oper.wp P o a w K Q else R := by
  subst hN
  have hw : Region.wanted o (yielded ops a.tmps) = true := by simp [Region.wanted, hgd]
  rw [if_pos hw]
  exact wp_cells w s x t E ho ht hinfo hzs hz hs hown hx hr h1c hn hby hbase fun A' c' w' h1 _ h3 => h A' c' w' (h1.congr hH) h3
theorem infoC2 : (Tryz.prog.info? 62).map (fun i => (i.zero, i.size, i.bytes)) = some (some (.agg zN), 4, 32) := by kernel_rfl
/-- The cells of a row of conditions. -/
def crow (c : CD) : List Value := [.int .i64 c.a, .int .i64 c.o, .int .u64 c.m, .int .u64 c.v]
def ccell (C : Nat → CD) (q : Nat) : Value := (crow (C (q / 4))).getD (q % 4) undef
theorem ccell_at (C : Nat → CD) (i c : Nat) (hc : c < 4) : ccell C (i * 4 + c) = (crow (C i)).getD c undef := by
  unfold ccell
  rw [show (i * 4 + c) / 4 = i by omega, show (i * 4 + c) % 4 = c by omega]
theorem crow_one (r : CD) (c : Nat) (hc : c < 1 * 4) : ((crow r).getD c undef).oneCell' = true := by
  have h : c = 0 ∨ c = 1 ∨ c = 2 ∨ c = 3 := by omega
  rcases h with rfl | rfl | rfl | rfl <;> rfl
theorem one_cond (w : World) (r : CD) (E : TypeId) : Cel (w.alloc (.cells #[.int .i64 r.a, .int .i64 r.o, .int .u64 r.m, .int .u64 r.v] E)) (w.heap.size + 1) 4 (some ⟨w.heap.size, 0, none⟩) 1 1 (fun c => (crow r).getD c undef) :=
  Cel.mk_ (by omega) (by decide) (by decide) (fun c hc => by
    rw [Nat.zero_add]
    have rr := RowC.new w #[.int .i64 r.a, .int .i64 r.o, .int .u64 r.m, .int .u64 r.v] E _ rfl
    have h : c = 0 ∨ c = 1 ∨ c = 2 ∨ c = 3 := by omega
    rcases h with rfl | rfl | rfl | rfl
    all_goals exact rr.cell _ _ rfl)
theorem ccell_cat (C : Nat → CD) (k : Nat) (r : CD) (hr : C k = r) : ∀ i, i < (k + 1) * 4 → catC (k * 4) (ccell C) (fun c => (crow r).getD c undef) i = ccell C i := fun i hi => by
  unfold catC
  by_cases h : i < k * 4
  · rw [if_pos h]
  · rw [if_neg h]
    obtain ⟨c, rfl⟩ : ∃ c, i = k * 4 + c := ⟨i - k * 4, by omega⟩
    rw [Nat.add_sub_cancel_left, ccell_at C k c (by omega), hr]
theorem set4U {w : World} {b : Nat} {t : TypeId} {x0 x1 x2 x3 y0 y1 y2 y3 : Value} (h : RowC w b #[x0, x1, x2, x3] t) : RowC ((((w.setCell ⟨b, 0, none⟩ y0).setCell ⟨b, 1, none⟩ y1).setCell ⟨b, 2, none⟩ y2).setCell ⟨b, 3, none⟩ y3) b #[y0, y1, y2, y3] t := (((h.set 0 y0).set 1 y1).set 2 y2).set 3 y3
abbrev rulA (nm : ByteArray) (k u : Int) (A : Option Addr) (n c : Nat) : Array Value := #[.string nm, .int .i64 k, .int .i64 u, .slice A n c]
end Go.Proofs.YtlpcallgkciklaaGreatDoor
