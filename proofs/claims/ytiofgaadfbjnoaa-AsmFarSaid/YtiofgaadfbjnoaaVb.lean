/-
  Words for the memory of a run: the block of a state, and what stays as it was but for one block; the contracts of the smallest doings.
-/
import Derived.Test.YtiofgaadfbjnoaaVa
import Derived.Test.YtiofgaadfbjnoaaKf
import Derived.Deep.WholeRow
import Derived.Deep.RegionWith
import Derived.Deep.RegionHeld3
import Derived.Deep.QuietTactic
import Derived.BigQuiet
namespace Go.Proofs.Ytiofgaadfbjnoaa
open Go.RowKit

/-- The block b holds just these cells. -/
def RowAt (w : World) (b : Nat) (cs : Array Value) (T : TypeId) : Prop := w.heap[b]? = some (.cells cs T)
/-- Whatever lay below B stays as it was, but for one block. -/
structure Keep (b B : Nat) (w w' : World) : Prop where
  os : w'.os = w.os
  tape : w'.tape = w.tape
  output : w'.output = w.output
  size : w.heap.size ≤ w'.heap.size
  block : ∀ k, k < B → k ≠ b → w'.heap[k]? = w.heap[k]?
section
variable {b B : Nat} {w w' w'' : World} {cs : Array Value} {T : TypeId}
theorem Keep.refl (b B : Nat) (w : World) : Keep b B w w := ⟨rfl, rfl, rfl, Nat.le_refl _, fun _ _ _ => rfl⟩
theorem Keep.trans (h : Keep b B w w') (h2 : Keep b B w' w'') : Keep b B w w'' :=
  ⟨h2.os.trans h.os, h2.tape.trans h.tape, h2.output.trans h.output, Nat.le_trans h.size h2.size, fun k h1 h3 => (h2.block k h1 h3).trans (h.block k h1 h3)⟩
theorem Keep.of {N : Nat} (h : Below N w w') (hB : B ≤ N) : Keep b B w w' := ⟨h.os, h.tape, h.output, h.size, fun k hk _ => h.block k (by omega)⟩
theorem Keep.set (h : Keep b B w w') (i : Nat) (v : Value) : Keep b B w (w'.setCell ⟨b, i, none⟩ v) :=
  ⟨h.os, h.tape, h.output, by have := h.size; simpa [World.setCell] using this, fun k hk hb => (Below.heap_setCell _ _ _ _ hb).trans (h.block k hk hb)⟩
theorem Keep.below (h : Keep b B w w') {N : Nat} (hN : N ≤ B) (hb : N ≤ b) : Below N w w' := ⟨h.os, h.tape, h.output, h.size, fun k hk => h.block k (by omega) (by omega)⟩
theorem Keep.cell (h : Keep b B w w') {p : Addr} (hp : p.block < B) (hb : p.block ≠ b) : w'.cell? p = w.cell? p := World.cell?_of_block (h.block _ hp hb)
theorem RowAt.lt (h : RowAt w b cs T) : b < w.heap.size := (Array.getElem?_eq_some_iff.1 h).1
theorem RowAt.below {N : Nat} (h : RowAt w b cs T) (hb : Below N w w') (hB : b < N) : RowAt w' b cs T := (hb.block b hB).trans h
theorem RowAt.keep {g : Nat} (h : RowAt w g cs T) (hb : Keep b B w w') (hB : g < B) (hn : g ≠ b) : RowAt w' g cs T := (hb.block g hB hn).trans h
theorem RowAt.cell (h : RowAt w b cs T) (i : Nat) (v : Value) (hv : cs[i]? = some v) : w.cell? ⟨b, i, none⟩ = some v := by
  rw [cell_of_row w b i _ _ (0, 0) h, hv]
theorem RowAt.frozen (h : RowAt w b cs T) (i : Nat) : w.frozen? ⟨b, i, none⟩ = false := by
  have h' : w.heap[b]? = some (.cells cs T) := h
  simp [World.frozen?, h']
theorem RowAt.set (h : RowAt w b cs T) (i : Nat) (v : Value) : RowAt (w.setCell ⟨b, i, none⟩ v) b (cs.setIfInBounds i v) T := by
  unfold RowAt
  rw [setCell_eq_setRow w b i _ _ (0, 0) _ h]
  exact setRow_heap w b _ _ _ _ h
end

/-- The cells of a state. -/
def scells (s : VS) (A : Option Addr) (c : Nat) (R : Value) : Array Value :=
  #[.int .u32 s.a, .int .u32 s.x, .int .u32 (s.cl 0), .int .u32 (s.cl 1), .int .u32 (s.cl 2), .int .u32 (s.cl 3), .int .u32 (s.cl 4), .int .u32 (s.cl 5), .int .u32 (s.cl 6), .int .u32 (s.cl 7), .int .u32 (s.cl 8), .int .u32 (s.cl 9), .int .u32 (s.cl 10), .int .u32 (s.cl 11), .int .u32 (s.cl 12), .int .u32 (s.cl 13), .int .u32 (s.cl 14), .int .u32 (s.cl 15), .int .i64 s.nx, .int .i64 s.st, .slice A s.ld.length c, R]
def lcell (l : List Nat) (i : Nat) : Value := .int .i64 (l.getD i 0 : Nat)
theorem cells_cl (s : VS) (A : Option Addr) (c : Nat) (R : Value) (k : Nat) (hk : k < 16) : (scells s A c R)[2 + k]? = some (.int .u32 (s.cl k)) := by
  match k, hk with
  | 0, _ => rfl
  | 1, _ => rfl
  | 2, _ => rfl
  | 3, _ => rfl
  | 4, _ => rfl
  | 5, _ => rfl
  | 6, _ => rfl
  | 7, _ => rfl
  | 8, _ => rfl
  | 9, _ => rfl
  | 10, _ => rfl
  | 11, _ => rfl
  | 12, _ => rfl
  | 13, _ => rfl
  | 14, _ => rfl
  | 15, _ => rfl
  | n + 16, h => exact absurd h (by omega)
theorem cells_setc (s : VS) (A : Option Addr) (c : Nat) (R : Value) (k n : Nat) (hk : k < 16) : (scells s A c R).setIfInBounds (2 + k) (.int .u32 n) = scells (s.setc k n) A c R := by
  match k, hk with
  | 0, _ => simp [scells, VS.setc]
  | 1, _ => simp [scells, VS.setc]
  | 2, _ => simp [scells, VS.setc]
  | 3, _ => simp [scells, VS.setc]
  | 4, _ => simp [scells, VS.setc]
  | 5, _ => simp [scells, VS.setc]
  | 6, _ => simp [scells, VS.setc]
  | 7, _ => simp [scells, VS.setc]
  | 8, _ => simp [scells, VS.setc]
  | 9, _ => simp [scells, VS.setc]
  | 10, _ => simp [scells, VS.setc]
  | 11, _ => simp [scells, VS.setc]
  | 12, _ => simp [scells, VS.setc]
  | 13, _ => simp [scells, VS.setc]
  | 14, _ => simp [scells, VS.setc]
  | 15, _ => simp [scells, VS.setc]
  | n + 16, h => exact absurd h (by omega)

/-- An instruction that was looked up, as cells. -/
def knA (v : IV) : Array Value := #[.int .u16 v.c, .int .u8 v.t, .int .u8 v.f, .int .u32 v.k, .int .i64 (kd v), .bool (xx v)]

section
variable {w W : World} {b B : Nat} {s : VS} {R : Value}
theorem OwnC.keep {w w' : World} {base z n c : Nat} {E : TypeId} {A : Option Addr} {F : Nat → Value} (h : OwnC w base E z A n c F) (hb : Below w.heap.size w w') : OwnC w' base E z A n c F := h.below hb (Nat.le_refl _)
/-- A store into the state's own block leaves the loads' row as it was. -/
theorem OwnC.set_other {w : World} {base z n c g : Nat} {E : TypeId} {A : Option Addr} {F : Nat → Value} (h : OwnC w base E z A n c F) (hg : g < base) (i : Nat) (v : Value) : OwnC (w.setCell ⟨g, i, none⟩ v) base E z A n c F := by
  obtain ⟨h1, h2⟩ := h
  refine ⟨h1, ?_⟩
  rcases h2 with h2 | ⟨gg, cap, cur, hv, hgg, hh, r⟩
  · exact Or.inl h2
  · exact Or.inr ⟨gg, cap, cur, hv, hgg, (Below.heap_setCell w ⟨g, i, none⟩ v gg (by show gg ≠ g; omega)).trans hh, r⟩
end

end Go.Proofs.Ytiofgaadfbjnoaa
