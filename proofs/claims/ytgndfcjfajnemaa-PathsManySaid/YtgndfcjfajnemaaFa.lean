/-
  Words and contracts for layer 7: a place, where it leads, the places of a program that may run.
-/
import Derived.Test.YtgndfcjfajnemaaKp
import Derived.Deep.RegionWith
import Derived.Deep.RegionHeld3
namespace Go.Proofs.Ytgndfcjfajnemaa
open Go.RowKit

/-- A place as a value: an instruction's numbers, its kind, where it stands. -/
def flA (v : IV) (i : Nat) : Array Value := #[.int .u16 v.c, .int .u8 v.t, .int .u8 v.f, .int .u32 v.k, .int .i64 (kd v), .int .i64 i]
abbrev flV (v : IV) (i : Nat) : Value := .agg #[.int .u16 v.c, .int .u8 v.t, .int .u8 v.f, .int .u32 v.k, .int .i64 (kd v), .int .i64 i]
def fcell (g : Nat → IV) (i : Nat) : Value := (flA (g (i / 6)) (i / 6)).getD (i % 6) undef
theorem fcell_at (g : Nat → IV) (k j : Nat) (hj : j < 6) : fcell g (k * 6 + j) = (flA (g k) k).getD j undef := by
  unfold fcell
  rw [show (k * 6 + j) / 6 = k from by omega, show (k * 6 + j) % 6 = j from by omega]

/-- Where an instruction may go on, by its kind. -/
def nextsK (K : Int) (t f k i : Nat) : List Nat := if (K == 14 || K == 15) = true then [] else if (K == 13) = true then [i + 1 + k] else if (K == 25 || K == 26 || K == 27 || K == 28) = true then [i + 1 + t, i + 1 + f] else [i + 1]
theorem nexts_if (v : IV) (i : Nat) : nextsK (kd v) v.t v.f v.k i = nexts v i := by
  unfold nexts
  rw [← fars_eq]
  unfold farsK nextsK
  repeat' split
  all_goals rfl
/-- A place in a block of its own, in numbers. -/
def Fx6 (w : World) (B : Nat) (c t f k K i : Int) : Prop :=
  w.cell? ⟨B, 0, none⟩ = some (.int .u16 c) ∧ w.cell? ⟨B, 1, none⟩ = some (.int .u8 t) ∧ w.cell? ⟨B, 2, none⟩ = some (.int .u8 f) ∧ w.cell? ⟨B, 3, none⟩ = some (.int .u32 k) ∧ w.cell? ⟨B, 4, none⟩ = some (.int .i64 K) ∧ w.cell? ⟨B, 5, none⟩ = some (.int .i64 i)
theorem Fx6.new (w : World) (c t f k K i : Int) (E : TypeId) : Fx6 (w.alloc (.cells #[.int .u16 c, .int .u8 t, .int .u8 f, .int .u32 k, .int .i64 K, .int .i64 i] E)) w.heap.size c t f k K i := by
  refine ⟨?_, ?_, ?_, ?_, ?_, ?_⟩ <;> simp
theorem Fx6.below {w w' : World} {B N : Nat} {c t f k K i : Int} (h : Fx6 w B c t f k K i) (hb : Below N w w') (hB : B < N) : Fx6 w' B c t f k K i := by
  obtain ⟨h0, h1, h2, h3, h4, h5⟩ := h
  exact ⟨(hb.cell (p := ⟨B, 0, none⟩) hB).trans h0, (hb.cell (p := ⟨B, 1, none⟩) hB).trans h1, (hb.cell (p := ⟨B, 2, none⟩) hB).trans h2, (hb.cell (p := ⟨B, 3, none⟩) hB).trans h3, (hb.cell (p := ⟨B, 4, none⟩) hB).trans h4, (hb.cell (p := ⟨B, 5, none⟩) hB).trans h5⟩
theorem i64s_two (w : World) (base x y : Nat) (E : TypeId) (hb : base ≤ w.heap.size) (w' : World) (hw : w' = w.alloc (.cells #[.int .i64 x, .int .i64 y] E)) : I64s w' base (some ⟨w.heap.size, 0, none⟩) 2 [x, y] := by
  subst hw
  refine ⟨rfl, Cel.mk_ (by simp) (Nat.le_refl _) (by decide) (fun i hi => ?_), fun ad h => by injection h with h; rw [← h]; exact hb⟩
  match i, hi with
  | 0, _ => simp
  | 1, _ => simp
theorem i64s_one (w : World) (base x : Nat) (E : TypeId) (hb : base ≤ w.heap.size) (w' : World) (hw : w' = w.alloc (.cells #[.int .i64 x] E)) : I64s w' base (some ⟨w.heap.size, 0, none⟩) 1 [x] := by
  subst hw
  refine ⟨rfl, Cel.mk_ (by simp) (Nat.le_refl _) (by decide) (fun i hi => ?_), fun ad h => by injection h with h; rw [← h]; exact hb⟩
  match i, hi with
  | 0, _ => simp
theorem i64s_nil (w : World) (base : Nat) : I64s w base none 0 [] := ⟨rfl, Cel.nil_, fun _ h => by cases h⟩

end Go.Proofs.Ytgndfcjfajnemaa
