/-
  The contract of flow.reached: which places are reached. Sent into a channel with room, received by a select with a default.
-/
import Derived.Test.YtgndfcjfajnemaaFb
import Derived.Test.YtgndfcjfajnemaaFc
import Derived.Test.YtgndfcjfajnemaaFd
import Derived.Conc.SmallLaws
namespace Go.Proofs.Ytgndfcjfajnemaa
open Go.RowKit Go.Conc

/-- A row of booleans. -/
def boolRow (n : Nat) (M : Nat → Bool) : Array Value := ((List.range n).map fun i => Value.bool (M i)).toArray
theorem boolRow_at (n : Nat) (M : Nat → Bool) (i : Nat) (hi : i < n) : (boolRow n M)[i]? = some (.bool (M i)) := by simp [boolRow, hi]
theorem boolRow_set (n : Nat) (M : Nat → Bool) (to : Nat) : (boolRow n M).setIfInBounds to (.bool true) = boolRow n (upd M to) := by
  apply Array.ext_getElem?
  intro i
  rw [Array.getElem?_setIfInBounds]
  by_cases h : to = i
  · subst h
    rw [if_pos rfl]
    by_cases hn : to < n
    · simp [boolRow, hn, upd]
    · simp [boolRow, hn]
  · rw [if_neg h]
    by_cases hn : i < n
    · have hne : (i == to) = false := by simp; omega
      simp [boolRow, hn, upd, hne]
    · simp [boolRow, hn]
theorem mk_bools (n : Nat) (hn : n ≤ 4096) (W : World) : (Instr.makeSlice 70 (.int .i64 (n : Int)) (.int .i64 (n : Int))).run Try.prog W = .ok (.slice (some ⟨W.heap.size, 0, none⟩) n n) (W.alloc (.cells (boolRow n fun _ => false) 4)) := by
  obtain ⟨i0, hi0, hz0, hz1, hz2⟩ := info_parts infoBool
  have hr := run_make (P := Try.prog) W 70 4 i0 _ Try.underlying70 hi0 hz0 .i64 .i64 n n (by omega) (Int.le_refl _) (by rw [hz2]; omega) (by omega)
  rw [hz1] at hr
  simp only [Int.toNat_natCast] at hr
  have e : madeCells (Value.bool false).cells (n * 1) = boolRow n fun _ => false := by
    rw [Nat.mul_one]
    apply Array.ext_getElem?
    intro i
    by_cases hi : i < n
    · simp [madeCells, boolRow, hi, Value.cells, Nat.mod_one]
    · simp [madeCells, boolRow, hi, Value.cells]
  rw [e] at hr
  exact hr
theorem setChan_at (w : World) (c c' cap : Nat) (buf : Array Value) (closed : Bool) (s r : Nat) (tm : Bool) (h : c' ≠ c) : (w.setChan c cap buf closed s r tm).heap[c']? = w.heap[c']? := by
  simp [World.setChan, Array.getElem?_setIfInBounds_ne (Ne.symm h)]
section
variable {g : Nat → IV} {n : Nat} {w0 : World} {A : Option Addr} {cp mb MB AB PB c : Nat} {W W' : World} {M : Nat → Bool} {q : List Nat}
end
/-- A place among those that came in. -/
def Plc (w0 : World) (A : Option Addr) (n : Nat) (g : Nat → IV) : Prop := ∃ pb off, A = some ⟨pb, off, none⟩ ∧ pb < w0.heap.size ∧ ∀ i, i < n * 6 → w0.cell? ⟨pb, off + i, none⟩ = some (fcell g i)
end Go.Proofs.Ytgndfcjfajnemaa
