/-
  Rows of a table in memory; systab.find at the three questions' functions.
-/
import Derived.Test.YtccklmleaffgiaaGreatDoorProg
import Derived.Test.YtccklmleaffgiaaGreatDoorQ1
import Derived.WalkKit
import Derived.Deep.WholeRow
import Derived.Laws.EntriesVeiled
import Derived.Laws.CopyOwn
import Derived.Lib.Hide
import Derived.RegionTactic
import Derived.Deep.Cut
namespace Go.Proofs.YtccklmleaffgiaaGreatDoor
open Go.RowKit
set_option linter.unusedVariables false

structure SR where
  nm : ByteArray
  n0 : Int
  n1 : Int
  n2 : Int
  n3 : Int
  n4 : Int
  mx : Int
  sb : Int
abbrev srow (r : SR) : Array Value := #[.string r.nm, .int .i64 r.n0, .int .i64 r.n1, .int .i64 r.n2, .int .i64 r.n3, .int .i64 r.n4, .int .i64 r.mx, .int .i64 r.sb]
/-- The rows of a table. -/
def Tb (w : World) (b o n : Nat) (T : Nat → SR) : Prop := b < w.heap.size ∧ ∀ i, i < n → w.cell? ⟨b, o + i * 8, none⟩ = some (.string (T i).nm) ∧ w.cell? ⟨b, o + i * 8 + 1, none⟩ = some (.int .i64 (T i).n0) ∧ w.cell? ⟨b, o + i * 8 + 2, none⟩ = some (.int .i64 (T i).n1) ∧ w.cell? ⟨b, o + i * 8 + 3, none⟩ = some (.int .i64 (T i).n2) ∧ w.cell? ⟨b, o + i * 8 + 4, none⟩ = some (.int .i64 (T i).n3) ∧ w.cell? ⟨b, o + i * 8 + 5, none⟩ = some (.int .i64 (T i).n4) ∧ w.cell? ⟨b, o + i * 8 + 6, none⟩ = some (.int .i64 (T i).mx) ∧ w.cell? ⟨b, o + i * 8 + 7, none⟩ = some (.int .i64 (T i).sb)
theorem Tb.below {w w' : World} {b o n : Nat} {T : Nat → SR} {B : Nat} (h : Tb w b o n T) (hb : Below B w w') (hB : w.heap.size ≤ B) : Tb w' b o n T := by
  have hl := h.1
  refine ⟨?_, fun i hi => ?_⟩
  · have := hb.size; omega
  · obtain ⟨h0, h1, h2, h3, h4, h5, h6, h7⟩ := h.2 i hi
    exact ⟨((hb.cell (p := ⟨b, o + i * 8, none⟩) (Nat.lt_of_lt_of_le hl hB)).trans h0), ((hb.cell (p := ⟨b, o + i * 8 + 1, none⟩) (Nat.lt_of_lt_of_le hl hB)).trans h1), ((hb.cell (p := ⟨b, o + i * 8 + 2, none⟩) (Nat.lt_of_lt_of_le hl hB)).trans h2), ((hb.cell (p := ⟨b, o + i * 8 + 3, none⟩) (Nat.lt_of_lt_of_le hl hB)).trans h3), ((hb.cell (p := ⟨b, o + i * 8 + 4, none⟩) (Nat.lt_of_lt_of_le hl hB)).trans h4), ((hb.cell (p := ⟨b, o + i * 8 + 5, none⟩) (Nat.lt_of_lt_of_le hl hB)).trans h5), ((hb.cell (p := ⟨b, o + i * 8 + 6, none⟩) (Nat.lt_of_lt_of_le hl hB)).trans h6), ((hb.cell (p := ⟨b, o + i * 8 + 7, none⟩) (Nat.lt_of_lt_of_le hl hB)).trans h7)⟩
/-- A slice of rows, at any address. -/
def TbA (w : World) (A : Option Addr) (n : Nat) (T : Nat → SR) : Prop := n = 0 ∨ ∃ b o, A = some ⟨b, o, none⟩ ∧ Tb w b o n T
theorem TbA.below {w w' : World} {A : Option Addr} {n : Nat} {T : Nat → SR} {B : Nat} (h : TbA w A n T) (hb : Below B w w') (hB : w.heap.size ≤ B) : TbA w' A n T := by
  rcases h with h | ⟨b, o, rfl, ht⟩
  · exact .inl h
  · exact .inr ⟨b, o, rfl, ht.below hb hB⟩
theorem TbA.at_ {w : World} {A : Option Addr} {n : Nat} {T : Nat → SR} (h : TbA w A n T) {k : Nat} (hk : k < n) : ∃ b o, A = some ⟨b, o, none⟩ ∧ Tb w b o n T := by
  rcases h with h | h
  · omega
  · exact h
theorem TbA.of {w : World} {b o n : Nat} {T : Nat → SR} (h : Tb w b o n T) : TbA w (some ⟨b, o, none⟩) n T := .inr ⟨b, o, rfl, h⟩
end Go.Proofs.YtccklmleaffgiaaGreatDoor

/-
  systab.Find, numberOf, isABI and Number of any table.
-/
namespace Go.Proofs.YtccklmleaffgiaaGreatDoor
open Go.RowKit
set_option linter.unusedVariables false

/-- A row's number in an ABI. -/
def numI (r : SR) : Nat → Int
  | 0 => r.n0
  | 1 => r.n1
  | 2 => r.n2
  | 3 => r.n3
  | _ => r.n4
theorem srow_num (r : SR) (a : Nat) (ha : a < 5) : (#[.string r.nm, .int .i64 r.n0, .int .i64 r.n1, .int .i64 r.n2, .int .i64 r.n3, .int .i64 r.n4, .int .i64 r.mx, .int .i64 r.sb] : Array Value)[1 + a]? = some (.int .i64 (numI r a)) := by
  have h : a = 0 ∨ a = 1 ∨ a = 2 ∨ a = 3 ∨ a = 4 := by omega
  rcases h with rfl | rfl | rfl | rfl | rfl <;> rfl
end Go.Proofs.YtccklmleaffgiaaGreatDoor

/-
  The document's own Name of layer 11.
-/
namespace Go.Proofs.YtccklmleaffgiaaGreatDoor
open Go.RowKit
set_option linter.unusedVariables false

/-- The bytes of a name. -/
def ChN (b : UInt8) : Prop := (97 ≤ b.toNat ∧ b.toNat ≤ 122) ∨ (48 ≤ b.toNat ∧ b.toNat ≤ 57) ∨ b.toNat = 95
/-- Which names may be. -/
def NmP (s : ByteArray) : Prop := s.size ≠ 0 ∧ s.size ≤ 30 ∧ (∀ c, s.data.toList[0]? = some c → 97 ≤ c.toNat ∧ c.toNat ≤ 122) ∧ (s.toList == ([100, 101, 102, 97, 117, 108, 116] : List UInt8)) = false ∧ (s.toList == ([120, 51, 50] : List UInt8)) = false ∧ ∀ b ∈ s.data.toList, ChN b
end Go.Proofs.YtccklmleaffgiaaGreatDoor

/-
  The document's own Find, Number, At and Sub of layer 11.
-/
namespace Go.Proofs.YtccklmleaffgiaaGreatDoor
open Go.RowKit
set_option linter.unusedVariables false

theorem Tb.num {w : World} {b o n : Nat} {T : Nat → SR} (h : Tb w b o n T) (i : Nat) (hi : i < n) (a : Nat) (ha : a < 5) : w.cell? ⟨b, o + i * 8 + 1 + a, none⟩ = some (.int .i64 (numI (T i) a)) := by
  obtain ⟨h0, h1, h2, h3, h4, h5, h6, h7⟩ := h.2 i hi
  have hc : a = 0 ∨ a = 1 ∨ a = 2 ∨ a = 3 ∨ a = 4 := by omega
  rcases hc with rfl | rfl | rfl | rfl | rfl
  · exact h1
  · exact h2
  · exact h3
  · exact h4
  · exact h5
end Go.Proofs.YtccklmleaffgiaaGreatDoor
