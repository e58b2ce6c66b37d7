/-
  Rows of a table in memory; systab.find at the three questions' functions.
-/
import Derived.WalkKit
import Derived.Deep.WholeRow
import Derived.Laws.EntriesVeiled
import Derived.Laws.CopyOwn
import Derived.Lib.Hide
import Derived.RegionTactic
import Derived.Test.YtcembcicpmhpkaaGreatDoorProg
import Derived.Test.YtcembcicpmhpkaaGreatDoorRw
namespace Go.Proofs.YtcembcicpmhpkaaGreatDoor
open Go.RowKit
set_option linter.unusedVariables false

structure SR where
  nm : ByteArray
  n0 : Int
  n1 : Int
  n2 : Int
  n3 : Int
  n4 : Int
  mx : Int
  sb : Int
abbrev srow (r : SR) : Array Value := #[.string r.nm, .int .i64 r.n0, .int .i64 r.n1, .int .i64 r.n2, .int .i64 r.n3, .int .i64 r.n4, .int .i64 r.mx, .int .i64 r.sb]
abbrev sr0 : Array Value := #[.string ⟨#[]⟩, .int .i64 0, .int .i64 0, .int .i64 0, .int .i64 0, .int .i64 0, .int .i64 0, .int .i64 0]
/-- The rows of a table. -/
def Tb (w : World) (b o n : Nat) (T : Nat → SR) : Prop := b < w.heap.size ∧ ∀ i, i < n → w.cell? ⟨b, o + i * 8, none⟩ = some (.string (T i).nm) ∧ w.cell? ⟨b, o + i * 8 + 1, none⟩ = some (.int .i64 (T i).n0) ∧ w.cell? ⟨b, o + i * 8 + 2, none⟩ = some (.int .i64 (T i).n1) ∧ w.cell? ⟨b, o + i * 8 + 3, none⟩ = some (.int .i64 (T i).n2) ∧ w.cell? ⟨b, o + i * 8 + 4, none⟩ = some (.int .i64 (T i).n3) ∧ w.cell? ⟨b, o + i * 8 + 5, none⟩ = some (.int .i64 (T i).n4) ∧ w.cell? ⟨b, o + i * 8 + 6, none⟩ = some (.int .i64 (T i).mx) ∧ w.cell? ⟨b, o + i * 8 + 7, none⟩ = some (.int .i64 (T i).sb)
theorem Tb.below {w w' : World} {b o n : Nat} {T : Nat → SR} {B : Nat} (h : Tb w b o n T) (hb : Below B w w') (hB : w.heap.size ≤ B) : Tb w' b o n T := by
  have hl := h.1
  refine ⟨?_, fun i hi => ?_⟩
  · have := hb.size; omega
  · obtain ⟨h0, h1, h2, h3, h4, h5, h6, h7⟩ := h.2 i hi
    exact ⟨((hb.cell (p := ⟨b, o + i * 8, none⟩) (Nat.lt_of_lt_of_le hl hB)).trans h0), ((hb.cell (p := ⟨b, o + i * 8 + 1, none⟩) (Nat.lt_of_lt_of_le hl hB)).trans h1), ((hb.cell (p := ⟨b, o + i * 8 + 2, none⟩) (Nat.lt_of_lt_of_le hl hB)).trans h2), ((hb.cell (p := ⟨b, o + i * 8 + 3, none⟩) (Nat.lt_of_lt_of_le hl hB)).trans h3), ((hb.cell (p := ⟨b, o + i * 8 + 4, none⟩) (Nat.lt_of_lt_of_le hl hB)).trans h4), ((hb.cell (p := ⟨b, o + i * 8 + 5, none⟩) (Nat.lt_of_lt_of_le hl hB)).trans h5), ((hb.cell (p := ⟨b, o + i * 8 + 6, none⟩) (Nat.lt_of_lt_of_le hl hB)).trans h6), ((hb.cell (p := ⟨b, o + i * 8 + 7, none⟩) (Nat.lt_of_lt_of_le hl hB)).trans h7)⟩
/-- A slice of rows, at any address. -/
def TbA (w : World) (A : Option Addr) (n : Nat) (T : Nat → SR) : Prop := n = 0 ∨ ∃ b o, A = some ⟨b, o, none⟩ ∧ Tb w b o n T
theorem TbA.below {w w' : World} {A : Option Addr} {n : Nat} {T : Nat → SR} {B : Nat} (h : TbA w A n T) (hb : Below B w w') (hB : w.heap.size ≤ B) : TbA w' A n T := by
  rcases h with h | ⟨b, o, rfl, ht⟩
  · exact .inl h
  · exact .inr ⟨b, o, rfl, ht.below hb hB⟩
theorem TbA.at_ {w : World} {A : Option Addr} {n : Nat} {T : Nat → SR} (h : TbA w A n T) {k : Nat} (hk : k < n) : ∃ b o, A = some ⟨b, o, none⟩ ∧ Tb w b o n T := by
  rcases h with h | h
  · omega
  · exact h
theorem TbA.of {w : World} {b o n : Nat} {T : Nat → SR} (h : Tb w b o n T) : TbA w (some ⟨b, o, none⟩) n T := .inr ⟨b, o, rfl, h⟩
theorem infoSR : (Tryz.prog.info? 159).map (·.size) = some 8 := by kernel_rfl
/-- What a look for a row gives. -/
def FindT (P : Nat → Bool) (T : Nat → SR) (n : Nat) (w : World) (e : Ending) (w' : World) : Prop :=
  ((∃ j, j < n ∧ P j = true ∧ (∀ i, i < j → P i = false) ∧ e = .returned (.tuple #[.agg (srow (T j)), .int .i64 j, .bool true])) ∨
   ((∀ i, i < n → P i = false) ∧ e = .returned (.tuple #[.agg sr0, .int .i64 0, .bool false]))) ∧ Below w.heap.size w w'
theorem results_ctS {P : Program} {fn : Func} {p q r : Tmp} {ty : TypeId} (h : fn.results = #[.cell p ty, .tmp q, .tmp r]) (tmps : Array Value) (w : World) (g : Nat) (t : TypeId) (cs : Array Value) (fr : Nat × Nat) (d : TypeDesc) (u v : Value)
    (hp : tmps.getD p undef = .pointer (some ⟨g, 0, none⟩)) (hq : tmps.getD q undef = u) (hr : tmps.getD r undef = v) (hg : w.heap[g]? = some (.cells cs t fr))
    (hu : P.underlying ty = some d) (hd : (match d with | .struct _ | .array _ _ => true | _ => false) = true) (hi : (P.info? ty).map (·.size) = some cs.size) :
    (results fn tmps).run P w = .ok (.tuple #[.agg cs, u, v]) w := by
  have hp' : tmps[p]?.getD undef = .pointer (some ⟨g, 0, none⟩) := by simpa using hp
  have hq' : tmps[q]?.getD undef = u := by simpa using hq
  have hr' : tmps[r]?.getD undef = v := by simpa using hr
  simp [results, h, hp', hq', hr', asAddr, run_loadVar_row w g t ty cs fr d hg hu hd hi, Result.andThen]

end Go.Proofs.YtcembcicpmhpkaaGreatDoor
