/-
  Layer 16: SortFunc at conditions by their order.
-/
import Derived.Test.YtccklmleaffgiaaGreatDoorQ4
import Derived.Test.YtccklmleaffgiaaGreatDoorOsh
import Derived.Shelf.Abstract
import Derived.Sort.Grow
import Derived.RegionTactic
import Derived.Deep.RegionWith
import Derived.Deep.RegionHeld3
import Derived.Lib.SlicesCompact
import Derived.Lib.SliceRun
import Derived.Laws.IdiomCopy
import Derived.Deep.LoopGhost
namespace Go.Proofs.YtccklmleaffgiaaGreatDoor
open Go.RowKit Go.Shelf Go.Lib Go.Sort
set_option linter.unusedVariables false

abbrev CV := Int × Int × Int × Int
def encC (x : CV) : List Value := [.int .i64 x.1, .int .i64 x.2.1, .int .u64 x.2.2.1, .int .u64 x.2.2.2]
end Go.Proofs.YtccklmleaffgiaaGreatDoor

/-
  Layer 16: slices.Compact at conditions.
-/
namespace Go.Proofs.YtccklmleaffgiaaGreatDoor
open Go.RowKit Go.Shelf Go.Lib Go.Sort
set_option linter.unusedVariables false

/-- A block of this type. -/
def TyAt (w : World) (b : Nat) (T : TypeId) : Prop := ∃ cs, ∃ fr : Nat × Nat, w.heap[b]? = some (.cells cs T fr)
theorem TyAt.set {w : World} {b : Nat} {T : TypeId} (h : TyAt w b T) (i : Nat) (v : Value) : TyAt (w.setCell ⟨b, i, none⟩ v) b T := by
  obtain ⟨cs, fr, h⟩ := h
  exact ⟨_, fr, by rw [setCell_eq_setRow w b i cs T fr v h]; exact setRow_heap w b cs _ T fr h⟩
theorem TyAt.keep {w w' : World} {b : Nat} {T : TypeId} (h : TyAt w b T) (he : w'.heap[b]? = w.heap[b]?) : TyAt w' b T := by
  obtain ⟨cs, fr, h⟩ := h
  exact ⟨cs, fr, he.trans h⟩
theorem TyAt.lt {w : World} {b : Nat} {T : TypeId} (h : TyAt w b T) : b < w.heap.size := by
  obtain ⟨cs, fr, h⟩ := h
  exact (Array.getElem?_eq_some_iff.1 h).1
theorem TyAt.map {w : World} {b : Nat} {T : TypeId} (h : TyAt w b T) (f : Array Value → Array Value) : TyAt (mapBlock w b f) b T := by
  obtain ⟨cs, fr, h⟩ := h
  refine ⟨f cs, fr, ?_⟩
  obtain ⟨h1, h2⟩ := Array.getElem?_eq_some_iff.1 h
  unfold mapBlock
  simp only
  rw [Array.getElem?_eq_getElem (by simpa using h1), Array.getElem_modify, if_pos rfl, h2]
  rfl
theorem TyAt.grow {w : World} {b : Nat} {T : TypeId} (h : TyAt w b T) (os : Array Obj) : TyAt (grow w os) b T := by
  have hl := h.lt
  refine h.keep ?_
  unfold Sort.grow
  simp only
  exact Array.getElem?_append_left hl
theorem divmod4 (i c : Nat) (hc : c < 4) : (i * 4 + c) / 4 = i ∧ (i * 4 + c) % 4 = c := by omega
theorem HoldsK.four {W : World} {blk off : Nat} {d : Array CV} (h : HoldsK encC 4 W blk off d) {i : Nat} (hi : i < d.size) {x : CV} (hx : d[i]! = x) :
    W.cell? ⟨blk, off + i * 4, none⟩ = some (.int .i64 x.1) ∧ W.cell? ⟨blk, off + i * 4 + 1, none⟩ = some (.int .i64 x.2.1) ∧ W.cell? ⟨blk, off + i * 4 + 2, none⟩ = some (.int .u64 x.2.2.1) ∧ W.cell? ⟨blk, off + i * 4 + 3, none⟩ = some (.int .u64 x.2.2.2) := by
  subst hx
  have h0 := (HoldsK.cell (c := 0) h hi (by decide)).1
  rw [Nat.add_zero] at h0
  exact ⟨h0, (HoldsK.cell (c := 1) h hi (by decide)).1, (HoldsK.cell (c := 2) h hi (by decide)).1, (HoldsK.cell (c := 3) h hi (by decide)).1⟩
theorem HoldsK.put {W : World} {blk off : Nat} {d : Array CV} (h : HoldsK encC 4 W blk off d) {i : Nat} (hi : i < d.size) (x : CV) :
    HoldsK encC 4 (W.setCells blk (off + i * 4) (encC x)) blk off (d.setIfInBounds i x) := by
  intro t ht
  have ht' : t < d.size * 4 := by simpa using ht
  refine ⟨?_, by rw [World.frozen?_setCells]; exact (h t (by rw [size_flatK]; exact ht')).2⟩
  rw [get_flatK _ _ _ _ (by simpa using ht')]
  by_cases e : t / 4 = i
  · obtain ⟨c, hc, rfl⟩ : ∃ c, c < 4 ∧ t = i * 4 + c := ⟨t % 4, by omega, by omega⟩
    have hin := World.cell?_setCells_in blk (encC x) (off + i * 4) W (fun j hj => by
      have := (HoldsK.cell (c := j) h hi (show j < 4 from hj)).1
      rw [this]; rfl) c (show c < 4 from hc)
    rw [← Nat.add_assoc, hin, (divmod4 i c hc).1, (divmod4 i c hc).2, getElem!_set_same d i x hi]
    show some (encC x)[c] = some (encC x)[c]!
    rw [getElem!_pos (encC x) c (show c < 4 from hc)]
  · have hout := World.cell?_setCells_out blk (encC x) (off + i * 4) W ⟨blk, off + t, none⟩ (fun _ _ => by
      show off + t < off + i * 4 ∨ off + i * 4 + 4 ≤ off + t
      omega)
    rw [hout]
    have := (h t (by rw [size_flatK]; exact ht')).1
    rw [get_flatK _ _ _ _ ht'] at this
    show W.cell? _ = some _
    rw [this]
    have hq : t / 4 < d.size := by omega
    rw [getElem!_pos (d.setIfInBounds i x) (t / 4) (by simpa using hq), getElem!_pos d (t / 4) hq, Array.getElem_setIfInBounds, if_neg (Ne.symm e)]
end Go.Proofs.YtccklmleaffgiaaGreatDoor
