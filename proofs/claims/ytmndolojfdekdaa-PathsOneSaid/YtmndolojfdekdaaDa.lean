/-
  Words for an array of bytes in a block of its own; the contract of the closure of data.Write that copies a word's bytes into it.
-/
import Derived.Test.YtmndolojfdekdaaWd
import Derived.Deep.WholeRow
import Derived.Laws.CopyOwn
import Derived.Deep.RegionWith
namespace Go.Proofs.Ytmndolojfdekdaa
open Go.RowKit

/-- n bytes as an array's cells. -/
def arrB (n : Nat) (C : Nat → Nat) : Array Value := (Array.range n).map fun i => bv (C i)
theorem arrB_size (n : Nat) (C : Nat → Nat) : (arrB n C).size = n := by simp [arrB]
theorem arrB_get (n : Nat) (C : Nat → Nat) (i : Nat) (hi : i < n) : (arrB n C)[i]? = some (bv (C i)) := by
  rw [Array.getElem?_eq_getElem (by rw [arrB_size]; exact hi)]
  simp [arrB]
theorem arrB_congr {n : Nat} {C D : Nat → Nat} (h : ∀ i, i < n → C i = D i) : arrB n C = arrB n D := by
  apply Array.ext
  · rw [arrB_size, arrB_size]
  · intro i h1 h2
    rw [arrB_size] at h1
    simp [arrB, h i h1]
theorem arrB_list (n : Nat) (C : Nat → Nat) : (arrB n C).toList = (List.range n).map fun i => bv (C i) := by simp [arrB]
theorem arrB_one (n : Nat) (C : Nat → Nat) : (arrB n C).all (·.oneCell') = true := by
  rw [Array.all_eq_true_iff_forall_mem]
  intro x hx
  obtain ⟨i, _, rfl⟩ := Array.mem_map.1 hx
  rfl
/-- An array with some bytes laid over it. -/
def laid (p wd : Nat) (f C : Nat → Nat) (i : Nat) : Nat := if p ≤ i ∧ i < p + wd then f (i - p) else C i
theorem splice_arrB (n : Nat) (C f : Nat → Nat) (p wd : Nat) (h : p + wd ≤ n) :
    (splice (arrB n C).toList p ((List.range wd).map fun i => bv (f i))).toArray = arrB n (laid p wd f C) := by
  apply Array.toList_inj.1
  rw [arrB_list, arrB_list]
  unfold splice
  apply List.ext_getElem
  · simp; omega
  · intro i h1 h2
    simp at h2
    simp only [List.getElem_append, List.length_take, List.length_map, List.length_range, List.getElem_take, List.getElem_map, List.getElem_range, List.getElem_drop]
    unfold laid
    have hm : min p n = p := by omega
    simp only [hm]
    by_cases hi : i < p
    · rw [dif_pos hi, if_neg (by omega)]
    · rw [dif_neg hi]
      by_cases hj : i - p < wd
      · rw [dif_pos hj, if_pos (by omega)]
      · rw [dif_neg hj, if_neg (by omega), show p + wd + (i - p - wd) = i from by omega]

/-- The block b holds the array of the bytes C 0, C 1, .. -/
def ArB (w : World) (b n : Nat) (T : TypeId) (C : Nat → Nat) : Prop := w.heap[b]? = some (.cells (arrB n C) T)
section
variable {w w' : World} {b b' n : Nat} {T : TypeId} {C D : Nat → Nat}
theorem ArB.lt (h : ArB w b n T C) : b < w.heap.size := (Array.getElem?_eq_some_iff.1 h).1
theorem ArB.cell (h : ArB w b n T C) (i : Nat) (hi : i < n) : w.cell? ⟨b, i, none⟩ = some (bv (C i)) := by
  rw [cell_of_row w b i _ _ (0, 0) h, arrB_get n C i hi]
theorem ArB.frozen (h : ArB w b n T C) (i : Nat) : w.frozen? ⟨b, i, none⟩ = false := by
  have h' : w.heap[b]? = some (.cells (arrB n C) T) := h
  simp [World.frozen?, h']
theorem ArB.below {N : Nat} (h : ArB w b n T C) (hb : Below N w w') (hB : b < N) : ArB w' b n T C := (hb.block b hB).trans h
theorem ArB.congr (h : ArB w b n T C) (he : ∀ i, i < n → C i = D i) : ArB w b n T D := by
  unfold ArB at *; rw [← arrB_congr he]; exact h
theorem ArB.new (w : World) (n : Nat) (T : TypeId) (C : Nat → Nat) : ArB (w.alloc (.cells (arrB n C) T)) w.heap.size n T C := heap_alloc_last w _
theorem ArB.alloc (h : ArB w b n T C) (o : Obj) : ArB (w.alloc o) b n T C := h.below ((Below.refl w.heap.size w).alloc (Nat.le_refl _) o) h.lt
theorem ArB.byt (h : ArB w b n T C) (hn : n ≤ maxLen) {B : Nat} (hB : b < B) (hC : ∀ i, i < n → C i < 256) : Byt w B (some ⟨b, 0, none⟩) n n C :=
  Byt.mk_ hB (Nat.le_refl _) hn (fun i hi => ⟨by rw [Nat.zero_add]; exact h.cell i hi, hC i hi⟩)
end

theorem mk4 (w : World) : (Instr.makeSlice 65 (.int .i64 4) (.int .i64 4)).run Try.prog w = .ok (.slice (some ⟨w.heap.size, 0, none⟩) 4 4) (w.alloc (.cells (arrB 4 fun _ => 0) 5)) := by kernel_rfl
theorem mk8 (w : World) : (Instr.makeSlice 65 (.int .i64 8) (.int .i64 8)).run Try.prog w = .ok (.slice (some ⟨w.heap.size, 0, none⟩) 8 8) (w.alloc (.cells (arrB 8 fun _ => 0) 5)) := by kernel_rfl
theorem sizeB : (Try.prog.info? 5).map (·.size) = some 1 := by kernel_rfl

theorem sl_arr (g p : Nat) (hp : p < 64) (W : World) : (Instr.sliceAt 60 (.pointer (some ⟨g, 0, none⟩)) (some (.int .i64 (p : Int))) none none).run Try.prog W = .ok (.slice (some ⟨g, p, none⟩) (64 - p) (64 - p)) W := by
  have hl : Try.prog.arrayLen 60 = 64 := by kernel_rfl
  have hz : (sizeOf (Try.prog.elem 60)).run Try.prog W = .ok 1 W := by kernel_rfl
  rw [run_sliceAt_array_l W 60 _ (by kernel_rfl) .i64 (p : Int) (by omega) (by rw [hl]; omega), hz, hl]
  have h1 : ¬ 64 = p := by omega
  simp [Result.andThen, slicedAt, h1, Go.WideShapes.add_plain]
theorem sl_all (g : Nat) (W : World) : (Instr.sliceAt 60 (.pointer (some ⟨g, 0, none⟩)) none none none).run Try.prog W = .ok (.slice (some ⟨g, 0, none⟩) 64 64) W := by
  have hl : Try.prog.arrayLen 60 = 64 := by kernel_rfl
  have hz : (sizeOf (Try.prog.elem 60)).run Try.prog W = .ok 1 W := by kernel_rfl
  rw [run_sliceAt_array_all W 60 _ (by kernel_rfl), hz, hl]
  simp [Result.andThen, slicedAt, Go.WideShapes.add_plain]

theorem size64 (C : Nat → Nat) : (Try.prog.info? 60).map (·.size) = some (arrB 64 C).size := by
  rw [arrB_size]; kernel_rfl
theorem below_row {B b : Nat} {w w' : World} (h : Below B w w') (hb : B ≤ b) (cs : Array Value) : Below B w (w'.setRow b cs) :=
  h.trans ⟨rfl, rfl, rfl, by simp [World.setRow], fun k hk => setRow_other w' b k cs (by omega)⟩

theorem putF_lt (big : Bool) (p wd n i : Nat) : putF big p wd n (fun _ => 0) i < 256 := by
  unfold putF; split
  · exact Nat.mod_lt _ (by decide)
  · exact Nat.zero_lt_succ 255

/-- Two results, the first of which lies in a block. -/
theorem results_cell_row2 {P : Program} {fn : Func} {p q : Tmp} {ty : TypeId} (h : fn.results = #[.cell p ty, .tmp q]) (tmps : Array Value) (w : World) (g : Nat) (t : TypeId) (cs : Array Value) (fr : Nat × Nat) (d : TypeDesc) (v : Value)
    (hp : tmps.getD p undef = .pointer (some ⟨g, 0, none⟩)) (hq : tmps.getD q undef = v) (hg : w.heap[g]? = some (.cells cs t fr))
    (hu : P.underlying ty = some d) (hd : (match d with | .struct _ | .array _ _ => true | _ => false) = true) (hi : (P.info? ty).map (·.size) = some cs.size) :
    (results fn tmps).run P w = .ok (.tuple #[.agg cs, v]) w := by
  have hp' : tmps[p]?.getD undef = .pointer (some ⟨g, 0, none⟩) := by simpa using hp
  have hq' : tmps[q]?.getD undef = v := by simpa using hq
  simp [results, h, hp', hq', asAddr, run_loadVar_row w g t ty cs fr d hg hu hd hi, Result.andThen]

end Go.Proofs.Ytmndolojfdekdaa
