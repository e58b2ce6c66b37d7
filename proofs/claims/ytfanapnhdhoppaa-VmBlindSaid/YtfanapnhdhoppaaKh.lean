/-
  Words for a variable that is an array of 4096 numbers of sixteen bits, in a block of its own; the contract of the closure that takes bits off one of them.
-/
import Derived.Test.YtfanapnhdhoppaaKg
import Derived.Deep.WholeRow
namespace Go.Proofs.Ytfanapnhdhoppaa
open Go.RowKit

def arrOf (C : Nat → Nat) : Array Value := (Array.range 4096).map fun i => .int .u16 (C i : Nat)
theorem arrOf_size (C : Nat → Nat) : (arrOf C).size = 4096 := by simp [arrOf]
theorem arrOf_get (C : Nat → Nat) (i : Nat) (hi : i < 4096) : (arrOf C)[i]? = some (.int .u16 (C i : Nat)) := by
  rw [Array.getElem?_eq_getElem (by rw [arrOf_size]; exact hi)]
  simp [arrOf]
theorem arrOf_congr {C D : Nat → Nat} (h : ∀ i, i < 4096 → C i = D i) : arrOf C = arrOf D := by
  apply Array.ext
  · rw [arrOf_size, arrOf_size]
  · intro i h1 h2
    rw [arrOf_size] at h1
    simp [arrOf, h i h1]
theorem arrOf_set (C : Nat → Nat) (i v : Nat) : (arrOf C).setIfInBounds i (.int .u16 v) = arrOf (fun j => if j = i then v else C j) := by
  apply Array.ext
  · simp [arrOf]
  · intro j h1 h2
    rw [Array.getElem_setIfInBounds]
    simp only [arrOf, Array.getElem_map, Array.getElem_range]
    by_cases h : i = j
    · rw [if_pos h, if_pos h.symm]
    · rw [if_neg h, if_neg (fun e => h e.symm)]
    simpa [arrOf] using h2
theorem arrOf_one (C : Nat → Nat) : (arrOf C).all (·.oneCell') = true := by
  rw [Array.all_eq_true_iff_forall_mem]
  intro x hx
  obtain ⟨i, _, rfl⟩ := Array.mem_map.1 hx
  rfl
def isZ16 : Value → Bool
  | .int .u16 n => n == 0
  | _ => false
def allB : Nat → List Value → Bool
  | 0, [] => true
  | n + 1, v :: l => cond (isZ16 v) (allB n l) false
  | _, _ => false
theorem isZ16_eq {v : Value} (h : isZ16 v = true) : v = .int .u16 0 := by
  unfold isZ16 at h
  split at h
  · rw [beq_iff_eq] at h; rw [h]
  · cases h
theorem allB_eq : ∀ (n : Nat) (l : List Value), allB n l = true → l = List.replicate n (.int .u16 0)
  | 0, [], _ => rfl
  | 0, _ :: _, h => by cases h
  | _ + 1, [], h => by cases h
  | n + 1, v :: l, h => by
    unfold allB at h
    cases hv : isZ16 v
    · rw [hv] at h; cases h
    · rw [hv] at h
      rw [isZ16_eq hv, allB_eq n l h, List.replicate_succ]
def zchk (n : Nat) : Option Value → Bool
  | some (.agg a) => allB n a.toList
  | _ => false
/-- A closed fact on the array's zero value. -/
theorem z56 : zchk 4096 ((Try.prog.info? 132).bind (·.zero)) = true := by kernel_rfl
theorem arrOf_zero {n : Nat} (hn : n = 4096) : arrOf (fun _ => 0) = Array.replicate n (.int .u16 0) := by
  apply Array.ext
  · rw [arrOf_size]; simp [hn]
  · intro i h1 h2
    simp [arrOf]
theorem zero_of {t : TypeId} {n : Nat} (hn : n = 4096) (h : zchk n ((Try.prog.info? t).bind (·.zero)) = true) (w : World) : (zeroValue t).run Try.prog w = .ok (.agg (arrOf fun _ => 0)) w := by
  rcases hi : Try.prog.info? t with _ | i
  · rw [hi] at h; cases h
  · rw [hi] at h
    simp only [Option.bind_some] at h
    rcases hz : i.zero with _ | v
    · rw [hz] at h; cases h
    · rw [hz] at h
      cases v with
      | agg a =>
        have ha : a = arrOf (fun _ => 0) := by
          rw [arrOf_zero hn]
          apply Array.toList_inj.1
          rw [allB_eq n _ h, Array.toList_replicate]
        simp [zeroValue, typeInfo, hi, hz, ha]
      | _ => cases h
theorem zero56 (w : World) : (zeroValue 132).run Try.prog w = .ok (.agg (arrOf fun _ => 0)) w := zero_of (n := 4096) rfl z56 w
theorem size56 (C : Nat → Nat) : (Try.prog.info? 132).map (·.size) = some (arrOf C).size := by
  rw [arrOf_size]; kernel_rfl

/-- The block b holds the array of the numbers C 0, C 1, .. -/
def Arr (w : World) (b : Nat) (C : Nat → Nat) : Prop := w.heap[b]? = some (.cells (arrOf C) 132)
section
variable {w w' : World} {b b' : Nat} {C D : Nat → Nat}
theorem Arr.lt (h : Arr w b C) : b < w.heap.size := (Array.getElem?_eq_some_iff.1 h).1
theorem Arr.cell (h : Arr w b C) (i : Nat) (hi : i < 4096) : w.cell? ⟨b, i, none⟩ = some (.int .u16 (C i : Nat)) := by
  rw [cell_of_row w b i _ _ (0, 0) h, arrOf_get C i hi]
theorem Arr.frozen (h : Arr w b C) (i : Nat) : w.frozen? ⟨b, i, none⟩ = false := by
  have h' : w.heap[b]? = some (.cells (arrOf C) 132) := h
  simp [World.frozen?, h']
theorem Arr.below {N : Nat} (h : Arr w b C) (hb : Below N w w') (hB : b < N) : Arr w' b C := (hb.block b hB).trans h
theorem Arr.congr (h : Arr w b C) (he : ∀ i, i < 4096 → C i = D i) : Arr w b D := by
  unfold Arr at *; rw [← arrOf_congr he]; exact h
theorem Arr.set (h : Arr w b C) (i v : Nat) : Arr (w.setCell ⟨b, i, none⟩ (.int .u16 v)) b (fun j => if j = i then v else C j) := by
  unfold Arr
  rw [setCell_eq_setRow w b i _ _ (0, 0) _ h, arrOf_set]
  exact setRow_heap w b _ _ _ _ h
theorem Arr.other (h : Arr w b C) (i : Nat) (v : Value) (hb : b ≠ b') : Arr (w.setCell ⟨b', i, none⟩ v) b C := by
  unfold Arr
  rw [Below.heap_setCell w ⟨b', i, none⟩ v b (fun e => hb e)]
  exact h
theorem Arr.new (C : Nat → Nat) : Arr (w.alloc (.cells (arrOf C) 132)) w.heap.size C := heap_alloc_last w _
theorem load_n {n : Nat} {cs : Array Value} {t : TypeId} (hn : cs.size = n) (h : w.heap[b]? = some (.cells cs t)) : (loadCellsFrom ⟨b, 0, none⟩ 0 n #[]).run Try.prog w = .ok cs w := by
  subst hn
  have := run_loadCells_list (P := Try.prog) w ⟨b, 0, none⟩ cs.toList (fun j v hv => by
    have hadd : (⟨b, 0, none⟩ : Addr).add j = ⟨b, j, none⟩ := by unfold Addr.add; split <;> simp_all
    rw [hadd, cell_of_row w b j _ _ (0, 0) h]
    simpa using hv)
  simpa [loadCells] using this
theorem store_n {cs ds : Array Value} {t : TypeId} (hn : cs.size = ds.size) (h : w.heap[b]? = some (.cells cs t)) (h1 : ds.all (·.oneCell') = true) : (storeCells ⟨b, 0, none⟩ ds.toList 0).run Try.prog w = .ok () (w.setRow b ds) := by
  have := run_storeCells_from (P := Try.prog) b t ds.toList 0 cs w h (by simp; omega) (fun v hv => (Array.all_eq_true_iff_forall_mem.1 h1) v (by simpa using hv))
  simpa using this
theorem Arr.load (h : Arr w b C) : (loadCellsFrom ⟨b, 0, none⟩ 0 4096 #[]).run Try.prog w = .ok (arrOf C) w := load_n (arrOf_size C) h
theorem Arr.store (h : Arr w b C) (D : Nat → Nat) : (storeCells ⟨b, 0, none⟩ (arrOf D).toList 0).run Try.prog w = .ok () (w.setRow b (arrOf D)) := store_n ((arrOf_size C).trans (arrOf_size D).symm) h (arrOf_one D)
theorem Arr.row (h : Arr w b C) (D : Nat → Nat) : Arr (w.setRow b (arrOf D)) b D := setRow_heap w b _ _ _ _ h
end

set_option maxRecDepth 100000 in
theorem lead_any (b : Nat) (C : Nat → Nat) (to on : Nat) (w : World) (h : Arr w b C) (hto : to < 4096) (hon : on < 65536) (hC : C to < 65536) :
    Calls Try.prog 94 #[.int .i64 to, .int .u16 on, .pointer (some ⟨b, 0, none⟩)] w fun e w' => e = .returned (.tuple #[]) ∧ w' = w.setCell ⟨b, to, none⟩ (.int .u16 ((C to &&& on : Nat) : Int)) := by
  have h1 := h.cell to hto
  have h2 := h.frozen to
  rw [← u16_and_nat (C to) on hC hon]
  generalize C to = x at *
  clear h
  go_enter Try.func94, Try.ntmps94
  go_wp2
  go_end0
  exact ⟨rfl, rfl⟩
end Go.Proofs.Ytfanapnhdhoppaa
