/-
  cond.Read's question and its look, at any place of any words.
-/
import Derived.Test.YtlajmdfebnicnaaDoorNb
import Derived.Test.YtlajmdfebnicnaaDoorGi
import Derived.RegionTactic
namespace Go.Proofs.YtlajmdfebnicnaaDoor
open Go.Shelf Go.RowKit
set_option linter.unusedVariables false

set_option maxRecDepth 100000 in
set_option maxHeartbeats 8000000 in
theorem read1_o (n : Int) (len : Nat) (cap : Nat) (b o : Nat) (s : ByteArray) (CB k : Nat) (hk : k < 7) (hlen : 3 ≤ len) (w : World) (h1 : w.cell? ⟨CB, 0, none⟩ = some (.slice (some ⟨b, o, none⟩) len cap)) (h2 : w.cell? ⟨b, o + 1, none⟩ = some (.string s)) :
    Calls Tryd.prog 12 #[.int .i64 n, .agg (opA k), .pointer (some ⟨CB, 0, none⟩)] w fun e w' => e = .returned (.bool (isW len s k)) ∧ Below w.heap.size w w' := by
  obtain ⟨F, hkm⟩ := fnO_func k
  have HK := Lib.hid hkm
  simp only [opA, hkm]
  have hB : Below w.heap.size w (w.alloc (.cells #[.string (sgO k), .bool (mkO k), .func (.func F) #[] #[]] 41)) := (Below.refl _ _).alloc (Nat.le_refl _) _
  have l1 := World.block_lt_of_cell? _ _ h1
  have l2 := World.block_lt_of_cell? _ _ h2
  have r0 : RowC (w.alloc (.cells #[.string (sgO k), .bool (mkO k), .func (.func F) #[] #[]] 41)) w.heap.size #[.string (sgO k), .bool (mkO k), .func (.func F) #[] #[]] 41 := RowC.new _ _ _ _ rfl
  have k1 : (w.alloc (.cells #[.string (sgO k), .bool (mkO k), .func (.func F) #[] #[]] 41)).cell? ⟨CB, 0, none⟩ = some (.slice (some ⟨b, o, none⟩) len cap) := (hB.cell (p := ⟨CB, 0, none⟩) l1).trans h1
  have k2 : (w.alloc (.cells #[.string (sgO k), .bool (mkO k), .func (.func F) #[] #[]] 41)).cell? ⟨b, o + 1, none⟩ = some (.string s) := (hB.cell (p := ⟨b, o + 1, none⟩) l2).trans h2
  have l1' : CB < (w.alloc (.cells #[.string (sgO k), .bool (mkO k), .func (.func F) #[] #[]] 41)).heap.size := Nat.lt_of_lt_of_le l1 hB.size
  have l2' : b < (w.alloc (.cells #[.string (sgO k), .bool (mkO k), .func (.func F) #[] #[]] 41)).heap.size := Nat.lt_of_lt_of_le l2 hB.size
  have c0 := r0.cell 0 (.string (sgO k)) rfl
  have c1 := r0.cell 1 (.bool (mkO k)) rfl
  have c2 := r0.cell 2 (.func (.func F) #[] #[]) rfl
  have HB := Lib.hid hB
  have R0 := Lib.hid r0
  have HW := Lib.hid fun W => words_any (sgO k) (mkO k) F W
  have L := Lib.hid (And.intro l1' l2')
  have i1 : (1 : Int) < (len : Int) := by omega
  clear hB l1 l2 r0 l1' l2' hkm h1 h2
  cases ht : decide (wdO (mkO k) ≤ (len : Int))
  · have HR : Hid (isW len s k = false) := Lib.hid (by simp [isW, ht])
    have ht2 : decide ((len : Int) ≥ wdO (mkO k)) = false := ht
    have ht3 : ¬ wdO (mkO k) ≤ (len : Int) := by simpa using ht
    go_enter Tryd.func12, Tryd.ntmps12
    go_wp2_with fail
    generalize w.alloc (.cells #[.string (sgO k), .bool (mkO k), .func (.func F) #[] #[]] 41) = W at *
    first
    | (go_region_with (go_at_call 13; refine (HW.out _).mono ?_; rintro e w6 ⟨rfl, hB6⟩
                       have kk1 := (hB6.cell (p := ⟨CB, 0, none⟩) L.out.1).trans k1))
    | fail "one"
    all_goals go_wp2
    all_goals go_ret
    all_goals exact ⟨ret_bl HR.out.symm, HB.out.drew.trans (hB6.mono HB.out.size)⟩
  · have HR : Hid (isW len s k = (s.toList == (sgO k).toList)) := Lib.hid (by simp [isW, ht])
    have ht2 : decide ((len : Int) ≥ wdO (mkO k)) = true := ht
    have ht3 : wdO (mkO k) ≤ (len : Int) := by simpa using ht
    go_enter Tryd.func12, Tryd.ntmps12
    go_wp2_with fail
    generalize w.alloc (.cells #[.string (sgO k), .bool (mkO k), .func (.func F) #[] #[]] 41) = W at *
    first
    | (go_region_with (go_at_call 13; refine (HW.out _).mono ?_; rintro e w6 ⟨rfl, hB6⟩
                       have kk1 := (hB6.cell (p := ⟨CB, 0, none⟩) L.out.1).trans k1
                       have kk2 := (hB6.cell (p := ⟨b, o + 1, none⟩) L.out.2).trans k2
                       have cc0 := (RowC.below (w := W.drew) R0.out hB6 R0.out.lt).cell 0 (.string (sgO k)) rfl))
    | fail "two"
    all_goals go_wp2
    all_goals go_ret
    all_goals exact ⟨ret_bl HR.out.symm, HB.out.drew.trans (hB6.mono HB.out.size)⟩
set_option maxRecDepth 100000 in
set_option maxHeartbeats 8000000 in
/-- Fewer words than three: no operator's. -/
theorem read1_short (n : Int) (len : Nat) (A : Option Addr) (cap : Nat) (CB k : Nat) (hk : k < 7) (hlen : len < 3) (w : World) (h1 : w.cell? ⟨CB, 0, none⟩ = some (.slice A len cap)) :
    Calls Tryd.prog 12 #[.int .i64 n, .agg (opA k), .pointer (some ⟨CB, 0, none⟩)] w fun e w' => e = .returned (.bool false) ∧ Below w.heap.size w w' := by
  obtain ⟨F, hkm⟩ := fnO_func k
  simp only [opA, hkm]
  have hB : Below w.heap.size w (w.alloc (.cells #[.string (sgO k), .bool (mkO k), .func (.func F) #[] #[]] 41)) := (Below.refl _ _).alloc (Nat.le_refl _) _
  have l1 := World.block_lt_of_cell? _ _ h1
  have r0 : RowC (w.alloc (.cells #[.string (sgO k), .bool (mkO k), .func (.func F) #[] #[]] 41)) w.heap.size #[.string (sgO k), .bool (mkO k), .func (.func F) #[] #[]] 41 := RowC.new _ _ _ _ rfl
  have k1 : (w.alloc (.cells #[.string (sgO k), .bool (mkO k), .func (.func F) #[] #[]] 41)).cell? ⟨CB, 0, none⟩ = some (.slice A len cap) := (hB.cell (p := ⟨CB, 0, none⟩) l1).trans h1
  have l1' : CB < (w.alloc (.cells #[.string (sgO k), .bool (mkO k), .func (.func F) #[] #[]] 41)).heap.size := Nat.lt_of_lt_of_le l1 hB.size
  have c0 := r0.cell 0 (.string (sgO k)) rfl
  have c1 := r0.cell 1 (.bool (mkO k)) rfl
  have c2 := r0.cell 2 (.func (.func F) #[] #[]) rfl
  have HB := Lib.hid hB
  have HW := Lib.hid fun W => words_any (sgO k) (mkO k) F W
  have L := Lib.hid l1'
  have ht3 : ¬ wdO (mkO k) ≤ (len : Int) := by unfold wdO; split <;> omega
  have ht2 : decide ((len : Int) ≥ wdO (mkO k)) = false := by simpa using ht3
  clear hB l1 r0 l1' hkm h1 hlen
  go_enter Tryd.func12, Tryd.ntmps12
  go_wp2_with fail
  generalize w.alloc (.cells #[.string (sgO k), .bool (mkO k), .func (.func F) #[] #[]] 41) = W at *
  first
  | (go_region_with (go_at_call 13; refine (HW.out _).mono ?_; rintro e w6 ⟨rfl, hB6⟩
                     have kk1 := (hB6.cell (p := ⟨CB, 0, none⟩) L.out).trans k1))
  | fail "one"
  all_goals go_wp2
  all_goals go_ret
  all_goals exact ⟨rfl, HB.out.drew.trans (hB6.mono HB.out.size)⟩
/-- What a look for the operator of a second word gives. -/
theorem find_word_o (len cap b o j CB : Nat) (hj : j < 7) (hw : wdO (mkO j) ≤ (len : Int)) (hlen : 3 ≤ len) (w : World) (h1 : w.cell? ⟨CB, 0, none⟩ = some (.slice (some ⟨b, o, none⟩) len cap)) (h2 : w.cell? ⟨b, o + 1, none⟩ = some (.string (sgO j))) :
    Calls Tryd.prog 11 #[.func (.func 12) #[] #[.pointer (some ⟨CB, 0, none⟩)]] w fun e w' => e = .returned (.tuple #[.int .i64 ((j : Int) + 1), .agg (opA j), .bool true]) ∧ Below w.heap.size w w' := by
  have l1 := World.block_lt_of_cell? _ _ h1
  have l2 := World.block_lt_of_cell? _ _ h2
  refine (find_read CB (isW len (sgO j)) w fun wr hwr k hk => read1_o _ len cap b o (sgO j) CB k hk hlen wr ((hwr.cell (p := ⟨CB, 0, none⟩) l1).trans h1) ((hwr.cell (p := ⟨b, o + 1, none⟩) l2).trans h2)).mono ?_
  rintro e w' ⟨h | h, hB⟩
  · obtain ⟨i, hi7, hi, _, he⟩ := h
    rw [isW_is hj hw i hi7] at hi
    obtain rfl : i = j := by simpa using hi
    exact ⟨he, hB⟩
  · have := h.1 j hj
    rw [isW_is hj hw j hj] at this
    simp at this

/-- A look that finds no operator: too few words. -/
theorem find_short (len : Nat) (A : Option Addr) (cap CB : Nat) (hlen : len < 3) (w : World) (h1 : w.cell? ⟨CB, 0, none⟩ = some (.slice A len cap)) :
    Calls Tryd.prog 11 #[.func (.func 12) #[] #[.pointer (some ⟨CB, 0, none⟩)]] w fun e w' => e = .returned (.tuple #[.int .i64 0, .agg op0, .bool false]) ∧ Below w.heap.size w w' := by
  have l1 := World.block_lt_of_cell? _ _ h1
  refine (find_read CB (fun _ => false) w fun wr hwr k hk => read1_short _ len A cap CB k hk hlen wr ((hwr.cell (p := ⟨CB, 0, none⟩) l1).trans h1)).mono ?_
  rintro e w' ⟨h | h, hB⟩
  · obtain ⟨i, hi7, hi, _, he⟩ := h
    exact nomatch hi
  · exact ⟨h.2, hB⟩
/-- A look that finds no operator: the word is none's, or too few words stand behind it. -/
theorem find_no (len cap b o CB : Nat) (s : ByteArray) (hlen : 3 ≤ len) (hno : ∀ k, k < 7 → isW len s k = false) (w : World) (h1 : w.cell? ⟨CB, 0, none⟩ = some (.slice (some ⟨b, o, none⟩) len cap)) (h2 : w.cell? ⟨b, o + 1, none⟩ = some (.string s)) :
    Calls Tryd.prog 11 #[.func (.func 12) #[] #[.pointer (some ⟨CB, 0, none⟩)]] w fun e w' => e = .returned (.tuple #[.int .i64 0, .agg op0, .bool false]) ∧ Below w.heap.size w w' := by
  have l1 := World.block_lt_of_cell? _ _ h1
  have l2 := World.block_lt_of_cell? _ _ h2
  refine (find_read CB (isW len s) w fun wr hwr k hk => read1_o _ len cap b o s CB k hk hlen wr ((hwr.cell (p := ⟨CB, 0, none⟩) l1).trans h1) ((hwr.cell (p := ⟨b, o + 1, none⟩) l2).trans h2)).mono ?_
  rintro e w' ⟨h | h, hB⟩
  · obtain ⟨i, hi7, hi, _, he⟩ := h
    rw [hno i hi7] at hi
    exact nomatch hi
  · exact ⟨h.2, hB⟩
end Go.Proofs.YtlajmdfebnicnaaDoor
