/-
  The contract of check.formed: a program's places, or the first thing of 1 to 3 that is wrong with it.
-/
import Derived.Test.YtfanapnhdhoppaaKe
namespace Go.Proofs.Ytfanapnhdhoppaa
open Go.RowKit

theorem tst_alone (v : IV) (r : Nat) : faultK (tst (kd v) (xx v) v.t v.f v.k r) = alone v r := by
  have hk := kd_range v
  unfold faultK tst alone isLd isSt isBr farsK
  generalize kd v = K at hk ⊢
  generalize xx v = X
  obtain ⟨K', rfl⟩ : ∃ K' : Nat, K = (K' : Int) := ⟨K.toNat, by omega⟩
  have h28 : K' ≤ 28 := by omega
  obtain ⟨c, t, f, k⟩ := v
  dsimp only
  rcases Nat.lt_or_ge K' 29 with h | h
  · match K', h28 with
    | 0, _ => simp
    | 1, _ => simp; split <;> split <;> first | rfl | omega
    | 2, _ => simp
    | 3, _ => simp; split <;> split <;> first | rfl | omega
    | 4, _ => simp
    | 5, _ => simp
    | 6, _ => simp; split <;> split <;> first | rfl | omega
    | 7, _ => simp
    | 8, _ => simp; split <;> split <;> first | rfl | omega
    | 9, _ => simp; split <;> split <;> first | rfl | omega
    | 10, _ => simp
    | 11, _ => simp
    | 12, _ => simp
    | 13, _ => simp
    | 14, _ => simp
    | 15, _ => simp
    | 16, _ => simp
    | 17, _ => simp
    | 18, _ => simp
    | 19, _ => simp
    | 20, _ => simp
    | 21, _ => simp
    | 22, _ => cases X <;> simp; split <;> split <;> first | rfl | omega
    | 23, _ => cases X <;> simp; split <;> split <;> first | rfl | omega
    | 24, _ => simp
    | 25, _ => simp
    | 26, _ => simp
    | 27, _ => simp
    | 28, _ => simp
    | K' + 29, h' => omega
  · omega
theorem OwnC.set_ {w : World} {base z n c b : Nat} {E : TypeId} {F : Nat → Value} (h : OwnC w base E z (some ⟨b, 0, none⟩) n c F) {j : Nat} (u : Value) :
    OwnC (w.setCell ⟨b, j, none⟩ u) base E z (some ⟨b, 0, none⟩) n c (fun i => if i = j then u else F i) := by
  have h1 := (World.ownsRow.stored h j u).1
  have e : (((List.range (n * z)).map F).set j u) = ((List.range (n * z)).map fun i => if i = j then u else F i) := by
    apply List.ext_getElem (by simp)
    intro i h1 h2
    simp only [List.getElem_map, List.getElem_range, List.getElem_set]
    by_cases e : i = j
    · rw [if_pos e, if_pos e.symm]
    · rw [if_neg e, if_neg (fun x => e x.symm)]
  rw [e] at h1
  exact h1
theorem OwnC.at_ {w : World} {base z n c : Nat} {E : TypeId} {A : Option Addr} {F : Nat → Value} (h : OwnC w base E z A n c F) (hn : 0 < n) :
    ∃ b, A = some ⟨b, 0, none⟩ ∧ base ≤ b ∧ b < w.heap.size ∧ ∀ i, i < n * z → (w.cell? ⟨b, i, none⟩ = some (F i) ∧ w.frozen? ⟨b, i, none⟩ = false) := by
  obtain ⟨gg, cap, hv, hg, hl⟩ := World.ownsRow.form h hn
  injection hv with e1 e2 e3
  subst e1 e3
  refine ⟨gg, rfl, hg, hl, fun i hi => ⟨?_, World.ownsRow.frozenAt h i⟩⟩
  rw [World.ownsRow.cellAt h i hi]
  simp [hi]

/-- A program's places as cells. -/
def pcell (g : Nat → IV) (n : Nat) (i : Nat) : Value := if i % 7 = 0 then .int .u16 (g (i / 7)).c else if i % 7 = 1 then .int .u8 (g (i / 7)).t else if i % 7 = 2 then .int .u8 (g (i / 7)).f else if i % 7 = 3 then .int .u32 (g (i / 7)).k else if i % 7 = 4 then .int .i64 (kd (g (i / 7))) else if i % 7 = 5 then .bool (xx (g (i / 7))) else .int .i64 ((n : Int) - 1 - ((i / 7 : Nat) : Int))
def pzero (i : Nat) : Value := if i % 7 = 0 then .int .u16 0 else if i % 7 = 1 then .int .u8 0 else if i % 7 = 2 then .int .u8 0 else if i % 7 = 3 then .int .u32 0 else if i % 7 = 4 then .int .i64 0 else if i % 7 = 5 then .bool false else .int .i64 0
theorem pcell_one (g : Nat → IV) (n i : Nat) : (pcell g n i).oneCell' = true := by
  unfold pcell
  repeat' split
  all_goals rfl
theorem pcell0 (g : Nat → IV) (n k : Nat) : pcell g n (k * 7) = .int .u16 (g k).c := by
  have h1 : (k * 7) / 7 = k := by omega
  have h2 : (k * 7) % 7 = 0 := by omega
  unfold pcell; rw [h1, h2]; rfl
theorem pcell1 (g : Nat → IV) (n k : Nat) : pcell g n (k * 7 + 1) = .int .u8 (g k).t := by
  have h1 : (k * 7 + 1) / 7 = k := by omega
  have h2 : (k * 7 + 1) % 7 = 1 := by omega
  unfold pcell; rw [h1, h2]; rfl
theorem pcell2 (g : Nat → IV) (n k : Nat) : pcell g n (k * 7 + 2) = .int .u8 (g k).f := by
  have h1 : (k * 7 + 2) / 7 = k := by omega
  have h2 : (k * 7 + 2) % 7 = 2 := by omega
  unfold pcell; rw [h1, h2]; rfl
theorem pcell3 (g : Nat → IV) (n k : Nat) : pcell g n (k * 7 + 3) = .int .u32 (g k).k := by
  have h1 : (k * 7 + 3) / 7 = k := by omega
  have h2 : (k * 7 + 3) % 7 = 3 := by omega
  unfold pcell; rw [h1, h2]; rfl
theorem pcell4 (g : Nat → IV) (n k : Nat) : pcell g n (k * 7 + 4) = .int .i64 (kd (g k)) := by
  have h1 : (k * 7 + 4) / 7 = k := by omega
  have h2 : (k * 7 + 4) % 7 = 4 := by omega
  unfold pcell; rw [h1, h2]; rfl
theorem pcell5 (g : Nat → IV) (n k : Nat) : pcell g n (k * 7 + 5) = .bool (xx (g k)) := by
  have h1 : (k * 7 + 5) / 7 = k := by omega
  have h2 : (k * 7 + 5) % 7 = 5 := by omega
  unfold pcell; rw [h1, h2]; rfl
theorem pcell6 (g : Nat → IV) (n k : Nat) : pcell g n (k * 7 + 6) = .int .i64 ((n : Int) - 1 - (k : Int)) := by
  have h1 : (k * 7 + 6) / 7 = k := by omega
  have h2 : (k * 7 + 6) % 7 = 6 := by omega
  unfold pcell; rw [h1, h2]; rfl
/-- The first k places are there, the others are zeros. -/
def partP (g : Nat → IV) (n k : Nat) (i : Nat) : Value := if i < k * 7 then pcell g n i else pzero i
theorem partP_step (g : Nat → IV) (n k : Nat) (i : Nat) :
    (if i = k * 7 + 6 then Value.int .i64 ((n : Int) - 1 - (k : Int)) else if i = k * 7 + 5 then Value.bool (xx (g k)) else if i = k * 7 + 4 then Value.int .i64 (kd (g k)) else if i = k * 7 + 3 then Value.int .u32 (g k).k else if i = k * 7 + 2 then Value.int .u8 (g k).f else if i = k * 7 + 1 then Value.int .u8 (g k).t else if i = k * 7 then Value.int .u16 (g k).c else partP g n k i) = partP g n (k + 1) i := by
  unfold partP
  by_cases h6 : i = k * 7 + 6
  · subst h6; rw [if_pos rfl, if_pos (by omega), pcell6]
  · rw [if_neg h6]
    by_cases h5 : i = k * 7 + 5
    · subst h5; rw [if_pos rfl, if_pos (by omega), pcell5]
    · rw [if_neg h5]
      by_cases h4 : i = k * 7 + 4
      · subst h4; rw [if_pos rfl, if_pos (by omega), pcell4]
      · rw [if_neg h4]
        by_cases h3 : i = k * 7 + 3
        · subst h3; rw [if_pos rfl, if_pos (by omega), pcell3]
        · rw [if_neg h3]
          by_cases h2 : i = k * 7 + 2
          · subst h2; rw [if_pos rfl, if_pos (by omega), pcell2]
          · rw [if_neg h2]
            by_cases h1 : i = k * 7 + 1
            · subst h1; rw [if_pos rfl, if_pos (by omega), pcell1]
            · rw [if_neg h1]
              by_cases h0 : i = k * 7
              · subst h0; rw [if_pos rfl, if_pos (by omega), pcell0]
              · rw [if_neg h0]
                by_cases hl : i < k * 7
                · rw [if_pos hl, if_pos (by omega)]
                · rw [if_neg hl, if_neg (by omega)]

theorem infoP : (Try.prog.info? 135).map (fun i => (i.zero, i.size, i.bytes)) = some (some (.agg #[.int .u16 0, .int .u8 0, .int .u8 0, .int .u32 0, .int .i64 0, .bool false, .int .i64 0]), 7, 32) := by kernel_rfl
theorem mk_places (m : Nat) (hm : m ≤ 4096) (w : World) : ∃ W', (Instr.makeSlice 129 (.int .i64 (m : Int)) (.int .i64 (m : Int))).run Try.prog w = .ok (.slice (some ⟨w.heap.size, 0, none⟩) m m) W' ∧
    OwnC W' w.heap.size 135 7 (some ⟨w.heap.size, 0, none⟩) m m pzero ∧ Below w.heap.size w W' := by
  obtain ⟨i0, hi0, hz0, hz1, hz2⟩ := info_parts infoP
  have hr := run_make (P := Try.prog) w 129 135 i0 _ Try.underlying129 hi0 hz0 .i64 .i64 m m (by omega) (Int.le_refl _) (by rw [hz2]; omega) (by omega)
  rw [hz1] at hr
  simp only [Int.toNat_natCast] at hr
  refine ⟨_, hr, ?_, (Below.refl _ _).alloc (Nat.le_refl _) _⟩
  have hl := World.ownsRow_lit (base := w.heap.size) (e := 135) (size := 7) w (madeCells (Value.agg #[.int .u16 0, .int .u8 0, .int .u8 0, .int .u32 0, .int .i64 0, .bool false, .int .i64 0]).cells (m * 7)) m (Nat.le_refl _) (by unfold maxLen; omega) (size_madeCells _ _)
  have e : (madeCells (Value.agg #[.int .u16 0, .int .u8 0, .int .u8 0, .int .u32 0, .int .i64 0, .bool false, .int .i64 0]).cells (m * 7)).toList = (List.range (m * 7)).map pzero := by
    apply List.ext_getElem (by simp [madeCells])
    intro i h1 h2
    simp only [madeCells, Value.cells, Array.getElem_toList, Array.getElem_map, Array.getElem_range, List.getElem_map, List.getElem_range]
    unfold pzero
    have h7 : i % 7 = 0 ∨ i % 7 = 1 ∨ i % 7 = 2 ∨ i % 7 = 3 ∨ i % 7 = 4 ∨ i % 7 = 5 ∨ i % 7 = 6 := by omega
    rcases h7 with h | h | h | h | h | h | h <;> simp [h]
  rw [e] at hl
  exact hl
theorem of_v (v : IV) (hv : v.ok) (w : World) : Calls Try.prog 43 #[.int .u16 v.c] w fun e w' => ∃ b, e = .returned (.tuple #[.int .i64 (kd v), .bool (xx v), .bool b]) ∧ Below w.heap.size w w' :=
  (of_any v.c w (by omega) (by have := hv.1; omega)).mono fun e w' h => ⟨_, h.1, h.2⟩
theorem fault_v (v : IV) (hv : v.ok) (r : Nat) (hr : r ≤ 4096) (b : Int) (hb : b = r) (w : World) : Calls Try.prog 92 #[plA v.c v.t v.f v.k (kd v) (xx v) b] w fun e w' => e = .returned (.int .i64 (alone v r : Nat)) ∧ Below w.heap.size w w' := by
  subst hb
  rw [← tst_alone]
  exact fault_any_K _ _ _ _ _ _ _ _ hv.2.1 hv.2.2.1 hv.2.2.2 hr
theorem cell4 (w w' : World) (a b c d : Value) (E : TypeId) (hB : Below (w.alloc (.cells #[a, b, c, d] E)).heap.size (w.alloc (.cells #[a, b, c, d] E)) w') :
    w'.cell? ⟨w.heap.size, 0, none⟩ = some a ∧ w'.cell? ⟨w.heap.size, 1, none⟩ = some b ∧ w'.cell? ⟨w.heap.size, 2, none⟩ = some c ∧ w'.cell? ⟨w.heap.size, 3, none⟩ = some d := by
  refine ⟨?_, ?_, ?_, ?_⟩ <;> (rw [hB.cell (by simp), World.cell?_alloc_at _ _ _ _ rfl]; rfl)
end Go.Proofs.Ytfanapnhdhoppaa
