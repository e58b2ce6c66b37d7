/-
  Contracts of check.Stored, of slices.Clone at numbers of sixteen bits, of the laws' own all and awake of layer 4.
-/
import Derived.Test.YtmndolojfdekdaaKk
import Derived.Deep.RegionHeld3
namespace Go.Proofs.Ytmndolojfdekdaa
open Go.RowKit

/-- The first k instructions are there, the others are zeros. -/
def part (g : Nat → IV) (k : Nat) (i : Nat) : Value := if i < k * 4 then icell g i else icell (fun _ => ⟨0, 0, 0, 0⟩) i
theorem part_step (g : Nat → IV) (k : Nat) (i : Nat) :
    (if i = k * 4 + 3 then Value.int .u32 (g k).k else if i = k * 4 + 2 then Value.int .u8 (g k).f else if i = k * 4 + 1 then Value.int .u8 (g k).t else if i = k * 4 then Value.int .u16 (g k).c else part g k i) = part g (k + 1) i := by
  unfold part
  by_cases h3 : i = k * 4 + 3
  · subst h3; rw [if_pos rfl, if_pos (by omega), icell3]
  · rw [if_neg h3]
    by_cases h2 : i = k * 4 + 2
    · subst h2; rw [if_pos rfl, if_pos (by omega), icell2]
    · rw [if_neg h2]
      by_cases h1 : i = k * 4 + 1
      · subst h1; rw [if_pos rfl, if_pos (by omega), icell1]
      · rw [if_neg h1]
        by_cases h0 : i = k * 4
        · subst h0; rw [if_pos rfl, if_pos (by omega), icell0]
        · rw [if_neg h0]
          by_cases hl : i < k * 4
          · rw [if_pos hl, if_pos (by omega)]
          · rw [if_neg hl, if_neg (by omega)]

theorem mk_insts (m : Nat) (hm : m ≤ 1000000) (w : World) : ∃ W', (Instr.makeSlice 23 (.int .i64 (m : Int)) (.int .i64 (m : Int))).run Try.prog w = .ok (.slice (some ⟨w.heap.size, 0, none⟩) m m) W' ∧
    OwnC W' w.heap.size 71 4 (some ⟨w.heap.size, 0, none⟩) m m (icell fun _ => ⟨0, 0, 0, 0⟩) ∧ Below w.heap.size w W' := by
  obtain ⟨i0, hi0, hz0, hz1, hz2⟩ := info_parts infoI
  have hr := run_make (P := Try.prog) w 23 71 i0 _ Try.underlying23 hi0 hz0 .i64 .i64 m m (by omega) (Int.le_refl _) (by rw [hz2]; omega) (by omega)
  rw [hz1] at hr
  simp only [Int.toNat_natCast] at hr
  refine ⟨_, hr, ?_, (Below.refl _ _).alloc (Nat.le_refl _) _⟩
  have hl := World.ownsRow_lit (base := w.heap.size) (e := 71) (size := 4) w (madeCells (Value.agg #[.int .u16 0, .int .u8 0, .int .u8 0, .int .u32 0]).cells (m * 4)) m (Nat.le_refl _) (by unfold maxLen; omega) (size_madeCells _ _)
  have e : (madeCells (Value.agg #[.int .u16 0, .int .u8 0, .int .u8 0, .int .u32 0]).cells (m * 4)).toList = (List.range (m * 4)).map (icell fun _ => ⟨0, 0, 0, 0⟩) := by
    apply List.ext_getElem (by simp [madeCells])
    intro i h1 h2
    simp only [madeCells, Value.cells, Array.getElem_toList, Array.getElem_map, Array.getElem_range, List.getElem_map, List.getElem_range]
    unfold icell
    have h4 : i % 4 = 0 ∨ i % 4 = 1 ∨ i % 4 = 2 ∨ i % 4 = 3 := by omega
    rcases h4 with h | h | h | h <;> simp [h]
  rw [e] at hl
  exact hl

theorem lit1 (w : World) (c : Nat) (E : TypeId) (hc : c < 65536) : Ins (w.alloc (.cells #[.int .u16 c, .int .u8 0, .int .u8 0, .int .u32 0] E)) (w.heap.size + 1) (some ⟨w.heap.size, 0, none⟩) 1 1 (fun _ => ⟨c, 0, 0, 0⟩) := by
  refine ⟨Cel.mk_ (by omega) (by decide) (by decide) (fun i hi => ?_), fun i _ => ⟨hc, by show 0 < 256; decide, by show 0 < 256; decide, by show 0 < 4294967296; decide⟩⟩
  match i, hi with
  | 0, _ => simp [icell]
  | 1, _ => simp [icell]
  | 2, _ => simp [icell]
  | 3, _ => simp [icell]
def g2 (i : Nat) : IV := if i = 0 then ⟨96, 0, 0, 3⟩ else ⟨22, 0, 0, 0⟩
theorem lit2 (w : World) (E : TypeId) : Ins (w.alloc (.cells #[.int .u16 96, .int .u8 0, .int .u8 0, .int .u32 3, .int .u16 22, .int .u8 0, .int .u8 0, .int .u32 0] E)) (w.heap.size + 1) (some ⟨w.heap.size, 0, none⟩) 2 2 g2 := by
  refine ⟨Cel.mk_ (by omega) (by decide) (by decide) (fun i hi => ?_), fun i _ => ?_⟩
  · match i, hi with
    | 0, _ => simp [icell, g2]
    | 1, _ => simp [icell, g2]
    | 2, _ => simp [icell, g2]
    | 3, _ => simp [icell, g2]
    | 4, _ => simp [icell, g2]
    | 5, _ => simp [icell, g2]
    | 6, _ => simp [icell, g2]
    | 7, _ => simp [icell, g2]
  · unfold g2 IV.ok
    split <;> decide

theorem info16 : (Try.prog.info? 68).map (fun i => (i.zero, i.size, i.bytes)) = some (some (.int .u16 0), 1, 2) := by kernel_rfl
/-- Numbers of sixteen bits as cells. -/
def wcell (C : Nat → Nat) (i : Nat) : Value := .int .u16 (C i : Nat)
end Go.Proofs.Ytmndolojfdekdaa
