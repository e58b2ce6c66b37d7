/-
  The contract of inst.Read: for every bytes it hands back the instructions that they say, or the error that the document names.
-/
import Derived.Test.YtfdfngljfilomaaIe
namespace Go.Proofs.Ytfdfngljfilomaa
open Go.RowKit

/-- The instruction number i of bytes. -/
def rg (f : Nat → Nat) (i : Nat) : IV := ival (fun j => f (8 * i + j))
/-- A store of one cell into a row of the call's own. -/
theorem OwnC.set_ {w : World} {base z n c b : Nat} {E : TypeId} {F : Nat → Value} (h : OwnC w base E z (some ⟨b, 0, none⟩) n c F) {j : Nat} (u : Value) :
    OwnC (w.setCell ⟨b, j, none⟩ u) base E z (some ⟨b, 0, none⟩) n c (fun i => if i = j then u else F i) := by
  have h1 := (World.ownsRow.stored h j u).1
  have e : (((List.range (n * z)).map F).set j u) = ((List.range (n * z)).map fun i => if i = j then u else F i) := by
    apply List.ext_getElem (by simp)
    intro i h1 h2
    simp only [List.getElem_map, List.getElem_range, List.getElem_set]
    by_cases e : i = j
    · rw [if_pos e, if_pos e.symm]
    · rw [if_neg e, if_neg (fun x => e x.symm)]
  rw [e] at h1
  exact h1
theorem OwnC.at_ {w : World} {base z n c : Nat} {E : TypeId} {A : Option Addr} {F : Nat → Value} (h : OwnC w base E z A n c F) (hn : 0 < n) :
    ∃ b, A = some ⟨b, 0, none⟩ ∧ base ≤ b ∧ b < w.heap.size ∧ ∀ i, i < n * z → (w.cell? ⟨b, i, none⟩ = some (F i) ∧ w.frozen? ⟨b, i, none⟩ = false) := by
  obtain ⟨gg, cap, hv, hg, hl⟩ := World.ownsRow.form h hn
  injection hv with e1 e2 e3
  subst e1 e3
  refine ⟨gg, rfl, hg, hl, fun i hi => ⟨?_, World.ownsRow.frozenAt h i⟩⟩
  rw [World.ownsRow.cellAt h i hi]
  simp [hi]
/-- The first k instructions are there, the others are zeros. -/
def part (g : Nat → IV) (k : Nat) (i : Nat) : Value := if i < k * 4 then icell g i else icell (fun _ => ⟨0, 0, 0, 0⟩) i
theorem part_step (g : Nat → IV) (k : Nat) (i : Nat) :
    (if i = k * 4 + 3 then Value.int .u32 (g k).k else if i = k * 4 + 2 then Value.int .u8 (g k).f else if i = k * 4 + 1 then Value.int .u8 (g k).t else if i = k * 4 then Value.int .u16 (g k).c else part g k i) = part g (k + 1) i := by
  unfold part
  by_cases h3 : i = k * 4 + 3
  · subst h3; rw [if_pos rfl, if_pos (by omega), icell3]
  · rw [if_neg h3]
    by_cases h2 : i = k * 4 + 2
    · subst h2; rw [if_pos rfl, if_pos (by omega), icell2]
    · rw [if_neg h2]
      by_cases h1 : i = k * 4 + 1
      · subst h1; rw [if_pos rfl, if_pos (by omega), icell1]
      · rw [if_neg h1]
        by_cases h0 : i = k * 4
        · subst h0; rw [if_pos rfl, if_pos (by omega), icell0]
        · rw [if_neg h0]
          by_cases hl : i < k * 4
          · rw [if_pos hl, if_pos (by omega)]
          · rw [if_neg hl, if_neg (by omega)]

theorem mk_insts (m : Nat) (hm : m ≤ 1000000) (w : World) : ∃ W', (Instr.makeSlice 57 (.int .i64 (m : Int)) (.int .i64 (m : Int))).run Try.prog w = .ok (.slice (some ⟨w.heap.size, 0, none⟩) m m) W' ∧
    OwnC W' w.heap.size 78 4 (some ⟨w.heap.size, 0, none⟩) m m (icell fun _ => ⟨0, 0, 0, 0⟩) ∧ Below w.heap.size w W' := by
  obtain ⟨i0, hi0, hz0, hz1, hz2⟩ := info_parts infoI
  have hr := run_make (P := Try.prog) w 57 78 i0 _ Try.underlying57 hi0 hz0 .i64 .i64 m m (by omega) (Int.le_refl _) (by rw [hz2]; omega) (by omega)
  rw [hz1] at hr
  simp only [Int.toNat_natCast] at hr
  refine ⟨_, hr, ?_, (Below.refl _ _).alloc (Nat.le_refl _) _⟩
  have hl := World.ownsRow_lit (base := w.heap.size) (e := 78) (size := 4) w (madeCells (Value.agg #[.int .u16 0, .int .u8 0, .int .u8 0, .int .u32 0]).cells (m * 4)) m (Nat.le_refl _) (by unfold maxLen; omega) (size_madeCells _ _)
  have e : (madeCells (Value.agg #[.int .u16 0, .int .u8 0, .int .u8 0, .int .u32 0]).cells (m * 4)).toList = (List.range (m * 4)).map (icell fun _ => ⟨0, 0, 0, 0⟩) := by
    apply List.ext_getElem (by simp [madeCells])
    intro i h1 h2
    simp only [madeCells, Value.cells, Array.getElem_toList, Array.getElem_map, Array.getElem_range, List.getElem_map, List.getElem_range]
    unfold icell
    have h4 : i % 4 = 0 ∨ i % 4 = 1 ∨ i % 4 = 2 ∨ i % 4 = 3 := by omega
    rcases h4 with h | h | h | h <;> simp [h]
  rw [e] at hl
  exact hl

set_option maxRecDepth 100000 in
set_option maxHeartbeats 4000000 in
theorem read_ok (A : Option Addr) (n c : Nat) (f : Nat → Nat) (w : World) (h1 : n ≤ 32768) (h8 : n % 8 = 0) (hr : Byt w w.heap.size A n c f) :
    Calls Try.prog 31 #[.slice A n c] w fun e w' => ∃ A' c', e = .returned (.tuple #[.slice A' (n / 8) c', .int .i64 0]) ∧ OwnC w' w.heap.size 78 4 A' (n / 8) c' (icell (rg f)) ∧ Below w.heap.size w w' := by
  obtain ⟨m, rfl⟩ : ∃ m, n = 8 * m := ⟨n / 8, by omega⟩
  have e8 : 8 * m / 8 = m := by omega
  rw [e8]
  have HR := Lib.hid hr
  have t1 : (((8 * m : Nat) : Int).tmod 8 != 0) = false := by simp
  have hq : ((8 * m : Nat) : Int) / 8 = (m : Int) := by omega
  obtain ⟨w1, hmk, hown1, hB1⟩ := mk_insts m (by omega) w
  have ho1 : OwnC w1 w.heap.size 78 4 (some ⟨w.heap.size, 0, none⟩) m m (part (rg f) 0) := hown1.congr (fun i _ => by unfold part; rw [if_neg (by omega)])
  clear h8 e8 hr hown1
  go_enter Try.func31, Try.ntmps31
  go_wp2_with fail
  go_loopw [19] (fun i wr => ∃ k : Nat, k ≤ m ∧ i = .int .i64 k ∧ OwnC wr w.heap.size 78 4 (some ⟨w.heap.size, 0, none⟩) m m (part (rg f) k) ∧ Below w.heap.size w wr)
    (fun i _ => m - (intOf i).toNat)
  case atStart => exact ⟨0, Nat.zero_le _, rfl, ho1, hB1⟩
  case round =>
    obtain ⟨k, hk, rfl, hown, hB⟩ := hrel
    by_cases hlt : k < m
    · have hri := (HR.out.below hB).more hB.size
      go_wp2_with fail
      refine (instAt_any _ _ _ (8 * k) _ _ (by omega) (by omega) hri _ (by omega)).mono ?_
      rintro e w2 ⟨rfl, hB2⟩
      have ho2 := hown.below hB2 (Nat.le_refl _)
      have hb2 := hB.trans (hB2.mono hB.size)
      obtain ⟨bb, eb, hbb, _, hcs⟩ := ho2.at_ (by omega)
      obtain rfl : w.heap.size = bb := by injection eb with eb; injection eb
      obtain ⟨p0, f0⟩ := hcs (k * 4) (by omega)
      obtain ⟨p1, f1⟩ := hcs (k * 4 + 1) (by omega)
      obtain ⟨p2, f2⟩ := hcs (k * 4 + 2) (by omega)
      obtain ⟨p3, f3⟩ := hcs (k * 4 + 3) (by omega)
      clear hcs eb hri
      go_wp2
      refine ⟨⟨k + 1, by omega, by go_num, ((((ho2.set_ _).set_ _).set_ _).set_ _).congr (fun i _ => part_step (rg f) k i), ?_⟩, by simp [intOf]; omega⟩
      exact (((hb2.setCell (p := ⟨w.heap.size, k * 4, none⟩) (Nat.le_refl _) _).setCell (p := ⟨w.heap.size, k * 4 + 1, none⟩) (Nat.le_refl _) _).setCell (p := ⟨w.heap.size, k * 4 + 2, none⟩) (Nat.le_refl _) _).setCell (p := ⟨w.heap.size, k * 4 + 3, none⟩) (Nat.le_refl _) _
    · obtain rfl : k = m := by omega
      go_wp2
      go_ret2
      exact ⟨_, _, rfl, hown.congr (fun i hi => by unfold part; rw [if_pos hi]), hB⟩

theorem rg_ok {w : World} {B n c : Nat} {A : Option Addr} {f : Nat → Nat} (h : Byt w B A n c f) (i : Nat) (hi : i < n / 8) : (rg f i).ok :=
  ival_ok _ (fun j hj => h.lt (by omega))
set_option maxHeartbeats 1000000 in
theorem read_long (A : Option Addr) (n c : Nat) (w : World) (h1 : 32768 < n) (h2 : n ≤ maxLen) :
    Calls Try.prog 31 #[.slice A n c] w fun e w' => e = .returned (.tuple #[.slice none 0 0, .int .i64 3]) ∧ w = w' := by
  unfold maxLen at h2
  go_enter Try.func31, Try.ntmps31
  go_wp2
  go_ret2
  exact ⟨rfl, rfl⟩
set_option maxHeartbeats 1000000 in
theorem read_short (A : Option Addr) (n c : Nat) (w : World) (h1 : n ≤ 32768) (h8 : n % 8 ≠ 0) :
    Calls Try.prog 31 #[.slice A n c] w fun e w' => e = .returned (.tuple #[.slice none 0 0, .int .i64 2]) ∧ w = w' := by
  have t1 : ((n : Int) % 8 != 0) = true := by rw [bne_iff_ne]; omega
  clear h8
  go_enter Try.func31, Try.ntmps31
  go_wp2
  go_ret2
  exact ⟨rfl, rfl⟩
end Go.Proofs.Ytfdfngljfilomaa
