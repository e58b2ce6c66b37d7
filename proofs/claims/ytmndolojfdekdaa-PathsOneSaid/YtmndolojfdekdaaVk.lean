/-
  The contract of vm.New: a machine of a program that may run, or layer 4's error.
-/
import Derived.Test.YtmndolojfdekdaaVj
import Derived.Test.YtmndolojfdekdaaKk
namespace Go.Proofs.Ytmndolojfdekdaa
open Go.RowKit

theorem checkF_facts {g : Nat → IV} {n : Nat} (h : (checkF g n).2 = 0) : 0 < n ∧ n ≤ 4096 ∧ (∀ i, i < n → alone (g i) (n - 1 - i) = 0) ∧ isRet (g (n - 1)) = true := by
  have hf : (formedF g n).2 = 0 := by
    unfold checkF at h
    by_cases hq : (formedF g n).2 = 0
    · exact hq
    · rw [if_neg hq] at h; exact h
  obtain ⟨h1, h2, h3, h4, _⟩ := formedF_ok hf
  exact ⟨h1, h2, h3, h4⟩

def kzero (i : Nat) : Value := if i % 6 = 0 then .int .u16 0 else if i % 6 = 1 then .int .u8 0 else if i % 6 = 2 then .int .u8 0 else if i % 6 = 3 then .int .u32 0 else if i % 6 = 4 then .int .i64 0 else .bool false
theorem infoK : (Try.prog.info? 142).map (fun i => (i.zero, i.size, i.bytes)) = some (some (.agg #[.int .u16 0, .int .u8 0, .int .u8 0, .int .u32 0, .int .i64 0, .bool false]), 6, 24) := by kernel_rfl
theorem mk_known (m : Nat) (hm : m ≤ 4096) (w : World) : ∃ W', (Instr.makeSlice 140 (.int .i64 (m : Int)) (.int .i64 (m : Int))).run Try.prog w = .ok (.slice (some ⟨w.heap.size, 0, none⟩) m m) W' ∧
    OwnC W' w.heap.size 142 6 (some ⟨w.heap.size, 0, none⟩) m m kzero ∧ Below w.heap.size w W' := by
  obtain ⟨i0, hi0, hz0, hz1, hz2⟩ := info_parts infoK
  have hr := run_make (P := Try.prog) w 140 142 i0 _ Try.underlying140 hi0 hz0 .i64 .i64 m m (by omega) (Int.le_refl _) (by rw [hz2]; omega) (by omega)
  rw [hz1] at hr
  simp only [Int.toNat_natCast] at hr
  refine ⟨_, hr, ?_, (Below.refl _ _).alloc (Nat.le_refl _) _⟩
  have hl := World.ownsRow_lit (base := w.heap.size) (e := 142) (size := 6) w (madeCells (Value.agg #[.int .u16 0, .int .u8 0, .int .u8 0, .int .u32 0, .int .i64 0, .bool false]).cells (m * 6)) m (Nat.le_refl _) (by unfold maxLen; omega) (size_madeCells _ _)
  have e : (madeCells (Value.agg #[.int .u16 0, .int .u8 0, .int .u8 0, .int .u32 0, .int .i64 0, .bool false]).cells (m * 6)).toList = (List.range (m * 6)).map kzero := by
    apply List.ext_getElem (by simp [madeCells])
    intro i h1 h2
    simp only [madeCells, Value.cells, Array.getElem_toList, Array.getElem_map, Array.getElem_range, List.getElem_map, List.getElem_range]
    unfold kzero
    have h7 : i % 6 = 0 ∨ i % 6 = 1 ∨ i % 6 = 2 ∨ i % 6 = 3 ∨ i % 6 = 4 ∨ i % 6 = 5 := by omega
    rcases h7 with h | h | h | h | h | h <;> simp [h]
  rw [e] at hl
  exact hl
/-- The first k instructions are there, the others are zeros. -/
def partK (g : Nat → IV) (k : Nat) (i : Nat) : Value := if i < k * 6 then kcell g i else kzero i
theorem partK_step (g : Nat → IV) (k : Nat) (i : Nat) :
    (if i = k * 6 + 5 then Value.bool (xx (g k)) else if i = k * 6 + 4 then Value.int .i64 (kd (g k)) else if i = k * 6 + 3 then Value.int .u32 (g k).k else if i = k * 6 + 2 then Value.int .u8 (g k).f else if i = k * 6 + 1 then Value.int .u8 (g k).t else if i = k * 6 then Value.int .u16 (g k).c else partK g k i) = partK g (k + 1) i := by
  unfold partK
  by_cases h5 : i = k * 6 + 5
  · subst h5; rw [if_pos rfl, if_pos (by omega), kcell_at g k 5 (by decide)]; rfl
  · rw [if_neg h5]
    by_cases h4 : i = k * 6 + 4
    · subst h4; rw [if_pos rfl, if_pos (by omega), kcell_at g k 4 (by decide)]; rfl
    · rw [if_neg h4]
      by_cases h3 : i = k * 6 + 3
      · subst h3; rw [if_pos rfl, if_pos (by omega), kcell_at g k 3 (by decide)]; rfl
      · rw [if_neg h3]
        by_cases h2 : i = k * 6 + 2
        · subst h2; rw [if_pos rfl, if_pos (by omega), kcell_at g k 2 (by decide)]; rfl
        · rw [if_neg h2]
          by_cases h1 : i = k * 6 + 1
          · subst h1; rw [if_pos rfl, if_pos (by omega), kcell_at g k 1 (by decide)]; rfl
          · rw [if_neg h1]
            by_cases h0 : i = k * 6
            · subst h0; rw [if_pos rfl, if_pos (by omega), show k * 6 = k * 6 + 0 from rfl, kcell_at g k 0 (by decide)]; rfl
            · rw [if_neg h0]
              by_cases hl : i < k * 6
              · rw [if_pos hl, if_pos (by omega)]
              · rw [if_neg hl, if_neg (by omega)]

set_option maxRecDepth 100000 in
set_option maxHeartbeats 4000000 in
theorem new_err (A : Option Addr) (n c : Nat) (g : Nat → IV) (w : World) (hr : Ins w w.heap.size A n c g) (he : (checkF g n).2 ≠ 0) :
    Calls Try.prog 48 #[.slice A n c] w fun e w' => e = .returned (.tuple #[.pointer none, .int .i64 ((checkF g n).2 : Nat)]) ∧ Below w.heap.size w w' := by
  have HC := Lib.hid (check_any A n c g w hr)
  obtain ⟨a, b⟩ : ∃ z, checkF g n = z := ⟨_, rfl⟩
  rw [b] at HC he ⊢
  obtain ⟨x, y⟩ := a
  have t1 : ((y : Int) != 0) = true := by simpa using he
  clear hr he b
  go_enter Try.func48, Try.ntmps48
  go_wp2_with (go_at_call 54; refine (HC.out).mono ?_; rintro e w1 ⟨rfl, hB1⟩)
  go_ret2
  exact ⟨rfl, hB1⟩

set_option maxRecDepth 100000 in
set_option maxHeartbeats 8000000 in
theorem new_ok (A : Option Addr) (n c : Nat) (g : Nat → IV) (w : World) (hr : Ins w w.heap.size A n c g) (he : (checkF g n).2 = 0) :
    Calls Try.prog 48 #[.slice A n c] w fun e w' => ∃ b A' c', e = .returned (.tuple #[.pointer (some ⟨b, 0, none⟩), .int .i64 0]) ∧ w.heap.size ≤ b ∧ RowAt w' b #[.slice A' n c'] 144 ∧
      OwnC w' w.heap.size 142 6 A' n c' (kcell g) ∧ Below w.heap.size w w' := by
  have HC := Lib.hid (check_any A n c g w hr)
  have HR := Lib.hid hr
  obtain ⟨h0, h1, _, _⟩ := checkF_facts he
  have HE := Lib.hid he
  clear hr he
  go_enter Try.func48, Try.ntmps48
  go_wp2_with fail
  refine (HC.out).mono ?_
  rw [HE.out]
  rintro e w1 ⟨rfl, hB1⟩
  have hz1 := hB1.size
  obtain ⟨w2, hmk, hown2, hB2⟩ := mk_known n h1 w1
  have ho2 : OwnC w2 w1.heap.size 142 6 (some ⟨w1.heap.size, 0, none⟩) n n (partK g 0) := hown2.congr (fun i _ => by unfold partK; rw [if_neg (by omega)])
  have HR1 := Lib.hid ((HR.out.below hB1).more hB1.size)
  clear hown2
  go_wp2_with fail
  go_loopw [25] (fun i wr => ∃ k : Nat, k ≤ n ∧ i = .int .i64 k ∧ OwnC wr w1.heap.size 142 6 (some ⟨w1.heap.size, 0, none⟩) n n (partK g k) ∧ Below w1.heap.size w1 wr)
    (fun i _ => n - (intOf i).toNat)
  case atStart => exact ⟨0, Nat.zero_le _, rfl, ho2, hB2⟩
  case round =>
    obtain ⟨k, hk, rfl, hown, hB⟩ := hrel
    clear ho2 hB2 hmk
    have hs := hB.size
    by_cases hlt : k < n
    · have hv := HR.out.2 k hlt
      obtain ⟨b, off, rfl, hb, hc⟩ := (HR1.out.below hB).at_ (by omega)
      obtain ⟨q0, q1, q2, q3⟩ := hc k hlt
      have HV := Lib.hid hv
      have i1 : (0 : Int) ≤ (k : Int) := by omega
      have i2 : (k : Int) < (n : Int) := by omega
      clear hc hv
      go_wp2_with (
        (go_at_call 55
         refine (of_v (g k) HV.out _).mono ?_
         rintro e w3 ⟨xb, rfl, hB3⟩
         obtain ⟨r0, r1, r2, r3⟩ := cell4 _ _ _ _ _ _ _ hB3
         have hb3 := (hB.alloc hs _).trans (hB3.mono (by simp; omega))
         have ho3 := (hown.alloc _).below hB3 (Nat.le_refl _)
         obtain ⟨bb, eb, hbb, _, hcs⟩ := ho3.at_ h0
         obtain rfl : w1.heap.size = bb := by injection eb with eb; injection eb
         obtain ⟨p0, f0⟩ := hcs (k * 6) (by omega)
         obtain ⟨p1, f1⟩ := hcs (k * 6 + 1) (by omega)
         obtain ⟨p2, f2⟩ := hcs (k * 6 + 2) (by omega)
         obtain ⟨p3, f3⟩ := hcs (k * 6 + 3) (by omega)
         obtain ⟨p4, f4⟩ := hcs (k * 6 + 4) (by omega)
         obtain ⟨p5, f5⟩ := hcs (k * 6 + 5) (by omega)
         clear hcs eb))
      refine ⟨⟨k + 1, by omega, by go_num, ((((((ho3.set_ _).set_ _).set_ _).set_ _).set_ _).set_ _).congr (fun i _ => partK_step g k i), ?_⟩, by simp [intOf]; omega⟩
      exact (((((hb3.setCell (p := ⟨w1.heap.size, k * 6, none⟩) (Nat.le_refl _) _).setCell (p := ⟨w1.heap.size, k * 6 + 1, none⟩) (Nat.le_refl _) _).setCell (p := ⟨w1.heap.size, k * 6 + 2, none⟩) (Nat.le_refl _) _).setCell (p := ⟨w1.heap.size, k * 6 + 3, none⟩) (Nat.le_refl _) _).setCell (p := ⟨w1.heap.size, k * 6 + 4, none⟩) (Nat.le_refl _) _).setCell (p := ⟨w1.heap.size, k * 6 + 5, none⟩) (Nat.le_refl _) _
    · obtain rfl : k = n := by omega
      go_wp2
      go_ret2
      have hB' : Below w.heap.size w wr := hB1.trans (hB.mono hz1)
      exact ⟨wr.heap.size, _, _, rfl, hB'.size, heap_alloc_last wr _, ((hown.congr (fun i hi => by unfold partK; rw [if_pos hi])).lower hz1).alloc _, hB'.alloc hB'.size _⟩
end Go.Proofs.Ytmndolojfdekdaa
