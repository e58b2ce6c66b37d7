/-
  Contracts of check.Stored, of slices.Clone at numbers of sixteen bits, of the laws' own all and awake of layer 4.
-/
import Derived.Test.YtdkmomdekngpnabKk
import Derived.Deep.RegionHeld3
namespace Go.Proofs.Ytdkmomdekngpnab
open Go.RowKit

set_option maxRecDepth 100000 in
set_option maxHeartbeats 4000000 in
theorem all4_any (A : Option Addr) (n c : Nat) (g : Nat → IV) (w : World) (hn : n ≤ 1000000) (hr : Ins w w.heap.size A n c g) :
    Calls Try.prog 11 #[.slice A n c] w fun e w' => ∃ A' c', e = .returned (.slice A' n c') ∧ OwnC w' w.heap.size 46 4 A' n c' (icell g) ∧ Below w.heap.size w w' := by
  go_enter Try.func11, Try.ntmps11
  go_wp2
  go_loopw [3, 4] (fun v i wr => ∃ (k : Nat) (A' : Option Addr) (c' : Nat), k ≤ n ∧ i = .int .i64 k ∧ v = .slice A' k c' ∧ OwnC wr w.heap.size 46 4 A' k c' (icell g) ∧ Below w.heap.size w wr)
    (fun _ i _ => n - (intOf i).toNat)
  case atStart => exact ⟨0, none, 0, Nat.zero_le _, rfl, rfl, OwnC.nil_, Below.refl _ _⟩
  case round =>
    obtain ⟨k, A', c', hk, rfl, rfl, hown, hB⟩ := hrel
    by_cases hlt : k < n
    · obtain ⟨b, off, rfl, hb, hc⟩ := (hr.below hB).at_ (by omega)
      obtain ⟨q0, q1, q2, q3⟩ := hc k hlt
      have HW := Lib.hid (icell_cat g k)
      generalize g k = v at *
      have i1 : (0 : Int) ≤ (k : Int) := by omega
      have i2 : (k : Int) < (n : Int) := by omega
      clear hc
      go_wp2
      go_region_held3 (fun w' => w'.cell? ⟨b, off + k * 4, none⟩ = some (.int .u16 v.c) ∧ w'.cell? ⟨b, off + k * 4 + 1, none⟩ = some (.int .u8 v.t) ∧ w'.cell? ⟨b, off + k * 4 + 2, none⟩ = some (.int .u8 v.f) ∧ w'.cell? ⟨b, off + k * 4 + 3, none⟩ = some (.int .u32 v.k))
        (first
          | go_keep
          | exact ⟨(hK.cell (p := ⟨b, off + k * 4, none⟩) hb).trans q0, (hK.cell (p := ⟨b, off + k * 4 + 1, none⟩) hb).trans q1, (hK.cell (p := ⟨b, off + k * 4 + 2, none⟩) hb).trans q2, (hK.cell (p := ⟨b, off + k * 4 + 3, none⟩) hb).trans q3⟩)
        (first | (refine step_cells2 (by rfl) _ _ _ 46 (by rfl) Try.underlying26 infoI (by rfl) (by decide) (by rfl) (hown.alloc _).drew (by rfl) (one_inst wr v 46) (fun i _ => icell_one _ i) (by unfold maxLen; omega) (by omega) (by have := hB.size; simp; omega) (k + 1) rfl (icell g) HW.out ?_; rintro A2 c2 w2 hown2 hB2; have hK : Below w.heap.size wr w2 := ((Below.refl _ _).alloc hB.size _).drew.trans hB2))
      go_wp2
      exact ⟨⟨k + 1, A2, c2, by omega, by go_num, rfl, hown2, hB.trans hK⟩, by simp [intOf]; omega⟩
    · obtain rfl : k = n := by omega
      go_wp2
      go_ret
      exact ⟨_, _, rfl, hown, hB⟩

/-- The first k instructions are there, the others are zeros. -/
def part (g : Nat → IV) (k : Nat) (i : Nat) : Value := if i < k * 4 then icell g i else icell (fun _ => ⟨0, 0, 0, 0⟩) i
theorem part_step (g : Nat → IV) (k : Nat) (i : Nat) :
    (if i = k * 4 + 3 then Value.int .u32 (g k).k else if i = k * 4 + 2 then Value.int .u8 (g k).f else if i = k * 4 + 1 then Value.int .u8 (g k).t else if i = k * 4 then Value.int .u16 (g k).c else part g k i) = part g (k + 1) i := by
  unfold part
  by_cases h3 : i = k * 4 + 3
  · subst h3; rw [if_pos rfl, if_pos (by omega), icell3]
  · rw [if_neg h3]
    by_cases h2 : i = k * 4 + 2
    · subst h2; rw [if_pos rfl, if_pos (by omega), icell2]
    · rw [if_neg h2]
      by_cases h1 : i = k * 4 + 1
      · subst h1; rw [if_pos rfl, if_pos (by omega), icell1]
      · rw [if_neg h1]
        by_cases h0 : i = k * 4
        · subst h0; rw [if_pos rfl, if_pos (by omega), icell0]
        · rw [if_neg h0]
          by_cases hl : i < k * 4
          · rw [if_pos hl, if_pos (by omega)]
          · rw [if_neg hl, if_neg (by omega)]

theorem mk_insts (m : Nat) (hm : m ≤ 1000000) (w : World) : ∃ W', (Instr.makeSlice 26 (.int .i64 (m : Int)) (.int .i64 (m : Int))).run Try.prog w = .ok (.slice (some ⟨w.heap.size, 0, none⟩) m m) W' ∧
    OwnC W' w.heap.size 46 4 (some ⟨w.heap.size, 0, none⟩) m m (icell fun _ => ⟨0, 0, 0, 0⟩) ∧ Below w.heap.size w W' := by
  obtain ⟨i0, hi0, hz0, hz1, hz2⟩ := info_parts infoI
  have hr := run_make (P := Try.prog) w 26 46 i0 _ Try.underlying26 hi0 hz0 .i64 .i64 m m (by omega) (Int.le_refl _) (by rw [hz2]; omega) (by omega)
  rw [hz1] at hr
  simp only [Int.toNat_natCast] at hr
  refine ⟨_, hr, ?_, (Below.refl _ _).alloc (Nat.le_refl _) _⟩
  have hl := World.ownsRow_lit (base := w.heap.size) (e := 46) (size := 4) w (madeCells (Value.agg #[.int .u16 0, .int .u8 0, .int .u8 0, .int .u32 0]).cells (m * 4)) m (Nat.le_refl _) (by unfold maxLen; omega) (size_madeCells _ _)
  have e : (madeCells (Value.agg #[.int .u16 0, .int .u8 0, .int .u8 0, .int .u32 0]).cells (m * 4)).toList = (List.range (m * 4)).map (icell fun _ => ⟨0, 0, 0, 0⟩) := by
    apply List.ext_getElem (by simp [madeCells])
    intro i h1 h2
    simp only [madeCells, Value.cells, Array.getElem_toList, Array.getElem_map, Array.getElem_range, List.getElem_map, List.getElem_range]
    unfold icell
    have h4 : i % 4 = 0 ∨ i % 4 = 1 ∨ i % 4 = 2 ∨ i % 4 = 3 := by omega
    rcases h4 with h | h | h | h <;> simp [h]
  rw [e] at hl
  exact hl

theorem lit1 (w : World) (c : Nat) (E : TypeId) (hc : c < 65536) : Ins (w.alloc (.cells #[.int .u16 c, .int .u8 0, .int .u8 0, .int .u32 0] E)) (w.heap.size + 1) (some ⟨w.heap.size, 0, none⟩) 1 1 (fun _ => ⟨c, 0, 0, 0⟩) := by
  refine ⟨Cel.mk_ (by omega) (by decide) (by decide) (fun i hi => ?_), fun i _ => ⟨hc, by show 0 < 256; decide, by show 0 < 256; decide, by show 0 < 4294967296; decide⟩⟩
  match i, hi with
  | 0, _ => simp [icell]
  | 1, _ => simp [icell]
  | 2, _ => simp [icell]
  | 3, _ => simp [icell]
def g2 (i : Nat) : IV := if i = 0 then ⟨96, 0, 0, 3⟩ else ⟨22, 0, 0, 0⟩
theorem lit2 (w : World) (E : TypeId) : Ins (w.alloc (.cells #[.int .u16 96, .int .u8 0, .int .u8 0, .int .u32 3, .int .u16 22, .int .u8 0, .int .u8 0, .int .u32 0] E)) (w.heap.size + 1) (some ⟨w.heap.size, 0, none⟩) 2 2 g2 := by
  refine ⟨Cel.mk_ (by omega) (by decide) (by decide) (fun i hi => ?_), fun i _ => ?_⟩
  · match i, hi with
    | 0, _ => simp [icell, g2]
    | 1, _ => simp [icell, g2]
    | 2, _ => simp [icell, g2]
    | 3, _ => simp [icell, g2]
    | 4, _ => simp [icell, g2]
    | 5, _ => simp [icell, g2]
    | 6, _ => simp [icell, g2]
    | 7, _ => simp [icell, g2]
  · unfold g2 IV.ok
    split <;> decide

set_option maxRecDepth 100000 in
set_option maxHeartbeats 4000000 in
theorem awake4_any (w : World) : Calls Try.prog 13 #[] w fun e w' => e = .returned (.bool true) ∧ Below w.heap.size w w' := by
  have e1 : checkF (fun _ => ⟨22, 0, 0, 0⟩) 1 = (0, 0) := by decide +kernel
  have e2 : checkF (fun _ => ⟨5, 0, 0, 0⟩) 1 = (0, 10) := by decide +kernel
  have e3 : checkF g2 2 = (0, 12) := by decide +kernel
  have E1 := Lib.hid e1
  have E2 := Lib.hid e2
  have E3 := Lib.hid e3
  clear e1 e2 e3
  go_enter Try.func13, Try.ntmps13
  go_wp2_with fail
  refine (check_any _ _ _ _ _ ((lit1 w 22 46 (by decide)).more (by simp))).mono ?_
  rw [E1.out]
  rintro e w1 ⟨rfl, hB1⟩
  have hb1 : Below w.heap.size w w1 := ((Below.refl _ _).alloc (Nat.le_refl _) _).trans (hB1.mono (by simp))
  go_wp2_with fail
  refine (check_any _ _ _ _ _ ((lit1 w1 5 46 (by decide)).more (by simp))).mono ?_
  rw [E2.out]
  rintro e w2 ⟨rfl, hB2⟩
  have hb2 : Below w.heap.size w w2 := (hb1.alloc hb1.size _).trans (hB2.mono (by have := hb1.size; simp; omega))
  go_wp2_with fail
  refine (check_any _ _ _ _ _ ((lit2 w2 46).more (by simp))).mono ?_
  rw [E3.out]
  rintro e w3 ⟨rfl, hB3⟩
  have hb3 : Below w.heap.size w w3 := (hb2.alloc hb2.size _).trans (hB3.mono (by have := hb2.size; simp; omega))
  go_wp2
  go_ret
  exact ⟨rfl, hb3⟩

theorem info16 : (Try.prog.info? 35).map (fun i => (i.zero, i.size, i.bytes)) = some (some (.int .u16 0), 1, 2) := by kernel_rfl
set_option maxRecDepth 100000 in
set_option maxHeartbeats 1000000 in
theorem clone16_any (ad : Addr) (n c : Nat) (F : Nat → Value) (w : World) (hn : n ≤ 4096) (hr : Cel w w.heap.size 1 (some ad) n c F) (h1 : ∀ i, i < n → (F i).oneCell' = true) :
    Calls Try.prog 27 #[.slice (some ad) n c] w fun e w' => ∃ A' c', e = .returned (.slice A' n c') ∧ OwnC w' w.heap.size 35 1 A' n c' F ∧ Below w.heap.size w w' := by
  have hnil := fun W => Lib.run_eql_slice_nil (P := Try.prog) W 32 35 (some ad) n c 0 0 Try.underlying32
  have hown : OwnC (w.alloc (.cells #[] 35)) w.heap.size 35 1 (some ⟨w.heap.size, 0, none⟩) 0 0 F := by
    have := World.ownsRow_lit (base := w.heap.size) (e := 35) (size := 1) w #[] 0 (Nat.le_refl _) (by decide) rfl
    unfold OwnC
    simpa using this
  go_enter Try.func27, Try.ntmps27
  go_wp2_with (at_builtin; go_must (refine app_cells _ rfl _ _ _ 35 rfl Try.underlying32 info16 rfl (by decide) rfl hown rfl (hr.below ((Below.refl _ _).alloc (Nat.le_refl _) _)) (fun i hi => h1 i (by omega)) (by unfold maxLen; omega) (by omega) (by simp) n (by omega) F (fun i _ => by unfold catC; rw [if_neg (by omega)]; simp) ?_; rintro A2 c2 w2 hown2 hB2))
  go_ret
  exact ⟨_, _, rfl, hown2, ((Below.refl _ _).alloc (Nat.le_refl _) _).trans hB2⟩

/-- Numbers of sixteen bits as cells. -/
def wcell (C : Nat → Nat) (i : Nat) : Value := .int .u16 (C i : Nat)
set_option maxRecDepth 100000 in
set_option maxHeartbeats 8000000 in
theorem storedF_any (A : Option Addr) (n c : Nat) (g : Nat → IV) (w : World) (hr : Ins w w.heap.size A n c g) :
    Calls Try.prog 14 #[.slice A n c] w fun e w' => ∃ A' c', e = .returned (.slice A' (if (formedF g n).2 = 0 then n else 0) c') ∧ ((formedF g n).2 = 0 → OwnC w' w.heap.size 35 1 A' n c' (wcell (storedT g n))) ∧ Below w.heap.size w w' := by
  have HR := Lib.hid hr
  clear hr
  by_cases hq : (formedF g n).2 = 0
  · rw [if_pos hq]
    obtain ⟨h0, h1, hal, hlast, hff⟩ := formedF_ok hq
    have HALL := Lib.hid hal
    have HLAST := Lib.hid hlast
    have HFF := Lib.hid hff
    have HQ := Lib.hid hq
    obtain ⟨Z, hZs, hz⟩ := arrOf_Z
    have hs1 := size56 (storedT g n)
    have hs3 := arrOf_size (storedT g n)
    have h1c := arrOf_one (storedT g n)
    obtain ⟨D, hD⟩ : ∃ D, arrOf (storedT g n) = D := ⟨_, rfl⟩
    rw [hD] at hs1 hs3 h1c
    have HD := Lib.hid hD
    have S1 := Lib.hid hs1
    have S2 := Lib.hid (hZs.trans hs3.symm)
    have H1C := Lib.hid h1c
    have t1 : (((0 : Nat) : Int) != 0) = false := rfl
    clear hq hal hlast hff hs1 hs3 hD hZs h1c
    go_enter Try.func14, Try.ntmps14
    go_wp2_with (first
      | (go_at_call 23
         refine (formed_any A n c g _ HR.out).mono ?_
         rintro e w1 ⟨A1, m, c1, rfl, hm, hB1⟩
         obtain ⟨rfl, hown⟩ := hm HQ.out
         rw [HFF.out]
         have hcel := hown.cel
         have HO := Lib.hid hown
         have HC := Lib.hid hcel
         clear hm hown hcel)
      | (go_at_call 24
         refine (stored_any A1 m c1 g _ HC.out HR.out.2 h1 HALL.out HLAST.out).mono ?_
         rw [HD.out]
         rintro e w2 ⟨rfl, hB2⟩
         have h2' : (w2.alloc (.cells Z 56)).heap[w2.heap.size]? = some (.cells Z 56) := heap_alloc_last _ _
         have H2 := Lib.hid h2'
         have i4 : (m : Int) ≤ 4096 := by omega
         clear h2')
      | (refine wpList_store_row (by rfl) 56 _ _ (by rfl) w2.heap.size D (by rfl) (by rfl) _ Z H2.out S1.out S2.out H1C.out ?_
         rw [World.setRow_alloc_new]))
    have ha0 : Arr (w2.alloc (.cells D 56)) w2.heap.size (storedT g m) := by unfold Arr; rw [HD.out]; exact heap_alloc_last _ _
    have hce : Cel (w2.alloc (.cells D 56)) (w2.alloc (.cells D 56)).heap.size 1 (some ⟨w2.heap.size, 0, none⟩) m 4096 (wcell (storedT g m)) :=
      Cel.mk_ (by simp) h1 (by decide) (fun i hi => by rw [Nat.zero_add]; exact ha0.cell i (by omega))
    have hb2 := (hB1.trans (hB2.mono hB1.size)).alloc (hB1.trans (hB2.mono hB1.size)).size (.cells D 56)
    clear ha0 hz
    refine (clone16_any _ _ _ _ _ h1 hce (fun _ _ => rfl)).mono ?_
    rintro e w3 ⟨A3, c3, rfl, hown3, hB3⟩
    go_wp2
    go_ret
    exact ⟨_, _, rfl, fun _ => hown3.lower hb2.size, hb2.trans (hB3.mono hb2.size)⟩
  · rw [if_neg hq]
    have HQ := Lib.hid hq
    obtain ⟨FR, hFR⟩ : ∃ z, formedF g n = z := ⟨_, rfl⟩
    have HFR := Lib.hid hFR
    rw [hFR] at hq
    have t1 : ((FR.2 : Int) != 0) = true := by simpa using hq
    clear hFR hq
    go_enter Try.func14, Try.ntmps14
    go_wp2_with (go_at_call 23
                 refine (formed_any A n c g _ HR.out).mono ?_
                 rw [HFR.out]
                 rintro e w1 ⟨A1, m, c1, rfl, _, hB1⟩)
    go_ret
    exact ⟨_, _, rfl, fun h => absurd h HQ.out, hB1⟩
end Go.Proofs.Ytdkmomdekngpnab
