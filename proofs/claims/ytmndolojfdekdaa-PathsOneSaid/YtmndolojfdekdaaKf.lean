/-
  The contract of check.formed: a program's places, or the first thing of 1 to 3 that is wrong with it.
-/
import Derived.Test.YtmndolojfdekdaaKe
import Derived.Deep.WholeRow
namespace Go.Proofs.Ytmndolojfdekdaa
open Go.RowKit

theorem tst_alone (v : IV) (r : Nat) : faultK (tst (kd v) (xx v) v.t v.f v.k r) = alone v r := by
  have hk := kd_range v
  unfold faultK tst alone isLd isSt isBr farsK
  generalize kd v = K at hk ⊢
  generalize xx v = X
  obtain ⟨K', rfl⟩ : ∃ K' : Nat, K = (K' : Int) := ⟨K.toNat, by omega⟩
  have h28 : K' ≤ 28 := by omega
  obtain ⟨c, t, f, k⟩ := v
  dsimp only
  rcases Nat.lt_or_ge K' 29 with h | h
  · match K', h28 with
    | 0, _ => simp
    | 1, _ => simp; split <;> split <;> first | rfl | omega
    | 2, _ => simp
    | 3, _ => simp; split <;> split <;> first | rfl | omega
    | 4, _ => simp
    | 5, _ => simp
    | 6, _ => simp; split <;> split <;> first | rfl | omega
    | 7, _ => simp
    | 8, _ => simp; split <;> split <;> first | rfl | omega
    | 9, _ => simp; split <;> split <;> first | rfl | omega
    | 10, _ => simp
    | 11, _ => simp
    | 12, _ => simp
    | 13, _ => simp
    | 14, _ => simp
    | 15, _ => simp
    | 16, _ => simp
    | 17, _ => simp
    | 18, _ => simp
    | 19, _ => simp
    | 20, _ => simp
    | 21, _ => simp
    | 22, _ => cases X <;> simp; split <;> split <;> first | rfl | omega
    | 23, _ => cases X <;> simp; split <;> split <;> first | rfl | omega
    | 24, _ => simp
    | 25, _ => simp
    | 26, _ => simp
    | 27, _ => simp
    | 28, _ => simp
    | K' + 29, h' => omega
  · omega
theorem OwnC.set_ {w : World} {base z n c b : Nat} {E : TypeId} {F : Nat → Value} (h : OwnC w base E z (some ⟨b, 0, none⟩) n c F) {j : Nat} (u : Value) :
    OwnC (w.setCell ⟨b, j, none⟩ u) base E z (some ⟨b, 0, none⟩) n c (fun i => if i = j then u else F i) := by
  have h1 := (World.ownsRow.stored h j u).1
  have e : (((List.range (n * z)).map F).set j u) = ((List.range (n * z)).map fun i => if i = j then u else F i) := by
    apply List.ext_getElem (by simp)
    intro i h1 h2
    simp only [List.getElem_map, List.getElem_range, List.getElem_set]
    by_cases e : i = j
    · rw [if_pos e, if_pos e.symm]
    · rw [if_neg e, if_neg (fun x => e x.symm)]
  rw [e] at h1
  exact h1
theorem OwnC.at_ {w : World} {base z n c : Nat} {E : TypeId} {A : Option Addr} {F : Nat → Value} (h : OwnC w base E z A n c F) (hn : 0 < n) :
    ∃ b, A = some ⟨b, 0, none⟩ ∧ base ≤ b ∧ b < w.heap.size ∧ ∀ i, i < n * z → (w.cell? ⟨b, i, none⟩ = some (F i) ∧ w.frozen? ⟨b, i, none⟩ = false) := by
  obtain ⟨gg, cap, hv, hg, hl⟩ := World.ownsRow.form h hn
  injection hv with e1 e2 e3
  subst e1 e3
  refine ⟨gg, rfl, hg, hl, fun i hi => ⟨?_, World.ownsRow.frozenAt h i⟩⟩
  rw [World.ownsRow.cellAt h i hi]
  simp [hi]

/-- A program's places as cells. -/
def pcell (g : Nat → IV) (n : Nat) (i : Nat) : Value := if i % 7 = 0 then .int .u16 (g (i / 7)).c else if i % 7 = 1 then .int .u8 (g (i / 7)).t else if i % 7 = 2 then .int .u8 (g (i / 7)).f else if i % 7 = 3 then .int .u32 (g (i / 7)).k else if i % 7 = 4 then .int .i64 (kd (g (i / 7))) else if i % 7 = 5 then .bool (xx (g (i / 7))) else .int .i64 ((n : Int) - 1 - ((i / 7 : Nat) : Int))
def pzero (i : Nat) : Value := if i % 7 = 0 then .int .u16 0 else if i % 7 = 1 then .int .u8 0 else if i % 7 = 2 then .int .u8 0 else if i % 7 = 3 then .int .u32 0 else if i % 7 = 4 then .int .i64 0 else if i % 7 = 5 then .bool false else .int .i64 0
theorem pcell_one (g : Nat → IV) (n i : Nat) : (pcell g n i).oneCell' = true := by
  unfold pcell
  repeat' split
  all_goals rfl
theorem pcell0 (g : Nat → IV) (n k : Nat) : pcell g n (k * 7) = .int .u16 (g k).c := by
  have h1 : (k * 7) / 7 = k := by omega
  have h2 : (k * 7) % 7 = 0 := by omega
  unfold pcell; rw [h1, h2]; rfl
theorem pcell1 (g : Nat → IV) (n k : Nat) : pcell g n (k * 7 + 1) = .int .u8 (g k).t := by
  have h1 : (k * 7 + 1) / 7 = k := by omega
  have h2 : (k * 7 + 1) % 7 = 1 := by omega
  unfold pcell; rw [h1, h2]; rfl
theorem pcell2 (g : Nat → IV) (n k : Nat) : pcell g n (k * 7 + 2) = .int .u8 (g k).f := by
  have h1 : (k * 7 + 2) / 7 = k := by omega
  have h2 : (k * 7 + 2) % 7 = 2 := by omega
  unfold pcell; rw [h1, h2]; rfl
theorem pcell3 (g : Nat → IV) (n k : Nat) : pcell g n (k * 7 + 3) = .int .u32 (g k).k := by
  have h1 : (k * 7 + 3) / 7 = k := by omega
  have h2 : (k * 7 + 3) % 7 = 3 := by omega
  unfold pcell; rw [h1, h2]; rfl
theorem pcell4 (g : Nat → IV) (n k : Nat) : pcell g n (k * 7 + 4) = .int .i64 (kd (g k)) := by
  have h1 : (k * 7 + 4) / 7 = k := by omega
  have h2 : (k * 7 + 4) % 7 = 4 := by omega
  unfold pcell; rw [h1, h2]; rfl
theorem pcell5 (g : Nat → IV) (n k : Nat) : pcell g n (k * 7 + 5) = .bool (xx (g k)) := by
  have h1 : (k * 7 + 5) / 7 = k := by omega
  have h2 : (k * 7 + 5) % 7 = 5 := by omega
  unfold pcell; rw [h1, h2]; rfl
theorem pcell6 (g : Nat → IV) (n k : Nat) : pcell g n (k * 7 + 6) = .int .i64 ((n : Int) - 1 - (k : Int)) := by
  have h1 : (k * 7 + 6) / 7 = k := by omega
  have h2 : (k * 7 + 6) % 7 = 6 := by omega
  unfold pcell; rw [h1, h2]; rfl
/-- The first k places are there, the others are zeros. -/
def partP (g : Nat → IV) (n k : Nat) (i : Nat) : Value := if i < k * 7 then pcell g n i else pzero i
theorem partP_step (g : Nat → IV) (n k : Nat) (i : Nat) :
    (if i = k * 7 + 6 then Value.int .i64 ((n : Int) - 1 - (k : Int)) else if i = k * 7 + 5 then Value.bool (xx (g k)) else if i = k * 7 + 4 then Value.int .i64 (kd (g k)) else if i = k * 7 + 3 then Value.int .u32 (g k).k else if i = k * 7 + 2 then Value.int .u8 (g k).f else if i = k * 7 + 1 then Value.int .u8 (g k).t else if i = k * 7 then Value.int .u16 (g k).c else partP g n k i) = partP g n (k + 1) i := by
  unfold partP
  by_cases h6 : i = k * 7 + 6
  · subst h6; rw [if_pos rfl, if_pos (by omega), pcell6]
  · rw [if_neg h6]
    by_cases h5 : i = k * 7 + 5
    · subst h5; rw [if_pos rfl, if_pos (by omega), pcell5]
    · rw [if_neg h5]
      by_cases h4 : i = k * 7 + 4
      · subst h4; rw [if_pos rfl, if_pos (by omega), pcell4]
      · rw [if_neg h4]
        by_cases h3 : i = k * 7 + 3
        · subst h3; rw [if_pos rfl, if_pos (by omega), pcell3]
        · rw [if_neg h3]
          by_cases h2 : i = k * 7 + 2
          · subst h2; rw [if_pos rfl, if_pos (by omega), pcell2]
          · rw [if_neg h2]
            by_cases h1 : i = k * 7 + 1
            · subst h1; rw [if_pos rfl, if_pos (by omega), pcell1]
            · rw [if_neg h1]
              by_cases h0 : i = k * 7
              · subst h0; rw [if_pos rfl, if_pos (by omega), pcell0]
              · rw [if_neg h0]
                by_cases hl : i < k * 7
                · rw [if_pos hl, if_pos (by omega)]
                · rw [if_neg hl, if_neg (by omega)]

theorem infoP : (Try.prog.info? 156).map (fun i => (i.zero, i.size, i.bytes)) = some (some (.agg #[.int .u16 0, .int .u8 0, .int .u8 0, .int .u32 0, .int .i64 0, .bool false, .int .i64 0]), 7, 32) := by kernel_rfl
theorem mk_places (m : Nat) (hm : m ≤ 4096) (w : World) : ∃ W', (Instr.makeSlice 150 (.int .i64 (m : Int)) (.int .i64 (m : Int))).run Try.prog w = .ok (.slice (some ⟨w.heap.size, 0, none⟩) m m) W' ∧
    OwnC W' w.heap.size 156 7 (some ⟨w.heap.size, 0, none⟩) m m pzero ∧ Below w.heap.size w W' := by
  obtain ⟨i0, hi0, hz0, hz1, hz2⟩ := info_parts infoP
  have hr := run_make (P := Try.prog) w 150 156 i0 _ Try.underlying150 hi0 hz0 .i64 .i64 m m (by omega) (Int.le_refl _) (by rw [hz2]; omega) (by omega)
  rw [hz1] at hr
  simp only [Int.toNat_natCast] at hr
  refine ⟨_, hr, ?_, (Below.refl _ _).alloc (Nat.le_refl _) _⟩
  have hl := World.ownsRow_lit (base := w.heap.size) (e := 156) (size := 7) w (madeCells (Value.agg #[.int .u16 0, .int .u8 0, .int .u8 0, .int .u32 0, .int .i64 0, .bool false, .int .i64 0]).cells (m * 7)) m (Nat.le_refl _) (by unfold maxLen; omega) (size_madeCells _ _)
  have e : (madeCells (Value.agg #[.int .u16 0, .int .u8 0, .int .u8 0, .int .u32 0, .int .i64 0, .bool false, .int .i64 0]).cells (m * 7)).toList = (List.range (m * 7)).map pzero := by
    apply List.ext_getElem (by simp [madeCells])
    intro i h1 h2
    simp only [madeCells, Value.cells, Array.getElem_toList, Array.getElem_map, Array.getElem_range, List.getElem_map, List.getElem_range]
    unfold pzero
    have h7 : i % 7 = 0 ∨ i % 7 = 1 ∨ i % 7 = 2 ∨ i % 7 = 3 ∨ i % 7 = 4 ∨ i % 7 = 5 ∨ i % 7 = 6 := by omega
    rcases h7 with h | h | h | h | h | h | h <;> simp [h]
  rw [e] at hl
  exact hl
theorem of_v (v : IV) (hv : v.ok) (w : World) : Calls Try.prog 55 #[.int .u16 v.c] w fun e w' => ∃ b, e = .returned (.tuple #[.int .i64 (kd v), .bool (xx v), .bool b]) ∧ Below w.heap.size w w' :=
  (of_any v.c w (by omega) (by have := hv.1; omega)).mono fun e w' h => ⟨_, h.1, h.2⟩
theorem fault_v (v : IV) (hv : v.ok) (r : Nat) (hr : r ≤ 4096) (b : Int) (hb : b = r) (w : World) : Calls Try.prog 100 #[plA v.c v.t v.f v.k (kd v) (xx v) b] w fun e w' => e = .returned (.int .i64 (alone v r : Nat)) ∧ Below w.heap.size w w' := by
  subst hb
  rw [← tst_alone]
  exact fault_any_K _ _ _ _ _ _ _ _ hv.2.1 hv.2.2.1 hv.2.2.2 hr
theorem cell4 (w w' : World) (a b c d : Value) (E : TypeId) (hB : Below (w.alloc (.cells #[a, b, c, d] E)).heap.size (w.alloc (.cells #[a, b, c, d] E)) w') :
    w'.cell? ⟨w.heap.size, 0, none⟩ = some a ∧ w'.cell? ⟨w.heap.size, 1, none⟩ = some b ∧ w'.cell? ⟨w.heap.size, 2, none⟩ = some c ∧ w'.cell? ⟨w.heap.size, 3, none⟩ = some d := by
  refine ⟨?_, ?_, ?_, ?_⟩ <;> (rw [hB.cell (by simp), World.cell?_alloc_at _ _ _ _ rfl]; rfl)
end Go.Proofs.Ytmndolojfdekdaa

/-
  The contract of check.formed: a program's places, or the first thing of 1 to 3 that is wrong with it.
-/
namespace Go.Proofs.Ytmndolojfdekdaa
open Go.RowKit

theorem returns_v (v : IV) (b : Int) (w : World) : Calls Try.prog 101 #[plA v.c v.t v.f v.k (kd v) (xx v) b] w fun e w' => e = .returned (.bool (isRet v)) ∧ Below w.heap.size w w' := returns_any _ _ _ _ _ _ _ _

set_option maxRecDepth 100000 in
set_option maxHeartbeats 4000000 in
theorem formed_go (A : Option Addr) (n c : Nat) (g : Nat → IV) (w : World) (hr : Ins w w.heap.size A n c g) (h0 : 0 < n) (h1 : n ≤ 4096) :
    Calls Try.prog 76 #[.slice A n c] w fun e w' => ∃ A' m c', e = .returned (.tuple #[.slice A' m c', .int .i64 ((formedF g n).1 : Nat), .int .i64 ((formedF g n).2 : Nat)]) ∧
      ((formedF g n).2 = 0 → m = n ∧ OwnC w' w.heap.size 156 7 A' n c' (pcell g n)) ∧ Below w.heap.size w w' := by
  have HR := Lib.hid hr
  have hfd : formedF g n = pick (fun i => alone (g i) (n - 1 - i)) n (if isRet (g (n - 1)) = true then (0, 0) else (n - 1, 11)) := by
    unfold formedF; rw [if_neg (by omega), if_neg (by omega)]
  have HFD := Lib.hid hfd
  have t1 : ((n : Int) == 0) = false := by simp; omega
  have t2 : ¬ (n : Int) > 4096 := by omega
  obtain ⟨w1, hmk, hown1, hB1⟩ := mk_places n h1 w
  have ho1 : OwnC w1 w.heap.size 156 7 (some ⟨w.heap.size, 0, none⟩) n n (partP g n 0) := hown1.congr (fun i _ => by unfold partP; rw [if_neg (by omega)])
  obtain ⟨FR, hFR⟩ : ∃ z, formedF g n = z := ⟨_, rfl⟩
  rw [hFR]
  rw [hFR] at HFD
  clear hr hown1 hfd hFR
  go_enter Try.func76, Try.ntmps76
  go_wp2_with fail
  go_loopw [25] (fun i wr => ∃ k : Nat, k ≤ n ∧ i = .int .i64 k ∧ (∀ i, i < k → alone (g i) (n - 1 - i) = 0) ∧ OwnC wr w.heap.size 156 7 (some ⟨w.heap.size, 0, none⟩) n n (partP g n k) ∧ Below w.heap.size w wr)
    (fun i _ => n - (intOf i).toNat)
  case atStart => exact ⟨0, Nat.zero_le _, rfl, fun i hi => by omega, ho1, hB1⟩
  case round =>
    obtain ⟨k, hk, rfl, hno, hown, hB⟩ := hrel
    have HNO := Lib.hid hno
    clear hno ho1 hB1 hmk
    have hs := hB.size
    by_cases hlt : k < n
    · have hv := HR.out.2 k hlt
      obtain ⟨b, off, rfl, hb, hc⟩ := (HR.out.below hB).at_ (by omega)
      obtain ⟨q0, q1, q2, q3⟩ := hc k hlt
      clear hc
      obtain ⟨al, hal⟩ : ∃ al, alone (g k) (n - 1 - k) = al := ⟨_, rfl⟩
      have HAL := Lib.hid hal
      have HV := Lib.hid hv
      clear hal hv
      by_cases hz : al = 0
      · have t3 : ((al : Int) != 0) = false := by rw [hz]; rfl
        go_wp2_with (first
          | (go_at_call 55
             refine (of_v (g k) HV.out _).mono ?_
             rintro e w2 ⟨xb, rfl, hB2⟩
             obtain ⟨r0, r1, r2, r3⟩ := cell4 _ _ _ _ _ _ _ hB2
             have hb2 := (hB.alloc hs _).trans (hB2.mono (by simp; omega))
             have ho2 := (hown.alloc _).below hB2 (Nat.le_refl _))
          | (go_at_call 100
             refine (fault_v (g k) HV.out (n - 1 - k) (by omega) _ (by omega) _).mono ?_
             rw [HAL.out]
             rintro e w3 ⟨rfl, hB3⟩
             obtain ⟨s0, s1, s2, s3, s4, s5, s6⟩ := (Bx.new _).below hB3 (by simp)
             have hs2 := hb2.size
             have hb3 := (hb2.alloc hs2 _).trans (hB3.mono (by simp; omega))
             have ho3 := (ho2.alloc _).below hB3 (Nat.le_refl _)
             obtain ⟨bb, eb, hbb, _, hcs⟩ := ho3.at_ h0
             obtain rfl : w.heap.size = bb := by injection eb with eb; injection eb
             obtain ⟨p0, f0⟩ := hcs (k * 7) (by omega)
             obtain ⟨p1, f1⟩ := hcs (k * 7 + 1) (by omega)
             obtain ⟨p2, f2⟩ := hcs (k * 7 + 2) (by omega)
             obtain ⟨p3, f3⟩ := hcs (k * 7 + 3) (by omega)
             obtain ⟨p4, f4⟩ := hcs (k * 7 + 4) (by omega)
             obtain ⟨p5, f5⟩ := hcs (k * 7 + 5) (by omega)
             obtain ⟨p6, f6⟩ := hcs (k * 7 + 6) (by omega)
             clear hcs eb))
        refine ⟨⟨k + 1, by omega, by go_num, fun i hi => ?_, (((((((ho3.set_ _).set_ _).set_ _).set_ _).set_ _).set_ _).set_ _).congr (fun i _ => partP_step g n k i), ?_⟩, by simp [intOf]; omega⟩
        · by_cases hik : i = k
          · rw [hik, HAL.out]; exact hz
          · exact HNO.out i (by omega)
        · exact ((((((hb3.setCell (p := ⟨w.heap.size, k * 7, none⟩) (Nat.le_refl _) _).setCell (p := ⟨w.heap.size, k * 7 + 1, none⟩) (Nat.le_refl _) _).setCell (p := ⟨w.heap.size, k * 7 + 2, none⟩) (Nat.le_refl _) _).setCell (p := ⟨w.heap.size, k * 7 + 3, none⟩) (Nat.le_refl _) _).setCell (p := ⟨w.heap.size, k * 7 + 4, none⟩) (Nat.le_refl _) _).setCell (p := ⟨w.heap.size, k * 7 + 5, none⟩) (Nat.le_refl _) _).setCell (p := ⟨w.heap.size, k * 7 + 6, none⟩) (Nat.le_refl _) _
      · have t3 : ((al : Int) != 0) = true := by simpa using hz
        go_wp2_with (first
          | (go_at_call 55
             refine (of_v (g k) HV.out _).mono ?_
             rintro e w2 ⟨xb, rfl, hB2⟩
             obtain ⟨r0, r1, r2, r3⟩ := cell4 _ _ _ _ _ _ _ hB2
             have hb2 := (hB.alloc hs _).trans (hB2.mono (by simp; omega)))
          | (go_at_call 100
             refine (fault_v (g k) HV.out (n - 1 - k) (by omega) _ (by omega) _).mono ?_
             rw [HAL.out]
             rintro e w3 ⟨rfl, hB3⟩
             have hs2 := hb2.size
             have hb3 := (hb2.alloc hs2 _).trans (hB3.mono (by simp; omega))))
        go_ret3
        have e : FR = (k, al) := by
          rw [HFD.out, ← HAL.out]
          exact pick_at _ hlt (by show alone (g k) (n - 1 - k) ≠ 0; rw [HAL.out]; exact hz) HNO.out
        rw [e]
        exact ⟨_, _, _, rfl, fun h => absurd h hz, hb3⟩
    · obtain rfl : k = n := by omega
      obtain ⟨bb, eb, hbb, _, hcs⟩ := hown.at_ h0
      obtain rfl : w.heap.size = bb := by injection eb with eb; injection eb
      have hlast : ∀ q, q < 7 → partP g k k ((k - 1) * 7 + q) = pcell g k ((k - 1) * 7 + q) := fun q hq => by unfold partP; rw [if_pos (by omega)]
      obtain ⟨p0, _⟩ := hcs ((k - 1) * 7) (by omega)
      obtain ⟨p1, _⟩ := hcs ((k - 1) * 7 + 1) (by omega)
      obtain ⟨p2, _⟩ := hcs ((k - 1) * 7 + 2) (by omega)
      obtain ⟨p3, _⟩ := hcs ((k - 1) * 7 + 3) (by omega)
      obtain ⟨p4, _⟩ := hcs ((k - 1) * 7 + 4) (by omega)
      obtain ⟨p5, _⟩ := hcs ((k - 1) * 7 + 5) (by omega)
      obtain ⟨p6, _⟩ := hcs ((k - 1) * 7 + 6) (by omega)
      rw [show (k - 1) * 7 = (k - 1) * 7 + 0 from rfl, hlast 0 (by omega)] at p0
      rw [hlast 1 (by omega), pcell1] at p1
      rw [hlast 2 (by omega), pcell2] at p2
      rw [hlast 3 (by omega), pcell3] at p3
      rw [hlast 4 (by omega), pcell4] at p4
      rw [hlast 5 (by omega), pcell5] at p5
      rw [hlast 6 (by omega), pcell6] at p6
      rw [Nat.add_zero, pcell0] at p0
      clear hcs eb hlast
      have i1 : (0 : Int) ≤ (k : Int) - 1 := by omega
      obtain ⟨rr, hrr⟩ : ∃ r, isRet (g (k - 1)) = r := ⟨_, rfl⟩
      have HRR := Lib.hid hrr
      clear hrr
      cases rr
      · go_wp2_with (go_at_call 101
                     refine (returns_v (g (k - 1)) _ _).mono ?_
                     rw [HRR.out]
                     rintro e w3 ⟨rfl, hB3⟩
                     have hb3 := hB.trans (hB3.mono hs))
        go_ret3
        have e : FR = (k - 1, 11) := by
          rw [HFD.out, pick_none _ HNO.out, HRR.out]; rfl
        rw [e]
        refine ⟨none, 0, 0, ?_, fun h => absurd h (show ¬ (11 : Nat) = 0 by decide), hb3⟩
        rw [show ((k - 1 : Nat) : Int) = (k : Int) - 1 from by omega]; rfl
      · go_wp2_with (go_at_call 101
                     refine (returns_v (g (k - 1)) _ _).mono ?_
                     rw [HRR.out]
                     rintro e w3 ⟨rfl, hB3⟩
                     have hb3 := hB.trans (hB3.mono hs))
        go_ret3
        have e : FR = (0, 0) := by
          rw [HFD.out, pick_none _ HNO.out, HRR.out]; rfl
        rw [e]
        exact ⟨_, _, _, rfl, fun _ => ⟨rfl, (hown.below hB3 (Nat.le_refl _)).congr (fun i hi => by unfold partP; rw [if_pos hi])⟩, hb3⟩

set_option maxRecDepth 100000 in
set_option maxHeartbeats 4000000 in
theorem formed_any (A : Option Addr) (n c : Nat) (g : Nat → IV) (w : World) (hr : Ins w w.heap.size A n c g) :
    Calls Try.prog 76 #[.slice A n c] w fun e w' => ∃ A' m c', e = .returned (.tuple #[.slice A' m c', .int .i64 ((formedF g n).1 : Nat), .int .i64 ((formedF g n).2 : Nat)]) ∧
      ((formedF g n).2 = 0 → m = n ∧ OwnC w' w.heap.size 156 7 A' n c' (pcell g n)) ∧ Below w.heap.size w w' := by
  have hle := hr.1.le
  unfold maxLen at hle
  obtain ⟨l1, l2⟩ := hle
  by_cases h0 : n = 0
  · have e : formedF g n = (0, 4) := by unfold formedF; rw [if_pos h0]
    rw [e]
    subst h0
    go_enter Try.func76, Try.ntmps76
    go_wp2
    go_ret3
    exact ⟨_, _, _, rfl, fun h => absurd h (by decide), Below.refl _ _⟩
  · by_cases h1 : n ≤ 4096
    · exact formed_go A n c g w hr (by omega) h1
    · have e : formedF g n = (0, 3) := by unfold formedF; rw [if_neg h0, if_pos (by omega)]
      rw [e]
      have t1 : ((n : Int) == 0) = false := by simp; omega
      have t2 : (n : Int) > 4096 := by omega
      clear e
      go_enter Try.func76, Try.ntmps76
      go_wp2
      go_ret3
      exact ⟨_, _, _, rfl, fun h => absurd h (by decide), Below.refl _ _⟩
end Go.Proofs.Ytmndolojfdekdaa

/-
  Words for a variable that is an array of 4096 numbers of sixteen bits, in a block of its own; the contract of the closure that takes bits off one of them.
-/
namespace Go.Proofs.Ytmndolojfdekdaa
open Go.RowKit

def arrOf (C : Nat → Nat) : Array Value := (Array.range 4096).map fun i => .int .u16 (C i : Nat)
theorem arrOf_size (C : Nat → Nat) : (arrOf C).size = 4096 := by simp [arrOf]
theorem arrOf_get (C : Nat → Nat) (i : Nat) (hi : i < 4096) : (arrOf C)[i]? = some (.int .u16 (C i : Nat)) := by
  rw [Array.getElem?_eq_getElem (by rw [arrOf_size]; exact hi)]
  simp [arrOf]
theorem arrOf_congr {C D : Nat → Nat} (h : ∀ i, i < 4096 → C i = D i) : arrOf C = arrOf D := by
  apply Array.ext
  · rw [arrOf_size, arrOf_size]
  · intro i h1 h2
    rw [arrOf_size] at h1
    simp [arrOf, h i h1]
theorem arrOf_set (C : Nat → Nat) (i v : Nat) : (arrOf C).setIfInBounds i (.int .u16 v) = arrOf (fun j => if j = i then v else C j) := by
  apply Array.ext
  · simp [arrOf]
  · intro j h1 h2
    rw [Array.getElem_setIfInBounds]
    simp only [arrOf, Array.getElem_map, Array.getElem_range]
    by_cases h : i = j
    · rw [if_pos h, if_pos h.symm]
    · rw [if_neg h, if_neg (fun e => h e.symm)]
    simpa [arrOf] using h2
theorem arrOf_one (C : Nat → Nat) : (arrOf C).all (·.oneCell') = true := by
  rw [Array.all_eq_true_iff_forall_mem]
  intro x hx
  obtain ⟨i, _, rfl⟩ := Array.mem_map.1 hx
  rfl
def isZ16 : Value → Bool
  | .int .u16 n => n == 0
  | _ => false
def allB : Nat → List Value → Bool
  | 0, [] => true
  | n + 1, v :: l => cond (isZ16 v) (allB n l) false
  | _, _ => false
theorem isZ16_eq {v : Value} (h : isZ16 v = true) : v = .int .u16 0 := by
  unfold isZ16 at h
  split at h
  · rw [beq_iff_eq] at h; rw [h]
  · cases h
theorem allB_eq : ∀ (n : Nat) (l : List Value), allB n l = true → l = List.replicate n (.int .u16 0)
  | 0, [], _ => rfl
  | 0, _ :: _, h => by cases h
  | _ + 1, [], h => by cases h
  | n + 1, v :: l, h => by
    unfold allB at h
    cases hv : isZ16 v
    · rw [hv] at h; cases h
    · rw [hv] at h
      rw [isZ16_eq hv, allB_eq n l h, List.replicate_succ]
def zchk (n : Nat) : Option Value → Bool
  | some (.agg a) => allB n a.toList
  | _ => false
/-- A closed fact on the array's zero value. -/
theorem z56 : zchk 4096 ((Try.prog.info? 153).bind (·.zero)) = true := by kernel_rfl
theorem arrOf_zero {n : Nat} (hn : n = 4096) : arrOf (fun _ => 0) = Array.replicate n (.int .u16 0) := by
  apply Array.ext
  · rw [arrOf_size]; simp [hn]
  · intro i h1 h2
    simp [arrOf]
theorem zero_of {t : TypeId} {n : Nat} (hn : n = 4096) (h : zchk n ((Try.prog.info? t).bind (·.zero)) = true) (w : World) : (zeroValue t).run Try.prog w = .ok (.agg (arrOf fun _ => 0)) w := by
  rcases hi : Try.prog.info? t with _ | i
  · rw [hi] at h; cases h
  · rw [hi] at h
    simp only [Option.bind_some] at h
    rcases hz : i.zero with _ | v
    · rw [hz] at h; cases h
    · rw [hz] at h
      cases v with
      | agg a =>
        have ha : a = arrOf (fun _ => 0) := by
          rw [arrOf_zero hn]
          apply Array.toList_inj.1
          rw [allB_eq n _ h, Array.toList_replicate]
        simp [zeroValue, typeInfo, hi, hz, ha]
      | _ => cases h
theorem zero56 (w : World) : (zeroValue 153).run Try.prog w = .ok (.agg (arrOf fun _ => 0)) w := zero_of (n := 4096) rfl z56 w
theorem size56 (C : Nat → Nat) : (Try.prog.info? 153).map (·.size) = some (arrOf C).size := by
  rw [arrOf_size]; kernel_rfl

/-- The block b holds the array of the numbers C 0, C 1, .. -/
def Arr (w : World) (b : Nat) (C : Nat → Nat) : Prop := w.heap[b]? = some (.cells (arrOf C) 153)
section
variable {w w' : World} {b b' : Nat} {C D : Nat → Nat}
theorem Arr.lt (h : Arr w b C) : b < w.heap.size := (Array.getElem?_eq_some_iff.1 h).1
theorem Arr.cell (h : Arr w b C) (i : Nat) (hi : i < 4096) : w.cell? ⟨b, i, none⟩ = some (.int .u16 (C i : Nat)) := by
  rw [cell_of_row w b i _ _ (0, 0) h, arrOf_get C i hi]
theorem Arr.frozen (h : Arr w b C) (i : Nat) : w.frozen? ⟨b, i, none⟩ = false := by
  have h' : w.heap[b]? = some (.cells (arrOf C) 153) := h
  simp [World.frozen?, h']
theorem Arr.below {N : Nat} (h : Arr w b C) (hb : Below N w w') (hB : b < N) : Arr w' b C := (hb.block b hB).trans h
theorem Arr.congr (h : Arr w b C) (he : ∀ i, i < 4096 → C i = D i) : Arr w b D := by
  unfold Arr at *; rw [← arrOf_congr he]; exact h
theorem Arr.set (h : Arr w b C) (i v : Nat) : Arr (w.setCell ⟨b, i, none⟩ (.int .u16 v)) b (fun j => if j = i then v else C j) := by
  unfold Arr
  rw [setCell_eq_setRow w b i _ _ (0, 0) _ h, arrOf_set]
  exact setRow_heap w b _ _ _ _ h
theorem Arr.other (h : Arr w b C) (i : Nat) (v : Value) (hb : b ≠ b') : Arr (w.setCell ⟨b', i, none⟩ v) b C := by
  unfold Arr
  rw [Below.heap_setCell w ⟨b', i, none⟩ v b (fun e => hb e)]
  exact h
theorem Arr.new (C : Nat → Nat) : Arr (w.alloc (.cells (arrOf C) 153)) w.heap.size C := heap_alloc_last w _
theorem load_n {n : Nat} {cs : Array Value} {t : TypeId} (hn : cs.size = n) (h : w.heap[b]? = some (.cells cs t)) : (loadCellsFrom ⟨b, 0, none⟩ 0 n #[]).run Try.prog w = .ok cs w := by
  subst hn
  have := run_loadCells_list (P := Try.prog) w ⟨b, 0, none⟩ cs.toList (fun j v hv => by
    have hadd : (⟨b, 0, none⟩ : Addr).add j = ⟨b, j, none⟩ := by unfold Addr.add; split <;> simp_all
    rw [hadd, cell_of_row w b j _ _ (0, 0) h]
    simpa using hv)
  simpa [loadCells] using this
theorem store_n {cs ds : Array Value} {t : TypeId} (hn : cs.size = ds.size) (h : w.heap[b]? = some (.cells cs t)) (h1 : ds.all (·.oneCell') = true) : (storeCells ⟨b, 0, none⟩ ds.toList 0).run Try.prog w = .ok () (w.setRow b ds) := by
  have := run_storeCells_from (P := Try.prog) b t ds.toList 0 cs w h (by simp; omega) (fun v hv => (Array.all_eq_true_iff_forall_mem.1 h1) v (by simpa using hv))
  simpa using this
theorem Arr.load (h : Arr w b C) : (loadCellsFrom ⟨b, 0, none⟩ 0 4096 #[]).run Try.prog w = .ok (arrOf C) w := load_n (arrOf_size C) h
theorem Arr.store (h : Arr w b C) (D : Nat → Nat) : (storeCells ⟨b, 0, none⟩ (arrOf D).toList 0).run Try.prog w = .ok () (w.setRow b (arrOf D)) := store_n ((arrOf_size C).trans (arrOf_size D).symm) h (arrOf_one D)
theorem Arr.row (h : Arr w b C) (D : Nat → Nat) : Arr (w.setRow b (arrOf D)) b D := setRow_heap w b _ _ _ _ h
end

set_option maxRecDepth 100000 in
theorem lead_any (b : Nat) (C : Nat → Nat) (to on : Nat) (w : World) (h : Arr w b C) (hto : to < 4096) (hon : on < 65536) (hC : C to < 65536) :
    Calls Try.prog 102 #[.int .i64 to, .int .u16 on, .pointer (some ⟨b, 0, none⟩)] w fun e w' => e = .returned (.tuple #[]) ∧ w' = w.setCell ⟨b, to, none⟩ (.int .u16 ((C to &&& on : Nat) : Int)) := by
  have h1 := h.cell to hto
  have h2 := h.frozen to
  rw [← u16_and_nat (C to) on hC hon]
  generalize C to = x at *
  clear h
  go_enter Try.func102, Try.ntmps102
  go_wp2
  go_end0
  exact ⟨rfl, rfl⟩
end Go.Proofs.Ytmndolojfdekdaa

/-
  The contract of check.stored: which cells are stored at each place of a formed program.
-/
namespace Go.Proofs.Ytmndolojfdekdaa
open Go.RowKit

/-- Whatever lay stays as it was, but for one block. -/
structure But (b : Nat) (w w' : World) : Prop where
  os : w'.os = w.os
  tape : w'.tape = w.tape
  output : w'.output = w.output
  size : w.heap.size ≤ w'.heap.size
  block : ∀ k, k < w.heap.size → k ≠ b → w'.heap[k]? = w.heap[k]?
section
variable {b : Nat} {w w' w'' : World}
theorem But.refl (b : Nat) (w : World) : But b w w := ⟨rfl, rfl, rfl, Nat.le_refl _, fun _ _ _ => rfl⟩
theorem But.set (h : But b w w') (i : Nat) (v : Value) : But b w (w'.setCell ⟨b, i, none⟩ v) :=
  ⟨h.os, h.tape, h.output, by have := h.size; simpa [World.setCell] using this, fun k hk hb => (Below.heap_setCell _ _ _ _ hb).trans (h.block k hk hb)⟩
theorem But.below {B : Nat} (h : Below B w w') (hB : B ≤ w'.heap.size) (hb : B ≤ b) (h2 : But b w' w'') : Below B w w'' :=
  h.trans ⟨h2.os, h2.tape, h2.output, h2.size, fun k hk => h2.block k (by omega) (by omega)⟩
theorem But.cell (h : But b w w') {p : Addr} (hp : p.block < w.heap.size) (hb : p.block ≠ b) : w'.cell? p = w.cell? p := World.cell?_of_block (h.block _ hp hb)
theorem But.arr (h : But b w w') {b' : Nat} {C : Nat → Nat} (ha : Arr w b' C) (hb : b' ≠ b) : Arr w' b' C := (h.block b' ha.lt hb).trans ha
theorem Arr.ne {b' : Nat} {C : Nat → Nat} (h : Arr w b C) {off : Nat} {x : Int} (hc : w.cell? ⟨b', off, none⟩ = some (.int .u32 x)) : b' ≠ b := by
  rintro rfl
  rw [cell_of_row w b' off _ _ (0, 0) h] at hc
  have hlt : off < 4096 := by have := (Array.getElem?_eq_some_iff.1 hc).1; rwa [arrOf_size] at this
  rw [arrOf_get C off hlt] at hc
  cases hc
theorem setRow_below {B : Nat} (h : Below B w w') (hb : B ≤ b) (cs : Array Value) : Below B w (w'.setRow b cs) :=
  h.trans ⟨rfl, rfl, rfl, by simp, fun k hk => by
    unfold World.setRow
    rw [Array.getElem?_modify, if_neg (by omega)]⟩
end

theorem fars_eq (v : IV) : farsK (kd v) v.t v.f v.k = fars v := by
  unfold farsK fars isRet isBr
  simp
theorem storedT_zero (g : Nat → IV) (i : Nat) : storedT g 0 i = if i = 0 then 0 else 65535 := by
  unfold storedT reach
  by_cases h : i = 0
  · subst h; simp [wordOf]
  · have : (i == 0) = false := by simpa using h
    rw [if_neg h, this]
    exact wordOf_true 16
/-- What a formed program's instruction is like. -/
theorem fars_in (g : Nat → IV) (n k : Nat) (hk : k < n) (ha : alone (g k) (n - 1 - k) = 0) (hl : isRet (g (n - 1)) = true) : ∀ f ∈ fars (g k), k + 1 + f < n := by
  intro f hf
  unfold fars at hf
  by_cases h1 : isRet (g k) = true
  · rw [if_pos h1] at hf; simp at hf
  · rw [if_neg h1] at hf
    have hne : k ≠ n - 1 := fun e => h1 (by rw [e]; exact hl)
    have h13 : ¬((kd (g k) = 13 ∧ n - 1 - k ≤ (g k).k) ∨ (isBr (g k) = true ∧ (n - 1 - k ≤ (g k).t ∨ n - 1 - k ≤ (g k).f))) := by
      intro hh
      unfold alone at ha
      rw [if_pos hh] at ha
      repeat' split at ha
      all_goals omega
    by_cases h2 : kd (g k) = 13
    · rw [if_pos h2] at hf
      simp at hf
      subst hf
      by_cases h3 : n - 1 - k ≤ (g k).k
      · exact absurd (.inl ⟨h2, h3⟩) h13
      · omega
    · rw [if_neg h2] at hf
      by_cases h3 : isBr (g k) = true
      · rw [if_pos h3] at hf
        have h4 : ¬ n - 1 - k ≤ (g k).t := fun hh => h13 (.inr ⟨h3, .inl hh⟩)
        have h5 : ¬ n - 1 - k ≤ (g k).f := fun hh => h13 (.inr ⟨h3, .inr hh⟩)
        simp at hf
        omega
      · rw [if_neg h3] at hf
        simp at hf
        omega
theorem st_small (v : IV) (r : Nat) (ha : alone v r = 0) (hs : isSt v = true) : v.k < 16 := by
  by_cases h : v.k < 16
  · exact h
  · have hh : (isLd v = true ∨ isSt v = true) ∧ 16 ≤ v.k := ⟨.inr hs, by omega⟩
    unfold alone at ha
    rw [if_pos hh] at ha
    repeat' split at ha
    all_goals omega
theorem ld_small (v : IV) (r : Nat) (ha : alone v r = 0) (hs : isLd v = true) : v.k < 16 := by
  by_cases h : v.k < 16
  · exact h
  · have hh : (isLd v = true ∨ isSt v = true) ∧ 16 ≤ v.k := ⟨.inl hs, by omega⟩
    unfold alone at ha
    rw [if_pos hh] at ha
    repeat' split at ha
    all_goals omega

theorem stores_v (v : IV) (b : Int) (w : World) : Calls Try.prog 103 #[plA v.c v.t v.f v.k (kd v) (xx v) b] w fun e w' => e = .returned (.bool (isSt v)) ∧ Below w.heap.size w w' := stores_any _ _ _ _ _ _ _ _
theorem loadsCell_v (v : IV) (b : Int) (w : World) : Calls Try.prog 78 #[plA v.c v.t v.f v.k (kd v) (xx v) b] w fun e w' => e = .returned (.bool (isLd v)) ∧ Below w.heap.size w w' := loadsCell_any _ _ _ _ _ _ _ _
theorem cell_v (v : IV) (hk : v.k < 16) (b : Int) (w : World) : Calls Try.prog 79 #[plA v.c v.t v.f v.k (kd v) (xx v) b] w fun e w' => e = .returned (.int .u16 ((2 ^ v.k : Nat) : Int)) ∧ Below w.heap.size w w' := by
  have h := cell_any v.c v.t v.f v.k (kd v) b (xx v) w (by omega) (by omega)
  rwa [Int.toNat_natCast] at h
theorem leads_v (v : IV) (hv : v.ok) (b : Int) (w : World) : Calls Try.prog 104 #[plA v.c v.t v.f v.k (kd v) (xx v) b] w fun e w' => ∃ A n, e = .returned (.slice A n n) ∧ U32s w' A n (fars v) ∧ Below w.heap.size w w' := by
  rw [← fars_eq]
  exact leads_any _ _ _ _ _ _ _ _ hv.2.1 hv.2.2.1
theorem lead_v (b : Nat) (C : Nat → Nat) (to on : Nat) (w : World) (h : Arr w b C) (hto : to < 4096) (hon : on < 65536) (hC : C to < 65536) (to' on' : Int) (e1 : to' = to) (e2 : on' = on) :
    Calls Try.prog 102 #[.int .i64 to', .int .u16 on', .pointer (some ⟨b, 0, none⟩)] w fun e w' => e = .returned (.tuple #[]) ∧ w' = w.setCell ⟨b, to, none⟩ (.int .u16 ((C to &&& on : Nat) : Int)) := by
  subst e1 e2
  exact lead_any b C to on w h hto hon hC
end Go.Proofs.Ytmndolojfdekdaa
