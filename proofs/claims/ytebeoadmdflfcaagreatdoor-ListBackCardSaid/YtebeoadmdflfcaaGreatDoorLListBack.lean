/-
  The law ListBack holds for every instructions: what is told is read as it was, line by line and whole. No condition.
-/
import Derived.Test.YtebeoadmdflfcaaGreatDoorRows
import Derived.Test.YtebeoadmdflfcaaGreatDoorCards
import Derived.Test.YtebeoadmdflfcaaGreatDoorTie
import Derived.Test.YtebeoadmdflfcaaGreatDoorPe
import Derived.Test.YtebeoadmdflfcaaGreatDoorPw
import Derived.Test.YtebeoadmdflfcaaGreatDoorPsh
import Derived.Test.YtebeoadmdflfcaaGreatDoorTab
import Derived.Stop.LaidErr
import Derived.LaidLaws
import Derived.Lay
import Derived.MakeChecks
import Derived.WalkKit
import Derived.ProofKit
import Derived.OpenShut
import Derived.ShutString
import Derived.ChangeOld
import Derived.Below
import Derived.Lib.SmallJoins
import Derived.SevenTiedAt
import Derived.LaidMore
import Derived.Stop.Joined
import Derived.Deep.Cut
import Derived.RegionTactic
import Derived.Deep.RegionHeld3
import Derived.Deep.CutRange
namespace Go.Proofs.YtebeoadmdflfcaaGreatDoor
open Go.RowKit Go.Shelf
set_option linter.unusedVariables false

theorem bTrans {w w' w'' : World} (h : Below w.heap.size w w') (h2 : Below w'.heap.size w' w'') : Below w.heap.size w w'' := h.trans (h2.mono h.size)
set_option maxRecDepth 100000 in
set_option maxHeartbeats 4000000 in
theorem all3_any (A : Option Addr) (n c : Nat) (g : Nat → IV) (w : World) (hn : n ≤ 1000000) (hr : Ins w w.heap.size A n c g) :
    Calls Tryz.prog 13 #[.slice A n c] w fun e w' => ∃ A' c', e = .returned (.slice A' n c') ∧ OwnC w' w.heap.size 25 4 A' n c' (icell g) ∧ Below w.heap.size w w' := by
  go_enter Tryz.func13, Tryz.ntmps13
  go_wp2
  go_loopw [3, 4] (fun v i wr => ∃ (k : Nat) (A' : Option Addr) (c' : Nat), k ≤ n ∧ i = .int .i64 k ∧ v = .slice A' k c' ∧ OwnC wr w.heap.size 25 4 A' k c' (icell g) ∧ Below w.heap.size w wr)
    (fun _ i _ => n - (intOf i).toNat)
  case atStart => exact ⟨0, none, 0, Nat.zero_le _, rfl, rfl, OwnC.nil_, Below.refl _ _⟩
  case round =>
    obtain ⟨k, A', c', hk, rfl, rfl, hown, hB⟩ := hrel
    by_cases hlt : k < n
    · obtain ⟨b, off, rfl, hb, hc⟩ := (hr.below hB).at_ (by omega)
      obtain ⟨q0, q1, q2, q3⟩ := hc k hlt
      have HW := Lib.hid (icell_cat g k)
      have HBR := Lib.hid hB
      have HOW := Lib.hid hown
      generalize g k = v at *
      have i1 : (0 : Int) ≤ (k : Int) := by omega
      have i2 : (k : Int) < (n : Int) := by omega
      clear hc hown hB
      go_wp2_with fail
      refine (of3_any _ _ _ _ _).mono ?_
      rintro e w2 ⟨rfl, hB2⟩
      have HO2 := Lib.hid (HOW.out.below hB2 (Nat.le_refl _))
      have HB2 := Lib.hid (HBR.out.trans (hB2.mono HBR.out.size))
      have hs2 : w.heap.size ≤ w2.heap.size := HB2.out.size
      clear hB2 q0 q1 q2 q3
      go_wp2_with (at_builtin; go_must (refine app_cells _ (by rfl) _ _ _ 25 (by rfl) Tryz.underlying37 infoI (by rfl) (by decide) rfl (HO2.out.alloc _) rfl (one_inst _ v 25) (fun i _ => icell_one _ i) (by unfold maxLen; omega) (by omega) (by simp; omega) (k + 1) rfl (icell g) HW.out ?_; rintro A7 c7 w7 hown7 hB7))
      exact ⟨⟨k + 1, A7, c7, by omega, by go_num, rfl, hown7, (HB2.out.alloc hs2 _).trans hB7⟩, by simp [intOf]; omega⟩
    · obtain rfl : k = n := by omega
      go_wp2
      go_ret
      exact ⟨_, _, rfl, hown, hB⟩
/-- What is read of the lines of instructions. -/
theorem linesG_in (g : Nat → IV) (n : Nat) : ∀ x ∈ linesG g n, ∀ c ∈ x, c ≠ 10 := fun x hx c hc => by
  unfold linesG at hx
  obtain ⟨i, _, rfl⟩ := List.mem_map.1 hx
  have h := (line_ok _ _ _ _ c hc).1
  rintro rfl
  exact absurd h (by decide)
theorem progL_lines (g : Nat → IV) (n : Nat) (hn : n ≤ 100) (hg : ∀ i, i < n → (g i).ok) (w : World) (he : EnvN w) :
    Calls Tryz.prog 10 #[.string ⟨(joinL (linesG g n)).toArray⟩] w fun e w' => ∃ A c, e = .returned (.tuple #[.slice A n c, .int .i64 0, .int .i64 0]) ∧ Cel w' w'.heap.size 4 A n c (icell g) ∧ Below w.heap.size w w' := by
  have hlen : (linesG g n).length = n := by unfold linesG; simp
  have hacc : accL g (fun i => if i < n then 0 else 4) (n + 1) = (List.range n).map g := by
    rw [accL, if_neg (by rw [if_neg (by omega)]; decide)]
    exact accL_all g _ n fun i hi => by rw [if_pos hi]
  refine (progL_any (linesG g n) (linesG_in g n) (by have := linesG_ok g n n hg (Nat.le_refl _); omega) (fun i => if i < n then g i else ⟨0, 0, 0, 0⟩) (fun i => if i < n then 0 else 4) (n + 1) (by omega) (fun i _ => by by_cases h : i < n <;> simp [h]) (fun h => by omega) w he.r.env fun i hi X hX => ?_).mono ?_
  · rw [hlen] at hi
    by_cases h : i < n
    · rw [if_pos h, if_pos h, pcN_at _ _ (by omega)]
      have e : (linesG g n).getD i [] = lineL (g i).c (g i).t (g i).f (g i).k := by
        unfold linesG
        rw [List.getD_eq_getElem?_getD, List.getElem?_map, List.getElem?_range h]
        rfl
      rw [e]
      obtain ⟨k1, k2, k3, k4⟩ := hg i h
      exact readL_line _ _ _ _ k1 k2 k3 k4 X (envN_on he hX (Nat.le_refl _))
    · obtain rfl : i = n := by omega
      rw [if_neg h, if_neg h]
      have e : pcN (linesG g i) i = [] := by
        have := pcN_last (linesG g i)
        rw [hlen] at this
        exact this
      rw [e]
      exact readL_empty ⟨([] : List UInt8).toArray⟩ (by decide) (by decide) (by decide) X
  · rintro e w' ⟨⟨_, A, c, he, hc⟩ | ⟨h, _⟩, hB⟩
    · have hac2 : accL (fun i => if i < n then g i else ⟨0, 0, 0, 0⟩) (fun i => if i < n then 0 else 4) (n + 1) = (List.range n).map g := by
        rw [accL, if_neg (by rw [if_neg (by omega)]; decide), accL_all _ _ n fun i hi => by rw [if_pos hi]]
        exact List.map_congr_left fun i hi => by rw [if_pos (List.mem_range.1 hi)]
      rw [hac2, List.length_map, List.length_range] at he hc
      exact ⟨A, c, he, hc.congr (icell_gcongr _ g n fun i hi => gOf_map g n i hi), hB⟩
    · omega
set_option maxRecDepth 100000 in
set_option maxHeartbeats 16000000 in
theorem back3_ok {w0 : World} (A : Option Addr) (n c : Nat) (g : Nat → IV) (hr : Ins w0 w0.heap.size A n c g) (hn : n ≤ 100) (he : EnvN w0) :
    Calls Tryz.prog 5 #[.slice A n c] w0 fun e w' => e = .returned (.bool true) ∧ Below w0.heap.size w0 w' := by
  have q1 : ¬ (n : Int) > 100 := by omega
  have q2 : decide ((n : Int) > 100) = false := decide_eq_false q1
  have HC := Lib.hid hr
  have HE := Lib.hid he
  clear hr he
  go_enter Tryz.func5, Tryz.ntmps5
  go_wp2
  go_loopw [3] (fun i wr => ∃ q : Nat, q ≤ n ∧ i = .int .i64 q ∧ Below w0.heap.size w0 wr) (fun i _ => n - (intOf i).toNat)
  case atStart => exact ⟨0, by omega, rfl, Below.refl _ _⟩
  case round =>
    obtain ⟨q, hq, rfl, hB⟩ := hrel
    by_cases hlt : q < n
    · obtain ⟨b, off, rfl, hb, hc⟩ := HC.out.at_ (by omega)
      obtain ⟨p0, p1, p2, p3⟩ := hc q hlt
      obtain ⟨k1, k2, k3, k4⟩ := HC.out.2 q hlt
      have i1 : (0 : Int) ≤ (q : Int) := by omega
      have i2 : (q : Int) < (n : Int) := by omega
      have HBR := Lib.hid hB
      have HLN := Lib.hid fun X (hX : EnvN X) => lineP_any (g q).c (g q).t (g q).f (g q).k k1 k2 k3 k4 X hX.r.env
      have HRD := Lib.hid fun X (hX : EnvN X) => readL_line (g q).c (g q).t (g q).f (g q).k k1 k2 k3 k4 X hX
      have HP : Hid (∀ X, Below w0.heap.size w0 X → X.cell? ⟨b, off + q * 4, none⟩ = some (.int .u16 (g q).c) ∧ X.cell? ⟨b, off + q * 4 + 1, none⟩ = some (.int .u8 (g q).t) ∧ X.cell? ⟨b, off + q * 4 + 2, none⟩ = some (.int .u8 (g q).f) ∧ X.cell? ⟨b, off + q * 4 + 3, none⟩ = some (.int .u32 (g q).k)) := Lib.hid fun X hX => ⟨(hX.cell (p := ⟨b, off + q * 4, none⟩) hb).trans p0, (hX.cell (p := ⟨b, off + q * 4 + 1, none⟩) hb).trans p1, (hX.cell (p := ⟨b, off + q * 4 + 2, none⟩) hb).trans p2, (hX.cell (p := ⟨b, off + q * 4 + 3, none⟩) hb).trans p3⟩
      generalize g q = v at HLN HRD HP
      clear hc p0 p1 p2 p3 hB k1 k2 k3 k4
      obtain ⟨LS, hLS⟩ : ∃ LS : ByteArray, (⟨(lineL v.c v.t v.f v.k).toArray⟩ : ByteArray) = LS := ⟨_, rfl⟩
      rw [hLS] at HLN HRD
      clear hLS
      obtain ⟨r0, r1, r2, r3⟩ := HP.out _ HBR.out
      go_wp2_with fail
      refine (of3_any _ _ _ _ _).mono ?_
      rintro e w1 ⟨rfl, hB1⟩
      have HB1 := Lib.hid (HBR.out.trans (hB1.mono HBR.out.size))
      clear hB1 r0 r1 r2 r3
      go_wp2_with fail
      refine (HLN.out _ (envN_on HE.out HB1.out (Nat.le_refl _))).mono ?_
      rintro e w2 ⟨rfl, hB2⟩
      have HB2 := Lib.hid (HB1.out.trans (hB2.mono HB1.out.size))
      clear hB2
      go_wp2_with fail
      refine (HRD.out _ (envN_on HE.out HB2.out (Nat.le_refl _))).mono ?_
      rintro e w3 ⟨rfl, hB3⟩
      obtain ⟨W4, hW4⟩ : ∃ X, w3.alloc (.cells (instA v.c v.t v.f v.k) 25) = X := ⟨_, rfl⟩
      have hb4 : Below w3.heap.size w3 W4 := by rw [← hW4]; exact (Below.refl _ _).alloc (Nat.le_refl _) _
      have r4 : RowC W4 w3.heap.size (instA v.c v.t v.f v.k) 25 := by rw [← hW4]; exact RowC.new _ _ _ _ rfl
      have hb3 := HB2.out.trans (hB3.mono HB2.out.size)
      have HB4 := Lib.hid (hb3.trans (hb4.mono hb3.size))
      have HR4 := Lib.hid r4
      have HW4 := Lib.hid hW4
      have HS0 : Hid (∀ X, Below W4.heap.size W4 X → X.cell? ⟨w3.heap.size, 0, none⟩ = some (.int .u16 v.c) ∧ X.cell? ⟨w3.heap.size, 1, none⟩ = some (.int .u8 v.t) ∧ X.cell? ⟨w3.heap.size, 2, none⟩ = some (.int .u8 v.f) ∧ X.cell? ⟨w3.heap.size, 3, none⟩ = some (.int .u32 v.k) ∧ X.cell? ⟨b, off + q * 4, none⟩ = some (.int .u16 v.c) ∧ X.cell? ⟨b, off + q * 4 + 1, none⟩ = some (.int .u8 v.t) ∧ X.cell? ⟨b, off + q * 4 + 2, none⟩ = some (.int .u8 v.f) ∧ X.cell? ⟨b, off + q * 4 + 3, none⟩ = some (.int .u32 v.k)) := Lib.hid fun X hX => ⟨(HR4.out.below hX HR4.out.lt).cell 0 _ rfl, (HR4.out.below hX HR4.out.lt).cell 1 _ rfl, (HR4.out.below hX HR4.out.lt).cell 2 _ rfl, (HR4.out.below hX HR4.out.lt).cell 3 _ rfl, HP.out X (HB4.out.trans (hX.mono HB4.out.size))⟩
      clear hB3 hW4 hb4 r4 hb3 HLN HRD HP
      go_upto_region 7 with fail
      rw [HW4.out]
      have hk0 : Below W4.heap.size W4 W4.drew := (Below.refl _ W4).drew
      clear HW4
      go_region_held3 (fun w' => w'.cell? ⟨w3.heap.size, 0, none⟩ = some (.int .u16 v.c) ∧ w'.cell? ⟨w3.heap.size, 1, none⟩ = some (.int .u8 v.t) ∧ w'.cell? ⟨w3.heap.size, 2, none⟩ = some (.int .u8 v.f) ∧ w'.cell? ⟨w3.heap.size, 3, none⟩ = some (.int .u32 v.k) ∧ w'.cell? ⟨b, off + q * 4, none⟩ = some (.int .u16 v.c) ∧ w'.cell? ⟨b, off + q * 4 + 1, none⟩ = some (.int .u8 v.t) ∧ w'.cell? ⟨b, off + q * 4 + 2, none⟩ = some (.int .u8 v.f) ∧ w'.cell? ⟨b, off + q * 4 + 3, none⟩ = some (.int .u32 v.k))
        (exact HS0.out _ (by first | with_reducible assumption | exact hk0))
        (first
          | (go_at_call 8
             (with_reducible refine (of3_any _ _ _ _ _).mono ?_)
             rintro e w7 ⟨rfl, hB7⟩
             have hk1 := bTrans (by first | with_reducible assumption | exact hk0) hB7))
      all_goals go_wp2
      all_goals exact ⟨⟨q + 1, by omega, by go_num, HB4.out.trans ((by with_reducible assumption : Below W4.heap.size W4 _).mono HB4.out.size)⟩, by simp [intOf]; omega⟩
    · obtain rfl : q = n := by omega
      have g1 : ¬ (q : Int) < (q : Int) := by omega
      have HBR := Lib.hid hB
      have hins := HC.out.below hB
      have HIN := Lib.hid (hins.more hB.size)
      clear hB hins
      go_wp2_with fail
      refine (all3_any _ _ _ _ _ (by omega) HIN.out).mono ?_
      rintro e w1 ⟨A1, c1, rfl, hown1, hB1⟩
      have HI1 : Hid (Ins w1 w1.heap.size A1 q c1 g) := Lib.hid ⟨hown1.cel, HC.out.2⟩
      have HB1 := Lib.hid (HBR.out.trans (hB1.mono HBR.out.size))
      clear hown1 hB1
      go_wp2_with fail
      refine (textL_any _ _ _ _ (by omega) _ HI1.out (envN_on HE.out HB1.out (Nat.le_refl _)).r.env).mono ?_
      rintro e w2 ⟨rfl, hB2⟩
      have HB2 := Lib.hid (HB1.out.trans (hB2.mono HB1.out.size))
      clear hB2
      have HPR := Lib.hid (progL_lines g q hn HC.out.2 w2 (envN_on HE.out HB2.out (Nat.le_refl _)))
      obtain ⟨TX, hTX⟩ : ∃ TX : ByteArray, (⟨(joinL (linesG g q)).toArray⟩ : ByteArray) = TX := ⟨_, rfl⟩
      rw [hTX] at HPR ⊢
      clear hTX
      go_wp2_with fail
      refine HPR.out.mono ?_
      rintro e w3 ⟨A3, c3, rfl, hc3, hB3⟩
      have HB3 := Lib.hid (HB2.out.trans (hB3.mono HB2.out.size))
      have HI3 : Hid (Ins w3 w3.heap.size A3 q c3 g) := Lib.hid ⟨hc3, HC.out.2⟩
      have HI0 : Hid (Ins w3 w0.heap.size A q c g) := Lib.hid (HC.out.below HB3.out)
      have HAW : Hid (∀ X, Below w3.heap.size w3 X → Calls Tryz.prog 9 #[] X fun e w' => e = .returned (.bool true) ∧ Below X.heap.size X w') := Lib.hid fun X hX => awake3_any X (envN_on HE.out (HB3.out.trans (hX.mono HB3.out.size)) (Nat.le_refl _)).r.env
      clear hB3 hc3 HPR
      go_wp2
      go_loopw [9] (fun i wr => ∃ p : Nat, p ≤ q ∧ i = .int .i64 p ∧ Below w3.heap.size w3 wr) (fun i _ => q - (intOf i).toNat)
      case atStart => exact ⟨0, by omega, rfl, Below.refl _ _⟩
      case round =>
        obtain ⟨p, hp, rfl, hB⟩ := hrel
        by_cases hlt : p < q
        · obtain ⟨b, off, rfl, hb, hc⟩ := HI0.out.at_ (by omega)
          obtain ⟨b', off', rfl, hb', hc'⟩ := HI3.out.at_ (by omega)
          obtain ⟨p0, p1, p2, p3⟩ := hc p hlt
          obtain ⟨p0', p1', p2', p3'⟩ := hc' p hlt
          have i1 : (0 : Int) ≤ (p : Int) := by omega
          have i2 : (p : Int) < (q : Int) := by omega
          have HBR2 := Lib.hid hB
          have hbb : b < w3.heap.size := Nat.lt_of_lt_of_le hb HB3.out.size
          have HS0 : Hid (∀ X, Below wr.heap.size wr X → X.cell? ⟨b', off' + p * 4, none⟩ = some (.int .u16 (g p).c) ∧ X.cell? ⟨b', off' + p * 4 + 1, none⟩ = some (.int .u8 (g p).t) ∧ X.cell? ⟨b', off' + p * 4 + 2, none⟩ = some (.int .u8 (g p).f) ∧ X.cell? ⟨b', off' + p * 4 + 3, none⟩ = some (.int .u32 (g p).k) ∧ X.cell? ⟨b, off + p * 4, none⟩ = some (.int .u16 (g p).c) ∧ X.cell? ⟨b, off + p * 4 + 1, none⟩ = some (.int .u8 (g p).t) ∧ X.cell? ⟨b, off + p * 4 + 2, none⟩ = some (.int .u8 (g p).f) ∧ X.cell? ⟨b, off + p * 4 + 3, none⟩ = some (.int .u32 (g p).k)) := Lib.hid fun X hX => by
            have hY := HBR2.out.trans (hX.mono HBR2.out.size)
            exact ⟨(hY.cell (p := ⟨b', off' + p * 4, none⟩) hb').trans p0', (hY.cell (p := ⟨b', off' + p * 4 + 1, none⟩) hb').trans p1', (hY.cell (p := ⟨b', off' + p * 4 + 2, none⟩) hb').trans p2', (hY.cell (p := ⟨b', off' + p * 4 + 3, none⟩) hb').trans p3', (hY.cell (p := ⟨b, off + p * 4, none⟩) hbb).trans p0, (hY.cell (p := ⟨b, off + p * 4 + 1, none⟩) hbb).trans p1, (hY.cell (p := ⟨b, off + p * 4 + 2, none⟩) hbb).trans p2, (hY.cell (p := ⟨b, off + p * 4 + 3, none⟩) hbb).trans p3⟩
          generalize g p = v at HS0
          clear hc hc' p0 p1 p2 p3 p0' p1' p2' p3' hB
          go_upto_region 15 with fail
          have hk0 : Below wr.heap.size wr wr.drew := (Below.refl _ wr).drew
          go_region_held3 (fun w' => w'.cell? ⟨b', off' + p * 4, none⟩ = some (.int .u16 v.c) ∧ w'.cell? ⟨b', off' + p * 4 + 1, none⟩ = some (.int .u8 v.t) ∧ w'.cell? ⟨b', off' + p * 4 + 2, none⟩ = some (.int .u8 v.f) ∧ w'.cell? ⟨b', off' + p * 4 + 3, none⟩ = some (.int .u32 v.k) ∧ w'.cell? ⟨b, off + p * 4, none⟩ = some (.int .u16 v.c) ∧ w'.cell? ⟨b, off + p * 4 + 1, none⟩ = some (.int .u8 v.t) ∧ w'.cell? ⟨b, off + p * 4 + 2, none⟩ = some (.int .u8 v.f) ∧ w'.cell? ⟨b, off + p * 4 + 3, none⟩ = some (.int .u32 v.k))
            (exact HS0.out _ (by first | with_reducible assumption | exact hk0))
            (first
              | (go_at_call 8
                 (with_reducible refine (of3_any _ _ _ _ _).mono ?_)
                 rintro e w7 ⟨rfl, hB7⟩
                 have hk1 := bTrans (by first | with_reducible assumption | exact hk0) hB7))
          all_goals go_wp2
          all_goals exact ⟨⟨p + 1, by omega, by go_num, HBR2.out.trans ((by with_reducible assumption : Below wr.heap.size wr _).mono HBR2.out.size)⟩, by simp [intOf]; omega⟩
        · obtain rfl : p = q := by omega
          have g2 : ¬ (p : Int) < (p : Int) := by omega
          have HX := Lib.hid (HAW.out wr hB)
          have HBR2 := Lib.hid hB
          clear hB
          go_wp2_with fail
          refine HX.out.mono ?_
          rintro e w4 ⟨rfl, hB4⟩
          have hb3 := HB3.out.trans (HBR2.out.mono HB3.out.size)
          have HF := Lib.hid (hb3.trans (hB4.mono hb3.size))
          clear hb3 hB4
          go_wp2
          go_ret
          exact ⟨rfl, HF.out⟩
set_option maxHeartbeats 1000000 in
theorem walk_ListBack {w0 : World} (A : Option Addr) (n c : Nat) (g : Nat → IV) (hr : Ins w0 w0.heap.size A n c g) (he : EnvN w0) :
    Calls Tryz.prog 5 #[.slice A n c] w0 fun e w' => e = .returned (.bool true) ∧ Below w0.heap.size w0 w' := by
  have hmx := hr.1.le
  unfold maxLen at hmx
  obtain ⟨m1, m2⟩ := hmx
  by_cases h : n ≤ 100
  · exact back3_ok A n c g hr h he
  · have q1 : (n : Int) > 100 := by omega
    have q2 : decide ((n : Int) > 100) = true := decide_eq_true q1
    go_enter Tryz.func5, Tryz.ntmps5
    go_wp2
    go_ret
    exact ⟨rfl, Below.refl _ _⟩
theorem space_datum : (Rows.laid_strings_asciiSpace : DataW Unit) = Lib.tabData .u8 Lib.asciiSpaceTab := by kernel_rfl
theorem starE : "*" ++ "errors.errorString" = "*errors.errorString" := by decide
theorem rowE (u : TypeId) (h : Tryz.prog.typeName? 3 u = some "*errors.errorString") : u = 162 :=
  typeName_ptr_named (nm := "errors.errorString") (by rw [starE]; kernel_rfl) (by kernel_rfl) (by decide) u (by rw [starE]; exact h)
theorem of_laid {W : World} (h : laidMetH Tryz.prog Rows.listBackRow.laid W) (hSh : W.ShapedOpen Tryz.prog) : EnvN W := by
  rw [MakeChecks.laidMetH_plain _ _ _ (by kernel_rfl)] at h
  have h3 := h.tail.tail.tail.tail
  have h4 := h.tail.tail.tail.tail.tail
  have h7 := h.tail.tail.tail.tail.tail.tail.tail
  rw [space_datum] at h7
  obtain ⟨x, sx, hx, _, _, _⟩ := laid_sentinel (g := 7) (ti := 65) (tp := 162) (te := 164) (ts := 9) h3 (by kernel_rfl) (by kernel_rfl) Tryz.underlying65 rowE Tryz.underlying162 Tryz.underlying164 rfl rfl Tryz.underlying9 (by kernel_rfl) (by kernel_rfl)
  obtain ⟨y, sy, hy, _, _, _⟩ := laid_sentinel (g := 6) (ti := 65) (tp := 162) (te := 164) (ts := 9) h4 (by kernel_rfl) (by kernel_rfl) Tryz.underlying65 rowE Tryz.underlying162 Tryz.underlying164 rfl rfl Tryz.underlying9 (by kernel_rfl) (by kernel_rfl)
  exact ⟨⟨env_of (tab_of_third h) hSh, Lib.tabIs_of_head (t := 103) (e := 5) (n := 256) (g := 0) (by kernel_rfl) (by kernel_rfl) Tryz.underlying103 Tryz.underlying5 (by kernel_rfl) (by kernel_rfl) h7⟩, ⟨_, _, hy⟩, ⟨_, _, hx⟩⟩

namespace listBackRow
open Go.ChangeShapes Go.WideShapes Go.ChangeAt Go.RowKit Go.Joins
open Go.ChangeMaps (open_string shut_string)
set_option linter.unusedVariables false
theorem own : ownKnob Tryz.prog.godebug = none := by kernel_rfl
theorem laidOut : laidOutB Tryz.prog = true := by kernel_rfl
set_option maxRecDepth 100000 in
theorem lifted (os : Os) (started : os.Started) (H : Type) (enc : TypeId × Value → H) :
    ReturnsInHanded {} Tryz.checked os 5 .any (fun w args => (Rows.listBackSpec.pre enc Tryz.prog Tryz.f5 [] false w args ∧ laidMetH Tryz.prog Rows.listBackRow.laid w) ∧ sizedMet enc Tryz.prog Tryz.f5 (OpenSpec.ofChange Rows.listBackSpec) false w args) (Rows.listBackSpec.post enc Tryz.prog Tryz.f5 false true false false) := by
  refine returnsInHanded_and_shaped (C := Tryz.checked) (X := fun w _ => laidMetH Tryz.prog Rows.listBackRow.laid w) (fun _ _ _ hh h => h.of_heap hh) own started (by kernel_rfl) Tryz.func5
    (ChangeSpec.witness_shaped (enc := enc) (C := Tryz.checked) (os := os) (X := fun w _ => laidMetH Tryz.prog Rows.listBackRow.laid w) false (World.laidAll Tryz.prog os Rows.listBackRow.laid) #[.slice none 0 0] 8 (World.laidAll_os _ _ _) (World.shaped_of_ZipB (by kernel_rfl) (by kernel_rfl)) (by kernel_rfl) (by kernel_rfl) (by kernel_rfl) (by rw [MakeChecks.laidMetH_plain _ _ _ (by kernel_rfl)]; exact laidMet_laidAll _ (by kernel_rfl) (by kernel_rfl))) ?_
  intro W base args ds gs before hval0 hW _ _ hL hSh _
  have hval : ∀ (j : Nat) t v, Tryz.f5.params[j]? = some t → args[j]? = some v → Value.okWide Tryz.prog W .any base t v := hval0
  have hW' := hW
  obtain ⟨p, q, hA0, hV, rfl, hfz, hnd⟩ := hW
  have hA : DataW.TrodAll enc Tryz.prog W 0 (fun _ => true) true Tryz.f5.params.toList args.toList ds p := hA0
  rw [Tryz.params5] at hA hval
  obtain ⟨v0, vs0, d0, ds0, p0, q0, hargs, rfl, rfl, h0, r0⟩ := trodAll_cons hA
  obtain ⟨rfl, rfl, rfl⟩ := trodAll_nil r0
  obtain rfl : args = #[v0] := by cases args; simp_all
  obtain ⟨rfl, rfl⟩ := trodVars_none hV
  have k0 := h0
  have lt0 : ∀ x ∈ p0, x.block < W.heap.size := by obtain ⟨m, hm⟩ := k0; exact DataW.trod_lt m _ _ _ hm
  obtain ⟨a0, len0, cap0, rfl⟩ := okWide_slice Tryz.underlying36 (hval 0 36 v0 rfl rfl)
  obtain ⟨g0, w0⟩ := open_ins h0
  clear hA0 hval0
  refine (walk_ListBack (w0 := W) a0 len0 cap0 g0 w0 (of_laid hL hSh)).mono fun e W' ⟨he, bel⟩ => ?_
  subst he
  exact ⟨_, rfl, _, _, _, [], _, [], hW', trodAll_mk1 (shut_bool Tryz.underlying4 _), (trodAll_cons_mk (Below.trod laidOut (by kernel_rfl) (of_decide_eq_true (by kernel_rfl)) k0 bel lt0) trodAll_mk0), rfl, bel.frame _, fun h => by cases h⟩

theorem over : Rows.listBackRow.holds Tryz.pinned (OpenSpec.ofChange Rows.listBackSpec) :=
  OpenClaim.holds_of_wide 5 Tryz.f5 rfl rfl rfl rfl rfl rfl rfl ⟨rfl, rfl, rfl, rfl, rfl⟩ rfl rfl rfl rfl rfl (by kernel_rfl) Tryz.func5 (by kernel_rfl)
    (of_decide_eq_true (by kernel_rfl)) (by unfold Func.isWrapper; first | (rw [if_pos (by decide +kernel)]; kernel_rfl) | (rw [if_neg (by decide +kernel)]; exact ⟨rfl, rfl⟩))
    (fun os started H enc _ => lifted os started H enc)
end listBackRow

theorem listBack_proved : Rows.ListBackCardSaid :=
  Claim7.holds_tied_plain_at .later [] [.data, .data, .data, .data, .sentinel, .sentinel, .listed, .data, .pinned] true Rows.listBackCard.stood.harness true
    listBackRow.over (fun _ h => by cases h) (by kernel_rfl) (fun _ h => by cases h) listBack_row_tie rfl ⟨rfl, rfl⟩ (by kernel_rfl) rfl
    (fun f fn hf hfn => by
      obtain rfl : f = 5 := Option.some.inj ((show Tryz.prog.funcNamed "strainer/strainerlaw03.ListBack" = some 5 by kernel_rfl).symm.trans hf) |>.symm
      obtain rfl : fn = Tryz.f5 := (Option.some.inj (Tryz.func5.symm.trans hfn)).symm
      exact ⟨by kernel_rfl, fun j t ht => by
        rw [Tryz.params5] at ht
        have hall : ∀ t ∈ [36], Tryz.prog.wantsStandIn t = false := by
          intro t ht
          simp only [List.mem_cons, List.not_mem_nil, or_false] at ht
          rcases ht with rfl <;> kernel_rfl
        exact hall t (by simpa using Array.mem_of_getElem? ht)⟩)
    (by kernel_rfl)
#print axioms listBack_proved
end Go.Proofs.YtebeoadmdflfcaaGreatDoor
