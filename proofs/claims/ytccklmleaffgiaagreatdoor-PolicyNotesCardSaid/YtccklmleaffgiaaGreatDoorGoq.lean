/-
  The text of a right condition: cond.Text.
-/
import Derived.Test.YtccklmleaffgiaaGreatDoorQ3
import Derived.Test.YtccklmleaffgiaaGreatDoorQ15
import Derived.Test.YtccklmleaffgiaaGreatDoorShb
import Derived.RegionTactic
import Derived.Deep.Cut
namespace Go.Proofs.YtccklmleaffgiaaGreatDoor
open Go.Shelf Go.RowKit
set_option linter.unusedVariables false
/-- Words with a blank between. -/
def joinV : List (List UInt8) → List UInt8
  | [] => []
  | [w] => w
  | w :: r => w ++ 32 :: joinV r
theorem sgO_size (j : Nat) : (sgO j).size ≤ 2 := by unfold sgO; split <;> decide

/-- A right condition's words. -/
def wordsL (i j m v : Nat) : List (List UInt8) := if j = 6 then [[97, UInt8.ofNat (48 + i)], [38], Lib.decDigits m, [61, 61], Lib.decDigits v] else [[97, UInt8.ofNat (48 + i)], (sgO j).data.toList, Lib.decDigits v]
abbrev textC (i j m v : Nat) : ByteArray := ⟨(joinV (wordsL i j m v)).toArray⟩
theorem itoa6 (i : Nat) (hi : i < 6) (w : World) : Calls Tryz.prog 63 #[.int .i64 i] w fun e w' => e = .returned (.string ⟨#[UInt8.ofNat (48 + i)]⟩) ∧ w' = w := by
  have h := Tryz.strconv_Itoa_small i (by omega) w
  rw [Lib.decDigits_one (by omega)] at h
  exact h
set_option maxRecDepth 100000 in
set_option maxHeartbeats 8000000 in
theorem text3_ok (i : Nat) (hi : i < 6) (j : Nat) (hj : j < 6) (v : Nat) (hv : v < 18446744073709551616) (w : World) (ht : TabP w) :
    Calls Tryz.prog 64 #[.agg (condA i ((j : Int) + 1) 0 v)] w fun e w' => e = .returned (.string (textC i j 0 v)) ∧ Below w.heap.size w w' := by
  have hres : ((((((ByteArray.mk #[97]) ++ ⟨#[UInt8.ofNat (48 + i)]⟩) ++ ⟨#[32]⟩) ++ sgO j) ++ ⟨#[32]⟩) ++ dec v) = textC i j 0 v := by
    apply ByteArray.ext
    rw [textC, wordsL, if_neg (by omega)]
    simp [joinV]
  have hsD : (ByteArray.mk #[UInt8.ofNat (48 + i)]).size = 1 := rfl
  have hsV : (dec v).size ≤ 20 := by
    show (Lib.decDigits v).toArray.size ≤ _
    have h := nDigits_le v hv
    rw [← Lib.decDigits_length] at h
    simpa using h
  have hsS := sgO_size j
  have hI := itoa6 i hi
  have hD := fun W h => decimal_any v hv W h
  generalize (ByteArray.mk #[UInt8.ofNat (48 + i)]) = D at hres hsD hI
  generalize dec v = DV at hres hsV hD
  have hR := operatorOf_ok i ((j : Int) + 1) 0 v j ⟨by omega, by omega, by omega, rfl, by simp⟩ (w.alloc (.cells (condA i ((j : Int) + 1) 0 v) 53))
  have HRES := Lib.hid hres
  have HI := Lib.hid hI
  have HD := Lib.hid hD
  have HF := Lib.hid hR
  have r0 : RowC (w.alloc (.cells (condA i ((j : Int) + 1) 0 v) 53)) w.heap.size (condA i ((j : Int) + 1) 0 v) 53 := RowC.new _ _ _ _ rfl
  have R0 := Lib.hid r0
  have HB := Lib.hid (show Below w.heap.size w (w.alloc (.cells (condA i ((j : Int) + 1) 0 v) 53)) from (Below.refl _ _).alloc (Nat.le_refl _) _)
  have HT := Lib.hid ht
  obtain ⟨F, hkm⟩ := fnO_func j
  have HK := Lib.hid hkm
  have hmk : Hid (mkO j = false) := Lib.hid (by simp [mkO]; omega)
  clear hres hI hD hR hkm ht r0
  go_enter Tryz.func64, Tryz.ntmps64
  go_wp2_with fail
  refine HF.out.mono ?_
  rintro e w1 ⟨rfl, hB1⟩
  simp only [opA, HK.out]
  rw [hmk.out]
  have hr1 := (R0.out.below hB1 R0.out.lt).alloc (.cells #[.string (sgO j), .bool false, .func (.func F) #[] #[]] 137)
  have hr2 : RowC (w1.alloc (.cells #[.string (sgO j), .bool false, .func (.func F) #[] #[]] 137)) w1.heap.size #[.string (sgO j), .bool false, .func (.func F) #[] #[]] 137 := RowC.new _ _ _ _ rfl
  have hbe := (HB.out.trans (hB1.mono HB.out.size)).alloc (by have := HB.out.size; have := hB1.size; omega) (.cells #[.string (sgO j), .bool false, .func (.func F) #[] #[]] 137)
  have HBE := Lib.hid hbe
  clear hB1 hbe
  go_upto_region 4 with fail
  generalize w1.alloc (.cells #[.string (sgO j), .bool false, .func (.func F) #[] #[]] 137) = W at *
  have k0 := hr1.cell 0 (.int .i64 i) rfl
  have k3 := hr1.cell 3 (.int .u64 v) rfl
  have d0 := hr2.cell 0 (.string (sgO j)) rfl
  have d1 := hr2.cell 1 (.bool false) rfl
  clear hr1 hr2
  have s1 : ¬ 9223372036854775807 < 1 + D.size := by omega
  have s2 : ¬ 9223372036854775807 < 1 + D.size + 1 := by omega
  have s3 : ¬ 9223372036854775807 < 1 + D.size + 1 + (sgO j).size := by omega
  have s4 : ¬ 9223372036854775807 < 1 + D.size + 1 + (sgO j).size + 1 := by omega
  first
  | (go_region_with (go_at_call 63; refine (HI.out _).mono ?_; rintro e w2 ⟨rfl, rfl⟩))
  | fail "four"
  all_goals
    have s5 : ¬ 9223372036854775807 < 1 + D.size + 1 + (sgO j).size + 1 + DV.size := by omega
    have HDW := Lib.hid (HD.out W.drew (tab_on HT.out HBE.out.drew (Nat.le_refl _)))
    go_wp2_with (go_at_call 82; refine HDW.out.mono ?_; rintro e w3 ⟨rfl, hB3⟩)
    go_ret
    exact ⟨by show Ending.returned (.string (((((⟨#[97]⟩ ++ D) ++ ⟨#[32]⟩) ++ sgO j) ++ ⟨#[32]⟩) ++ DV)) = _; rw [HRES.out], HBE.out.drew.trans (hB3.mono HBE.out.size)⟩
set_option maxRecDepth 100000 in
set_option maxHeartbeats 8000000 in
theorem text5_ok (i : Nat) (hi : i < 6) (m : Nat) (hm : m < 18446744073709551616) (v : Nat) (hv : v < 18446744073709551616) (w : World) (ht : TabP w) :
    Calls Tryz.prog 64 #[.agg (condA i 7 m v)] w fun e w' => e = .returned (.string (textC i 6 m v)) ∧ Below w.heap.size w w' := by
  have hres : ((((((ByteArray.mk #[97]) ++ ⟨#[UInt8.ofNat (48 + i)]⟩) ++ ⟨#[32]⟩) ++ sgO 6) ++ ⟨#[32]⟩) ++ (((dec m ++ ⟨#[32]⟩) ++ ⟨#[61, 61]⟩) ++ ⟨#[32]⟩)) ++ dec v = textC i 6 m v := by
    apply ByteArray.ext
    rw [textC, wordsL, if_pos rfl]
    simp [joinV, sgO]
  have hsD : (ByteArray.mk #[UInt8.ofNat (48 + i)]).size = 1 := rfl
  have hsV : (dec v).size ≤ 20 := by
    show (Lib.decDigits v).toArray.size ≤ _
    have h := nDigits_le v hv
    rw [← Lib.decDigits_length] at h
    simpa using h
  have hsM : (dec m).size ≤ 20 := by
    show (Lib.decDigits m).toArray.size ≤ _
    have h := nDigits_le m hm
    rw [← Lib.decDigits_length] at h
    simpa using h
  have hsS := sgO_size 6
  have hI := itoa6 i hi
  have hD := fun W h => decimal_any v hv W h
  have hDm := fun W h => decimal_any m hm W h
  generalize (ByteArray.mk #[UInt8.ofNat (48 + i)]) = D at hres hsD hI
  obtain ⟨DV, hDV⟩ : ∃ D, dec v = D := ⟨_, rfl⟩
  obtain ⟨DM, hDM⟩ : ∃ D, dec m = D := ⟨_, rfl⟩
  rw [hDV] at hres hsV hD
  rw [hDM] at hres hsM hDm
  have HDM := Lib.hid hDm
  clear hDV hDM hDm
  have hR := operatorOf_ok i 7 m v 6 ⟨by omega, by omega, by omega, rfl, by simp [mkO]⟩ (w.alloc (.cells (condA i 7 m v) 53))
  have HRES := Lib.hid hres
  have HI := Lib.hid hI
  have HD := Lib.hid hD
  have HF := Lib.hid hR
  have r0 : RowC (w.alloc (.cells (condA i 7 m v) 53)) w.heap.size (condA i 7 m v) 53 := RowC.new _ _ _ _ rfl
  have R0 := Lib.hid r0
  have HB := Lib.hid (show Below w.heap.size w (w.alloc (.cells (condA i 7 m v) 53)) from (Below.refl _ _).alloc (Nat.le_refl _) _)
  have HT := Lib.hid ht
  obtain ⟨F, hkm⟩ := fnO_func 6
  have HK := Lib.hid hkm
  clear hres hI hD hR hkm ht r0
  go_enter Tryz.func64, Tryz.ntmps64
  go_wp2_with fail
  refine HF.out.mono ?_
  rintro e w1 ⟨rfl, hB1⟩
  simp only [opA, HK.out]
  try rw [show mkO 6 = true by rfl]
  have hr1 := (R0.out.below hB1 R0.out.lt).alloc (.cells #[.string (sgO 6),   .bool true, .func (.func F) #[] #[]] 137)
  have hr2 : RowC (w1.alloc (.cells #[.string (sgO 6),   .bool true, .func (.func F) #[] #[]] 137)) w1.heap.size #[.string (sgO 6),   .bool true, .func (.func F) #[] #[]] 137 := RowC.new _ _ _ _ rfl
  have hbe := (HB.out.trans (hB1.mono HB.out.size)).alloc (by have := HB.out.size; have := hB1.size; omega) (.cells #[.string (sgO 6),   .bool true, .func (.func F) #[] #[]] 137)
  have HBE := Lib.hid hbe
  clear hB1 hbe
  go_upto_region 4 with fail
  generalize w1.alloc (.cells #[.string (sgO 6),   .bool true, .func (.func F) #[] #[]] 137) = W at *
  have k0 := hr1.cell 0 (.int .i64 i) rfl
  have k2 := hr1.cell 2 (.int .u64 m) rfl
  have k3 := hr1.cell 3 (.int .u64 v) rfl
  have d0 := hr2.cell 0 (.string (sgO 6)) rfl
  have d1 := hr2.cell 1 (.bool true) rfl
  clear hr1 hr2
  have s1 : ¬ 9223372036854775807 < 1 + D.size := by omega
  have s2 : ¬ 9223372036854775807 < 1 + D.size + 1 := by omega
  have s3 : ¬ 9223372036854775807 < 1 + D.size + 1 + (sgO 6).size := by omega
  have s4 : ¬ 9223372036854775807 < 1 + D.size + 1 + (sgO 6).size + 1 := by omega
  first
  | (go_region_with (go_at_call 63; refine (HI.out _).mono ?_; rintro e w2 ⟨rfl, rfl⟩))
  | fail "four"
  all_goals
    have s5 : ¬ 9223372036854775807 < DM.size + 1 := by omega
    have s6 : ¬ 9223372036854775807 < DM.size + 1 + 2 := by omega
    have s7 : ¬ 9223372036854775807 < DM.size + 1 + 2 + 1 := by omega
    have s8 : ¬ 9223372036854775807 < 1 + D.size + 1 + (sgO 6).size + 1 + (DM.size + 1 + 2 + 1) := by omega
    have s9 : ¬ 9223372036854775807 < 1 + D.size + 1 + (sgO 6).size + 1 + (DM.size + 1 + 2 + 1) + DV.size := by omega
    have HDW := Lib.hid (HDM.out W.drew (tab_on HT.out HBE.out.drew (Nat.le_refl _)))
    have LK := Lib.hid (World.block_lt_of_cell? _ _ k3)
    have K3 := Lib.hid k3
    go_wp2_with fail
    refine HDW.out.mono ?_
    rintro e w3 ⟨rfl, hB3⟩
    have kk3 : w3.cell? ⟨w.heap.size, 3, none⟩ = some (.int .u64 v) := (hB3.cell (p := ⟨w.heap.size, 3, none⟩) LK.out).trans K3.out
    have HB3 := Lib.hid (HBE.out.drew.trans (hB3.mono HBE.out.size))
    have HDV := Lib.hid (HD.out w3 (tab_on HT.out HB3.out (Nat.le_refl _)))
    clear hB3 k0 k2 k3 d0 d1
    go_wp2_with fail
    refine HDV.out.mono ?_
    rintro e w4 ⟨rfl, hB4⟩
    go_wp2
    go_ret
    exact ⟨by show Ending.returned (.string ((((((⟨#[97]⟩ ++ D) ++ ⟨#[32]⟩) ++ sgO 6) ++ ⟨#[32]⟩) ++ (((DM ++ ⟨#[32]⟩) ++ ⟨#[61, 61]⟩) ++ ⟨#[32]⟩)) ++ DV)) = _; rw [HRES.out], HB3.out.trans (hB4.mono HB3.out.size)⟩
end Go.Proofs.YtccklmleaffgiaaGreatDoor
