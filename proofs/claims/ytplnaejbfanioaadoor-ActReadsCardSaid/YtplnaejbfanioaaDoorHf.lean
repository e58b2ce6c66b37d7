/-
  The document's own Read of layer 9 at every words.
-/
import Derived.Test.YtplnaejbfanioaaDoorHd
import Derived.Test.YtplnaejbfanioaaDoorBw
import Derived.RegionTactic
import Derived.Deep.Cut
namespace Go.Proofs.YtplnaejbfanioaaDoor
open Go.Shelf Go.RowKit
set_option linter.unusedVariables false

theorem infoRA : (Tryd.prog.info? 54).map (·.size) = some 2 := by kernel_rfl
theorem num_yes (u : Nat) (hu : u < 1000000000) (w : World) : Calls Tryd.prog 43 #[.string (dec u)] w fun e w' => e = .returned (.tuple #[.int .i64 u, .bool true]) ∧ w = w' := by
  have hsz : (dec u).size ≤ 30 := by
    have h := dec_len_pow 8 u (by omega)
    show (Lib.decDigits u).toArray.size ≤ _
    simp
    omega
  refine (refNum_any (dec u) hsz w).mono ?_
  rintro e w' ⟨⟨ht, he⟩ | ⟨ht, he⟩, hw⟩
  · refine ⟨he.trans ?_, hw⟩
    rw [show valD (dec u).data.toList = u from valD_dec u]
  · exact absurd (tst_dec u hu) ht
theorem num_no (s : ByteArray) (hs : s.size ≤ 30) (hno : ¬ Tst s.data.toList) (w : World) : Calls Tryd.prog 43 #[.string s] w fun e w' => e = .returned (.tuple #[.int .i64 0, .bool false]) ∧ w = w' := by
  refine (refNum_any s hs w).mono ?_
  rintro e w' ⟨⟨ht, he⟩ | ⟨ht, he⟩, hw⟩
  · exact absurd ht hno
  · exact ⟨he, hw⟩
theorem kw_ne {i j : Nat} (hi : i < 8) (hj : j < 8) (h : i ≠ j) : ((kwA i).toList == (kwA j).toList) = false := by
  rw [kwA_inj hj hi]
  simpa using h

set_option maxRecDepth 100000 in
set_option maxHeartbeats 4000000 in
theorem refR_0 (A : Option Addr) (cap : Nat) (w : World) :
    Calls Tryd.prog 22 #[.slice A 0 cap] w fun e w' => e = .returned (.tuple #[.agg #[.int .i64 0, .int .i64 0], .int .i64 0, .int .i64 4]) ∧ Below w.heap.size w w' := by
  obtain ⟨W0, hW0⟩ : ∃ W, w.alloc (.cells zA 54) = W := ⟨_, rfl⟩
  have hb0 : Below w.heap.size w W0 := by rw [← hW0]; exact (Below.refl _ _).alloc (Nat.le_refl _) _
  have r2 : RowC W0 w.heap.size zA 54 := by rw [← hW0]; exact RowC.new _ _ _ _ rfl
  have z0 := r2.cell 0 (.int .i64 0) rfl
  have z1 := r2.cell 1 (.int .i64 0) rfl
  have g0 := r2.frozen 0
  have g1 := r2.frozen 1
  have R2 := Lib.hid r2
  have HW0 := Lib.hid hW0
  have HB0 := Lib.hid hb0
  clear hb0 r2 hW0
  go_enter Tryd.func22, Tryd.ntmps22
  go_upto_region 1 with fail
  rw [HW0.out]
  go_wp2
  exact bodyPost_ret (results_ctt9 Tryd.results22 _ _ w.heap.size _ _ (0, 0) _ (.int .i64 0) (.int .i64 4) (by rfl) (by rfl) (by rfl) (show RowC _ w.heap.size #[.int .i64 0, .int .i64 0] 54 from (R2.out.set 0 (.int .i64 0)).set 1 (.int .i64 0)) Tryd.underlying54 (by rfl) (show _ = some 2 from infoRA)) rfl
    ⟨rfl, (HB0.out.setCell (Nat.le_refl _) _).setCell (Nat.le_refl _) _⟩

set_option maxRecDepth 100000 in
set_option maxHeartbeats 8000000 in
theorem refR_none (s : ByteArray) (hs : ∀ j, j < 8 → ((kwA j).toList == s.toList) = false) (b o len cap : Nat) (hlen : 1 ≤ len) (w : World) (c0 : w.cell? ⟨b, o, none⟩ = some (.string s)) :
    Calls Tryd.prog 22 #[.slice (some ⟨b, o, none⟩) len cap] w fun e w' => e = .returned (.tuple #[.agg #[.int .i64 0, .int .i64 0], .int .i64 0, .int .i64 14]) ∧ Below w.heap.size w w' := by
  have lb : b < w.heap.size := World.block_lt_of_cell? _ _ c0
  obtain ⟨W0, hW0⟩ : ∃ W, w.alloc (.cells zA 54) = W := ⟨_, rfl⟩
  have hb0 : Below w.heap.size w W0 := by rw [← hW0]; exact (Below.refl _ _).alloc (Nat.le_refl _) _
  have r2 : RowC W0 w.heap.size zA 54 := by rw [← hW0]; exact RowC.new _ _ _ _ rfl
  have ie : ((len : Int) == 0) = false := beq_eq_false_iff_ne.2 (by omega)
  have i0 : (0 : Int) < (len : Int) := by omega
  have HW0 := Lib.hid hW0
  have HB0 := Lib.hid hb0
  have R2 := Lib.hid r2
  have C0 := Lib.hid c0
  have LB := Lib.hid lb
  have HS := Lib.hid hs
  clear hs
  clear hb0 r2 hW0 c0 lb
  go_enter Tryd.func22, Tryd.ntmps22
  go_upto_region 1 with fail
  rw [HW0.out]
  go_wp2_with fail
  go_loopw [5] (fun i wr => ∃ q : Nat, q ≤ 8 ∧ i = .int .i64 ((q : Int) + 1) ∧ RowC wr w.heap.size zA 54 ∧ Below w.heap.size w wr)
    (fun i _ => 9 - (intOf i).toNat)
  case atStart => exact ⟨0, by omega, rfl, R2.out, HB0.out⟩
  case round =>
    obtain ⟨q, hq, rfl, rr, hB⟩ := hrel
    have HB := Lib.hid hB
    have RR := Lib.hid rr
    have k0 := (hB.cell (p := ⟨b, o, none⟩) LB.out).trans C0.out
    have K0 := Lib.hid k0
    have lbr : Hid (b < wr.heap.size) := Lib.hid (Nat.lt_of_lt_of_le LB.out hB.size)
    clear rr hB
    by_cases hlt : q < 8
    · have g1 : ((q : Int) + 1) ≤ 8 := by omega
      have HWD := Lib.hid fun W => word_at q (by omega) W
      have hne : ((kwA q).toList == s.toList) = false := HS.out q hlt
      have hne2 : ((kwA q).toList != s.toList) = true := by rw [bne, hne]; rfl
      go_wp2_with fail
      first
      | (go_region_with (go_at_call 42; refine (HWD.out _).mono ?_; rintro e w6 ⟨rfl, hB6⟩
                         have kk0 := (hB6.cell (p := ⟨b, o, none⟩) lbr.out).trans K0.out))
      | fail "six"
      all_goals go_wp2
      all_goals exact ⟨⟨q + 1, by omega, by go_num, RowC.below (w := wr.drew) RR.out hB6 RR.out.lt, HB.out.drew.trans (hB6.mono HB.out.size)⟩, by simp [intOf]; omega⟩
    · obtain rfl : q = 8 := by omega
      have z0 := RR.out.cell 0 (.int .i64 0) rfl
      have z1 := RR.out.cell 1 (.int .i64 0) rfl
      have g0 := RR.out.frozen 0
      have g1 := RR.out.frozen 1
      go_wp2
      exact bodyPost_ret (results_ctt9 Tryd.results22 _ _ w.heap.size _ _ (0, 0) _ (.int .i64 0) (.int .i64 14) (by rfl) (by rfl) (by rfl) (show RowC _ w.heap.size #[.int .i64 0, .int .i64 0] 54 from (RR.out.set 0 (.int .i64 0)).set 1 (.int .i64 0)) Tryd.underlying54 (by rfl) (show _ = some 2 from infoRA)) rfl
        ⟨rfl, (HB.out.setCell (Nat.le_refl _) _).setCell (Nat.le_refl _) _⟩

set_option maxRecDepth 100000 in
set_option maxHeartbeats 8000000 in
theorem refR_plain (j : Nat) (hj : j < 8) (hk : knA j = false) (b o len cap : Nat) (hlen : 1 ≤ len) (w : World) (c0 : w.cell? ⟨b, o, none⟩ = some (.string (kwA j))) :
    Calls Tryd.prog 22 #[.slice (some ⟨b, o, none⟩) len cap] w fun e w' => e = .returned (.tuple #[.agg #[.int .i64 ((j : Int) + 1), .int .i64 0], .int .i64 1, .int .i64 0]) ∧ Below w.heap.size w w' := by
  have lb : b < w.heap.size := World.block_lt_of_cell? _ _ c0
  obtain ⟨W0, hW0⟩ : ∃ W, w.alloc (.cells zA 54) = W := ⟨_, rfl⟩
  have hb0 : Below w.heap.size w W0 := by rw [← hW0]; exact (Below.refl _ _).alloc (Nat.le_refl _) _
  have r2 : RowC W0 w.heap.size zA 54 := by rw [← hW0]; exact RowC.new _ _ _ _ rfl
  have ie : ((len : Int) == 0) = false := beq_eq_false_iff_ne.2 (by omega)
  have i0 : (0 : Int) < (len : Int) := by omega
  have HW0 := Lib.hid hW0
  have HB0 := Lib.hid hb0
  have R2 := Lib.hid r2
  have C0 := Lib.hid c0
  have LB := Lib.hid lb
  clear hb0 r2 hW0 c0 lb
  go_enter Tryd.func22, Tryd.ntmps22
  go_upto_region 1 with fail
  rw [HW0.out]
  go_wp2_with fail
  go_loopw [5] (fun i wr => ∃ q : Nat, q ≤ j ∧ i = .int .i64 ((q : Int) + 1) ∧ RowC wr w.heap.size zA 54 ∧ Below w.heap.size w wr)
    (fun i _ => 9 - (intOf i).toNat)
  case atStart => exact ⟨0, by omega, rfl, R2.out, HB0.out⟩
  case round =>
    obtain ⟨q, hq, rfl, rr, hB⟩ := hrel
    have HB := Lib.hid hB
    have RR := Lib.hid rr
    have k0 := (hB.cell (p := ⟨b, o, none⟩) LB.out).trans C0.out
    have K0 := Lib.hid k0
    have lbr : Hid (b < wr.heap.size) := Lib.hid (Nat.lt_of_lt_of_le LB.out hB.size)
    clear rr hB
    by_cases hlt : q < j
    · have g1 : ((q : Int) + 1) ≤ 8 := by omega
      have HWD := Lib.hid fun W => word_at q (by omega) W
      have hne : ((kwA q).toList == (kwA j).toList) = false := kw_ne (by omega) hj (by omega)
      have hne2 : ((kwA q).toList != (kwA j).toList) = true := by rw [bne, hne]; rfl
      go_wp2_with fail
      first
      | (go_region_with (go_at_call 42; refine (HWD.out _).mono ?_; rintro e w6 ⟨rfl, hB6⟩
                         have kk0 := (hB6.cell (p := ⟨b, o, none⟩) lbr.out).trans K0.out))
      | fail "six"
      all_goals go_wp2
      all_goals exact ⟨⟨q + 1, by omega, by go_num, RowC.below (w := wr.drew) RR.out hB6 RR.out.lt, HB.out.drew.trans (hB6.mono HB.out.size)⟩, by simp [intOf]; omega⟩
    · obtain rfl : q = j := by omega
      have g1 : ((q : Int) + 1) ≤ 8 := by omega
      have HWD := Lib.hid fun W => word_at q hj W
      have heq : ((kwA q).toList == (kwA q).toList) = true := by simp
      have heq2 : ((kwA q).toList != (kwA q).toList) = false := by simp
      go_wp2_with fail
      first
      | (go_region_with (go_at_call 42; refine (HWD.out _).mono ?_; rintro e w6 ⟨rfl, hB6⟩
                         have kk0 := (hB6.cell (p := ⟨b, o, none⟩) lbr.out).trans K0.out))
      | fail "six"
      all_goals
        have q2 := RowC.below (w := wr.drew) RR.out hB6 RR.out.lt
        have HBQ := HB.out.drew.trans (hB6.mono HB.out.size)
        have z0 := q2.cell 0 (.int .i64 0) rfl
        have z1 := q2.cell 1 (.int .i64 0) rfl
        have g0 := q2.frozen 0
        have g1' := q2.frozen 1
        have Q2 := Lib.hid q2
        have HQ := Lib.hid HBQ
        clear q2 hB6 HBQ k0
        have hj35 : q ≠ 3 ∧ q ≠ 5 := by
          constructor <;> (rintro rfl; cases hk)
        have e4 : (((q : Int) + 1) == 4) = false := beq_eq_false_iff_ne.2 (by omega)
        have e6 : (((q : Int) + 1) == 6) = false := beq_eq_false_iff_ne.2 (by omega)
        have e4' : (((q : Int) + 1) != 4) = true := by rw [bne, e4]; rfl
        have e6' : (((q : Int) + 1) != 6) = true := by rw [bne, e6]; rfl
        go_wp2
        exact bodyPost_ret (results_ctt9 Tryd.results22 _ _ w.heap.size _ _ (0, 0) _ (.int .i64 1) (.int .i64 0) (by rfl) (by rfl) (by rfl) (show RowC _ w.heap.size #[.int .i64 ((q : Int) + 1), .int .i64 0] 54 from (Q2.out.set 0 (.int .i64 ((q : Int) + 1))).set 1 (.int .i64 0)) Tryd.underlying54 (by rfl) (show _ = some 2 from infoRA)) rfl
          ⟨rfl, (HQ.out.setCell (Nat.le_refl _) _).setCell (Nat.le_refl _) _⟩

set_option maxRecDepth 100000 in
set_option maxHeartbeats 8000000 in
theorem refR_short (j : Nat) (hj : j < 8) (hk : knA j = true) (b o len cap : Nat) (hlen : 1 ≤ len) (w : World) (c0 : w.cell? ⟨b, o, none⟩ = some (.string (kwA j))) (hl2 : len < 2) :
    Calls Tryd.prog 22 #[.slice (some ⟨b, o, none⟩) len cap] w fun e w' => e = .returned (.tuple #[.agg #[.int .i64 0, .int .i64 0], .int .i64 0, .int .i64 13]) ∧ Below w.heap.size w w' := by
  have lb : b < w.heap.size := World.block_lt_of_cell? _ _ c0
  obtain ⟨W0, hW0⟩ : ∃ W, w.alloc (.cells zA 54) = W := ⟨_, rfl⟩
  have hb0 : Below w.heap.size w W0 := by rw [← hW0]; exact (Below.refl _ _).alloc (Nat.le_refl _) _
  have r2 : RowC W0 w.heap.size zA 54 := by rw [← hW0]; exact RowC.new _ _ _ _ rfl
  have ie : ((len : Int) == 0) = false := beq_eq_false_iff_ne.2 (by omega)
  have i0 : (0 : Int) < (len : Int) := by omega
  have HW0 := Lib.hid hW0
  have HB0 := Lib.hid hb0
  have R2 := Lib.hid r2
  have C0 := Lib.hid c0
  have LB := Lib.hid lb
  have il2 : (len : Int) < 2 := by omega
  have il : decide ((len : Int) < 2) = true := by simpa using il2
  clear hb0 r2 hW0 c0 lb
  go_enter Tryd.func22, Tryd.ntmps22
  go_upto_region 1 with fail
  rw [HW0.out]
  go_wp2_with fail
  go_loopw [5] (fun i wr => ∃ q : Nat, q ≤ j ∧ i = .int .i64 ((q : Int) + 1) ∧ RowC wr w.heap.size zA 54 ∧ Below w.heap.size w wr)
    (fun i _ => 9 - (intOf i).toNat)
  case atStart => exact ⟨0, by omega, rfl, R2.out, HB0.out⟩
  case round =>
    obtain ⟨q, hq, rfl, rr, hB⟩ := hrel
    have HB := Lib.hid hB
    have RR := Lib.hid rr
    have k0 := (hB.cell (p := ⟨b, o, none⟩) LB.out).trans C0.out
    have K0 := Lib.hid k0
    have lbr : Hid (b < wr.heap.size) := Lib.hid (Nat.lt_of_lt_of_le LB.out hB.size)
    clear rr hB
    by_cases hlt : q < j
    · have g1 : ((q : Int) + 1) ≤ 8 := by omega
      have HWD := Lib.hid fun W => word_at q (by omega) W
      have hne : ((kwA q).toList == (kwA j).toList) = false := kw_ne (by omega) hj (by omega)
      have hne2 : ((kwA q).toList != (kwA j).toList) = true := by rw [bne, hne]; rfl
      go_wp2_with fail
      first
      | (go_region_with (go_at_call 42; refine (HWD.out _).mono ?_; rintro e w6 ⟨rfl, hB6⟩
                         have kk0 := (hB6.cell (p := ⟨b, o, none⟩) lbr.out).trans K0.out))
      | fail "six"
      all_goals go_wp2
      all_goals exact ⟨⟨q + 1, by omega, by go_num, RowC.below (w := wr.drew) RR.out hB6 RR.out.lt, HB.out.drew.trans (hB6.mono HB.out.size)⟩, by simp [intOf]; omega⟩
    · obtain rfl : q = j := by omega
      have g1 : ((q : Int) + 1) ≤ 8 := by omega
      have HWD := Lib.hid fun W => word_at q hj W
      have heq : ((kwA q).toList == (kwA q).toList) = true := by simp
      have heq2 : ((kwA q).toList != (kwA q).toList) = false := by simp
      go_wp2_with fail
      first
      | (go_region_with (go_at_call 42; refine (HWD.out _).mono ?_; rintro e w6 ⟨rfl, hB6⟩
                         have kk0 := (hB6.cell (p := ⟨b, o, none⟩) lbr.out).trans K0.out))
      | fail "six"
      all_goals
        have q2 := RowC.below (w := wr.drew) RR.out hB6 RR.out.lt
        have HBQ := HB.out.drew.trans (hB6.mono HB.out.size)
        have z0 := q2.cell 0 (.int .i64 0) rfl
        have z1 := q2.cell 1 (.int .i64 0) rfl
        have g0 := q2.frozen 0
        have g1' := q2.frozen 1
        have Q2 := Lib.hid q2
        have HQ := Lib.hid HBQ
        clear q2 hB6 HBQ k0
        have hj35 : q = 3 ∨ q = 5 := by
          unfold knA at hk
          simp at hk
          omega
        clear hlt hq
        rcases hj35 with rfl | rfl
        · go_wp2
          exact bodyPost_ret (results_ctt9 Tryd.results22 _ _ w.heap.size _ _ (0, 0) _ (.int .i64 0) (.int .i64 13) (by rfl) (by rfl) (by rfl) (show RowC _ w.heap.size #[.int .i64 0, .int .i64 0] 54 from (Q2.out.set 0 (.int .i64 0)).set 1 (.int .i64 0)) Tryd.underlying54 (by rfl) (show _ = some 2 from infoRA)) rfl
            ⟨rfl, (HQ.out.setCell (Nat.le_refl _) _).setCell (Nat.le_refl _) _⟩
        · go_wp2
          exact bodyPost_ret (results_ctt9 Tryd.results22 _ _ w.heap.size _ _ (0, 0) _ (.int .i64 0) (.int .i64 13) (by rfl) (by rfl) (by rfl) (show RowC _ w.heap.size #[.int .i64 0, .int .i64 0] 54 from (Q2.out.set 0 (.int .i64 0)).set 1 (.int .i64 0)) Tryd.underlying54 (by rfl) (show _ = some 2 from infoRA)) rfl
            ⟨rfl, (HQ.out.setCell (Nat.le_refl _) _).setCell (Nat.le_refl _) _⟩

set_option maxRecDepth 100000 in
set_option maxHeartbeats 8000000 in
theorem refR_form (j : Nat) (hj : j < 8) (hk : knA j = true) (s : ByteArray) (hs : s.size ≤ 30) (hno : ¬ Tst s.data.toList) (b o len cap : Nat) (hlen : 1 ≤ len) (w : World) (c0 : w.cell? ⟨b, o, none⟩ = some (.string (kwA j))) (hl2 : 2 ≤ len) (c1 : w.cell? ⟨b, o + 1, none⟩ = some (.string s)) :
    Calls Tryd.prog 22 #[.slice (some ⟨b, o, none⟩) len cap] w fun e w' => e = .returned (.tuple #[.agg #[.int .i64 0, .int .i64 0], .int .i64 0, .int .i64 13]) ∧ Below w.heap.size w w' := by
  have lb : b < w.heap.size := World.block_lt_of_cell? _ _ c0
  obtain ⟨W0, hW0⟩ : ∃ W, w.alloc (.cells zA 54) = W := ⟨_, rfl⟩
  have hb0 : Below w.heap.size w W0 := by rw [← hW0]; exact (Below.refl _ _).alloc (Nat.le_refl _) _
  have r2 : RowC W0 w.heap.size zA 54 := by rw [← hW0]; exact RowC.new _ _ _ _ rfl
  have ie : ((len : Int) == 0) = false := beq_eq_false_iff_ne.2 (by omega)
  have i0 : (0 : Int) < (len : Int) := by omega
  have HW0 := Lib.hid hW0
  have HB0 := Lib.hid hb0
  have R2 := Lib.hid r2
  have C0 := Lib.hid c0
  have LB := Lib.hid lb
  have K1 := Lib.hid c1
  have il2 : ¬ (len : Int) < 2 := by omega
  have il : decide ((len : Int) < 2) = false := by simpa using il2
  have i1 : (1 : Int) < (len : Int) := by omega
  have HN := Lib.hid fun W => num_no s hs hno W
  clear c1 hno
  clear hb0 r2 hW0 c0 lb
  go_enter Tryd.func22, Tryd.ntmps22
  go_upto_region 1 with fail
  rw [HW0.out]
  go_wp2_with fail
  go_loopw [5] (fun i wr => ∃ q : Nat, q ≤ j ∧ i = .int .i64 ((q : Int) + 1) ∧ RowC wr w.heap.size zA 54 ∧ Below w.heap.size w wr)
    (fun i _ => 9 - (intOf i).toNat)
  case atStart => exact ⟨0, by omega, rfl, R2.out, HB0.out⟩
  case round =>
    obtain ⟨q, hq, rfl, rr, hB⟩ := hrel
    have HB := Lib.hid hB
    have RR := Lib.hid rr
    have k0 := (hB.cell (p := ⟨b, o, none⟩) LB.out).trans C0.out
    have K0 := Lib.hid k0
    have lbr : Hid (b < wr.heap.size) := Lib.hid (Nat.lt_of_lt_of_le LB.out hB.size)
    clear rr hB
    by_cases hlt : q < j
    · have g1 : ((q : Int) + 1) ≤ 8 := by omega
      have HWD := Lib.hid fun W => word_at q (by omega) W
      have hne : ((kwA q).toList == (kwA j).toList) = false := kw_ne (by omega) hj (by omega)
      have hne2 : ((kwA q).toList != (kwA j).toList) = true := by rw [bne, hne]; rfl
      go_wp2_with fail
      first
      | (go_region_with (go_at_call 42; refine (HWD.out _).mono ?_; rintro e w6 ⟨rfl, hB6⟩
                         have kk0 := (hB6.cell (p := ⟨b, o, none⟩) lbr.out).trans K0.out))
      | fail "six"
      all_goals go_wp2
      all_goals exact ⟨⟨q + 1, by omega, by go_num, RowC.below (w := wr.drew) RR.out hB6 RR.out.lt, HB.out.drew.trans (hB6.mono HB.out.size)⟩, by simp [intOf]; omega⟩
    · obtain rfl : q = j := by omega
      have g1 : ((q : Int) + 1) ≤ 8 := by omega
      have HWD := Lib.hid fun W => word_at q hj W
      have heq : ((kwA q).toList == (kwA q).toList) = true := by simp
      have heq2 : ((kwA q).toList != (kwA q).toList) = false := by simp
      go_wp2_with fail
      first
      | (go_region_with (go_at_call 42; refine (HWD.out _).mono ?_; rintro e w6 ⟨rfl, hB6⟩
                         have kk0 := (hB6.cell (p := ⟨b, o, none⟩) lbr.out).trans K0.out))
      | fail "six"
      all_goals
        have q2 := RowC.below (w := wr.drew) RR.out hB6 RR.out.lt
        have HBQ := HB.out.drew.trans (hB6.mono HB.out.size)
        have z0 := q2.cell 0 (.int .i64 0) rfl
        have z1 := q2.cell 1 (.int .i64 0) rfl
        have g0 := q2.frozen 0
        have g1' := q2.frozen 1
        have Q2 := Lib.hid q2
        have HQ := Lib.hid HBQ
        clear q2 hB6 HBQ k0
        have hj35 : q = 3 ∨ q = 5 := by
          unfold knA at hk
          simp at hk
          omega
        clear hlt hq
        rcases hj35 with rfl | rfl
        · have k1 := (HQ.out.cell (p := ⟨b, o + 1, none⟩) LB.out).trans K1.out
          go_wp2_with (go_at_call 43; refine (HN.out _).mono ?_; rintro e w7 ⟨rfl, rfl⟩)
          exact bodyPost_ret (results_ctt9 Tryd.results22 _ _ w.heap.size _ _ (0, 0) _ (.int .i64 0) (.int .i64 13) (by rfl) (by rfl) (by rfl) (show RowC _ w.heap.size #[.int .i64 0, .int .i64 0] 54 from (Q2.out.set 0 (.int .i64 0)).set 1 (.int .i64 0)) Tryd.underlying54 (by rfl) (show _ = some 2 from infoRA)) rfl
            ⟨rfl, (HQ.out.setCell (Nat.le_refl _) _).setCell (Nat.le_refl _) _⟩
        · have k1 := (HQ.out.cell (p := ⟨b, o + 1, none⟩) LB.out).trans K1.out
          go_wp2_with (go_at_call 43; refine (HN.out _).mono ?_; rintro e w7 ⟨rfl, rfl⟩)
          exact bodyPost_ret (results_ctt9 Tryd.results22 _ _ w.heap.size _ _ (0, 0) _ (.int .i64 0) (.int .i64 13) (by rfl) (by rfl) (by rfl) (show RowC _ w.heap.size #[.int .i64 0, .int .i64 0] 54 from (Q2.out.set 0 (.int .i64 0)).set 1 (.int .i64 0)) Tryd.underlying54 (by rfl) (show _ = some 2 from infoRA)) rfl
            ⟨rfl, (HQ.out.setCell (Nat.le_refl _) _).setCell (Nat.le_refl _) _⟩

set_option maxRecDepth 100000 in
set_option maxHeartbeats 8000000 in
theorem refR_num (j : Nat) (hj : j < 8) (hk : knA j = true) (u : Nat) (hu : u < 1000000000) (hmay : mayA j (u : Int) = true) (b o len cap : Nat) (hlen : 1 ≤ len) (w : World) (c0 : w.cell? ⟨b, o, none⟩ = some (.string (kwA j))) (hl2 : 2 ≤ len) (c1 : w.cell? ⟨b, o + 1, none⟩ = some (.string (dec u))) :
    Calls Tryd.prog 22 #[.slice (some ⟨b, o, none⟩) len cap] w fun e w' => e = .returned (.tuple #[.agg #[.int .i64 ((j : Int) + 1), .int .i64 u], .int .i64 2, .int .i64 0]) ∧ Below w.heap.size w w' := by
  have lb : b < w.heap.size := World.block_lt_of_cell? _ _ c0
  obtain ⟨W0, hW0⟩ : ∃ W, w.alloc (.cells zA 54) = W := ⟨_, rfl⟩
  have hb0 : Below w.heap.size w W0 := by rw [← hW0]; exact (Below.refl _ _).alloc (Nat.le_refl _) _
  have r2 : RowC W0 w.heap.size zA 54 := by rw [← hW0]; exact RowC.new _ _ _ _ rfl
  have ie : ((len : Int) == 0) = false := beq_eq_false_iff_ne.2 (by omega)
  have i0 : (0 : Int) < (len : Int) := by omega
  have HW0 := Lib.hid hW0
  have HB0 := Lib.hid hb0
  have R2 := Lib.hid r2
  have C0 := Lib.hid c0
  have LB := Lib.hid lb
  have K1 := Lib.hid c1
  have il2 : ¬ (len : Int) < 2 := by omega
  have il : decide ((len : Int) < 2) = false := by simpa using il2
  have i1 : (1 : Int) < (len : Int) := by omega
  have HN := Lib.hid fun W => num_yes u hu W
  clear c1
  clear hb0 r2 hW0 c0 lb
  go_enter Tryd.func22, Tryd.ntmps22
  go_upto_region 1 with fail
  rw [HW0.out]
  go_wp2_with fail
  go_loopw [5] (fun i wr => ∃ q : Nat, q ≤ j ∧ i = .int .i64 ((q : Int) + 1) ∧ RowC wr w.heap.size zA 54 ∧ Below w.heap.size w wr)
    (fun i _ => 9 - (intOf i).toNat)
  case atStart => exact ⟨0, by omega, rfl, R2.out, HB0.out⟩
  case round =>
    obtain ⟨q, hq, rfl, rr, hB⟩ := hrel
    have HB := Lib.hid hB
    have RR := Lib.hid rr
    have k0 := (hB.cell (p := ⟨b, o, none⟩) LB.out).trans C0.out
    have K0 := Lib.hid k0
    have lbr : Hid (b < wr.heap.size) := Lib.hid (Nat.lt_of_lt_of_le LB.out hB.size)
    clear rr hB
    by_cases hlt : q < j
    · have g1 : ((q : Int) + 1) ≤ 8 := by omega
      have HWD := Lib.hid fun W => word_at q (by omega) W
      have hne : ((kwA q).toList == (kwA j).toList) = false := kw_ne (by omega) hj (by omega)
      have hne2 : ((kwA q).toList != (kwA j).toList) = true := by rw [bne, hne]; rfl
      go_wp2_with fail
      first
      | (go_region_with (go_at_call 42; refine (HWD.out _).mono ?_; rintro e w6 ⟨rfl, hB6⟩
                         have kk0 := (hB6.cell (p := ⟨b, o, none⟩) lbr.out).trans K0.out))
      | fail "six"
      all_goals go_wp2
      all_goals exact ⟨⟨q + 1, by omega, by go_num, RowC.below (w := wr.drew) RR.out hB6 RR.out.lt, HB.out.drew.trans (hB6.mono HB.out.size)⟩, by simp [intOf]; omega⟩
    · obtain rfl : q = j := by omega
      have g1 : ((q : Int) + 1) ≤ 8 := by omega
      have HWD := Lib.hid fun W => word_at q hj W
      have heq : ((kwA q).toList == (kwA q).toList) = true := by simp
      have heq2 : ((kwA q).toList != (kwA q).toList) = false := by simp
      go_wp2_with fail
      first
      | (go_region_with (go_at_call 42; refine (HWD.out _).mono ?_; rintro e w6 ⟨rfl, hB6⟩
                         have kk0 := (hB6.cell (p := ⟨b, o, none⟩) lbr.out).trans K0.out))
      | fail "six"
      all_goals
        have q2 := RowC.below (w := wr.drew) RR.out hB6 RR.out.lt
        have HBQ := HB.out.drew.trans (hB6.mono HB.out.size)
        have z0 := q2.cell 0 (.int .i64 0) rfl
        have z1 := q2.cell 1 (.int .i64 0) rfl
        have g0 := q2.frozen 0
        have g1' := q2.frozen 1
        have Q2 := Lib.hid q2
        have HQ := Lib.hid HBQ
        clear q2 hB6 HBQ k0
        have hj35 : q = 3 ∨ q = 5 := by
          unfold knA at hk
          simp at hk
          omega
        clear hlt hq
        rcases hj35 with rfl | rfl
        · have k1 := (HQ.out.cell (p := ⟨b, o + 1, none⟩) LB.out).trans K1.out
          have HM : Hid (∀ W, Calls Tryd.prog 44 #[.int .i64 4] W fun e w' => e = .returned (.int .i64 4095) ∧ W = w') := Lib.hid fun W => most_at 3 W
          have hmm : ¬ (u : Int) > 4095 := by
            have h := hmay
            unfold mayA at h
            simp [mostA] at h
            omega
          have gg : decide ((u : Int) > 4095) = false := by simp; omega
          go_wp2_with (first
            | (go_at_call 43; refine (HN.out _).mono ?_; rintro e w7 ⟨rfl, rfl⟩)
            | (go_at_call 44; refine (HM.out _).mono ?_; rintro e w8 ⟨rfl, rfl⟩))
          exact bodyPost_ret (results_ctt9 Tryd.results22 _ _ w.heap.size _ _ (0, 0) _ (.int .i64 2) (.int .i64 0) (by rfl) (by rfl) (by rfl) (show RowC _ w.heap.size #[.int .i64 4, .int .i64 u] 54 from (Q2.out.set 0 (.int .i64 4)).set 1 (.int .i64 u)) Tryd.underlying54 (by rfl) (show _ = some 2 from infoRA)) rfl
            ⟨rfl, (HQ.out.setCell (Nat.le_refl _) _).setCell (Nat.le_refl _) _⟩
        · have k1 := (HQ.out.cell (p := ⟨b, o + 1, none⟩) LB.out).trans K1.out
          have HM : Hid (∀ W, Calls Tryd.prog 44 #[.int .i64 6] W fun e w' => e = .returned (.int .i64 65535) ∧ W = w') := Lib.hid fun W => most_at 5 W
          have hmm : ¬ (u : Int) > 65535 := by
            have h := hmay
            unfold mayA at h
            simp [mostA] at h
            omega
          have gg : decide ((u : Int) > 65535) = false := by simp; omega
          go_wp2_with (first
            | (go_at_call 43; refine (HN.out _).mono ?_; rintro e w7 ⟨rfl, rfl⟩)
            | (go_at_call 44; refine (HM.out _).mono ?_; rintro e w8 ⟨rfl, rfl⟩))
          exact bodyPost_ret (results_ctt9 Tryd.results22 _ _ w.heap.size _ _ (0, 0) _ (.int .i64 2) (.int .i64 0) (by rfl) (by rfl) (by rfl) (show RowC _ w.heap.size #[.int .i64 6, .int .i64 u] 54 from (Q2.out.set 0 (.int .i64 6)).set 1 (.int .i64 u)) Tryd.underlying54 (by rfl) (show _ = some 2 from infoRA)) rfl
            ⟨rfl, (HQ.out.setCell (Nat.le_refl _) _).setCell (Nat.le_refl _) _⟩

set_option maxRecDepth 100000 in
set_option maxHeartbeats 8000000 in
theorem refR_range (j : Nat) (hj : j < 8) (hk : knA j = true) (u : Nat) (hu : u < 1000000000) (hmay : mayA j (u : Int) = false) (b o len cap : Nat) (hlen : 1 ≤ len) (w : World) (c0 : w.cell? ⟨b, o, none⟩ = some (.string (kwA j))) (hl2 : 2 ≤ len) (c1 : w.cell? ⟨b, o + 1, none⟩ = some (.string (dec u))) :
    Calls Tryd.prog 22 #[.slice (some ⟨b, o, none⟩) len cap] w fun e w' => e = .returned (.tuple #[.agg #[.int .i64 0, .int .i64 0], .int .i64 0, .int .i64 16]) ∧ Below w.heap.size w w' := by
  have lb : b < w.heap.size := World.block_lt_of_cell? _ _ c0
  obtain ⟨W0, hW0⟩ : ∃ W, w.alloc (.cells zA 54) = W := ⟨_, rfl⟩
  have hb0 : Below w.heap.size w W0 := by rw [← hW0]; exact (Below.refl _ _).alloc (Nat.le_refl _) _
  have r2 : RowC W0 w.heap.size zA 54 := by rw [← hW0]; exact RowC.new _ _ _ _ rfl
  have ie : ((len : Int) == 0) = false := beq_eq_false_iff_ne.2 (by omega)
  have i0 : (0 : Int) < (len : Int) := by omega
  have HW0 := Lib.hid hW0
  have HB0 := Lib.hid hb0
  have R2 := Lib.hid r2
  have C0 := Lib.hid c0
  have LB := Lib.hid lb
  have K1 := Lib.hid c1
  have il2 : ¬ (len : Int) < 2 := by omega
  have il : decide ((len : Int) < 2) = false := by simpa using il2
  have i1 : (1 : Int) < (len : Int) := by omega
  have HN := Lib.hid fun W => num_yes u hu W
  clear c1
  clear hb0 r2 hW0 c0 lb
  go_enter Tryd.func22, Tryd.ntmps22
  go_upto_region 1 with fail
  rw [HW0.out]
  go_wp2_with fail
  go_loopw [5] (fun i wr => ∃ q : Nat, q ≤ j ∧ i = .int .i64 ((q : Int) + 1) ∧ RowC wr w.heap.size zA 54 ∧ Below w.heap.size w wr)
    (fun i _ => 9 - (intOf i).toNat)
  case atStart => exact ⟨0, by omega, rfl, R2.out, HB0.out⟩
  case round =>
    obtain ⟨q, hq, rfl, rr, hB⟩ := hrel
    have HB := Lib.hid hB
    have RR := Lib.hid rr
    have k0 := (hB.cell (p := ⟨b, o, none⟩) LB.out).trans C0.out
    have K0 := Lib.hid k0
    have lbr : Hid (b < wr.heap.size) := Lib.hid (Nat.lt_of_lt_of_le LB.out hB.size)
    clear rr hB
    by_cases hlt : q < j
    · have g1 : ((q : Int) + 1) ≤ 8 := by omega
      have HWD := Lib.hid fun W => word_at q (by omega) W
      have hne : ((kwA q).toList == (kwA j).toList) = false := kw_ne (by omega) hj (by omega)
      have hne2 : ((kwA q).toList != (kwA j).toList) = true := by rw [bne, hne]; rfl
      go_wp2_with fail
      first
      | (go_region_with (go_at_call 42; refine (HWD.out _).mono ?_; rintro e w6 ⟨rfl, hB6⟩
                         have kk0 := (hB6.cell (p := ⟨b, o, none⟩) lbr.out).trans K0.out))
      | fail "six"
      all_goals go_wp2
      all_goals exact ⟨⟨q + 1, by omega, by go_num, RowC.below (w := wr.drew) RR.out hB6 RR.out.lt, HB.out.drew.trans (hB6.mono HB.out.size)⟩, by simp [intOf]; omega⟩
    · obtain rfl : q = j := by omega
      have g1 : ((q : Int) + 1) ≤ 8 := by omega
      have HWD := Lib.hid fun W => word_at q hj W
      have heq : ((kwA q).toList == (kwA q).toList) = true := by simp
      have heq2 : ((kwA q).toList != (kwA q).toList) = false := by simp
      go_wp2_with fail
      first
      | (go_region_with (go_at_call 42; refine (HWD.out _).mono ?_; rintro e w6 ⟨rfl, hB6⟩
                         have kk0 := (hB6.cell (p := ⟨b, o, none⟩) lbr.out).trans K0.out))
      | fail "six"
      all_goals
        have q2 := RowC.below (w := wr.drew) RR.out hB6 RR.out.lt
        have HBQ := HB.out.drew.trans (hB6.mono HB.out.size)
        have z0 := q2.cell 0 (.int .i64 0) rfl
        have z1 := q2.cell 1 (.int .i64 0) rfl
        have g0 := q2.frozen 0
        have g1' := q2.frozen 1
        have Q2 := Lib.hid q2
        have HQ := Lib.hid HBQ
        clear q2 hB6 HBQ k0
        have hj35 : q = 3 ∨ q = 5 := by
          unfold knA at hk
          simp at hk
          omega
        clear hlt hq
        rcases hj35 with rfl | rfl
        · have k1 := (HQ.out.cell (p := ⟨b, o + 1, none⟩) LB.out).trans K1.out
          have HM : Hid (∀ W, Calls Tryd.prog 44 #[.int .i64 4] W fun e w' => e = .returned (.int .i64 4095) ∧ W = w') := Lib.hid fun W => most_at 3 W
          have hmm : (u : Int) > 4095 := by
            have h := hmay
            unfold mayA at h
            simp [mostA] at h
            omega
          have gg : decide ((u : Int) > 4095) = true := by simp; omega
          go_wp2_with (first
            | (go_at_call 43; refine (HN.out _).mono ?_; rintro e w7 ⟨rfl, rfl⟩)
            | (go_at_call 44; refine (HM.out _).mono ?_; rintro e w8 ⟨rfl, rfl⟩))
          exact bodyPost_ret (results_ctt9 Tryd.results22 _ _ w.heap.size _ _ (0, 0) _ (.int .i64 0) (.int .i64 16) (by rfl) (by rfl) (by rfl) (show RowC _ w.heap.size #[.int .i64 0, .int .i64 0] 54 from (Q2.out.set 0 (.int .i64 0)).set 1 (.int .i64 0)) Tryd.underlying54 (by rfl) (show _ = some 2 from infoRA)) rfl
            ⟨rfl, (HQ.out.setCell (Nat.le_refl _) _).setCell (Nat.le_refl _) _⟩
        · have k1 := (HQ.out.cell (p := ⟨b, o + 1, none⟩) LB.out).trans K1.out
          have HM : Hid (∀ W, Calls Tryd.prog 44 #[.int .i64 6] W fun e w' => e = .returned (.int .i64 65535) ∧ W = w') := Lib.hid fun W => most_at 5 W
          have hmm : (u : Int) > 65535 := by
            have h := hmay
            unfold mayA at h
            simp [mostA] at h
            omega
          have gg : decide ((u : Int) > 65535) = true := by simp; omega
          go_wp2_with (first
            | (go_at_call 43; refine (HN.out _).mono ?_; rintro e w7 ⟨rfl, rfl⟩)
            | (go_at_call 44; refine (HM.out _).mono ?_; rintro e w8 ⟨rfl, rfl⟩))
          exact bodyPost_ret (results_ctt9 Tryd.results22 _ _ w.heap.size _ _ (0, 0) _ (.int .i64 0) (.int .i64 16) (by rfl) (by rfl) (by rfl) (show RowC _ w.heap.size #[.int .i64 0, .int .i64 0] 54 from (Q2.out.set 0 (.int .i64 0)).set 1 (.int .i64 0)) Tryd.underlying54 (by rfl) (show _ = some 2 from infoRA)) rfl
            ⟨rfl, (HQ.out.setCell (Nat.le_refl _) _).setCell (Nat.le_refl _) _⟩
end Go.Proofs.YtplnaejbfanioaaDoor
