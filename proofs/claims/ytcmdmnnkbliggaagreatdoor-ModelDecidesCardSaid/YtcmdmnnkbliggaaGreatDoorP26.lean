/-
  Layer 17: the laws' own of, rule, conds, light.
-/
import Derived.Test.YtcmdmnnkbliggaaGreatDoorP7
import Derived.Deep.RegionHeld3
import Derived.Test.YtcmdmnnkbliggaaGreatDoorP10
import Derived.Test.YtcmdmnnkbliggaaGreatDoorP22
namespace Go.Proofs.YtcmdmnnkbliggaaGreatDoor
open Go.RowKit Go.Shelf
set_option linter.unusedVariables false

set_option maxRecDepth 100000 in
set_option maxHeartbeats 2000000 in
theorem conds17_any (a o : Int) (m v : Nat) (w : World) : Calls Tryz.prog 111 #[.agg (condA a o m v)] w fun e w' => e = .returned (.agg (condA a o m v)) ∧ Below w.heap.size w w' := by
  obtain ⟨W0, hW0⟩ : ∃ W, (w.alloc (.cells (condA a o m v) 109)).alloc (.cells zN 61) = W := ⟨_, rfl⟩
  have HB := Lib.hid (show Below w.heap.size w W0 by rw [← hW0]; exact ((Below.refl _ _).alloc (Nat.le_refl _) _).alloc (by simp) _)
  have HP := Lib.hid (show RowC W0 w.heap.size (condA a o m v) 109 by rw [← hW0]; exact (RowC.new _ _ _ _ rfl).alloc _)
  have HR := Lib.hid (show RowC W0 (w.heap.size + 1) zN 61 by rw [← hW0]; exact RowC.new _ _ _ _ (by simp))
  have HW := Lib.hid hW0
  clear hW0
  go_enter Tryz.func111, Tryz.ntmps111
  go_upto_region 1 with fail
  rw [HW.out]
  have x0 := HP.out.cell 0 (.int .i64 a) rfl
  have x1 := HP.out.cell 1 (.int .i64 o) rfl
  have x2 := HP.out.cell 2 (.int .u64 m) rfl
  have x3 := HP.out.cell 3 (.int .u64 v) rfl
  have z0 := HR.out.cell 0 (.int .i64 0) rfl
  have z1 := HR.out.cell 1 (.int .i64 0) rfl
  have z2 := HR.out.cell 2 (.int .u64 0) rfl
  have z3 := HR.out.cell 3 (.int .u64 0) rfl
  have y0 := HR.out.frozen 0
  have y1 := HR.out.frozen 1
  have y2 := HR.out.frozen 2
  have y3 := HR.out.frozen 3
  go_wp2
  exact bodyPost_ret (results_cN Tryz.results111 _ _ (w.heap.size + 1) _ (condA a o m v) (0, 0) _ (by rfl) (set4N HR.out) Tryz.underlying61 (by rfl) infoN) rfl ⟨rfl, below4N HB.out (by omega) _ _ _ _⟩
set_option maxRecDepth 100000 in
set_option maxHeartbeats 4000000 in
theorem light17_any (k u : Int) (x : Bool) (A : Option Addr) (n c : Nat) (R : Nat → RL) (w : World) (hc : n ≤ c) (hm : c ≤ maxLen) (hR : RlA w A n R) :
    Calls Tryz.prog 29 #[.agg (polA k u x A n c)] w fun e w' => (∃ b, e = .returned (.bool b) ∧ (b = true → LightP n R)) ∧ Below w.heap.size w w' := by
  obtain ⟨W0, hW0⟩ : ∃ W, w.alloc (.cells (polA k u x A n c) 39) = W := ⟨_, rfl⟩
  have HB := Lib.hid (show Below w.heap.size w W0 by rw [← hW0]; exact (Below.refl _ _).alloc (Nat.le_refl _) _)
  have HP := Lib.hid (show RowC W0 w.heap.size (polA k u x A n c) 39 by rw [← hW0]; exact RowC.new _ _ _ _ rfl)
  have HR := Lib.hid (hR.below HB.out (Nat.le_refl _))
  have HW := Lib.hid hW0
  have x3 := HP.out.cell 3 (.slice A n c) rfl
  clear hW0 hR
  by_cases h40 : n ≤ 40
  · have q0 : decide ((n : Int) > 40) = false := decide_eq_false (by omega)
    go_enter Tryz.func29, Tryz.ntmps29
    go_upto_region 1 with fail
    rw [HW.out]
    go_wp2
    go_loopw [3] (fun i wr => ∃ q : Nat, q ≤ n ∧ i = .int .i64 q ∧ wr = W0 ∧ Hid (∀ j, j < q → (R j).nm.size ≤ 60 ∧ (R j).n ≤ 12)) (fun i _ => n - (intOf i).toNat)
    case atStart => exact ⟨0, Nat.zero_le _, rfl, rfl, Lib.hid fun j hj => absurd hj (Nat.not_lt_zero _)⟩
    case round =>
      obtain ⟨q, hq, rfl, rfl, hok⟩ := hrel
      by_cases hlt : q < n
      · rcases HR.out with h0 | ⟨b, o, rfl, hb, hcs⟩
        · omega
        · obtain ⟨c0, _, _, c3, _⟩ := hcs q hlt
          have i1 : (0 : Int) ≤ (q : Int) := by omega
          have i2 : (q : Int) < (n : Int) := by omega
          rw [Nat.add_zero] at c0
          clear hcs
          by_cases h60 : (R q).nm.size ≤ 60
          · have q1 : decide (((R q).nm.size : Int) > 60) = false := decide_eq_false (by omega)
            by_cases h12 : (R q).n ≤ 12
            · have q2 : decide (((R q).n : Int) > 12) = false := decide_eq_false (by omega)
              go_wp2
              exact ⟨⟨q + 1, by omega, by go_num, trivial, Lib.hid fun j hj => by
                by_cases e : j = q
                · subst e; exact ⟨h60, h12⟩
                · exact hok.out j (by omega)⟩, by simp [intOf]; omega⟩
            · have q2 : decide (((R q).n : Int) > 12) = true := decide_eq_true (by omega)
              go_wp2
              go_ret
              exact ⟨⟨false, rfl, fun h => by cases h⟩, HB.out⟩
          · have q1 : decide (((R q).nm.size : Int) > 60) = true := decide_eq_true (by omega)
            go_wp2
            go_ret
            exact ⟨⟨false, rfl, fun h => by cases h⟩, HB.out⟩
      · obtain rfl : q = n := by omega
        go_wp2
        go_ret
        exact ⟨⟨true, rfl, fun _ => ⟨h40, hok.out⟩⟩, HB.out⟩
  · have q0 : decide ((n : Int) > 40) = true := decide_eq_true (by omega)
    go_enter Tryz.func29, Tryz.ntmps29
    go_upto_region 1 with fail
    rw [HW.out]
    go_wp2
    go_ret
    exact ⟨⟨false, rfl, fun h => by cases h⟩, HB.out⟩
set_option maxRecDepth 100000 in
set_option maxHeartbeats 8000000 in
theorem rule17_any (nm : ByteArray) (k u : Int) (A : Option Addr) (n c : Nat) (C : Nat → CD) (w : World) (hn : n ≤ 12) (hC : ConA w A n C) :
    Calls Tryz.prog 65 #[.agg (rulA nm k u A n c)] w fun e w' => ∃ A' c', e = .returned (.agg (rulA nm k u A' n c')) ∧ OwnC w' w.heap.size 61 4 A' n c' (ccell C) ∧ Below w.heap.size w w' := by
  obtain ⟨B, hBs⟩ : ∃ B, w.heap.size = B := ⟨_, rfl⟩
  obtain ⟨W0, hW0⟩ : ∃ W, (w.alloc (.cells (rulA nm k u A n c) 108)).alloc (.cells (rulA ⟨#[]⟩ 0 0 none 0 0) 57) = W := ⟨_, rfl⟩
  obtain ⟨W1, hW1⟩ : ∃ W, W0.alloc (.cells (rulA nm k u none 0 0) 57) = W := ⟨_, rfl⟩
  have hs0 : W0.heap.size = B + 2 := by rw [← hW0, ← hBs]; simp
  have hs1 : W1.heap.size = B + 3 := by rw [← hW1]; simp; omega
  have HB := Lib.hid (show Below B w W1 by rw [← hW1, ← hW0, ← hBs]; exact (((Below.refl _ _).alloc (Nat.le_refl _) _).alloc (by simp) _).alloc (by simp; omega) _)
  have HP := Lib.hid (show RowC W1 B (rulA nm k u A n c) 108 by rw [← hW1, ← hW0, ← hBs]; exact ((RowC.new _ _ _ _ rfl).alloc _).alloc _)
  have HP0 := Lib.hid (show RowC W0 B (rulA nm k u A n c) 108 by rw [← hW0, ← hBs]; exact (RowC.new _ _ _ _ rfl).alloc _)
  have HR := Lib.hid (show RowC W1 (B + 1) (rulA ⟨#[]⟩ 0 0 none 0 0) 57 by rw [← hW1, ← hW0, ← hBs]; exact (RowC.new _ _ _ _ (by simp)).alloc _)
  have HX := Lib.hid (show RowC W1 (B + 2) (rulA nm k u none 0 0) 57 by rw [← hW1]; exact RowC.new _ _ _ _ hs0.symm)
  have HC := Lib.hid hC
  have HW0 := Lib.hid hW0
  have HW1 := Lib.hid hW1
  have HS := Lib.hid (And.intro hs0 hs1)
  have HBS := Lib.hid hBs
  clear hW0 hW1 hC
  have z0 := HP0.out.cell 0 (.string nm) rfl
  have z1 := HP0.out.cell 1 (.int .i64 k) rfl
  have z2 := HP0.out.cell 2 (.int .i64 u) rfl
  have z3 := HP0.out.cell 3 (.slice A n c) rfl
  clear hs1
  go_enter Tryz.func65, Tryz.ntmps65
  go_upto_region 1 with fail
  rw [HW0.out]
  go_upto_region 2 with fail
  rw [HW1.out]
  clear z0 z1 z2 z3
  go_wp2
  go_loopw [4] (fun i wr => ∃ (q : Nat) (A' : Option Addr) (c' : Nat), q ≤ n ∧ i = .int .i64 q ∧ Hid (OwnC wr (B + 3) 61 4 A' q c' (ccell C) ∧ RowC wr (B + 2) (rulA nm k u A' q c') 57 ∧ RowC wr B (rulA nm k u A n c) 108 ∧ RowC wr (B + 1) (rulA ⟨#[]⟩ 0 0 none 0 0) 57 ∧ Below B w wr ∧ B + 3 ≤ wr.heap.size))
    (fun i _ => n - (intOf i).toNat)
  case atStart => exact ⟨0, none, 0, Nat.zero_le _, rfl, Lib.hid ⟨OwnC.nil_, HX.out, HP.out, HR.out, HB.out, by rw [HS.out.2]; exact Nat.le_refl _⟩⟩
  case round =>
    obtain ⟨q, A', c', hq, rfl, HI⟩ := hrel
    by_cases hlt : q < n
    · have hcb := HC.out.below HI.out.2.2.2.2.1 (by rw [HBS.out]; exact Nat.le_refl _)
      rcases HC.out with h0 | ⟨bb, o, rfl, hbl, _⟩
      · omega
      rcases hcb with h0 | ⟨bb', o', he, hbl', hcs⟩
      · omega
      obtain ⟨rfl, rfl⟩ : bb = bb' ∧ o = o' := by simpa using he
      obtain ⟨q0, q1, q2, q3, _, _⟩ := hcs q hlt
      obtain ⟨r, hr⟩ : ∃ r, C q = r := ⟨_, rfl⟩
      have HCat := Lib.hid (ccell_cat C q r hr)
      rw [hr] at q0 q1 q2 q3
      rw [Nat.add_zero] at q0
      have i1 : (0 : Int) ≤ (q : Int) := by omega
      have i2 : (q : Int) < (n : Int) := by omega
      have x3 := HI.out.2.1.cell 3 (.slice A' q c') rfl
      have p3 := HI.out.2.2.1.cell 3 (.slice (some ⟨bb, o, none⟩) n c) rfl
      have hk0 : Below wr.heap.size wr wr.drew := (Below.refl _ wr).drew
      have hbb : bb < B := by rw [← HBS.out]; exact hbl
      have hk00 : Below (B + 3) wr wr.drew := (Below.refl _ wr).drew
      have HS0 : Hid (∀ X, Below (B + 3) wr X → X.cell? ⟨B + 2, 3, none⟩ = some (.slice A' q c') ∧ X.cell? ⟨B, 3, none⟩ = some (.slice (some ⟨bb, o, none⟩) n c) ∧ X.cell? ⟨bb, o + q * 4, none⟩ = some (.int .i64 r.a) ∧ X.cell? ⟨bb, o + q * 4 + 1, none⟩ = some (.int .i64 r.o) ∧ X.cell? ⟨bb, o + q * 4 + 2, none⟩ = some (.int .u64 r.m) ∧ X.cell? ⟨bb, o + q * 4 + 3, none⟩ = some (.int .u64 r.v)) :=
        Lib.hid fun X hX => ⟨(HI.out.2.1.below hX (by omega)).cell 3 _ rfl, (HI.out.2.2.1.below hX (by omega)).cell 3 _ rfl, (hX.cell (p := ⟨bb, o + q * 4, none⟩) (Nat.lt_of_lt_of_le hbb (by omega))).trans q0, (hX.cell (p := ⟨bb, o + q * 4 + 1, none⟩) (Nat.lt_of_lt_of_le hbb (by omega))).trans q1, (hX.cell (p := ⟨bb, o + q * 4 + 2, none⟩) (Nat.lt_of_lt_of_le hbb (by omega))).trans q2, (hX.cell (p := ⟨bb, o + q * 4 + 3, none⟩) (Nat.lt_of_lt_of_le hbb (by omega))).trans q3⟩
      clear hcs hr he q0 q1 q2 q3 hs0 hBs
      go_wp2_with fail
      obtain ⟨d0, d1, d2, d3, d4, d5⟩ := HS0.out wr (Below.refl _ _)
      clear HP0 HW0 HW1 HP HR HX
      go_region_law
        (first
          | (go_simp
             refine (conds17_any _ _ _ _ _).mono ?_
             rintro e w7 ⟨rfl, hB7⟩
             have hk1 : Below wr.heap.size wr w7 := by first | exact hB7 | exact bTr hk0 hB7
             have hk11 := hk1.mono HI.out.2.2.2.2.2
             have d0 := (HS0.out w7 hk11).1
             have d1 := (HS0.out w7 hk11).2.1
             have d0' : ∀ ob, (w7.alloc ob).cell? ⟨B + 2, 3, none⟩ = some (.slice A' q c') := fun ob => ((HI.out.2.1.below hk11 (by omega)).alloc ob).cell 3 _ rfl)
          | (refine step_cellsR (by rfl) _ _ _ 61 (by rfl) Tryz.underlying55 infoC2 (by rfl) (by decide) (by rfl) ((HI.out.1.below hk1 (Nat.le_refl _)).alloc _) (by rfl) (one_cond w7 r 61) (crow_one r) (by unfold maxLen; omega) (by omega) (by have := hk1.size; have := HI.out.2.2.2.2.2; simp; omega) (q + 1) rfl (ccell C) HCat.out ?_
             rintro A2 c2 w2 hown2 hB2
             have hk2 : Below (B + 3) wr w2 := (hk1.mono HI.out.2.2.2.2.2).trans (((Below.refl _ w7).alloc (by have := hk1.size; have := HI.out.2.2.2.2.2; omega) _).trans hB2)
             have hx2 := HI.out.2.1.below hk2 (by omega)
             have x3 := hx2.cell 3 (.slice A' q c') rfl
             have y3 := hx2.frozen 3
             skip)
          | (refine step_cellsR (by rfl) _ _ _ 61 (by rfl) Tryz.underlying55 infoC2 (by rfl) (by decide) (by rfl) (((HI.out.1.below hk1 (Nat.le_refl _)).alloc _).drew) (by rfl) (one_cond w7 r 61) (crow_one r) (by unfold maxLen; omega) (by omega) (by have := hk1.size; have := HI.out.2.2.2.2.2; simp; omega) (q + 1) rfl (ccell C) HCat.out ?_
             rintro A2 c2 w2 hown2 hB2
             have hk2 : Below (B + 3) wr w2 := (hk1.mono HI.out.2.2.2.2.2).trans (((Below.refl _ w7).alloc (by have := hk1.size; have := HI.out.2.2.2.2.2; omega) _).trans hB2)
             have hx2 := HI.out.2.1.below hk2 (by omega)
             have x3 := hx2.cell 3 (.slice A' q c') rfl
             have y3 := hx2.frozen 3))
      all_goals go_wp2
      all_goals exact ⟨⟨q + 1, A2, c2, by omega, by go_num, Lib.hid ⟨hown2.set_low (by omega) 3 _, hx2.set 3 (.slice A2 (q + 1) c2), (HI.out.2.2.1.below hk2 (by omega)).setOther 3 _ (by omega), (HI.out.2.2.2.1.below hk2 (by omega)).setOther 3 _ (by omega), (HI.out.2.2.2.2.1.trans (hk2.mono (by omega))).setCell (by show B ≤ B + 2; omega) _, by have := hk2.size; have := HI.out.2.2.2.2.2; simp; omega⟩⟩, by simp [intOf]; omega⟩
    · obtain rfl : q = n := by omega
      have x0 := HI.out.2.1.cell 0 (.string nm) rfl
      have x1 := HI.out.2.1.cell 1 (.int .i64 k) rfl
      have x2 := HI.out.2.1.cell 2 (.int .i64 u) rfl
      have x3 := HI.out.2.1.cell 3 (.slice A' q c') rfl
      have p3 := HI.out.2.2.1.cell 3 (.slice A q c) rfl
      have z0 := HI.out.2.2.2.1.cell 0 (.string ⟨#[]⟩) rfl
      have z1 := HI.out.2.2.2.1.cell 1 (.int .i64 0) rfl
      have z2 := HI.out.2.2.2.1.cell 2 (.int .i64 0) rfl
      have z3 := HI.out.2.2.2.1.cell 3 (.slice none 0 0) rfl
      have y0 := HI.out.2.2.2.1.frozen 0
      have y1 := HI.out.2.2.2.1.frozen 1
      have y2 := HI.out.2.2.2.1.frozen 2
      have y3 := HI.out.2.2.2.1.frozen 3
      go_wp2
      exact bodyPost_ret (results_cN Tryz.results65 _ _ (B + 1) _ (rulA nm k u A' q c') (0, 0) _ (by rfl) (set4U HI.out.2.2.2.1) Tryz.underlying57 (by rfl) infoRu) rfl
        ⟨A', c', rfl, ((((HI.out.1.set_low (by omega) 0 _).set_low (by omega) 1 _).set_low (by omega) 2 _).set_low (by omega) 3 _).lower (by rw [HBS.out]; omega), by rw [HBS.out]; exact below4N HI.out.2.2.2.2.1 (by omega) _ _ _ _⟩
set_option maxRecDepth 100000 in
set_option maxHeartbeats 8000000 in
theorem of17_any (k u : Int) (x : Bool) (A : Option Addr) (n c : Nat) (R : Nat → RL) (w : World) (hn : n ≤ 40) (hl : ∀ i, i < n → (R i).n ≤ 12) (hR : RlA w A n R) :
    Calls Tryz.prog 33 #[.agg (polA k u x A n c)] w fun e w' => ∃ A' c' l, e = .returned (.agg (polA k u x A' n c')) ∧ l.length = n ∧ RowL w' w.heap.size A' l c' ∧ l.map RL.val = (List.range n).map (fun i => (R i).val) ∧ Below w.heap.size w w' := by
  obtain ⟨B, hBs⟩ : ∃ B, w.heap.size = B := ⟨_, rfl⟩
  obtain ⟨W0, hW0⟩ : ∃ W, (w.alloc (.cells (polA k u x A n c) 39)).alloc (.cells zPol 26) = W := ⟨_, rfl⟩
  obtain ⟨W1, hW1⟩ : ∃ W, W0.alloc (.cells (polA k u x none 0 0) 26) = W := ⟨_, rfl⟩
  have hs0 : W0.heap.size = B + 2 := by rw [← hW0, ← hBs]; simp
  have hs1 : W1.heap.size = B + 3 := by rw [← hW1]; simp; omega
  have HB := Lib.hid (show Below B w W1 by rw [← hW1, ← hW0, ← hBs]; exact (((Below.refl _ _).alloc (Nat.le_refl _) _).alloc (by simp) _).alloc (by simp; omega) _)
  have HP := Lib.hid (show RowC W1 B (polA k u x A n c) 39 by rw [← hW1, ← hW0, ← hBs]; exact ((RowC.new _ _ _ _ rfl).alloc _).alloc _)
  have HP0 := Lib.hid (show RowC W0 B (polA k u x A n c) 39 by rw [← hW0, ← hBs]; exact (RowC.new _ _ _ _ rfl).alloc _)
  have HZ := Lib.hid (show RowC W1 (B + 1) zPol 26 by rw [← hW1, ← hW0, ← hBs]; exact (RowC.new _ _ _ _ (by simp)).alloc _)
  have HX := Lib.hid (show RowC W1 (B + 2) (polA k u x none 0 0) 26 by rw [← hW1]; exact RowC.new _ _ _ _ hs0.symm)
  have HR := Lib.hid hR
  have HL := Lib.hid hl
  have HW0 := Lib.hid hW0
  have HW1 := Lib.hid hW1
  have HS := Lib.hid (And.intro hs0 hs1)
  have HBS := Lib.hid hBs
  clear hW0 hW1 hR hl
  have z0 := HP0.out.cell 0 (.int .i64 k) rfl
  have z1 := HP0.out.cell 1 (.int .i64 u) rfl
  have z2 := HP0.out.cell 2 (.bool x) rfl
  have z3 := HP0.out.cell 3 (.slice A n c) rfl
  clear hs1
  go_enter Tryz.func33, Tryz.ntmps33
  go_upto_region 1 with fail
  rw [HW0.out]
  go_upto_region 2 with fail
  rw [HW1.out]
  clear z0 z1 z2 z3
  go_wp2
  go_loopw [4] (fun i wr => ∃ (q : Nat) (A' : Option Addr) (c' : Nat) (l : List RL), q ≤ n ∧ i = .int .i64 q ∧ Hid (l.length = q ∧ RowL wr (B + 3) A' l c' ∧ l.map RL.val = (List.range q).map (fun i => (R i).val) ∧ RowC wr (B + 2) (polA k u x A' q c') 26 ∧ RowC wr B (polA k u x A n c) 39 ∧ RowC wr (B + 1) zPol 26 ∧ Below B w wr ∧ B + 3 ≤ wr.heap.size))
    (fun i _ => n - (intOf i).toNat)
  case atStart => exact ⟨0, none, 0, [], Nat.zero_le _, rfl, Lib.hid ⟨rfl, RowL.nil_ _ _, rfl, HX.out, HP.out, HZ.out, HB.out, by rw [HS.out.2]; exact Nat.le_refl _⟩⟩
  case round =>
    obtain ⟨q, A', c', l, hq, rfl, HI⟩ := hrel
    by_cases hlt : q < n
    · have hRr := HR.out.below HI.out.2.2.2.2.2.2.1 (by rw [HBS.out]; exact Nat.le_refl _)
      rcases HR.out with h0 | ⟨bb, o, rfl, hbl, _⟩
      · omega
      rcases hRr with h0 | ⟨bb', o', he, hbl', hcs⟩
      · omega
      obtain ⟨rfl, rfl⟩ : bb = bb' ∧ o = o' := by simpa using he
      obtain ⟨q0, q1, q2, q3, v1, v2, v3, v4, v5, v6⟩ := hcs q hlt
      obtain ⟨r, hr⟩ : ∃ r, R q = r := ⟨_, rfl⟩
      have h12 : r.n ≤ 12 := by rw [← hr]; exact HL.out q hlt
      have HVal := Lib.hid (show r.val = (R q).val by rw [hr])
      rw [hr] at q0 q1 q2 q3 v1 v2 v3 v4 v5 v6
      rw [Nat.add_zero] at q0
      have i1 : (0 : Int) ≤ (q : Int) := by omega
      have i2 : (q : Int) < (n : Int) := by omega
      have x3 := HI.out.2.2.2.1.cell 3 (.slice A' q c') rfl
      have p3 := HI.out.2.2.2.2.1.cell 3 (.slice (some ⟨bb, o, none⟩) n c) rfl
      have hk0 : Below wr.heap.size wr wr.drew := (Below.refl _ wr).drew
      have hbb : bb < B := by rw [← HBS.out]; exact hbl
      have HS0 : Hid (∀ X, Below (B + 3) wr X → X.cell? ⟨B + 2, 3, none⟩ = some (.slice A' q c') ∧ X.cell? ⟨B, 3, none⟩ = some (.slice (some ⟨bb, o, none⟩) n c) ∧ X.cell? ⟨bb, o + q * 4, none⟩ = some (.string r.nm) ∧ X.cell? ⟨bb, o + q * 4 + 1, none⟩ = some (.int .i64 r.k) ∧ X.cell? ⟨bb, o + q * 4 + 2, none⟩ = some (.int .i64 r.u) ∧ X.cell? ⟨bb, o + q * 4 + 3, none⟩ = some (.slice r.A r.n r.c)) :=
        Lib.hid fun X hX => ⟨(HI.out.2.2.2.1.below hX (by omega)).cell 3 _ rfl, (HI.out.2.2.2.2.1.below hX (by omega)).cell 3 _ rfl, (hX.cell (p := ⟨bb, o + q * 4, none⟩) (Nat.lt_of_lt_of_le hbb (by omega))).trans q0, (hX.cell (p := ⟨bb, o + q * 4 + 1, none⟩) (Nat.lt_of_lt_of_le hbb (by omega))).trans q1, (hX.cell (p := ⟨bb, o + q * 4 + 2, none⟩) (Nat.lt_of_lt_of_le hbb (by omega))).trans q2, (hX.cell (p := ⟨bb, o + q * 4 + 3, none⟩) (Nat.lt_of_lt_of_le hbb (by omega))).trans q3⟩
      have HCL : Hid (∀ X, Below wr.heap.size wr X → Calls Tryz.prog 65 #[.agg (rulA r.nm r.k r.u r.A r.n r.c)] X fun e w' => ∃ A' c', e = .returned (.agg (rulA r.nm r.k r.u A' r.n c')) ∧ RuT w' ⟨r.nm, r.k, r.u, A', r.n, c', r.C⟩ ∧ Below X.heap.size X w') := by
        refine Lib.hid fun X hX => (rule17_any r.nm r.k r.u r.A r.n r.c r.C X h12 (v6.below hX (Nat.le_refl _))).mono ?_
        rintro e w7 ⟨A7, c7, rfl, hown, hB7⟩
        have hbd : ∀ i, i < r.n → (r.C i).m ≤ 18446744073709551615 ∧ (r.C i).v ≤ 18446744073709551615 := fun i hi => by
          rcases v6 with h0 | ⟨b9, o9, _, _, hc9⟩
          · omega
          · exact ⟨(hc9 i hi).2.2.2.2.1, (hc9 i hi).2.2.2.2.2⟩
        have := ConT.of_own hown hbd
        exact ⟨A7, c7, rfl, ⟨v1, v2, v3, this.2.1, this.2.2, this.1⟩, hB7⟩
      have hlen := HI.out.1
      have HLN := Lib.hid hlen
      clear hcs hr he q0 q1 q2 q3 hs0 hBs v1 v2 v3 v4 v5 v6 hlen
      go_wp2_with fail
      obtain ⟨d0, d1, d2, d3, d4, d5⟩ := HS0.out wr (Below.refl _ _)
      clear HP0 HW0 HW1 HP HR HX HZ
      go_region_law
        (first
          | (go_simp
             refine (HCL.out _ (by first | exact hk0 | exact Below.refl _ _)).mono ?_
             rintro e w7 ⟨A7, c7, rfl, hru7, hB7⟩
             have hk1 : Below wr.heap.size wr w7 := by first | exact hB7 | exact bTr hk0 hB7
             have hk11 := hk1.mono HI.out.2.2.2.2.2.2.2
             have d0 := (HS0.out w7 hk11).1
             have d1 := (HS0.out w7 hk11).2.1
             have d0' : ∀ ob, (w7.alloc ob).cell? ⟨B + 2, 3, none⟩ = some (.slice A' q c') := fun ob => ((HI.out.2.2.2.1.below hk11 (by omega)).alloc ob).cell 3 _ rfl)
          | (refine step_rule (by rfl) _ _ (by rfl) (l := l) (by rw [HLN.out]; rfl) ((HI.out.2.1.below hk1 (Nat.le_refl _)).alloc _) (r := ⟨r.nm, r.k, r.u, A7, r.n, c7, r.C⟩) (by rfl) (RowC.new _ _ _ _ (by rfl)) (hru7.keep ((KeepC.refl _).alloc _)) (by rw [HLN.out]; omega) (by have := hk1.size; have := HI.out.2.2.2.2.2.2.2; simp; omega) ?_
             rintro g2 c2 w2 hown2 _ _ _ hB2
             have hk2 : Below (B + 3) wr w2 := (hk1.mono HI.out.2.2.2.2.2.2.2).trans (((Below.refl _ w7).alloc (by have := hk1.size; have := HI.out.2.2.2.2.2.2.2; omega) _).trans hB2)
             have hx2 := HI.out.2.2.2.1.below hk2 (by omega)
             have x3 := hx2.cell 3 (.slice A' q c') rfl
             have y3 := hx2.frozen 3
             skip)
          | (refine step_rule (by rfl) _ _ (by rfl) (l := l) (by rw [HLN.out]; rfl) (((HI.out.2.1.below hk1 (Nat.le_refl _)).alloc _).drew) (r := ⟨r.nm, r.k, r.u, A7, r.n, c7, r.C⟩) (by rfl) (RowC.new _ _ _ _ (by rfl)) (hru7.keep (((KeepC.refl _).alloc _).drew)) (by rw [HLN.out]; omega) (by have := hk1.size; have := HI.out.2.2.2.2.2.2.2; simp; omega) ?_
             rintro g2 c2 w2 hown2 _ _ _ hB2
             have hk2 : Below (B + 3) wr w2 := (hk1.mono HI.out.2.2.2.2.2.2.2).trans (((Below.refl _ w7).alloc (by have := hk1.size; have := HI.out.2.2.2.2.2.2.2; omega) _).trans hB2)
             have hx2 := HI.out.2.2.2.1.below hk2 (by omega)
             have x3 := hx2.cell 3 (.slice A' q c') rfl
             have y3 := hx2.frozen 3))
      all_goals go_wp2
      all_goals exact ⟨⟨q + 1, some ⟨g2, 0, none⟩, c2, l ++ [⟨r.nm, r.k, r.u, A7, r.n, c7, r.C⟩], by omega, by go_num, Lib.hid ⟨by simp [HLN.out], hown2.setLow hx2.ty (by decide) (by decide) 3 _, by rw [List.map_append, List.range_succ, List.map_append, HI.out.2.2.1]; show _ ++ [r.val] = _ ++ [(R q).val]; rw [HVal.out], by rw [← HLN.out]; exact hx2.set 3 (.slice (some ⟨g2, 0, none⟩) (l.length + 1) c2), (HI.out.2.2.2.2.1.below hk2 (by omega)).setOther 3 _ (by omega), (HI.out.2.2.2.2.2.1.below hk2 (by omega)).setOther 3 _ (by omega), (HI.out.2.2.2.2.2.2.1.trans (hk2.mono (by omega))).setCell (by show B ≤ B + 2; omega) _, by have := hk2.size; have := HI.out.2.2.2.2.2.2.2; simp; omega⟩⟩, by simp [intOf]; omega⟩
    · obtain rfl : q = n := by omega
      have x0 := HI.out.2.2.2.1.cell 0 (.int .i64 k) rfl
      have x1 := HI.out.2.2.2.1.cell 1 (.int .i64 u) rfl
      have x2 := HI.out.2.2.2.1.cell 2 (.bool x) rfl
      have x3 := HI.out.2.2.2.1.cell 3 (.slice A' q c') rfl
      have p3 := HI.out.2.2.2.2.1.cell 3 (.slice A q c) rfl
      have z0 := HI.out.2.2.2.2.2.1.cell 0 (.int .i64 0) rfl
      have z1 := HI.out.2.2.2.2.2.1.cell 1 (.int .i64 0) rfl
      have z2 := HI.out.2.2.2.2.2.1.cell 2 (.bool false) rfl
      have z3 := HI.out.2.2.2.2.2.1.cell 3 (.slice none 0 0) rfl
      have y0 := HI.out.2.2.2.2.2.1.frozen 0
      have y1 := HI.out.2.2.2.2.2.1.frozen 1
      have y2 := HI.out.2.2.2.2.2.1.frozen 2
      have y3 := HI.out.2.2.2.2.2.1.frozen 3
      go_wp2
      have s0 := HI.out.2.2.2.2.2.1
      have s1 := s0.set 0 (.int .i64 k)
      have s2 := s1.set 1 (.int .i64 u)
      have s3 := s2.set 2 (.bool x)
      exact bodyPost_ret (results_cN Tryz.results33 _ _ (B + 1) _ (polA k u x A' q c') (0, 0) _ (by rfl) (set4U HI.out.2.2.2.2.2.1) Tryz.underlying26 (by rfl) infoPol) rfl
        ⟨A', c', l, rfl, HI.out.1, ((((HI.out.2.1.setLow s0.ty (by decide) (by decide) 0 _).setLow s1.ty (by decide) (by decide) 1 _).setLow s2.ty (by decide) (by decide) 2 _).setLow s3.ty (by decide) (by decide) 3 _).lower (by rw [HBS.out]; omega), HI.out.2.2.1, by rw [HBS.out]; exact below4N HI.out.2.2.2.2.2.2.1 (by omega) _ _ _ _⟩
end Go.Proofs.YtcmdmnnkbliggaaGreatDoor

/-
  Layer 17: the laws' own rows, few, record.
-/
namespace Go.Proofs.YtcmdmnnkbliggaaGreatDoor
open Go.RowKit Go.Shelf Go.Lib
set_option linter.unusedVariables false

def FewP (n : Nat) (T : Nat → SR) : Prop := n ≤ 40 ∧ ∀ i, i < n → (T i).nm.size ≤ 60
theorem Tb.name {w : World} {b o n : Nat} {T : Nat → SR} (h : Tb w b o n T) (i : Nat) (hi : i < n) : w.cell? ⟨b, o + i * 8, none⟩ = some (.string (T i).nm) := (h.2 i hi).1
set_option maxRecDepth 100000 in
set_option maxHeartbeats 4000000 in
theorem rows17_any (A : Option Addr) (n cap : Nat) (T : Nat → SR) (w : World) (hn : n ≤ 1000) (ht : TbA w A n T) :
    Calls Tryz.prog 39 #[.slice A n cap] w fun e w' => ∃ A' c', e = .returned (.slice A' n c') ∧ OwnC w' w.heap.size 114 8 A' n c' (rcell T) ∧ Below w.heap.size w w' := by
  have HT := Lib.hid ht
  clear ht
  go_enter Tryz.func39, Tryz.ntmps39
  go_wp2
  go_loopw [3, 4] (fun v i wr => ∃ (k : Nat) (A' : Option Addr) (c' : Nat), k ≤ n ∧ i = .int .i64 k ∧ v = .slice A' k c' ∧ OwnC wr w.heap.size 114 8 A' k c' (rcell T) ∧ Below w.heap.size w wr)
    (fun _ i _ => n - (intOf i).toNat)
  case atStart => exact ⟨0, none, 0, Nat.zero_le _, rfl, rfl, OwnC.nil_, Below.refl _ _⟩
  case round =>
    obtain ⟨k, A', c', hk, rfl, rfl, hown, hB⟩ := hrel
    by_cases hlt : k < n
    · rcases HT.out with h0 | ⟨b, o, rfl, hT0⟩
      · omega
      have hTb := hT0.below hB (Nat.le_refl _)
      have hb := hT0.1
      obtain ⟨q0, q1, q2, q3, q4, q5, q6, q7⟩ := hTb.2 k hlt
      obtain ⟨r, hr⟩ : ∃ r, T k = r := ⟨_, rfl⟩
      have HW := Lib.hid (rcell_cat T k r hr)
      rw [hr] at q0 q1 q2 q3 q4 q5 q6 q7
      have i1 : (0 : Int) ≤ (k : Int) := by omega
      have i2 : (k : Int) < (n : Int) := by omega
      clear hTb hr hT0
      go_wp2
      go_region_held3 (fun w' => w'.cell? ⟨b, o + k * 8, none⟩ = some (.string r.nm) ∧ w'.cell? ⟨b, o + k * 8 + 1, none⟩ = some (.int .i64 r.n0) ∧ w'.cell? ⟨b, o + k * 8 + 2, none⟩ = some (.int .i64 r.n1) ∧ w'.cell? ⟨b, o + k * 8 + 3, none⟩ = some (.int .i64 r.n2) ∧ w'.cell? ⟨b, o + k * 8 + 4, none⟩ = some (.int .i64 r.n3) ∧ w'.cell? ⟨b, o + k * 8 + 5, none⟩ = some (.int .i64 r.n4) ∧ w'.cell? ⟨b, o + k * 8 + 6, none⟩ = some (.int .i64 r.mx) ∧ w'.cell? ⟨b, o + k * 8 + 7, none⟩ = some (.int .i64 r.sb))
        (first
          | go_keep
          | exact ⟨(hK.cell (p := ⟨b, o + k * 8, none⟩) hb).trans q0, (hK.cell (p := ⟨b, o + k * 8 + 1, none⟩) hb).trans q1, (hK.cell (p := ⟨b, o + k * 8 + 2, none⟩) hb).trans q2, (hK.cell (p := ⟨b, o + k * 8 + 3, none⟩) hb).trans q3, (hK.cell (p := ⟨b, o + k * 8 + 4, none⟩) hb).trans q4, (hK.cell (p := ⟨b, o + k * 8 + 5, none⟩) hb).trans q5, (hK.cell (p := ⟨b, o + k * 8 + 6, none⟩) hb).trans q6, (hK.cell (p := ⟨b, o + k * 8 + 7, none⟩) hb).trans q7⟩)
        (first | (refine step_cells2 (by rfl) _ _ _ 114 (by rfl) Tryz.underlying48 infoT2 (by rfl) (by decide) (by rfl) (hown.alloc _).drew (by rfl) (one_row wr r 114) (srow_one r) (by unfold maxLen; omega) (by omega) (by have := hB.size; simp; omega) (k + 1) rfl (rcell T) HW.out ?_; rintro A2 c2 w2 hown2 hB2; have hK : Below w.heap.size wr w2 := ((Below.refl _ _).alloc hB.size _).drew.trans hB2))
      go_wp2
      exact ⟨⟨k + 1, A2, c2, by omega, by go_num, rfl, hown2, hB.trans hK⟩, by simp [intOf]; omega⟩
    · obtain rfl : k = n := by omega
      go_wp2
      go_ret
      exact ⟨_, _, rfl, hown, hB⟩
set_option maxRecDepth 100000 in
set_option maxHeartbeats 4000000 in
theorem few17_any (A : Option Addr) (n cap : Nat) (T : Nat → SR) (w : World) (ht : TbA w A n T) :
    Calls Tryz.prog 37 #[.slice A n cap] w fun e w' => ((FewP n T ∧ e = .returned (.bool true)) ∨ (¬ FewP n T ∧ e = .returned (.bool false))) ∧ w = w' := by
  by_cases h40 : n > 40
  · have q0 : (n : Int) > 40 := by omega
    have q1 : decide ((n : Int) > 40) = true := decide_eq_true q0
    have HN : Hid (¬ FewP n T) := Lib.hid fun h => by have := h.1; omega
    clear ht
    go_enter Tryz.func37, Tryz.ntmps37
    go_wp2
    go_ret
    exact ⟨.inr ⟨HN.out, rfl⟩, rfl⟩
  have q0 : ¬ (n : Int) > 40 := by omega
  have q1 : decide ((n : Int) > 40) = false := decide_eq_false q0
  have HT := Lib.hid ht
  clear ht
  go_enter Tryz.func37, Tryz.ntmps37
  go_wp2_with fail
  go_loopw [3] (fun i wr => ∃ k : Nat, k ≤ n ∧ i = .int .i64 k ∧ (∀ i, i < k → (T i).nm.size ≤ 60) ∧ w = wr)
    (fun i _ => n - (intOf i).toNat)
  case atStart => exact ⟨0, by omega, rfl, fun i h => by omega, rfl⟩
  case round =>
    obtain ⟨k, hk, rfl, hall, rfl⟩ := hrel
    have HA := Lib.hid hall
    clear hall
    by_cases hlt : k < n
    · rcases HT.out with h0 | ⟨b, o, rfl, hTb⟩
      · omega
      have c0 := hTb.name k hlt
      clear hTb
      have i1 : (0 : Int) ≤ (k : Int) := by omega
      have i2 : (k : Int) < (n : Int) := by omega
      by_cases hb : (T k).nm.size > 60
      · have g0 : ((T k).nm.size : Int) > 60 := by omega
        have g1 : decide (((T k).nm.size : Int) > 60) = true := decide_eq_true g0
        have HN : Hid (¬ FewP n T) := Lib.hid fun h => by have := h.2 k hlt; omega
        go_wp2
        go_ret
        exact ⟨.inr ⟨HN.out, rfl⟩, rfl⟩
      · have g0 : ¬ ((T k).nm.size : Int) > 60 := by omega
        have g1 : decide (((T k).nm.size : Int) > 60) = false := decide_eq_false g0
        go_wp2
        exact ⟨⟨k + 1, by omega, by go_num, fun i hi => by
          by_cases h : i = k
          · subst h; omega
          · exact HA.out i (by omega), trivial⟩, by simp [intOf]; omega⟩
    · obtain rfl : k = n := by omega
      have i2 : ¬ (k : Int) < (k : Int) := by omega
      have HN : Hid (FewP k T) := Lib.hid ⟨by omega, HA.out⟩
      go_wp2
      go_ret
      exact ⟨.inl ⟨HN.out, rfl⟩, rfl⟩
set_option maxRecDepth 100000 in
set_option maxHeartbeats 4000000 in
theorem record17_any (r : RecV) (w : World) :
    Calls Tryz.prog 40 #[.agg (rcells r)] w fun e w' => e = .returned (.agg (rcells r)) ∧ Below w.heap.size w w' := by
  unfold rcells
  go_enter Tryz.func40, Tryz.ntmps40
  go_wp2
  refine bodyPost_ret (v := .agg (rcells r)) (by simp [results, Tryz.results40, go_sem, rcells]) rfl ⟨rfl, ?_⟩
  exact ((Below.refl _ _).alloc (Nat.le_refl _) _).alloc (by simp) _
end Go.Proofs.YtcmdmnnkbliggaaGreatDoor
