/-
  Layer 15: the laws' own copies of a policy and a table.
-/
import Derived.Test.YtccklmleaffgiaaGreatDoorCpp
import Derived.Test.YtccklmleaffgiaaGreatDoorP10
import Derived.Deep.RegionHeld3
namespace Go.Proofs.YtccklmleaffgiaaGreatDoor
open Go.RowKit Go.Shelf Go.Lib
set_option linter.unusedVariables false

set_option maxRecDepth 100000 in
set_option maxHeartbeats 8000000 in
theorem of15_any (k u : Int) (x : Bool) (A : Option Addr) (n c : Nat) (R : Nat → RL) (w : World) (hn : n ≤ 100) (hl : ∀ i, i < n → (R i).n ≤ 12) (hR : RlA w A n R) :
    Calls Tryz.prog 15 #[.agg (polA k u x A n c)] w fun e w' => ∃ A' c' l, e = .returned (.agg (polA k u x A' n c')) ∧ l.length = n ∧ RowL w' w.heap.size A' l c' ∧ l.map RL.val = (List.range n).map (fun i => (R i).val) ∧ Below w.heap.size w w' := by
  obtain ⟨B, hBs⟩ : ∃ B, w.heap.size = B := ⟨_, rfl⟩
  obtain ⟨W0, hW0⟩ : ∃ W, (w.alloc (.cells (polA k u x A n c) 39)).alloc (.cells zPol 26) = W := ⟨_, rfl⟩
  obtain ⟨W1, hW1⟩ : ∃ W, W0.alloc (.cells (polA k u x none 0 0) 26) = W := ⟨_, rfl⟩
  have hs0 : W0.heap.size = B + 2 := by rw [← hW0, ← hBs]; simp
  have hs1 : W1.heap.size = B + 3 := by rw [← hW1]; simp; omega
  have HB := Lib.hid (show Below B w W1 by rw [← hW1, ← hW0, ← hBs]; exact (((Below.refl _ _).alloc (Nat.le_refl _) _).alloc (by simp) _).alloc (by simp; omega) _)
  have HP := Lib.hid (show RowC W1 B (polA k u x A n c) 39 by rw [← hW1, ← hW0, ← hBs]; exact ((RowC.new _ _ _ _ rfl).alloc _).alloc _)
  have HP0 := Lib.hid (show RowC W0 B (polA k u x A n c) 39 by rw [← hW0, ← hBs]; exact (RowC.new _ _ _ _ rfl).alloc _)
  have HZ := Lib.hid (show RowC W1 (B + 1) zPol 26 by rw [← hW1, ← hW0, ← hBs]; exact (RowC.new _ _ _ _ (by simp)).alloc _)
  have HX := Lib.hid (show RowC W1 (B + 2) (polA k u x none 0 0) 26 by rw [← hW1]; exact RowC.new _ _ _ _ hs0.symm)
  have HR := Lib.hid hR
  have HL := Lib.hid hl
  have HW0 := Lib.hid hW0
  have HW1 := Lib.hid hW1
  have HS := Lib.hid (And.intro hs0 hs1)
  have HBS := Lib.hid hBs
  clear hW0 hW1 hR hl
  have z0 := HP0.out.cell 0 (.int .i64 k) rfl
  have z1 := HP0.out.cell 1 (.int .i64 u) rfl
  have z2 := HP0.out.cell 2 (.bool x) rfl
  have z3 := HP0.out.cell 3 (.slice A n c) rfl
  clear hs1
  go_enter Tryz.func15, Tryz.ntmps15
  go_upto_region 1 with fail
  rw [HW0.out]
  go_upto_region 2 with fail
  rw [HW1.out]
  clear z0 z1 z2 z3
  go_wp2
  go_loopw [4] (fun i wr => ∃ (q : Nat) (A' : Option Addr) (c' : Nat) (l : List RL), q ≤ n ∧ i = .int .i64 q ∧ Hid (l.length = q ∧ RowL wr (B + 3) A' l c' ∧ l.map RL.val = (List.range q).map (fun i => (R i).val) ∧ RowC wr (B + 2) (polA k u x A' q c') 26 ∧ RowC wr B (polA k u x A n c) 39 ∧ RowC wr (B + 1) zPol 26 ∧ Below B w wr ∧ B + 3 ≤ wr.heap.size))
    (fun i _ => n - (intOf i).toNat)
  case atStart => exact ⟨0, none, 0, [], Nat.zero_le _, rfl, Lib.hid ⟨rfl, RowL.nil_ _ _, rfl, HX.out, HP.out, HZ.out, HB.out, by rw [HS.out.2]; exact Nat.le_refl _⟩⟩
  case round =>
    obtain ⟨q, A', c', l, hq, rfl, HI⟩ := hrel
    by_cases hlt : q < n
    · have hRr := HR.out.below HI.out.2.2.2.2.2.2.1 (by rw [HBS.out]; exact Nat.le_refl _)
      rcases HR.out with h0 | ⟨bb, o, rfl, hbl, _⟩
      · omega
      rcases hRr with h0 | ⟨bb', o', he, hbl', hcs⟩
      · omega
      obtain ⟨rfl, rfl⟩ : bb = bb' ∧ o = o' := by simpa using he
      obtain ⟨q0, q1, q2, q3, v1, v2, v3, v4, v5, v6⟩ := hcs q hlt
      obtain ⟨r, hr⟩ : ∃ r, R q = r := ⟨_, rfl⟩
      have h12 : r.n ≤ 12 := by rw [← hr]; exact HL.out q hlt
      have HVal := Lib.hid (show r.val = (R q).val by rw [hr])
      rw [hr] at q0 q1 q2 q3 v1 v2 v3 v4 v5 v6
      rw [Nat.add_zero] at q0
      have i1 : (0 : Int) ≤ (q : Int) := by omega
      have i2 : (q : Int) < (n : Int) := by omega
      have p3 := HI.out.2.2.2.2.1.cell 3 (.slice (some ⟨bb, o, none⟩) n c) rfl
      obtain ⟨nm, kk, uu, AA, nn, cc, CC⟩ := r
      simp only at q0 q1 q2 q3 v1 v2 v3 v4 v5 v6 h12
      obtain ⟨wo, rfl⟩ : ∃ z, z = wr := ⟨_, rfl⟩
      obtain ⟨E, hE⟩ : ∃ E, wo.heap.size = E := ⟨_, rfl⟩
      have hE3 : B + 3 ≤ E := by rw [← hE]; exact HI.out.2.2.2.2.2.2.2
      obtain ⟨W2, hW2⟩ : ∃ W, wo.alloc (.cells (rulA nm kk uu AA nn cc) 68) = W := ⟨_, rfl⟩
      obtain ⟨W3, hW3⟩ : ∃ W, W2.alloc (.cells (rulA nm kk uu none 0 0) 50) = W := ⟨_, rfl⟩
      have hs2 : W2.heap.size = E + 1 := by rw [← hW2, ← hE]; simp
      have hs3 : W3.heap.size = E + 2 := by rw [← hW3]; simp; omega
      have hB2 : Below E wo W2 := by rw [← hW2, ← hE]; exact (Below.refl _ _).alloc (Nat.le_refl _) _
      have hB3 : Below E wo W3 := by rw [← hW3]; exact hB2.alloc (by omega) _
      have hr2 : RowC W2 E (rulA nm kk uu AA nn cc) 68 := by rw [← hW2, ← hE]; exact RowC.new _ _ _ _ rfl
      have HR2 := Lib.hid hr2
      have HR3 := Lib.hid (show RowC W3 E (rulA nm kk uu AA nn cc) 68 by rw [← hW3]; exact hr2.alloc _)
      have HX3 := Lib.hid (show RowC W3 (E + 1) (rulA nm kk uu none 0 0) 50 by rw [← hW3]; exact RowC.new _ _ _ _ hs2.symm)
      have HB3 := Lib.hid hB3
      have HC0 := Lib.hid v6
      have HW2 := Lib.hid hW2
      have HW3 := Lib.hid hW3
      have HE := Lib.hid (And.intro hE (And.intro hs2 hs3))
      have HVV := Lib.hid (And.intro v1 (And.intro v2 v3))
      have t0 := hr2.cell 0 (.string nm) rfl
      have t1 := hr2.cell 1 (.int .i64 kk) rfl
      have t2 := hr2.cell 2 (.int .i64 uu) rfl
      have t3 := hr2.cell 3 (.slice AA nn cc) rfl
      have HBD := Lib.hid (show ∀ i, i < nn → (CC i).m ≤ 18446744073709551615 ∧ (CC i).v ≤ 18446744073709551615 from fun i hi => by
        rcases v6 with h0 | ⟨_, _, _, _, h⟩
        · omega
        · exact ⟨(h i hi).2.2.2.2.1, (h i hi).2.2.2.2.2⟩)
      clear hcs hr he hW2 hW3 hB2 hB3 hr2 v1 v2 v3 v4 v5 v6 hs2 hs3 hs0 hBs
      go_upto_region 6 with fail
      (try rw [hE])
      (try rw [HW2.out])
      go_upto_region 7 with fail
      (try rw [HE.out.2.1])
      (try rw [HW3.out])
      clear hE t0 t1 t2 t3 q0 q1 q2 q3 p3
      go_wp2
      go_loopw [7] (fun iv wy => ∃ (p : Nat) (A5 : Option Addr) (c5 : Nat), p ≤ nn ∧ iv = .int .i64 p ∧ Hid (OwnC wy (E + 2) 53 4 A5 p c5 (ccell CC) ∧ RowC wy (E + 1) (rulA nm kk uu A5 p c5) 50 ∧ Below (E + 1) W3 wy))
        (fun iv _ => nn - (intOf iv).toNat)
      case atStart => exact ⟨0, none, 0, Nat.zero_le _, rfl, Lib.hid ⟨OwnC.nil_, HX3.out, Below.refl _ _⟩⟩
      case round =>
        obtain ⟨p, A5, c5, hp, rfl, HJ⟩ := hrel
        have hsz : E + 2 ≤ wr.heap.size := by have := HJ.out.2.2.size; have := HE.out.2.2; omega
        have hR4 := HR3.out.below HJ.out.2.2 (by omega)
        have r3 := hR4.cell 3 (.slice AA nn cc) rfl
        have hBy : Below E wo wr := HB3.out.trans (HJ.out.2.2.mono (by omega))
        by_cases hlp : p < nn
        · obtain ⟨cx, hcx⟩ : ∃ cx, CC p = cx := ⟨_, rfl⟩
          obtain ⟨cb, co, rfl, c0, c1, c2, c3⟩ := (HC0.out.below hBy (by rw [HE.out.1]; exact Nat.le_refl _)).four hlp hcx
          have HCat := Lib.hid (ccell_cat CC p cx hcx)
          obtain ⟨F, hF⟩ : ∃ F, wr.heap.size = F := ⟨_, rfl⟩
          obtain ⟨W5, hW5⟩ : ∃ W, wr.alloc (.cells #[.int .i64 cx.a, .int .i64 cx.o, .int .u64 cx.m, .int .u64 cx.v] 69) = W := ⟨_, rfl⟩
          have hs5 : W5.heap.size = F + 1 := by rw [← hW5, ← hF]; simp
          have hB5 : Below F wr W5 := by rw [← hW5, ← hF]; exact (Below.refl _ _).alloc (Nat.le_refl _) _
          have hc5 : RowC W5 F #[.int .i64 cx.a, .int .i64 cx.o, .int .u64 cx.m, .int .u64 cx.v] 69 := by rw [← hW5, ← hF]; exact RowC.new _ _ _ _ rfl
          have hx5 := HJ.out.2.1.below hB5 (by omega)
          have HX5 := Lib.hid hx5
          have HO5 := Lib.hid (HJ.out.1.below hB5 (by rw [hF]; exact Nat.le_refl _))
          have HB5 := Lib.hid hB5
          have HW5 := Lib.hid hW5
          have HS5 := Lib.hid (And.intro hF hs5)
          have x3 := hx5.cell 3 (.slice A5 p c5) rfl
          have e0 := hc5.cell 0 (.int .i64 cx.a) rfl
          have e1 := hc5.cell 1 (.int .i64 cx.o) rfl
          have e2 := hc5.cell 2 (.int .u64 cx.m) rfl
          have e3 := hc5.cell 3 (.int .u64 cx.v) rfl
          have j1 : (0 : Int) ≤ (p : Int) := by omega
          have j2 : (p : Int) < (nn : Int) := by omega
          have hsE : E + 2 ≤ W5.heap.size := by omega
          have HSE := Lib.hid hsE
          clear hcx hW5 hs5 hB5 hc5 hx5 hR4
          go_upto_region 11 with fail
          (try rw [hF])
          (try rw [HW5.out])
          clear hF c0 c1 c2 c3
          go_wp2_with (first
            | (at_builtin
               refine app_cells (zv := .agg zN) (z := 4) (by_ := 32) _ rfl _ _ 48 53 rfl Tryz.underlying48 infoC2 rfl (by omega) (base := E + 2) rfl (HO5.out.alloc _) rfl (one_cond W5 cx _) (crow_one cx) (by unfold maxLen; omega) (by omega) (by simp; omega) (p + 1) rfl (ccell CC) HCat.out ?_
               intro A6 c6 w6 hown6 hB6
               have hb6 : Below (E + 2) W5 w6 := ((Below.refl _ W5).alloc HSE.out _).trans hB6
               have hx6 := HX5.out.below hb6 (by omega)
               have x3 := hx6.cell 3 (.slice A5 p c5) rfl
               have y3 := hx6.frozen 3
               have HQ6 := Lib.hid (And.intro hown6 (And.intro hb6 hx6))
               clear hown6 hb6 hx6 hB6))
          obtain ⟨hown6, hb6, hx6⟩ := HQ6.out
          have hsW := HB5.out.size
          refine ⟨⟨p + 1, A6, c6, by omega, by go_num, Lib.hid ⟨ownC_setX hown6 hx6 (by decide) 3 _, hx6.set 3 _, ((HJ.out.2.2.trans (HB5.out.mono (by have := HS5.out.1; omega))).trans (hb6.mono (by omega))).setCell (p := ⟨E + 1, 3, none⟩) (Nat.le_refl _) _⟩⟩, by simp [intOf]; omega⟩
        · obtain rfl : p = nn := by omega
          have j2 : ¬ (p : Int) < (p : Int) := by omega
          have hbd5 : Below (B + 3) wo wr := hBy.mono (by omega)
          have ho4 := HI.out.2.2.2.1.below hBy (by omega)
          have HO4 := Lib.hid ho4
          have o3 := ho4.cell 3 (.slice A' q c') rfl
          have x0 := HJ.out.2.1.cell 0 (.string nm) rfl
          have x1 := HJ.out.2.1.cell 1 (.int .i64 kk) rfl
          have x2 := HJ.out.2.1.cell 2 (.int .i64 uu) rfl
          have x3 := HJ.out.2.1.cell 3 (.slice A5 p c5) rfl
          have hct := ConT.of_own HJ.out.1 HBD.out
          have HRU := Lib.hid (show RuT wr ⟨nm, kk, uu, A5, p, c5, CC⟩ from ⟨HVV.out.1, HVV.out.2.1, HVV.out.2.2, hct.2.1, hct.2.2, hct.1⟩)
          have HRW := Lib.hid (HI.out.2.1.below hBy (by rw [HE.out.1]; exact Nat.le_refl _))
          have HLN := Lib.hid HI.out.1
          have hsz3 : B + 3 ≤ wr.heap.size := by omega
          have HBY := Lib.hid hbd5
          clear hct ho4 hR4 hBy hbd5
          go_wp2_with (first
            | (at_builtin
               refine app_rule (base := B + 3) (l := l) (r := ⟨nm, kk, uu, A5, p, c5, CC⟩) rfl _ _ rfl (by rw [HLN.out]; rfl) (HRW.out.alloc _) rfl (RowC.new _ _ _ _ rfl) (HRU.out.keep ((KeepC.refl _).alloc _)) (by rw [HLN.out]; omega) (by simp; omega) ?_
               rintro g2 c2 w2 hown2 _ _ _ hB2
               have hk2 : Below (B + 3) wo w2 := HBY.out.trans (((Below.refl _ wr).alloc hsz3 _).trans hB2)
               have hx2 := HI.out.2.2.2.1.below hk2 (by omega)
               have x3 := hx2.cell 3 (.slice A' q c') rfl
               have y3 := hx2.frozen 3
               have HQ2 := Lib.hid (And.intro hown2 (And.intro hk2 hx2))
               clear hown2 hk2 hx2 hB2))
          obtain ⟨hown2, hk2, hx2⟩ := HQ2.out
          exact ⟨⟨q + 1, some ⟨g2, 0, none⟩, c2, l ++ [⟨nm, kk, uu, A5, p, c5, CC⟩], by omega, by go_num, Lib.hid ⟨by simp [HLN.out], hown2.setLow hx2.ty (by decide) (by decide) 3 _, by rw [List.map_append, List.range_succ, List.map_append, HI.out.2.2.1]; show _ ++ [(⟨nm, kk, uu, AA, p, cc, CC⟩ : RL).val] = _ ++ [(R q).val]; rw [HVal.out], by rw [← HLN.out]; exact hx2.set 3 (.slice (some ⟨g2, 0, none⟩) (l.length + 1) c2), (HI.out.2.2.2.2.1.below hk2 (by omega)).setOther 3 _ (by omega), (HI.out.2.2.2.2.2.1.below hk2 (by omega)).setOther 3 _ (by omega), (HI.out.2.2.2.2.2.2.1.trans (hk2.mono (by omega))).setCell (by show B ≤ B + 2; omega) _, by have := hk2.size; have := HI.out.2.2.2.2.2.2.2; simp; omega⟩⟩, by simp [intOf]; omega⟩
    · obtain rfl : q = n := by omega
      have x0 := HI.out.2.2.2.1.cell 0 (.int .i64 k) rfl
      have x1 := HI.out.2.2.2.1.cell 1 (.int .i64 u) rfl
      have x2 := HI.out.2.2.2.1.cell 2 (.bool x) rfl
      have x3 := HI.out.2.2.2.1.cell 3 (.slice A' q c') rfl
      have p3 := HI.out.2.2.2.2.1.cell 3 (.slice A q c) rfl
      have z0 := HI.out.2.2.2.2.2.1.cell 0 (.int .i64 0) rfl
      have z1 := HI.out.2.2.2.2.2.1.cell 1 (.int .i64 0) rfl
      have z2 := HI.out.2.2.2.2.2.1.cell 2 (.bool false) rfl
      have z3 := HI.out.2.2.2.2.2.1.cell 3 (.slice none 0 0) rfl
      have y0 := HI.out.2.2.2.2.2.1.frozen 0
      have y1 := HI.out.2.2.2.2.2.1.frozen 1
      have y2 := HI.out.2.2.2.2.2.1.frozen 2
      have y3 := HI.out.2.2.2.2.2.1.frozen 3
      go_wp2
      have s0 := HI.out.2.2.2.2.2.1
      have s1 := s0.set 0 (.int .i64 k)
      have s2 := s1.set 1 (.int .i64 u)
      have s3 := s2.set 2 (.bool x)
      exact bodyPost_ret (results_cN Tryz.results15 _ _ (B + 1) _ (polA k u x A' q c') (0, 0) _ (by rfl) (set4U HI.out.2.2.2.2.2.1) Tryz.underlying26 (by rfl) infoPol) rfl
        ⟨A', c', l, rfl, HI.out.1, ((((HI.out.2.1.setLow s0.ty (by decide) (by decide) 0 _).setLow s1.ty (by decide) (by decide) 1 _).setLow s2.ty (by decide) (by decide) 2 _).setLow s3.ty (by decide) (by decide) 3 _).lower (by rw [HBS.out]; omega), HI.out.2.2.1, by rw [HBS.out]; exact below4N HI.out.2.2.2.2.2.2.1 (by omega) _ _ _ _⟩
set_option maxRecDepth 100000 in
set_option maxHeartbeats 4000000 in
theorem rows15_any (A : Option Addr) (n cap : Nat) (T : Nat → SR) (w : World) (hn : n ≤ 1000) (ht : TbA w A n T) :
    Calls Tryz.prog 16 #[.slice A n cap] w fun e w' => ∃ A' c', e = .returned (.slice A' n c') ∧ OwnC w' w.heap.size 73 8 A' n c' (rcell T) ∧ Below w.heap.size w w' := by
  have HT := Lib.hid ht
  clear ht
  go_enter Tryz.func16, Tryz.ntmps16
  go_wp2
  go_loopw [3, 4] (fun v i wr => ∃ (k : Nat) (A' : Option Addr) (c' : Nat), k ≤ n ∧ i = .int .i64 k ∧ v = .slice A' k c' ∧ OwnC wr w.heap.size 73 8 A' k c' (rcell T) ∧ Below w.heap.size w wr)
    (fun _ i _ => n - (intOf i).toNat)
  case atStart => exact ⟨0, none, 0, Nat.zero_le _, rfl, rfl, OwnC.nil_, Below.refl _ _⟩
  case round =>
    obtain ⟨k, A', c', hk, rfl, rfl, hown, hB⟩ := hrel
    by_cases hlt : k < n
    · rcases HT.out with h0 | ⟨b, o, rfl, hT0⟩
      · omega
      have hTb := hT0.below hB (Nat.le_refl _)
      have hb := hT0.1
      obtain ⟨q0, q1, q2, q3, q4, q5, q6, q7⟩ := hTb.2 k hlt
      obtain ⟨r, hr⟩ : ∃ r, T k = r := ⟨_, rfl⟩
      have HW := Lib.hid (rcell_cat T k r hr)
      rw [hr] at q0 q1 q2 q3 q4 q5 q6 q7
      have i1 : (0 : Int) ≤ (k : Int) := by omega
      have i2 : (k : Int) < (n : Int) := by omega
      clear hTb hr hT0
      go_wp2
      go_region_held3 (fun w' => w'.cell? ⟨b, o + k * 8, none⟩ = some (.string r.nm) ∧ w'.cell? ⟨b, o + k * 8 + 1, none⟩ = some (.int .i64 r.n0) ∧ w'.cell? ⟨b, o + k * 8 + 2, none⟩ = some (.int .i64 r.n1) ∧ w'.cell? ⟨b, o + k * 8 + 3, none⟩ = some (.int .i64 r.n2) ∧ w'.cell? ⟨b, o + k * 8 + 4, none⟩ = some (.int .i64 r.n3) ∧ w'.cell? ⟨b, o + k * 8 + 5, none⟩ = some (.int .i64 r.n4) ∧ w'.cell? ⟨b, o + k * 8 + 6, none⟩ = some (.int .i64 r.mx) ∧ w'.cell? ⟨b, o + k * 8 + 7, none⟩ = some (.int .i64 r.sb))
        (first
          | go_keep
          | exact ⟨(hK.cell (p := ⟨b, o + k * 8, none⟩) hb).trans q0, (hK.cell (p := ⟨b, o + k * 8 + 1, none⟩) hb).trans q1, (hK.cell (p := ⟨b, o + k * 8 + 2, none⟩) hb).trans q2, (hK.cell (p := ⟨b, o + k * 8 + 3, none⟩) hb).trans q3, (hK.cell (p := ⟨b, o + k * 8 + 4, none⟩) hb).trans q4, (hK.cell (p := ⟨b, o + k * 8 + 5, none⟩) hb).trans q5, (hK.cell (p := ⟨b, o + k * 8 + 6, none⟩) hb).trans q6, (hK.cell (p := ⟨b, o + k * 8 + 7, none⟩) hb).trans q7⟩)
        (first | (refine step_cells2 (by rfl) _ _ _ 73 (by rfl) Tryz.underlying46 infoT2 (by rfl) (by decide) (by rfl) (hown.alloc _).drew (by rfl) (one_row wr r 73) (srow_one r) (by unfold maxLen; omega) (by omega) (by have := hB.size; simp; omega) (k + 1) rfl (rcell T) HW.out ?_; rintro A2 c2 w2 hown2 hB2; have hK : Below w.heap.size wr w2 := ((Below.refl _ _).alloc hB.size _).drew.trans hB2))
      go_wp2
      exact ⟨⟨k + 1, A2, c2, by omega, by go_num, rfl, hown2, hB.trans hK⟩, by simp [intOf]; omega⟩
    · obtain rfl : k = n := by omega
      go_wp2
      go_ret
      exact ⟨_, _, rfl, hown, hB⟩
end Go.Proofs.YtccklmleaffgiaaGreatDoor
