/-
  Layer 14: the laws' own light and of.
-/
import Derived.Test.YtccklmleaffgiaaGreatDoorQ7
import Derived.Test.YtccklmleaffgiaaGreatDoorQ8
import Derived.Deep.RegionHeld3
import Derived.Deep.Cut
import Derived.Deep.CutRange
namespace Go.Proofs.YtccklmleaffgiaaGreatDoor
open Go.RowKit Go.Shelf
set_option linter.unusedVariables false

set_option maxRecDepth 100000 in
set_option maxHeartbeats 4000000 in
theorem light14_any (k u : Int) (x : Bool) (A : Option Addr) (n c : Nat) (R : Nat → RL) (w : World) (hc : n ≤ c) (hm : c ≤ maxLen) (hR : RlA w A n R) :
    Calls Tryz.prog 11 #[.agg (polA k u x A n c)] w fun e w' => (∃ b, e = .returned (.bool b) ∧ (b = true → LightP n R)) ∧ Below w.heap.size w w' := by
  obtain ⟨W0, hW0⟩ : ∃ W, w.alloc (.cells (polA k u x A n c) 39) = W := ⟨_, rfl⟩
  have HB := Lib.hid (show Below w.heap.size w W0 by rw [← hW0]; exact (Below.refl _ _).alloc (Nat.le_refl _) _)
  have HP := Lib.hid (show RowC W0 w.heap.size (polA k u x A n c) 39 by rw [← hW0]; exact RowC.new _ _ _ _ rfl)
  have HR := Lib.hid (hR.below HB.out (Nat.le_refl _))
  have HW := Lib.hid hW0
  have x3 := HP.out.cell 3 (.slice A n c) rfl
  clear hW0 hR
  by_cases h40 : n ≤ 40
  · have q0 : decide ((n : Int) > 40) = false := decide_eq_false (by omega)
    go_enter Tryz.func11, Tryz.ntmps11
    go_upto_region 1 with fail
    rw [HW.out]
    go_wp2
    go_loopw [3] (fun i wr => ∃ q : Nat, q ≤ n ∧ i = .int .i64 q ∧ wr = W0 ∧ Hid (∀ j, j < q → (R j).nm.size ≤ 60 ∧ (R j).n ≤ 12)) (fun i _ => n - (intOf i).toNat)
    case atStart => exact ⟨0, Nat.zero_le _, rfl, rfl, Lib.hid fun j hj => absurd hj (Nat.not_lt_zero _)⟩
    case round =>
      obtain ⟨q, hq, rfl, rfl, hok⟩ := hrel
      by_cases hlt : q < n
      · rcases HR.out with h0 | ⟨b, o, rfl, hb, hcs⟩
        · omega
        · obtain ⟨c0, _, _, c3, _⟩ := hcs q hlt
          have i1 : (0 : Int) ≤ (q : Int) := by omega
          have i2 : (q : Int) < (n : Int) := by omega
          rw [Nat.add_zero] at c0
          clear hcs
          by_cases h60 : (R q).nm.size ≤ 60
          · have q1 : decide (((R q).nm.size : Int) > 60) = false := decide_eq_false (by omega)
            by_cases h12 : (R q).n ≤ 12
            · have q2 : decide (((R q).n : Int) > 12) = false := decide_eq_false (by omega)
              go_wp2
              exact ⟨⟨q + 1, by omega, by go_num, trivial, Lib.hid fun j hj => by
                by_cases e : j = q
                · subst e; exact ⟨h60, h12⟩
                · exact hok.out j (by omega)⟩, by simp [intOf]; omega⟩
            · have q2 : decide (((R q).n : Int) > 12) = true := decide_eq_true (by omega)
              go_wp2
              go_ret
              exact ⟨⟨false, rfl, fun h => by cases h⟩, HB.out⟩
          · have q1 : decide (((R q).nm.size : Int) > 60) = true := decide_eq_true (by omega)
            go_wp2
            go_ret
            exact ⟨⟨false, rfl, fun h => by cases h⟩, HB.out⟩
      · obtain rfl : q = n := by omega
        go_wp2
        go_ret
        exact ⟨⟨true, rfl, fun _ => ⟨h40, hok.out⟩⟩, HB.out⟩
  · have q0 : decide ((n : Int) > 40) = true := decide_eq_true (by omega)
    go_enter Tryz.func11, Tryz.ntmps11
    go_upto_region 1 with fail
    rw [HW.out]
    go_wp2
    go_ret
    exact ⟨⟨false, rfl, fun h => by cases h⟩, HB.out⟩

theorem ownC_setX {W : World} {base z n c b : Nat} {E T : TypeId} {A : Option Addr} {F : Nat → Value} {D : Array Value} (h : OwnC W base E z A n c F) (hb : RowC W b D T) (hne : T ≠ E) (i : Nat) (v : Value) : OwnC (W.setCell ⟨b, i, none⟩ v) base E z A n c F := by
  obtain ⟨h1, h2⟩ := h
  refine ⟨h1, ?_⟩
  rcases h2 with h2 | ⟨gg, cap, cur, hv, hgb, hh, r⟩
  · exact .inl h2
  · refine .inr ⟨gg, cap, cur, hv, hgb, (Below.heap_setCell _ _ _ _ ?_).trans hh, r⟩
    intro e
    subst e
    rw [show W.heap[gg]? = _ from hb] at hh
    injection hh with hh
    injection hh with _ h3
    exact hne h3
set_option maxRecDepth 100000 in
set_option maxHeartbeats 8000000 in
theorem of14_any (k u : Int) (x : Bool) (A : Option Addr) (n c : Nat) (R : Nat → RL) (w : World) (hn : n ≤ 100) (hl : ∀ i, i < n → (R i).n ≤ 12) (hR : RlA w A n R) :
    Calls Tryz.prog 12 #[.agg (polA k u x A n c)] w fun e w' => ∃ A' c' l, e = .returned (.agg (polA k u x A' n c')) ∧ l.length = n ∧ RowL w' w.heap.size A' l c' ∧ l.map RL.val = (List.range n).map (fun i => (R i).val) ∧ Below w.heap.size w w' := by
  obtain ⟨B, hBs⟩ : ∃ B, w.heap.size = B := ⟨_, rfl⟩
  obtain ⟨W0, hW0⟩ : ∃ W, (w.alloc (.cells (polA k u x A n c) 39)).alloc (.cells zPol 26) = W := ⟨_, rfl⟩
  obtain ⟨W1, hW1⟩ : ∃ W, W0.alloc (.cells (polA k u x none 0 0) 26) = W := ⟨_, rfl⟩
  have hs0 : W0.heap.size = B + 2 := by rw [← hW0, ← hBs]; simp
  have hs1 : W1.heap.size = B + 3 := by rw [← hW1]; simp; omega
  have HB := Lib.hid (show Below B w W1 by rw [← hW1, ← hW0, ← hBs]; exact (((Below.refl _ _).alloc (Nat.le_refl _) _).alloc (by simp) _).alloc (by simp; omega) _)
  have HP := Lib.hid (show RowC W1 B (polA k u x A n c) 39 by rw [← hW1, ← hW0, ← hBs]; exact ((RowC.new _ _ _ _ rfl).alloc _).alloc _)
  have HP0 := Lib.hid (show RowC W0 B (polA k u x A n c) 39 by rw [← hW0, ← hBs]; exact (RowC.new _ _ _ _ rfl).alloc _)
  have HZ := Lib.hid (show RowC W1 (B + 1) zPol 26 by rw [← hW1, ← hW0, ← hBs]; exact (RowC.new _ _ _ _ (by simp)).alloc _)
  have HX := Lib.hid (show RowC W1 (B + 2) (polA k u x none 0 0) 26 by rw [← hW1]; exact RowC.new _ _ _ _ hs0.symm)
  have HR := Lib.hid hR
  have HL := Lib.hid hl
  have HW0 := Lib.hid hW0
  have HW1 := Lib.hid hW1
  have HS := Lib.hid (And.intro hs0 hs1)
  have HBS := Lib.hid hBs
  clear hW0 hW1 hR hl
  have z0 := HP0.out.cell 0 (.int .i64 k) rfl
  have z1 := HP0.out.cell 1 (.int .i64 u) rfl
  have z2 := HP0.out.cell 2 (.bool x) rfl
  have z3 := HP0.out.cell 3 (.slice A n c) rfl
  clear hs1
  go_enter Tryz.func12, Tryz.ntmps12
  go_upto_region 1 with fail
  rw [HW0.out]
  go_upto_region 2 with fail
  rw [HW1.out]
  clear z0 z1 z2 z3
  go_wp2
  go_loopw [4] (fun i wr => ∃ (q : Nat) (A' : Option Addr) (c' : Nat) (l : List RL), q ≤ n ∧ i = .int .i64 q ∧ Hid (l.length = q ∧ RowL wr (B + 3) A' l c' ∧ l.map RL.val = (List.range q).map (fun i => (R i).val) ∧ RowC wr (B + 2) (polA k u x A' q c') 26 ∧ RowC wr B (polA k u x A n c) 39 ∧ RowC wr (B + 1) zPol 26 ∧ Below B w wr ∧ B + 3 ≤ wr.heap.size))
    (fun i _ => n - (intOf i).toNat)
  case atStart => exact ⟨0, none, 0, [], Nat.zero_le _, rfl, Lib.hid ⟨rfl, RowL.nil_ _ _, rfl, HX.out, HP.out, HZ.out, HB.out, by rw [HS.out.2]; exact Nat.le_refl _⟩⟩
  case round =>
    obtain ⟨q, A', c', l, hq, rfl, HI⟩ := hrel
    by_cases hlt : q < n
    · have hRr := HR.out.below HI.out.2.2.2.2.2.2.1 (by rw [HBS.out]; exact Nat.le_refl _)
      rcases HR.out with h0 | ⟨bb, o, rfl, hbl, _⟩
      · omega
      rcases hRr with h0 | ⟨bb', o', he, hbl', hcs⟩
      · omega
      obtain ⟨rfl, rfl⟩ : bb = bb' ∧ o = o' := by simpa using he
      obtain ⟨q0, q1, q2, q3, v1, v2, v3, v4, v5, v6⟩ := hcs q hlt
      obtain ⟨r, hr⟩ : ∃ r, R q = r := ⟨_, rfl⟩
      have h12 : r.n ≤ 12 := by rw [← hr]; exact HL.out q hlt
      have HVal := Lib.hid (show r.val = (R q).val by rw [hr])
      rw [hr] at q0 q1 q2 q3 v1 v2 v3 v4 v5 v6
      rw [Nat.add_zero] at q0
      have i1 : (0 : Int) ≤ (q : Int) := by omega
      have i2 : (q : Int) < (n : Int) := by omega
      have p3 := HI.out.2.2.2.2.1.cell 3 (.slice (some ⟨bb, o, none⟩) n c) rfl
      obtain ⟨nm, kk, uu, AA, nn, cc, CC⟩ := r
      simp only at q0 q1 q2 q3 v1 v2 v3 v4 v5 v6 h12
      obtain ⟨wo, rfl⟩ : ∃ z, z = wr := ⟨_, rfl⟩
      obtain ⟨E, hE⟩ : ∃ E, wo.heap.size = E := ⟨_, rfl⟩
      have hE3 : B + 3 ≤ E := by rw [← hE]; exact HI.out.2.2.2.2.2.2.2
      obtain ⟨W2, hW2⟩ : ∃ W, wo.alloc (.cells (rulA nm kk uu AA nn cc) 68) = W := ⟨_, rfl⟩
      obtain ⟨W3, hW3⟩ : ∃ W, W2.alloc (.cells (rulA nm kk uu none 0 0) 50) = W := ⟨_, rfl⟩
      have hs2 : W2.heap.size = E + 1 := by rw [← hW2, ← hE]; simp
      have hs3 : W3.heap.size = E + 2 := by rw [← hW3]; simp; omega
      have hB2 : Below E wo W2 := by rw [← hW2, ← hE]; exact (Below.refl _ _).alloc (Nat.le_refl _) _
      have hB3 : Below E wo W3 := by rw [← hW3]; exact hB2.alloc (by omega) _
      have hr2 : RowC W2 E (rulA nm kk uu AA nn cc) 68 := by rw [← hW2, ← hE]; exact RowC.new _ _ _ _ rfl
      have HR2 := Lib.hid hr2
      have HR3 := Lib.hid (show RowC W3 E (rulA nm kk uu AA nn cc) 68 by rw [← hW3]; exact hr2.alloc _)
      have HX3 := Lib.hid (show RowC W3 (E + 1) (rulA nm kk uu none 0 0) 50 by rw [← hW3]; exact RowC.new _ _ _ _ hs2.symm)
      have HB3 := Lib.hid hB3
      have HC0 := Lib.hid v6
      have HW2 := Lib.hid hW2
      have HW3 := Lib.hid hW3
      have HE := Lib.hid (And.intro hE (And.intro hs2 hs3))
      have HVV := Lib.hid (And.intro v1 (And.intro v2 v3))
      have t0 := hr2.cell 0 (.string nm) rfl
      have t1 := hr2.cell 1 (.int .i64 kk) rfl
      have t2 := hr2.cell 2 (.int .i64 uu) rfl
      have t3 := hr2.cell 3 (.slice AA nn cc) rfl
      have HBD := Lib.hid (show ∀ i, i < nn → (CC i).m ≤ 18446744073709551615 ∧ (CC i).v ≤ 18446744073709551615 from fun i hi => by
        rcases v6 with h0 | ⟨_, _, _, _, h⟩
        · omega
        · exact ⟨(h i hi).2.2.2.2.1, (h i hi).2.2.2.2.2⟩)
      clear hcs hr he hW2 hW3 hB2 hB3 hr2 v1 v2 v3 v4 v5 v6 hs2 hs3 hs0 hBs
      go_upto_region 6 with fail
      (try rw [hE])
      (try rw [HW2.out])
      go_upto_region 7 with fail
      (try rw [HE.out.2.1])
      (try rw [HW3.out])
      clear hE t0 t1 t2 t3 q0 q1 q2 q3 p3
      go_wp2
      go_loopw [7] (fun iv wy => ∃ (p : Nat) (A5 : Option Addr) (c5 : Nat), p ≤ nn ∧ iv = .int .i64 p ∧ Hid (OwnC wy (E + 2) 53 4 A5 p c5 (ccell CC) ∧ RowC wy (E + 1) (rulA nm kk uu A5 p c5) 50 ∧ Below (E + 1) W3 wy))
        (fun iv _ => nn - (intOf iv).toNat)
      case atStart => exact ⟨0, none, 0, Nat.zero_le _, rfl, Lib.hid ⟨OwnC.nil_, HX3.out, Below.refl _ _⟩⟩
      case round =>
        obtain ⟨p, A5, c5, hp, rfl, HJ⟩ := hrel
        have hsz : E + 2 ≤ wr.heap.size := by have := HJ.out.2.2.size; have := HE.out.2.2; omega
        have hR4 := HR3.out.below HJ.out.2.2 (by omega)
        have r3 := hR4.cell 3 (.slice AA nn cc) rfl
        have hBy : Below E wo wr := HB3.out.trans (HJ.out.2.2.mono (by omega))
        by_cases hlp : p < nn
        · obtain ⟨cx, hcx⟩ : ∃ cx, CC p = cx := ⟨_, rfl⟩
          obtain ⟨cb, co, rfl, c0, c1, c2, c3⟩ := (HC0.out.below hBy (by rw [HE.out.1]; exact Nat.le_refl _)).four hlp hcx
          have HCat := Lib.hid (ccell_cat CC p cx hcx)
          obtain ⟨F, hF⟩ : ∃ F, wr.heap.size = F := ⟨_, rfl⟩
          obtain ⟨W5, hW5⟩ : ∃ W, wr.alloc (.cells #[.int .i64 cx.a, .int .i64 cx.o, .int .u64 cx.m, .int .u64 cx.v] 69) = W := ⟨_, rfl⟩
          have hs5 : W5.heap.size = F + 1 := by rw [← hW5, ← hF]; simp
          have hB5 : Below F wr W5 := by rw [← hW5, ← hF]; exact (Below.refl _ _).alloc (Nat.le_refl _) _
          have hc5 : RowC W5 F #[.int .i64 cx.a, .int .i64 cx.o, .int .u64 cx.m, .int .u64 cx.v] 69 := by rw [← hW5, ← hF]; exact RowC.new _ _ _ _ rfl
          have hx5 := HJ.out.2.1.below hB5 (by omega)
          have HX5 := Lib.hid hx5
          have HO5 := Lib.hid (HJ.out.1.below hB5 (by rw [hF]; exact Nat.le_refl _))
          have HB5 := Lib.hid hB5
          have HW5 := Lib.hid hW5
          have HS5 := Lib.hid (And.intro hF hs5)
          have x3 := hx5.cell 3 (.slice A5 p c5) rfl
          have e0 := hc5.cell 0 (.int .i64 cx.a) rfl
          have e1 := hc5.cell 1 (.int .i64 cx.o) rfl
          have e2 := hc5.cell 2 (.int .u64 cx.m) rfl
          have e3 := hc5.cell 3 (.int .u64 cx.v) rfl
          have j1 : (0 : Int) ≤ (p : Int) := by omega
          have j2 : (p : Int) < (nn : Int) := by omega
          have hsE : E + 2 ≤ W5.heap.size := by omega
          have HSE := Lib.hid hsE
          clear hcx hW5 hs5 hB5 hc5 hx5 hR4
          go_upto_region 11 with fail
          (try rw [hF])
          (try rw [HW5.out])
          clear hF c0 c1 c2 c3
          go_wp2_with (first
            | (at_builtin
               refine app_cells (zv := .agg zN) (z := 4) (by_ := 32) _ rfl _ _ 48 53 rfl Tryz.underlying48 infoC2 rfl (by omega) (base := E + 2) rfl (HO5.out.alloc _) rfl (one_cond W5 cx _) (crow_one cx) (by unfold maxLen; omega) (by omega) (by simp; omega) (p + 1) rfl (ccell CC) HCat.out ?_
               intro A6 c6 w6 hown6 hB6
               have hb6 : Below (E + 2) W5 w6 := ((Below.refl _ W5).alloc HSE.out _).trans hB6
               have hx6 := HX5.out.below hb6 (by omega)
               have x3 := hx6.cell 3 (.slice A5 p c5) rfl
               have y3 := hx6.frozen 3
               have HQ6 := Lib.hid (And.intro hown6 (And.intro hb6 hx6))
               clear hown6 hb6 hx6 hB6))
          obtain ⟨hown6, hb6, hx6⟩ := HQ6.out
          have hsW := HB5.out.size
          refine ⟨⟨p + 1, A6, c6, by omega, by go_num, Lib.hid ⟨ownC_setX hown6 hx6 (by decide) 3 _, hx6.set 3 _, ((HJ.out.2.2.trans (HB5.out.mono (by have := HS5.out.1; omega))).trans (hb6.mono (by omega))).setCell (p := ⟨E + 1, 3, none⟩) (Nat.le_refl _) _⟩⟩, by simp [intOf]; omega⟩
        · obtain rfl : p = nn := by omega
          have j2 : ¬ (p : Int) < (p : Int) := by omega
          have hbd5 : Below (B + 3) wo wr := hBy.mono (by omega)
          have ho4 := HI.out.2.2.2.1.below hBy (by omega)
          have HO4 := Lib.hid ho4
          have o3 := ho4.cell 3 (.slice A' q c') rfl
          have x0 := HJ.out.2.1.cell 0 (.string nm) rfl
          have x1 := HJ.out.2.1.cell 1 (.int .i64 kk) rfl
          have x2 := HJ.out.2.1.cell 2 (.int .i64 uu) rfl
          have x3 := HJ.out.2.1.cell 3 (.slice A5 p c5) rfl
          have hct := ConT.of_own HJ.out.1 HBD.out
          have HRU := Lib.hid (show RuT wr ⟨nm, kk, uu, A5, p, c5, CC⟩ from ⟨HVV.out.1, HVV.out.2.1, HVV.out.2.2, hct.2.1, hct.2.2, hct.1⟩)
          have HRW := Lib.hid (HI.out.2.1.below hBy (by rw [HE.out.1]; exact Nat.le_refl _))
          have HLN := Lib.hid HI.out.1
          have hsz3 : B + 3 ≤ wr.heap.size := by omega
          have HBY := Lib.hid hbd5
          clear hct ho4 hR4 hBy hbd5
          go_wp2_with (first
            | (at_builtin
               refine app_rule (base := B + 3) (l := l) (r := ⟨nm, kk, uu, A5, p, c5, CC⟩) rfl _ _ rfl (by rw [HLN.out]; rfl) (HRW.out.alloc _) rfl (RowC.new _ _ _ _ rfl) (HRU.out.keep ((KeepC.refl _).alloc _)) (by rw [HLN.out]; omega) (by simp; omega) ?_
               rintro g2 c2 w2 hown2 _ _ _ hB2
               have hk2 : Below (B + 3) wo w2 := HBY.out.trans (((Below.refl _ wr).alloc hsz3 _).trans hB2)
               have hx2 := HI.out.2.2.2.1.below hk2 (by omega)
               have x3 := hx2.cell 3 (.slice A' q c') rfl
               have y3 := hx2.frozen 3
               have HQ2 := Lib.hid (And.intro hown2 (And.intro hk2 hx2))
               clear hown2 hk2 hx2 hB2))
          obtain ⟨hown2, hk2, hx2⟩ := HQ2.out
          exact ⟨⟨q + 1, some ⟨g2, 0, none⟩, c2, l ++ [⟨nm, kk, uu, A5, p, c5, CC⟩], by omega, by go_num, Lib.hid ⟨by simp [HLN.out], hown2.setLow hx2.ty (by decide) (by decide) 3 _, by rw [List.map_append, List.range_succ, List.map_append, HI.out.2.2.1]; show _ ++ [(⟨nm, kk, uu, AA, p, cc, CC⟩ : RL).val] = _ ++ [(R q).val]; rw [HVal.out], by rw [← HLN.out]; exact hx2.set 3 (.slice (some ⟨g2, 0, none⟩) (l.length + 1) c2), (HI.out.2.2.2.2.1.below hk2 (by omega)).setOther 3 _ (by omega), (HI.out.2.2.2.2.2.1.below hk2 (by omega)).setOther 3 _ (by omega), (HI.out.2.2.2.2.2.2.1.trans (hk2.mono (by omega))).setCell (by show B ≤ B + 2; omega) _, by have := hk2.size; have := HI.out.2.2.2.2.2.2.2; simp; omega⟩⟩, by simp [intOf]; omega⟩
    · obtain rfl : q = n := by omega
      have x0 := HI.out.2.2.2.1.cell 0 (.int .i64 k) rfl
      have x1 := HI.out.2.2.2.1.cell 1 (.int .i64 u) rfl
      have x2 := HI.out.2.2.2.1.cell 2 (.bool x) rfl
      have x3 := HI.out.2.2.2.1.cell 3 (.slice A' q c') rfl
      have p3 := HI.out.2.2.2.2.1.cell 3 (.slice A q c) rfl
      have z0 := HI.out.2.2.2.2.2.1.cell 0 (.int .i64 0) rfl
      have z1 := HI.out.2.2.2.2.2.1.cell 1 (.int .i64 0) rfl
      have z2 := HI.out.2.2.2.2.2.1.cell 2 (.bool false) rfl
      have z3 := HI.out.2.2.2.2.2.1.cell 3 (.slice none 0 0) rfl
      have y0 := HI.out.2.2.2.2.2.1.frozen 0
      have y1 := HI.out.2.2.2.2.2.1.frozen 1
      have y2 := HI.out.2.2.2.2.2.1.frozen 2
      have y3 := HI.out.2.2.2.2.2.1.frozen 3
      go_wp2
      have s0 := HI.out.2.2.2.2.2.1
      have s1 := s0.set 0 (.int .i64 k)
      have s2 := s1.set 1 (.int .i64 u)
      have s3 := s2.set 2 (.bool x)
      exact bodyPost_ret (results_cN Tryz.results12 _ _ (B + 1) _ (polA k u x A' q c') (0, 0) _ (by rfl) (set4U HI.out.2.2.2.2.2.1) Tryz.underlying26 (by rfl) infoPol) rfl
        ⟨A', c', l, rfl, HI.out.1, ((((HI.out.2.1.setLow s0.ty (by decide) (by decide) 0 _).setLow s1.ty (by decide) (by decide) 1 _).setLow s2.ty (by decide) (by decide) 2 _).setLow s3.ty (by decide) (by decide) 3 _).lower (by rw [HBS.out]; omega), HI.out.2.2.1, by rw [HBS.out]; exact below4N HI.out.2.2.2.2.2.2.1 (by omega) _ _ _ _⟩
end Go.Proofs.YtccklmleaffgiaaGreatDoor

/-
  policy.Same.
-/
namespace Go.Proofs.YtccklmleaffgiaaGreatDoor
open Go.RowKit Go.Shelf
set_option linter.unusedVariables false

theorem bytes_ext {a b : ByteArray} (h : (a.toList == b.toList) = true) : a = b := by
  have h' : a.toList = b.toList := by simpa using h
  rw [ByteArray.toList_eq, ByteArray.toList_eq] at h'
  obtain ⟨⟨x⟩⟩ := a
  obtain ⟨⟨y⟩⟩ := b
  exact congrArg (fun l => ByteArray.mk ⟨l⟩) h'
def sameV (x y : RV) : Bool := (x.nm.toList == y.nm.toList) && ((x.k == y.k) && (x.u == y.u)) && decide (x.L = y.L)
theorem sameV_iff (x y : RV) : sameV x y = true ↔ x = y := by
  unfold sameV
  constructor
  · intro h
    simp only [Bool.and_eq_true, beq_iff_eq, decide_eq_true_eq] at h
    obtain ⟨⟨h1, h2, h3⟩, h4⟩ := h
    obtain ⟨a, b, c, d⟩ := x
    obtain ⟨a', b', c', d'⟩ := y
    simp only at h1 h2 h3 h4
    obtain rfl := bytes_ext (by simpa using h1)
    subst h2 h3 h4
    rfl
  · rintro rfl
    simp
end Go.Proofs.YtccklmleaffgiaaGreatDoor

/-
  Layer 14: the laws' own told: is a policy of the program the document's?
-/
namespace Go.Proofs.YtccklmleaffgiaaGreatDoor
open Go.RowKit Go.Shelf
set_option linter.unusedVariables false

theorem RowC.next {w : World} {cs : Array Value} {T : TypeId} {o : Obj} : RowC ((w.alloc o).alloc (.cells cs T)) (w.heap.size + 1) cs T := RowC.new _ _ _ _ (by simp)
theorem bel_two {w : World} {o o' : Obj} : Below w.heap.size w ((w.alloc o).alloc o').drew := (((Below.refl _ w).alloc (Nat.le_refl _) _).alloc (by simp) _).drew
/-- All fields are the same. -/
def TP (k u k' u' : Int) (x x' : Bool) (l : List RL) (n : Nat) (R : Nat → RL) : Prop := k = k' ∧ u = u' ∧ x = x' ∧ l.map RL.val = (List.range n).map fun i => (R i).val
/-- The answer tells whether P. -/
def Tells (e : Ending) (P : Prop) : Prop := ∃ b, e = .returned (.bool b) ∧ (b = true ↔ P)
theorem tells_no {P : Prop} (h : ¬ P) {e : Ending} (he : e = .returned (.bool false)) : Tells e P := ⟨false, he, by simp [h]⟩
theorem tells_yes {P : Prop} (h : P) {e : Ending} (he : e = .returned (.bool true)) : Tells e P := ⟨true, he, by simp [h]⟩
set_option maxRecDepth 100000 in
set_option maxHeartbeats 16000000 in
theorem told14_any (k u k' u' : Int) (x x' : Bool) (A A' : Option Addr) (l : List RL) (c n c' : Nat) (R : Nat → RL) (w : World) (hl : RlL w A l) (hln : l.length ≤ 1000000) (hn : n ≤ 100) (h12 : ∀ i, i < n → (R i).n ≤ 12) (hR : RlA w A' n R) :
    Calls Tryz.prog 13 #[.agg (polA k u x A l.length c), .agg (polA k' u' x' A' n c')] w fun e w' => Tells e (TP k u k' u' x x' l n R) ∧ Below w.heap.size w w' := by
  obtain ⟨B, hBs⟩ : ∃ B, w.heap.size = B := ⟨_, rfl⟩
  obtain ⟨W0, hW0⟩ : ∃ W, (w.alloc (.cells (polA k u x A l.length c) 26)).alloc (.cells (polA k' u' x' A' n c') 39) = W := ⟨_, rfl⟩
  have hs0 : W0.heap.size = B + 2 := by rw [← hW0, ← hBs]; simp
  have hB0 : Below B w W0 := by rw [← hW0, ← hBs]; exact ((Below.refl _ _).alloc (Nat.le_refl _) _).alloc (by simp) _
  have hP0 : RowC W0 B (polA k u x A l.length c) 26 := by rw [← hW0, ← hBs]; exact (RowC.new _ _ _ _ rfl).alloc _
  have hQ0 : RowC W0 (B + 1) (polA k' u' x' A' n c') 39 := by rw [← hW0, ← hBs]; exact RowC.new _ _ _ _ (by simp)
  have HOF := Lib.hid (of14_any k' u' x' A' n c' R W0 hn h12 (hR.below hB0 (by rw [hBs]; exact Nat.le_refl _)))
  have HL0 := Lib.hid (hl.below hB0 (by rw [hBs]; exact Nat.le_refl _))
  have HP0 := Lib.hid hP0
  have HB0 := Lib.hid hB0
  have HW := Lib.hid hW0
  have HBS := Lib.hid (And.intro hBs hs0)
  have q0 := hQ0.cell 0 (.int .i64 k') rfl
  have q1 := hQ0.cell 1 (.int .i64 u') rfl
  have q2 := hQ0.cell 2 (.bool x') rfl
  have q3 := hQ0.cell 3 (.slice A' n c') rfl
  obtain ⟨ln, hln'⟩ : ∃ ln, l.length = ln := ⟨_, rfl⟩
  have HLN := Lib.hid hln'
  rw [hln'] at hln HW HP0 ⊢
  clear hl hR hW0 hP0 hQ0 hB0 hBs hs0 h12 hln'
  go_enter Tryz.func13, Tryz.ntmps13
  go_upto_region 1 with fail
  (try rw [HBS.out.1])
  (try rw [HW.out])
  go_wp2_with fail
  refine HOF.out.mono ?_
  rintro e w1 ⟨A5, c5, l5, rfl, hl5, hrow5, hv5, hB1⟩
  obtain ⟨X, hX⟩ : ∃ X, w1.heap.size = X := ⟨_, rfl⟩
  obtain ⟨W1, hW1⟩ : ∃ W, w1.alloc (.cells (polA k' u' x' A5 n c5) 26) = W := ⟨_, rfl⟩
  have hB11 : Below X w1 W1 := by rw [← hW1, ← hX]; exact (Below.refl _ _).alloc (Nat.le_refl _) _
  have hB01 : Below (B + 2) W0 W1 := by rw [← HBS.out.2]; exact hB1.trans (hB11.mono (by have := hB1.size; omega))
  have hX1 : RowC W1 X (polA k' u' x' A5 n c5) 26 := by rw [← hW1, ← hX]; exact RowC.new _ _ _ _ rfl
  have hP1 := HP0.out.below hB01 (by omega)
  have HB01 := Lib.hid hB01
  have HP1 := Lib.hid hP1
  have HX1 := Lib.hid hX1
  have HL1 := Lib.hid (HL0.out.below hB01 (by rw [HBS.out.2]; exact Nat.le_refl _))
  have HR5 := Lib.hid (hrow5.rl.below hB11 (by rw [hX]; exact Nat.le_refl _))
  have HL5 := Lib.hid (And.intro hl5 hv5)
  have HW1 := Lib.hid hW1
  have p0 := hP1.cell 0 (.int .i64 k) rfl
  have p1 := hP1.cell 1 (.int .i64 u) rfl
  have p2 := hP1.cell 2 (.bool x) rfl
  have p3 := hP1.cell 3 (.slice A ln c) rfl
  have x0 := hX1.cell 0 (.int .i64 k') rfl
  have x1 := hX1.cell 1 (.int .i64 u') rfl
  have x2 := hX1.cell 2 (.bool x') rfl
  have x3 := hX1.cell 3 (.slice A5 n c5) rfl
  have HXS := Lib.hid hX
  clear hl5 hrow5 hv5 hB1 hB11 hB01 hX1 hP1 hW1 q0 q1 q2 q3
  go_upto_region 2 with fail
  (try rw [hX])
  (try rw [HW1.out])
  clear hX
  rcases act_cases k u k' u' with ⟨h1, h2⟩ | h | ⟨h1, h⟩
  · subst h1 h2
    rcases hx : (x == x') with _ | _
    · have HXX := Lib.hid hx
      go_wp2
      go_ret
      exact ⟨tells_no (fun ht => by have h := HXX.out; rw [ht.2.2.1] at h; simp at h) rfl, by rw [HBS.out.1]; exact HB0.out.trans (HB01.out.mono (by omega))⟩
    · obtain rfl : x = x' := by simpa using hx
      clear hx
      by_cases hlen : ln = n
      · subst hlen
        have d1 : ((ln : Int) != (ln : Int)) = false := by simp
        go_wp2
        go_loopw [6] (fun iv wr => ∃ q : Nat, q ≤ ln ∧ iv = .int .i64 q ∧ Hid (Below W1.heap.size W1 wr ∧ (l.take q).map RL.val = (l5.take q).map RL.val)) (fun iv _ => ln - (intOf iv).toNat)
        case atStart => exact ⟨0, Nat.zero_le _, rfl, Lib.hid ⟨Below.refl _ _, rfl⟩⟩
        case round =>
          obtain ⟨q, hq, rfl, HI⟩ := hrel
          have hXq := HX1.out.below HI.out.1 HX1.out.lt
          have hPq := HP1.out.below HI.out.1 HP1.out.lt
          have y3 := hXq.cell 3 (.slice A5 ln c5) rfl
          by_cases hlt : q < ln
          · have hlq : q < l.length := by rw [HLN.out]; exact hlt
            have hlq' : q < l5.length := by rw [HL5.out.1]; exact hlt
            have hmem : l[q]! ∈ l := by rw [getElem!_pos l q hlq]; exact List.getElem_mem hlq
            have hmem' : l5[q]! ∈ l5 := by rw [getElem!_pos l5 q hlq']; exact List.getElem_mem hlq'
            have hLr := HL1.out.below HI.out.1 (Nat.le_refl _)
            have hLr' := HR5.out.below HI.out.1 (Nat.le_refl _)
            have hru := hLr.2 _ hmem
            have hru' := hLr'.2 _ hmem'
            rcases hLr.1 with h0 | ⟨bb, o, rfl, hbl, hcs⟩
            · rw [h0] at hlq; exact absurd hlq (Nat.not_lt_zero _)
            rcases hLr'.1 with h0 | ⟨bb', o', rfl, hbl', hcs'⟩
            · rw [h0] at hlq'; exact absurd hlq' (Nat.not_lt_zero _)
            obtain ⟨q0, q1, q2, q3⟩ := hcs q hlq
            obtain ⟨k0, k1, k2, k3⟩ := hcs' q hlq'
            obtain ⟨r, hr⟩ : ∃ r, l[q]! = r := ⟨_, rfl⟩
            obtain ⟨s, hs⟩ : ∃ s, l5[q]! = s := ⟨_, rfl⟩
            rw [hr] at q0 q1 q2 q3 hru
            rw [hs] at k0 k1 k2 k3 hru'
            rw [Nat.add_zero] at q0 k0
            have HTK := Lib.hid (show (l.take (q + 1)).map RL.val = (l.take q).map RL.val ++ [r.val] by rw [List.take_add_one, List.getElem?_eq_getElem hlq, List.map_append, ← hr, getElem!_pos l q hlq]; rfl)
            have HTK' := Lib.hid (show (l5.take (q + 1)).map RL.val = (l5.take q).map RL.val ++ [s.val] by rw [List.take_add_one, List.getElem?_eq_getElem hlq', List.map_append, ← hs, getElem!_pos l5 q hlq']; rfl)
            have HGT := Lib.hid (show r.val ≠ s.val → ¬ l.map RL.val = l5.map RL.val from fun hne he => by
              have h1 := congrArg (fun z => z[q]?) he
              simp only [List.getElem?_map, List.getElem?_eq_getElem hlq, List.getElem?_eq_getElem hlq', Option.map_some] at h1
              rw [← getElem!_pos l q hlq, ← getElem!_pos l5 q hlq', hr, hs] at h1
              exact hne (Option.some.inj h1))
            have HCA := Lib.hid hru.2.2.2.2.2.conA
            have HCA' := Lib.hid hru'.2.2.2.2.2.conA
            have hcap : r.n ≤ 9223372036854775807 := by have h1 := hru.2.2.2.1; have h2 := hru.2.2.2.2.1; unfold maxLen at h2; omega
            have hcap' : s.n ≤ 9223372036854775807 := by have h1 := hru'.2.2.2.1; have h2 := hru'.2.2.2.2.1; unfold maxLen at h2; omega
            obtain ⟨an, ak, au, aA, aN, aC, aF⟩ := r
            obtain ⟨sn, sk, su, sA, sN, sC, sF⟩ := s
            simp only at q0 q1 q2 q3 k0 k1 k2 k3 hcap hcap' HCA HCA'
            have j1 : (q : Int) < (ln : Int) := by omega
            have j2 : (0 : Int) ≤ (q : Int) := by omega
            have g3 := hPq.cell 3 (.slice (some ⟨bb, o, none⟩) ln c) rfl
            have HPQ := Lib.hid hPq
            have HXQ := Lib.hid hXq
            have HSX : Hid (∀ Z, Below wr.heap.size wr Z → Z.cell? ⟨B, 3, none⟩ = some (.slice (some ⟨bb, o, none⟩) ln c) ∧ Z.cell? ⟨X, 3, none⟩ = some (.slice (some ⟨bb', o', none⟩) ln c5) ∧ Z.cell? ⟨bb, o + q * 4, none⟩ = some (.string an) ∧ Z.cell? ⟨bb, o + q * 4 + 1, none⟩ = some (.int .i64 ak) ∧ Z.cell? ⟨bb, o + q * 4 + 2, none⟩ = some (.int .i64 au) ∧ Z.cell? ⟨bb, o + q * 4 + 3, none⟩ = some (.slice aA aN aC) ∧
                Z.cell? ⟨bb', o' + q * 4, none⟩ = some (.string sn) ∧ Z.cell? ⟨bb', o' + q * 4 + 1, none⟩ = some (.int .i64 sk) ∧ Z.cell? ⟨bb', o' + q * 4 + 2, none⟩ = some (.int .i64 su) ∧ Z.cell? ⟨bb', o' + q * 4 + 3, none⟩ = some (.slice sA sN sC)) :=
              Lib.hid fun Z hZ => ⟨(HPQ.out.below hZ HPQ.out.lt).cell 3 _ rfl, (HXQ.out.below hZ HXQ.out.lt).cell 3 _ rfl, (hZ.cell (p := ⟨bb, o + q * 4, none⟩) hbl).trans q0, (hZ.cell (p := ⟨bb, o + q * 4 + 1, none⟩) hbl).trans q1, (hZ.cell (p := ⟨bb, o + q * 4 + 2, none⟩) hbl).trans q2, (hZ.cell (p := ⟨bb, o + q * 4 + 3, none⟩) hbl).trans q3,
                (hZ.cell (p := ⟨bb', o' + q * 4, none⟩) hbl').trans k0, (hZ.cell (p := ⟨bb', o' + q * 4 + 1, none⟩) hbl').trans k1, (hZ.cell (p := ⟨bb', o' + q * 4 + 2, none⟩) hbl').trans k2, (hZ.cell (p := ⟨bb', o' + q * 4 + 3, none⟩) hbl').trans k3⟩
            clear hcs hcs' hr hs hru hru' hmem hmem' hLr hLr' hXq hPq
            go_wp2_with fail
            go_cut [7, 8] from 40 to 49 (fun s t wx => ∃ rb sb, s = .pointer (some ⟨rb, 0, none⟩) ∧ t = .pointer (some ⟨sb, 0, none⟩) ∧ RowC wx rb (rulA an ak au aA aN aC) 50 ∧ RowC wx sb (rulA sn sk su sA sN sC) 50 ∧ Below wr.heap.size wr wx)
            case first =>
              rename_i J1 K1 hJ1 hK1
              go_region_held3 (fun w' => w'.cell? ⟨B, 3, none⟩ = some (.slice (some ⟨bb, o, none⟩) ln c) ∧ w'.cell? ⟨X, 3, none⟩ = some (.slice (some ⟨bb', o', none⟩) ln c5) ∧ w'.cell? ⟨bb, o + q * 4, none⟩ = some (.string an) ∧ w'.cell? ⟨bb, o + q * 4 + 1, none⟩ = some (.int .i64 ak) ∧ w'.cell? ⟨bb, o + q * 4 + 2, none⟩ = some (.int .i64 au) ∧ w'.cell? ⟨bb, o + q * 4 + 3, none⟩ = some (.slice aA aN aC) ∧
                w'.cell? ⟨bb', o' + q * 4, none⟩ = some (.string sn) ∧ w'.cell? ⟨bb', o' + q * 4 + 1, none⟩ = some (.int .i64 sk) ∧ w'.cell? ⟨bb', o' + q * 4 + 2, none⟩ = some (.int .i64 su) ∧ w'.cell? ⟨bb', o' + q * 4 + 3, none⟩ = some (.slice sA sN sC))
                (exact HSX.out _ (by repeat (first | exact Below.refl _ _ | refine Below.drew ?_ | refine Below.alloc ?_ (by simp) _ | refine Below.setCell ?_ (by simp) _)))
                (fail)
              all_goals
                refine hK1 _ _ (Met.intro (hJ1 _ _ ?_))
                repeat apply Exists.intro
                refine ⟨?_, rfl⟩
                first
                  | exact ⟨wr.heap.size, wr.heap.size + 1, rfl, rfl, (RowC.new wr (rulA an ak au aA aN aC) _ _ rfl).alloc _, RowC.next, bel_two⟩
                  | exact ⟨wr.heap.size + 1, wr.heap.size, rfl, rfl, RowC.next, (RowC.new wr (rulA sn sk su sA sN sC) _ _ rfl).alloc _, bel_two⟩
            case rest =>
              obtain ⟨rb, sb, rfl, rfl, hRb, hSb, hBx⟩ := hcut
              have HRB := Lib.hid hRb
              have HSB := Lib.hid hSb
              have HBX := Lib.hid hBx
              have HSV := Lib.hid (sameV_iff (⟨an, ak, au, aA, aN, aC, aF⟩ : RL).val (⟨sn, sk, su, sA, sN, sC, sF⟩ : RL).val)
              have HSW := Lib.hid (show sameV (⟨an, ak, au, aA, aN, aC, aF⟩ : RL).val (⟨sn, sk, su, sA, sN, sC, sF⟩ : RL).val = ((an.toList == sn.toList) && ((ak == sk) && (au == su)) && decide ((List.range aN).map aF = (List.range sN).map sF)) from rfl)
              have HBW := Lib.hid (show Below w.heap.size w wr from by rw [HBS.out.1]; exact (HB0.out.trans (HB01.out.mono (by omega))).trans (HI.out.1.mono (by have := HB01.out.size; have := HBS.out.2; omega)))
              have HNO := Lib.hid (show sameV (⟨an, ak, au, aA, aN, aC, aF⟩ : RL).val (⟨sn, sk, su, sA, sN, sC, sF⟩ : RL).val = false → ¬ TP k u k u x x l ln R from fun hf ht => HGT.out (fun e => by rw [HSV.out.2 e] at hf; cases hf) (ht.2.2.2.trans HL5.out.2.symm))
              have a0 := hRb.cell 0 (.string an) rfl
              have a1 := hRb.cell 1 (.int .i64 ak) rfl
              have a2 := hRb.cell 2 (.int .i64 au) rfl
              have a3 := hRb.cell 3 (.slice aA aN aC) rfl
              have b0 := hSb.cell 0 (.string sn) rfl
              have b1 := hSb.cell 1 (.int .i64 sk) rfl
              have b2 := hSb.cell 2 (.int .i64 su) rfl
              have b3 := hSb.cell 3 (.slice sA sN sC) rfl
              clear hRb hSb q0 q1 q2 q3 k0 k1 k2 k3 g3 y3
              have hbz := hBx
              clear hBx
              rcases hnm : (an.toList == sn.toList) with _ | _
              · rw [hnm] at HSW
                go_wp2
                go_ret
                exact ⟨tells_no (HNO.out (by rw [HSW.out]; rfl)) rfl, HBW.out.trans (hbz.mono HBW.out.size)⟩
              · rw [hnm] at HSW
                rcases act_cases ak au sk su with ⟨h1, h2⟩ | h | ⟨h1, h⟩
                · subst h1 h2
                  by_cases hlen : aN = sN
                  · subst hlen
                    have d1 : ((aN : Int) != (aN : Int)) = false := by simp
                    have HSW := Lib.hid (HSW.out.trans (by simp : _ = decide ((List.range aN).map aF = (List.range aN).map sF)))
                    have HSV2 := Lib.hid HSV.out
                    obtain ⟨wz, rfl⟩ : ∃ z, z = wr := ⟨_, rfl⟩
                    go_wp2
                    go_loopw [9] (fun iv wy => ∃ p : Nat, p ≤ aN ∧ iv = .int .i64 p ∧ Hid (Below wz.heap.size wz wy ∧ RowC wy rb (rulA an ak au aA aN aC) 50 ∧ RowC wy sb (rulA sn ak au sA aN sC) 50 ∧ ∀ j, j < p → aF j = sF j)) (fun iv _ => aN - (intOf iv).toNat)
                    case atStart => exact ⟨0, Nat.zero_le _, rfl, Lib.hid ⟨hbz, HRB.out, HSB.out, fun j hj => absurd hj (Nat.not_lt_zero _)⟩⟩
                    case round =>
                      obtain ⟨p, hp, rfl, HJ⟩ := hrel
                      have e3 := HJ.out.2.1.cell 3 (.slice aA aN aC) rfl
                      have t3 := HJ.out.2.2.1.cell 3 (.slice sA aN sC) rfl
                      by_cases hlp : p < aN
                      · obtain ⟨xx, hxx⟩ : ∃ z, aF p = z := ⟨_, rfl⟩
                        obtain ⟨yy, hyy⟩ : ∃ z, sF p = z := ⟨_, rfl⟩
                        obtain ⟨ab, ao, rfl, c0, c1, c2, c3⟩ := (HCA.out.below HJ.out.1 (Nat.le_refl _)).four hlp hxx
                        obtain ⟨tb, to', rfl, d0, d1', d2, d3⟩ := (HCA'.out.below HJ.out.1 (Nat.le_refl _)).four hlp hyy
                        have HXY := Lib.hid (And.intro hxx hyy)
                        have m1 : (0 : Int) ≤ (p : Int) := by omega
                        have m2 : (p : Int) < (aN : Int) := by omega
                        clear hxx hyy
                        by_cases he : xx = yy
                        · subst he
                          obtain ⟨z1, z2, z3, z4⟩ := xx
                          simp only at c0 c1 c2 c3 d0 d1' d2 d3
                          go_wp2_with fail
                          go_quiet (fail)
                          go_wp2
                          exact ⟨⟨p + 1, by omega, by go_num, Lib.hid ⟨bdn HJ.out.1 nq, HJ.out.2.1, HJ.out.2.2.1, fun j hj => by
                            by_cases e : j = p
                            · subst e; rw [HXY.out.1, HXY.out.2]
                            · exact HJ.out.2.2.2 j (by omega)⟩⟩, by simp [intOf]; omega⟩
                        · have hcs := cd_cases xx yy
                          have HNE := Lib.hid he
                          rcases hcs with h | h | ⟨h', h⟩ | ⟨h', h'', h⟩ | ⟨h', h'', h''', h⟩
                          · exact absurd h he
                          all_goals
                            obtain ⟨z1, z2, z3, z4⟩ := xx
                            obtain ⟨v1, v2, v3, v4⟩ := yy
                            simp only at c0 c1 c2 c3 d0 d1' d2 d3
                            simp only at h
                            (try simp only at h')
                            (try simp only at h'')
                            (try simp only at h''')
                            (try subst h')
                            (try subst h'')
                            (try subst h''')
                            clear he
                            go_wp2_with fail
                            go_quiet (fail)
                            go_wp2
                            go_ret
                            exact ⟨tells_no (HNO.out (by rw [HSW.out, decide_eq_false (range_ne hlp (by rw [HXY.out.1, HXY.out.2]; exact HNE.out))])) rfl, HBW.out.trans ((bdn HJ.out.1 nq).mono HBW.out.size)⟩
                      · obtain rfl : p = aN := by omega
                        have m2 : ¬ (p : Int) < (p : Int) := by omega
                        have HEQ := Lib.hid (show (⟨an, ak, au, aA, p, aC, aF⟩ : RL).val = (⟨sn, ak, au, sA, p, sC, sF⟩ : RL).val from HSV2.out.1 (by rw [HSW.out, decide_eq_true (List.map_congr_left fun j hj => HJ.out.2.2.2 j (List.mem_range.1 hj))]))
                        go_wp2
                        exact ⟨⟨q + 1, by omega, by go_num, Lib.hid ⟨HI.out.1.trans (HJ.out.1.mono HI.out.1.size), by rw [HTK.out, HTK'.out, HI.out.2, HEQ.out]⟩⟩, by simp [intOf]; omega⟩
                  · have d1 : ((aN : Int) != (sN : Int)) = true := by simp; omega
                    have HNE := Lib.hid hlen
                    clear hlen
                    go_wp2
                    go_ret
                    exact ⟨tells_no (HNO.out (by rw [HSW.out, decide_eq_false (fun e => HNE.out (by simpa using congrArg List.length e))]; simp)) rfl, HBW.out.trans (hbz.mono HBW.out.size)⟩
                · rw [h] at HSW
                  go_wp2
                  go_ret
                  exact ⟨tells_no (HNO.out (by rw [HSW.out]; simp)) rfl, HBW.out.trans (hbz.mono HBW.out.size)⟩
                · subst h1
                  rw [h] at HSW
                  go_wp2
                  go_ret
                  exact ⟨tells_no (HNO.out (by rw [HSW.out]; simp)) rfl, HBW.out.trans (hbz.mono HBW.out.size)⟩
          · obtain rfl : q = ln := by omega
            have j1 : ¬ (q : Int) < (q : Int) := by omega
            go_wp2
            go_ret
            refine ⟨tells_yes ⟨rfl, rfl, rfl, ?_⟩ rfl, by rw [HBS.out.1]; exact (HB0.out.trans (HB01.out.mono (by omega))).trans (HI.out.1.mono (by have := HB01.out.size; have := HBS.out.2; omega))⟩
            have h := HI.out.2
            rw [List.take_of_length_le (by rw [HLN.out]; exact Nat.le_refl _), List.take_of_length_le (by rw [HL5.out.1]; exact Nat.le_refl _)] at h
            exact h.trans HL5.out.2
      · have d1 : ((ln : Int) != (n : Int)) = true := by simp; omega
        have HNE := Lib.hid hlen
        clear hlen
        go_wp2
        go_ret
        exact ⟨tells_no (fun ht => by have h := congrArg List.length ht.2.2.2; simp [HLN.out] at h; exact HNE.out h) rfl, by rw [HBS.out.1]; exact HB0.out.trans (HB01.out.mono (by omega))⟩
  · have HN := Lib.hid h
    go_wp2
    go_ret
    exact ⟨tells_no (fun ht => by have h := HN.out; rw [ht.1] at h; simp at h) rfl, by rw [HBS.out.1]; exact HB0.out.trans (HB01.out.mono (by omega))⟩
  · subst h1
    have HN := Lib.hid h
    go_wp2
    go_ret
    exact ⟨tells_no (fun ht => by have h := HN.out; rw [ht.2.1] at h; simp at h) rfl, by rw [HBS.out.1]; exact HB0.out.trans (HB01.out.mono (by omega))⟩
end Go.Proofs.YtccklmleaffgiaaGreatDoor
