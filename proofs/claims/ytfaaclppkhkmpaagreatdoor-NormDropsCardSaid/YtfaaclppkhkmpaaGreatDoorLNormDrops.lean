/-
  The law NormDrops holds for every input: a rule without conditions, with the default's action, behind all others, changes nothing of a policy's normal form. No condition.
-/
import Derived.Test.YtfaaclppkhkmpaaGreatDoorRows
import Derived.Test.YtfaaclppkhkmpaaGreatDoorCards
import Derived.Test.YtfaaclppkhkmpaaGreatDoorTie
import Derived.Test.YtfaaclppkhkmpaaGreatDoorRm
import Derived.Lay
import Derived.MakeChecks
import Derived.WalkKit
import Derived.ProofKit
import Derived.OpenShut
import Derived.ShutString
import Derived.ChangeOld
import Derived.Below
import Derived.Lib.SmallJoins
import Derived.SevenTiedAt
import Derived.LaidMore
import Derived.Stop.Joined
import Derived.RegionTactic
import Derived.Deep.Cut
import Derived.Deep.CutRange
namespace Go.Proofs.YtfaaclppkhkmpaaGreatDoor
open Go.RowKit Go.Shelf
set_option linter.unusedVariables false

theorem rowc_drew {w : World} {b : Nat} {cs : Array Value} {T : TypeId} (h : RowC w b cs T) : RowC w.drew b cs T := h
theorem rowc_grown {w w' : World} {row : Option Nat} {b : Nat} {cs : Array Value} {T : TypeId} (hg : w.grownBy w' row) (h : RowC w b cs T) (hne : some b ≠ row) : RowC w' b cs T := (hg.block b h.lt hne).trans h
theorem made_row (w : World) (base k : Nat) (hk : k = w.heap.size) (hb : base ≤ w.heap.size) : RowL (w.alloc (.cells #[] 40)) base (some ⟨k, 0, none⟩) [] 0 := by
  subst hk
  exact ⟨World.ownsRow_made w #[] 0 hb (by simp [maxLen]) rfl, fun _ h => by cases h⟩
set_option maxRecDepth 100000 in
set_option maxHeartbeats 16000000 in
theorem walk_NormDrops {w0 : World} (k u : Int) (x : Bool) (A : Option Addr) (n c : Nat) (R : Nat → RL) (wk : (Lit.int .i64 k).wf = true) (wu : (Lit.int .i64 u).wf = true) (hnc : n ≤ c) (hcm : c ≤ maxLen) (hR : RlA w0 A n R) (nm : ByteArray) (hnm : nm.size ≤ maxLen) (_ : True) :
    Calls Tryz.prog 6 #[.agg (polA k u x A n c), .string nm] w0 fun e w' => e = .returned (.bool true) ∧ Below w0.heap.size w0 w' := by
  obtain ⟨W0, hW0⟩ : ∃ W, w0.alloc (.cells (polA k u x A n c) 26) = W := ⟨_, rfl⟩
  obtain ⟨B, hBs⟩ : ∃ B, w0.heap.size = B := ⟨_, rfl⟩
  have hB0 : Below B w0 W0 := by rw [← hW0, ← hBs]; exact (Below.refl _ _).alloc (Nat.le_refl _) _
  have hP0 : RowC W0 B (polA k u x A n c) 26 := by rw [← hW0, ← hBs]; exact RowC.new _ _ _ _ rfl
  have hR0 := hR.below hB0 (by rw [hBs]; exact Nat.le_refl _)
  have HL := Lib.hid (light_any k u x A n c R W0 hnc hcm hR0)
  have HAW := Lib.hid fun X => awake16_any X
  have HB0 := Lib.hid hB0
  have HP0 := Lib.hid hP0
  have HR0 := Lib.hid hR0
  have HW := Lib.hid hW0
  have HBS := Lib.hid hBs
  have HWF := Lib.hid (And.intro wk (And.intro wu hnm))
  have p0 := hP0.cell 0 (.int .i64 k) rfl
  have p1 := hP0.cell 1 (.int .i64 u) rfl
  have p2 := hP0.cell 2 (.bool x) rfl
  have p3 := hP0.cell 3 (.slice A n c) rfl
  clear hW0 hBs hB0 hP0 hR hR0 wk wu
  go_enter Tryz.func6, Tryz.ntmps6
  go_upto_region 1 with fail
  rw [HW.out, HBS.out]
  go_wp2_with fail
  refine HL.out.mono ?_
  rintro e w1 ⟨⟨b, rfl, hlight⟩, hB1⟩
  have hP1 := HP0.out.below hB1 HP0.out.lt
  have HP1 := Lib.hid hP1
  have HB1 := Lib.hid hB1
  have HB01 := Lib.hid (HB0.out.trans (hB1.mono (by rw [← HBS.out]; have := HB0.out.size; rw [HBS.out]; rw [HBS.out] at this; exact this)))
  have q0 := hP1.cell 0 (.int .i64 k) rfl
  have q1 := hP1.cell 1 (.int .i64 u) rfl
  have q2 := hP1.cell 2 (.bool x) rfl
  have q3 := hP1.cell 3 (.slice A n c) rfl
  clear hP1 hB1 p0 p1 p2 p3
  cases b with
  | false =>
    go_wp2
    go_ret
    exact ⟨rfl, by rw [HBS.out]; exact HB01.out⟩
  | true =>
    have hl := hlight rfl
    have HLP := Lib.hid hl
    have hn40 := hl.1
    clear hlight hl
    by_cases h39 : 39 < n
    · have g1 : (n : Int) > 39 := by omega
      go_wp2
      go_ret
      exact ⟨rfl, by rw [HBS.out]; exact HB01.out⟩
    · have g1 : ¬ (n : Int) > 39 := by omega
      by_cases h60 : 60 < nm.size
      · have g2 : (nm.size : Int) > 60 := by omega
        go_wp2
        go_ret
        exact ⟨rfl, by rw [HBS.out]; exact HB01.out⟩
      · have g2 : ¬ (nm.size : Int) > 60 := by omega
        have HOF := Lib.hid (of16_any k u x A n c R w1 hn40 (fun i hi => (HLP.out.2 i hi).2) (HR0.out.below HB1.out (Nat.le_refl _)))
        go_wp2_with fail
        refine HOF.out.mono ?_
        rintro e w2 ⟨A1, c1, l1, rfl, hl1, hrow1, hval1, hB2⟩
        obtain ⟨W2, hW2⟩ : ∃ W, (w2.alloc (.cells (polA k u x A1 n c1) 31)).alloc (.cells (polA k u x A1 n c1) 31) = W := ⟨_, rfl⟩
        obtain ⟨bx, hbx⟩ : ∃ bx, w2.heap.size = bx := ⟨_, rfl⟩
        have hs2 : W2.heap.size = bx + 2 := by rw [← hW2, ← hbx]; simp
        have hB22 : Below w2.heap.size w2 W2 := by rw [← hW2]; exact ((Below.refl _ _).alloc (Nat.le_refl _) _).alloc (by simp) _
        have hX : RowC W2 bx (polA k u x A1 n c1) 31 := by rw [← hW2, ← hbx]; exact (RowC.new _ _ _ _ rfl).alloc _
        have hY : RowC W2 (bx + 1) (polA k u x A1 n c1) 31 := by rw [← hW2, ← hbx]; exact RowC.new _ _ _ _ (by simp)
        have hrl := hrow1.rl.below hB22 (Nat.le_refl _)
        have HRL := Lib.hid fun X (hX : Below W2.heap.size W2 X) => hrl.below hX (Nat.le_refl _)
        have HLE := Lib.hid hrow1.le
        have HR1 := Lib.hid hrow1.rl
        have HBB := Lib.hid (show B ≤ bx from by have h1 := HB01.out.size; rw [HBS.out] at h1; have := hB2.size; omega)
        have HB22 := Lib.hid (show Below bx w2 W2 by rw [← hbx]; exact hB22)
        have HS1 := Lib.hid (show ∀ e ∈ l1, e.n ≤ 100000 from fun e he => by
          have h1 : e.val ∈ (List.range n).map (fun i => (R i).val) := by rw [← hval1]; exact List.mem_map.2 ⟨e, he, rfl⟩
          obtain ⟨i, hi, hv⟩ := List.mem_map.1 h1
          have h2 := (HLP.out.2 i (List.mem_range.1 hi)).2
          have h3 : e.val.L.length = e.n := by simp [RL.val]
          have h4 : (R i).val.L.length = (R i).n := by simp [RL.val]
          rw [hv] at h4
          omega)
        have HK2 := Lib.hid fun o o' => (((Below.refl W2.heap.size W2).alloc (Nat.le_refl _) o).alloc (by simp) o')
        have HNN := Lib.hid (show A1 = none → c1 = 0 from fun e => by
          have h9 := hrow1.1.2
          rw [e] at h9
          rcases h9 with ⟨h9, _⟩ | ⟨_, _, _, h9, _⟩
          · injection h9
          · injection h9 with h9; cases h9)
        have HB02 := Lib.hid (show Below B w0 W2 from (HB01.out.trans (hB2.mono (by have := HB01.out.size; rw [HBS.out] at this; exact this))).trans (hB22.mono (by have := HB01.out.size; have := hB2.size; rw [HBS.out] at *; omega)))
        have HL1 := Lib.hid hl1
        have HV1 := Lib.hid hval1
        have HX := Lib.hid hX
        have HY := Lib.hid hY
        have HW2 := Lib.hid hW2
        have HBX := Lib.hid hbx
        have HS2 := Lib.hid hs2
        have x0 := hX.cell 0 (.int .i64 k) rfl
        have x1 := hX.cell 1 (.int .i64 u) rfl
        have x3 := hX.cell 3 (.slice A1 n c1) rfl
        have y3 := hY.cell 3 (.slice A1 n c1) rfl
        have x0a := fun o => (hX.alloc o).cell 0 (.int .i64 k) rfl
        have x1a := fun o => (hX.alloc o).cell 1 (.int .i64 u) rfl
        have x3a := fun o => (hX.alloc o).cell 3 (.slice A1 n c1) rfl
        have x0b := fun o o' => ((hX.alloc o).alloc o').cell 0 (.int .i64 k) rfl
        have x1b := fun o o' => ((hX.alloc o).alloc o').cell 1 (.int .i64 u) rfl
        have x3b := fun o o' => ((hX.alloc o).alloc o').cell 3 (.slice A1 n c1) rfl
        clear hrow1 hB2 hB22 hX hY hrl hW2 hbx hs2 hl1 hval1 q0 q1 q2 q3
        go_wp2_with fail
        rw [HW2.out, HBX.out]
        go_cut [] from 28 to 38 (fun wx => ∃ g8 c8, RowL wx (bx + 2) (some ⟨g8, 0, none⟩) (l1 ++ [⟨nm, k, u, none, 0, 0, fun _ => default⟩]) c8 ∧ RowC wx (bx + 1) (polA k u x (some ⟨g8, 0, none⟩) (n + 1) c8) 31 ∧ Below (bx + 1) W2 wx)
        case first =>
          rename_i J1 K1 hJ1 hK1
          go_region_law
            (first
                | (refine step_rules (by rfl) _ _ (by rfl) (base := bx + 2) (l := []) (l5 := l1) (by rfl) (by first | exact made_row _ _ _ (by simp) (by have := HS2.out; simp; omega) | exact (made_row _ _ _ (by simp) (by have := HS2.out; simp; omega)).drew | exact ((made_row _ _ _ (by simp) (by have := HS2.out; simp; omega)).alloc _).drew | exact (made_row _ _ _ (by simp) (by have := HS2.out; simp; omega)).alloc _) (by rw [HL1.out]; rfl) (HRL.out _ (by first | exact (Below.refl _ W2).drew.alloc (Nat.le_refl _) _ | exact ((Below.refl _ W2).alloc (Nat.le_refl _) _).drew | exact HK2.out _ _ | exact (HK2.out _ _).drew)) (by have := HL1.out; simp; omega) HLE.out.1 HNN.out (by have := HS2.out; simp; omega) ?_
                   rintro A7 c7 w7 hrow7 hgr7 hkc7 hB7
                   have hk7 : Below (bx + 2) W2 w7 := by
                     first
                     | exact (((Below.refl (bx + 2) W2).drew).alloc (by show bx + 2 ≤ W2.heap.size; rw [HS2.out]; exact Nat.le_refl _) _).trans hB7
                     | exact ((((Below.refl (bx + 2) W2).alloc (by rw [HS2.out]; exact Nat.le_refl _) _)).drew).trans hB7
                     | exact ((HK2.out _ _).mono (by rw [HS2.out]; exact Nat.le_refl _)).trans hB7
                     | exact (((HK2.out _ _).mono (by rw [HS2.out]; exact Nat.le_refl _)).drew).trans hB7
                   have hX7 := HX.out.below hk7 (by omega)
                   have x0 := hX7.cell 0 (.int .i64 k) rfl
                   have x1 := hX7.cell 1 (.int .i64 u) rfl
                   have x0a := fun o => (hX7.alloc o).cell 0 (.int .i64 k) rfl
                   have x1a := fun o => (hX7.alloc o).cell 1 (.int .i64 u) rfl
                   skip)
                | (refine step_rule (by rfl) _ _ (by rfl) (l := l1) (by rw [HL1.out]; rfl) (by first | exact hrow7 | exact hrow7.alloc _ | exact hrow7.drew | exact (hrow7.alloc _).drew | exact hrow7.drew.alloc _) (r := ⟨nm, k, u, none, 0, 0, fun _ => default⟩) (by rfl) (by first | exact RowC.new _ _ _ _ (by rfl) | (refine rowc_grown hgr7 ?_ (by simp [Value.ownBlock]); first | exact rowc_drew (RowC.new _ _ _ _ (by simp)) | exact rowc_drew ((RowC.new _ _ _ _ (by simp)).alloc _) | exact RowC.new _ _ _ _ (by simp) | exact (RowC.new _ _ _ _ (by simp)).alloc _)) ⟨HWF.out.2.2, HWF.out.1, HWF.out.2.1, Nat.le_refl _, by simp [maxLen], .inl rfl⟩ (by rw [HL1.out]; omega) (by have := hk7.size; have := HS2.out; simp; omega) ?_
                   rintro g8 c8 w8 hrow8 _ _ hkc8 hB8
                   have hk8 : Below (bx + 2) W2 w8 := by
                     first
                     | exact (hk7.alloc (by have := hk7.size; rw [HS2.out] at this; exact this) _).trans hB8
                     | exact hk7.trans hB8
                     | exact ((hk7.alloc (by have := hk7.size; rw [HS2.out] at this; exact this) _).drew).trans hB8
                   have hY8 := HY.out.below hk8 (by omega)
                   have y3 := hY8.cell 3 (.slice A1 n c1) rfl
                   have z3 := hY8.frozen 3
                   skip))
          all_goals
            refine hK1 _ _ (Met.intro (hJ1 _ _ ?_))
            repeat apply Exists.intro
            refine ⟨?_, rfl⟩
            rw [HL1.out]
            exact ⟨g8, c8, hrow8.setLow hY8.ty (by decide) (by decide) 3 _, hY8.set 3 (.slice (some ⟨g8, 0, none⟩) (n + 1) c8), (hk8.mono (show bx + 1 ≤ bx + 2 by omega)).setCell (Nat.le_refl _) _⟩
        case rest =>
          obtain ⟨g8, c8, hrow8, hY8, hB8⟩ := hcut
          have hXc := HX.out.below hB8 (by omega)
          have x0 := hXc.cell 0 (.int .i64 k) rfl
          have x1 := hXc.cell 1 (.int .i64 u) rfl
          have x2 := hXc.cell 2 (.bool x) rfl
          have x3 := hXc.cell 3 (.slice A1 n c1) rfl
          have hRLc : RlL wc A1 l1 := HR1.out.below (HB22.out.trans (hB8.mono (show bx ≤ bx + 1 by omega))) (by rw [HBX.out]; exact Nat.le_refl _)
          have HPX := Lib.hid (policyN_any k u x A1 l1 c1 wc hRLc (by rw [HL1.out]; omega) HS1.out)
          rw [HL1.out] at HPX
          have hbb := HBB.out
          have HBC := Lib.hid (HB02.out.trans (hB8.mono (show B ≤ bx + 1 by omega)))
          have HROW8 := Lib.hid hrow8
          have HY8 := Lib.hid hY8
          clear hXc hRLc hrow8 hY8 hB8 x0a x1a x3a x0b x1b x3b y3
          go_wp2_with fail
          refine HPX.out.mono ?_
          rintro e w3 ⟨A2, c2, ls2, k2, u2, xx2, er2, rfl, hrow2, hB3, hln2, hsm2, hor2⟩
          have hY3 := HY8.out.below hB3 HY8.out.lt
          have y0a := fun o => (hY3.alloc o).cell 0 (.int .i64 k) rfl
          have y1a := fun o => (hY3.alloc o).cell 1 (.int .i64 u) rfl
          have y2a := fun o => (hY3.alloc o).cell 2 (.bool x) rfl
          have y3a := fun o => (hY3.alloc o).cell 3 (.slice (some ⟨g8, 0, none⟩) (n + 1) c8) rfl
          have hR8 := HROW8.out.rl.below hB3 (Nat.le_refl _)
          have HPY := Lib.hid fun X (hX : Below w3.heap.size w3 X) => policyN_any k u x (some ⟨g8, 0, none⟩) (l1 ++ [⟨nm, k, u, none, 0, 0, fun _ => default⟩]) c8 X (hR8.below hX (Nat.le_refl _)) (by rw [List.length_append, HL1.out]; simp; omega) (fun e he => by
            rcases List.mem_append.1 he with h | h
            · exact HS1.out e h
            · rw [List.mem_singleton] at h; subst h; exact Nat.zero_le _)
          rw [show (l1 ++ [(⟨nm, k, u, none, 0, 0, fun _ => default⟩ : RL)]).length = n + 1 by rw [List.length_append, HL1.out]; rfl] at HPY
          obtain ⟨W3, hW3⟩ : ∃ W, w3.alloc (.cells (polA k2 u2 xx2 A2 ls2.length c2) 31) = W := ⟨_, rfl⟩
          have hB33 : Below w3.heap.size w3 W3 := by rw [← hW3]; exact (Below.refl _ _).alloc (Nat.le_refl _) _
          have hA3 : RowC W3 w3.heap.size (polA k2 u2 xx2 A2 ls2.length c2) 31 := by rw [← hW3]; exact RowC.new _ _ _ _ rfl
          have hrl2 := hrow2.rl.below hB33 (Nat.le_refl _)
          have HB33 := Lib.hid hB33
          have HA3 := Lib.hid hA3
          have HRL2 := Lib.hid hrl2
          have HW3 := Lib.hid hW3
          have HBC3 := Lib.hid (HBC.out.trans ((hB3.trans (hB33.mono hB3.size)).mono (by have h1 := HBC.out.size; rw [HBS.out] at h1; exact h1)))
          have HOR2 := Lib.hid hor2
          have HSM2 := Lib.hid (And.intro hln2 hsm2)
          clear hrow2 hB3 hln2 hsm2 hor2 hY3 hR8 hW3 hB33 hA3 hrl2 x0 x1 x2 x3
          go_wp2_with fail
          rw [HW3.out]
          refine (HPY.out _ HB33.out).mono ?_
          rintro e w4 ⟨A3, c3, ls3, k3, u3, xx3, er3, rfl, hrow3, hB4, hln3, hsm3, hor3⟩
          have hA4 := HA3.out.below hB4 HA3.out.lt
          have a0 := fun o => (hA4.alloc o).cell 0 (.int .i64 k2) rfl
          have a1 := fun o => (hA4.alloc o).cell 1 (.int .i64 u2) rfl
          have a2 := fun o => (hA4.alloc o).cell 2 (.bool xx2) rfl
          have a3 := fun o => (hA4.alloc o).cell 3 (.slice A2 ls2.length c2) rfl
          have HSAME := Lib.hid fun X (hX : Below w4.heap.size w4 X) => same_any k2 u2 k3 u3 xx2 xx3 A2 A3 ls2 ls3 c2 c3 X ((HRL2.out.below hB4 (Nat.le_refl _)).below hX (Nat.le_refl _)) (hrow3.rl.below hX (Nat.le_refl _)) HSM2.out.1 (fun e he => by have := HSM2.out.2 e he; omega)
          have hBC4 := HBC3.out.trans (hB4.mono (by have h1 := HBC3.out.size; rw [HBS.out] at h1; exact h1))
          have HBC4 := Lib.hid fun o => hBC4.alloc (by have h1 := hBC4.size; rw [HBS.out] at h1; exact h1) o
          have hs4 : ∀ o, B ≤ (w4.alloc o).heap.size := fun o => by have h1 := hBC4.size; rw [HBS.out] at h1; simp; omega
          have HS4 := Lib.hid hs4
          have HOR3 := Lib.hid hor3
          have HK4 := Lib.hid fun o => (Below.refl w4.heap.size w4).alloc (Nat.le_refl _) o
          clear hrow3 hB4 hln3 hsm3 hor3 hA4 hBC4 hs4 y0a y1a y2a y3a
          by_cases h2 : er2 = 0
          · subst h2
            by_cases h3 : er3 = 0
            · subst h3
              have hg : k2 = k3 ∧ u2 = u3 ∧ xx2 = xx3 ∧ ls2.map RL.val = ls3.map RL.val := by
                rcases HOR2.out with ⟨_, _, e1, e2, e3, e4⟩ | ⟨_, h, _⟩
                · rcases HOR3.out with ⟨_, _, f1, f2, f3, f4⟩ | ⟨_, h, _⟩
                  · refine ⟨e1.trans f1.symm, e2.trans f2.symm, e3.trans f3.symm, ?_⟩
                    rw [e4, f4, List.map_append]
                    exact (nP_drops k u (l1.map RL.val) nm).symm
                  · exact absurd h (by decide)
                · exact absurd h (by decide)
              have HG := Lib.hid hg
              clear hg
              go_wp2_with fail
              refine (HSAME.out _ (HK4.out _)).mono ?_
              rintro e w5 ⟨⟨b5, rfl, hb5⟩, hB5⟩
              obtain rfl : b5 = true := hb5.2 HG.out
              have HB5 := Lib.hid ((HBC4.out _).trans (hB5.mono (HS4.out _)))
              clear hb5 hB5
              go_wp2_with fail
              refine (HAW.out _).mono ?_
              rintro e w6 ⟨rfl, hB6⟩
              go_wp2
              go_ret
              exact ⟨rfl, by rw [HBS.out]; exact HB5.out.trans (hB6.mono (by have h1 := HB5.out.size; rw [HBS.out] at h1; exact h1))⟩
            · obtain rfl : er3 = 13 := by
                rcases HOR3.out with ⟨_, h, _⟩ | ⟨_, h, _⟩
                · exact absurd h h3
                · exact h
              clear h3
              go_wp2_with fail
              refine (HAW.out _).mono ?_
              rintro e w6 ⟨rfl, hB6⟩
              go_wp2
              go_ret
              exact ⟨rfl, by rw [HBS.out]; exact (HBC4.out _).trans (hB6.mono (HS4.out _))⟩
          · obtain rfl : er2 = 13 := by
              rcases HOR2.out with ⟨_, h, _⟩ | ⟨_, h, _⟩
              · exact absurd h h2
              · exact h
            clear h2
            go_wp2_with fail
            refine (HAW.out _).mono ?_
            rintro e w6 ⟨rfl, hB6⟩
            go_wp2
            go_ret
            exact ⟨rfl, by rw [HBS.out]; exact (HBC4.out _).trans (hB6.mono (HS4.out _))⟩
theorem of_laid {W : World} (h : laidMetH Tryz.prog Rows.normDropsRow.laid W) : True := trivial

namespace normDropsRow
open Go.ChangeShapes Go.WideShapes Go.ChangeAt Go.RowKit Go.Joins
open Go.ChangeMaps (open_string shut_string)
set_option linter.unusedVariables false
theorem own : ownKnob Tryz.prog.godebug = none := by kernel_rfl
theorem laidOut : laidOutB Tryz.prog = true := by kernel_rfl
set_option maxRecDepth 100000 in
theorem lifted (os : Os) (started : os.Started) (H : Type) (enc : TypeId × Value → H) :
    ReturnsInHanded {} Tryz.checked os 6 .any (fun w args => (Rows.normDropsSpec.pre enc Tryz.prog Tryz.f6 [] false w args ∧ laidMetH Tryz.prog Rows.normDropsRow.laid w) ∧ sizedMet enc Tryz.prog Tryz.f6 (OpenSpec.ofChange Rows.normDropsSpec) false w args) (Rows.normDropsSpec.post enc Tryz.prog Tryz.f6 false true false false) := by
  refine returnsInHanded_of_change_and (C := Tryz.checked) (X := fun w _ => laidMetH Tryz.prog Rows.normDropsRow.laid w) (fun _ _ _ hh h => h.of_heap hh) own started (by kernel_rfl) Tryz.func6
    (ChangeSpec.witness_shaped (enc := enc) (C := Tryz.checked) (os := os) (X := fun w _ => laidMetH Tryz.prog Rows.normDropsRow.laid w) false (World.laidAll Tryz.prog os Rows.normDropsRow.laid) #[.agg #[.int .i64 0, .int .i64 0, .bool false, .slice none 0 0], .string ⟨#[]⟩] 8 (World.laidAll_os _ _ _) (World.shaped_of_ZipB (by kernel_rfl) (by kernel_rfl)) (by kernel_rfl) (by kernel_rfl) (by kernel_rfl) (by rw [MakeChecks.laidMetH_plain _ _ _ (by kernel_rfl)]; exact laidMet_laidAll _ (by kernel_rfl) (by kernel_rfl))) ?_
  intro W base args ds gs before hval0 hW _ _ hL _
  have hval : ∀ (j : Nat) t v, Tryz.f6.params[j]? = some t → args[j]? = some v → Value.okWide Tryz.prog W .any base t v := hval0
  have hW' := hW
  obtain ⟨p, q, hA0, hV, rfl, hfz, hnd⟩ := hW
  have hA : DataW.TrodAll enc Tryz.prog W 0 (fun _ => true) true Tryz.f6.params.toList args.toList ds p := hA0
  rw [Tryz.params6] at hA hval
  obtain ⟨v0, vs0, d0, ds0, p0, q0, hargs, rfl, rfl, h0, r0⟩ := trodAll_cons hA
  obtain ⟨v1, vs1, d1, ds1, p1, q1, rfl, rfl, rfl, h1, r1⟩ := trodAll_cons r0
  obtain ⟨rfl, rfl, rfl⟩ := trodAll_nil r1
  obtain rfl : args = #[v0, v1] := by cases args; simp_all
  obtain ⟨rfl, rfl⟩ := trodVars_none hV
  have k0 := h0
  have lt0 : ∀ x ∈ p0, x.block < W.heap.size := by obtain ⟨m, hm⟩ := k0; exact DataW.trod_lt m _ _ _ hm
  have k1 := h1
  have lt1 : ∀ x ∈ p1, x.block < W.heap.size := by obtain ⟨m, hm⟩ := k1; exact DataW.trod_lt m _ _ _ hm
  obtain ⟨pk0, pu0, px0, pA0, pn0, pc0, pR0, rfl, pa0, pb0, pl0, pm0, pt0⟩ := open_policy (hval 0 26 v0 rfl rfl) h0
  obtain ⟨s1, rfl, rfl, rfl, w1⟩ := open_string Tryz.underlying9 (hval 1 9 v1 rfl rfl) h1
  clear hA0 hval0
  refine (walk_NormDrops (w0 := W) pk0 pu0 px0 pA0 pn0 pc0 pR0 pa0 pb0 pl0 pm0 pt0 s1 w1 (of_laid hL)).mono fun e W' ⟨he, bel⟩ => ?_
  subst he
  exact ⟨_, rfl, _, _, _, [], _, [], hW', trodAll_mk1 (shut_bool Tryz.underlying4 _), (trodAll_cons_mk (Below.trod laidOut (by kernel_rfl) (of_decide_eq_true (by kernel_rfl)) k0 bel lt0) (trodAll_cons_mk (Below.trod laidOut (by kernel_rfl) (of_decide_eq_true (by kernel_rfl)) k1 bel lt1) trodAll_mk0)), rfl, bel.frame _, fun h => by cases h⟩

theorem over : Rows.normDropsRow.holds Tryz.pinned (OpenSpec.ofChange Rows.normDropsSpec) :=
  OpenClaim.holds_of_wide 6 Tryz.f6 rfl rfl rfl rfl rfl rfl rfl ⟨rfl, rfl, rfl, rfl, rfl⟩ rfl rfl rfl rfl rfl (by kernel_rfl) Tryz.func6 (by kernel_rfl)
    (of_decide_eq_true (by kernel_rfl)) (by unfold Func.isWrapper; first | (rw [if_pos (by decide +kernel)]; kernel_rfl) | (rw [if_neg (by decide +kernel)]; exact ⟨rfl, rfl⟩))
    (fun os started H enc _ => lifted os started H enc)
end normDropsRow

theorem normDrops_proved : Rows.NormDropsCardSaid :=
  Claim7.holds_tied_plain_at .later [] [.data, .pinned] true Rows.normDropsCard.stood.harness false
    normDropsRow.over (fun _ h => by cases h) (by kernel_rfl) (fun _ h => by cases h) normDrops_row_tie rfl ⟨rfl, rfl⟩ (by kernel_rfl) rfl
    (fun f fn hf hfn => by
      obtain rfl : f = 6 := Option.some.inj ((show Tryz.prog.funcNamed "strainer/strainerlaw16.NormDrops" = some 6 by kernel_rfl).symm.trans hf) |>.symm
      obtain rfl : fn = Tryz.f6 := (Option.some.inj (Tryz.func6.symm.trans hfn)).symm
      exact ⟨by kernel_rfl, fun j t ht => by
        rw [Tryz.params6] at ht
        have hall : ∀ t ∈ [26, 9], Tryz.prog.wantsStandIn t = false := by
          intro t ht
          simp only [List.mem_cons, List.not_mem_nil, or_false] at ht
          rcases ht with rfl | rfl <;> kernel_rfl
        exact hall t (by simpa using Array.mem_of_getElem? ht)⟩)
    (by kernel_rfl)
#print axioms normDrops_proved
end Go.Proofs.YtfaaclppkhkmpaaGreatDoor
