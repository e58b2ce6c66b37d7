/-
  The law PolicySame holds for every input: two policies are the same just if all their fields are, both ways. No condition.
-/
import Derived.Test.YtlpcallgkciklaaGreatDoorRows
import Derived.Test.YtlpcallgkciklaaGreatDoorCards
import Derived.Test.YtlpcallgkciklaaGreatDoorTie
import Derived.Test.YtlpcallgkciklaaGreatDoorMp
import Derived.Test.YtlpcallgkciklaaGreatDoorTab
import Derived.Lay
import Derived.MakeChecks
import Derived.WalkKit
import Derived.ProofKit
import Derived.OpenShut
import Derived.ShutString
import Derived.ChangeOld
import Derived.Below
import Derived.Lib.SmallJoins
import Derived.SevenTiedAt
import Derived.LaidMore
import Derived.Stop.Joined
import Derived.RegionTactic
import Derived.Deep.Cut
import Derived.Deep.CutRange
import Derived.Deep.RegionHeld3
namespace Go.Proofs.YtlpcallgkciklaaGreatDoor
open Go.RowKit Go.Shelf
set_option linter.unusedVariables false

theorem bAl2 {V w : World} {o : Obj} (h : Below V.heap.size V w) : Below V.heap.size V (w.alloc o) := h.alloc h.size o
theorem small_of {R : Nat → RL} {n : Nat} {l : List RL} (h : l.map RL.val = (List.range n).map (fun i => (R i).val)) (hR : ∀ i, i < n → (R i).n ≤ 12) : ∀ e ∈ l, e.n ≤ 100000 := fun e he => by
  have h1 : e.val ∈ (List.range n).map (fun i => (R i).val) := by rw [← h]; exact List.mem_map.2 ⟨e, he, rfl⟩
  obtain ⟨i, hi, hv⟩ := List.mem_map.1 h1
  have h2 := hR i (List.mem_range.1 hi)
  have h3 : e.val.L.length = e.n := by simp [RL.val]
  have h4 : (R i).val.L.length = (R i).n := by simp [RL.val]
  rw [hv] at h4
  omega
set_option maxRecDepth 100000 in
set_option maxHeartbeats 16000000 in
theorem walk_PolicySame {w0 : World} (k u : Int) (x : Bool) (A : Option Addr) (n c : Nat) (R : Nat → RL) (wk : (Lit.int .i64 k).wf = true) (wu : (Lit.int .i64 u).wf = true) (hnc : n ≤ c) (hcm : c ≤ maxLen) (hR : RlA w0 A n R) (k' u' : Int) (x' : Bool) (A' : Option Addr) (n' c' : Nat) (R' : Nat → RL) (wk' : (Lit.int .i64 k').wf = true) (wu' : (Lit.int .i64 u').wf = true) (hnc' : n' ≤ c') (hcm' : c' ≤ maxLen) (hR' : RlA w0 A' n' R') (ht : TabP w0) :
    Calls Tryz.prog 3 #[.agg (polA k u x A n c), .agg (polA k' u' x' A' n' c')] w0 fun e w' => e = .returned (.bool true) ∧ Below w0.heap.size w0 w' := by
  obtain ⟨B, hBs⟩ : ∃ B, w0.heap.size = B := ⟨_, rfl⟩
  obtain ⟨W0, hW0⟩ : ∃ W, (w0.alloc (.cells (polA k u x A n c) 26)).alloc (.cells (polA k' u' x' A' n' c') 26) = W := ⟨_, rfl⟩
  have hB0 : Below B w0 W0 := by rw [← hW0, ← hBs]; exact ((Below.refl _ _).alloc (Nat.le_refl _) _).alloc (by simp) _
  have hP0 : RowC W0 B (polA k u x A n c) 26 := by rw [← hW0, ← hBs]; exact (RowC.new _ _ _ _ rfl).alloc _
  have hQ0 : RowC W0 (B + 1) (polA k' u' x' A' n' c') 26 := by rw [← hW0, ← hBs]; exact RowC.new _ _ _ _ (by simp)
  have hR0 := hR.below hB0 (by rw [hBs]; exact Nat.le_refl _)
  have hR0' := hR'.below hB0 (by rw [hBs]; exact Nat.le_refl _)
  have HL := Lib.hid (light14_any k u x A n c R W0 hnc hcm hR0)
  have HB0 := Lib.hid hB0
  have HP0 := Lib.hid hP0
  have HQ0 := Lib.hid hQ0
  have HR0 := Lib.hid hR0
  have HR0' := Lib.hid hR0'
  have HN' := Lib.hid (And.intro hnc' hcm')
  have HT := Lib.hid (tab_on ht hB0 (by rw [hBs]; exact Nat.le_refl _))
  have HW := Lib.hid hW0
  have HBS := Lib.hid hBs
  have p0 := hP0.cell 0 (.int .i64 k) rfl
  have p1 := hP0.cell 1 (.int .i64 u) rfl
  have p2 := hP0.cell 2 (.bool x) rfl
  have p3 := hP0.cell 3 (.slice A n c) rfl
  clear hB0 hP0 hQ0 hR hR0 hR' hR0' wk wu wk' wu' ht hnc' hcm' hW0
  go_enter Tryz.func3, Tryz.ntmps3
  go_upto_region 1 with fail
  rw [HW.out]
  (try rw [hBs])
  clear hBs
  go_wp2_with fail
  refine HL.out.mono ?_
  rintro e w1 ⟨⟨bl, rfl, hlight⟩, hB1⟩
  have HB01 := Lib.hid (HB0.out.trans (hB1.mono (by have := HB0.out.size; rw [HBS.out] at this; exact this)))
  have HP1 := Lib.hid (HP0.out.below hB1 HP0.out.lt)
  have HQ1 := Lib.hid (HQ0.out.below hB1 HQ0.out.lt)
  have HR1 := Lib.hid (HR0.out.below hB1 (Nat.le_refl _))
  have HR1' := Lib.hid (HR0'.out.below hB1 (Nat.le_refl _))
  have HT1 := Lib.hid (tab_on HT.out hB1 (Nat.le_refl _))
  have HS1 := Lib.hid (show B ≤ w1.heap.size by have := HB01.out.size; rw [HBS.out] at this; exact this)
  clear hB1 p0 p1 p2 p3 HP0 HQ0 HR0 HR0' HT HB0
  cases bl with
  | false =>
    go_wp2
    go_ret
    exact ⟨rfl, by rw [HBS.out]; exact HB01.out⟩
  | true =>
    have HLP := Lib.hid (hlight rfl)
    have q0 := HQ1.out.cell 0 (.int .i64 k') rfl
    have q1 := HQ1.out.cell 1 (.int .i64 u') rfl
    have q2 := HQ1.out.cell 2 (.bool x') rfl
    have q3 := HQ1.out.cell 3 (.slice A' n' c') rfl
    have HL' := Lib.hid (light14_any k' u' x' A' n' c' R' w1 HN'.out.1 HN'.out.2 HR1'.out)
    clear hlight
    go_wp2_with fail
    refine HL'.out.mono ?_
    rintro e V ⟨⟨bl', rfl, hlight'⟩, hB2⟩
    have HB02 := Lib.hid (HB01.out.trans (hB2.mono HS1.out))
    have HP2 := Lib.hid (HP1.out.below hB2 HP1.out.lt)
    have HQ2 := Lib.hid (HQ1.out.below hB2 HQ1.out.lt)
    have HR2 := Lib.hid (HR1.out.below hB2 (Nat.le_refl _))
    have HR2' := Lib.hid (HR1'.out.below hB2 (Nat.le_refl _))
    have HT2 := Lib.hid (tab_on HT1.out hB2 (Nat.le_refl _))
    have HS2 := Lib.hid (show B ≤ V.heap.size by have := HB02.out.size; rw [HBS.out] at this; exact this)
    clear hB2 q0 q1 q2 q3 HP1 HQ1 HR1 HR1' HT1 HB01 HS1 HL HL'
    cases bl' with
    | false =>
      go_wp2
      go_ret
      exact ⟨rfl, by rw [HBS.out]; exact HB02.out⟩
    | true =>
      have HLP' := Lib.hid (hlight' rfl)
      clear hlight'
      have HS8 : Hid (∀ W, Below V.heap.size V W → W.cell? ⟨B, 0, none⟩ = some (.int .i64 k) ∧ W.cell? ⟨B, 1, none⟩ = some (.int .i64 u) ∧ W.cell? ⟨B, 2, none⟩ = some (.bool x) ∧ W.cell? ⟨B, 3, none⟩ = some (.slice A n c) ∧ W.cell? ⟨B + 1, 0, none⟩ = some (.int .i64 k') ∧ W.cell? ⟨B + 1, 1, none⟩ = some (.int .i64 u') ∧ W.cell? ⟨B + 1, 2, none⟩ = some (.bool x') ∧ W.cell? ⟨B + 1, 3, none⟩ = some (.slice A' n' c')) := Lib.hid fun W hW => by
        have h1 := HP2.out.below hW HP2.out.lt
        have h2 := HQ2.out.below hW HQ2.out.lt
        exact ⟨h1.cell 0 _ rfl, h1.cell 1 _ rfl, h1.cell 2 _ rfl, h1.cell 3 _ rfl, h2.cell 0 _ rfl, h2.cell 1 _ rfl, h2.cell 2 _ rfl, h2.cell 3 _ rfl⟩
      have KA : Hid (∀ W, Below V.heap.size V W → Calls Tryz.prog 11 #[.agg (polA k u x A n c)] W fun e w' => ∃ A1 c1 l1, e = .returned (.agg (polA k u x A1 n c1)) ∧ Hid ((l1 : List RL).length = n ∧ RowL w' V.heap.size A1 l1 c1 ∧ l1.map RL.val = (List.range n).map (fun i => (R i).val)) ∧ Below W.heap.size W w') := Lib.hid fun W hW =>
        (of14_any k u x A n c R W (by have := HLP.out.1; omega) (fun i hi => (HLP.out.2 i hi).2) (HR2.out.below hW (Nat.le_refl _))).mono fun e w' ⟨A1, c1, l1, he, hl, hrow, hv, hb⟩ => ⟨A1, c1, l1, he, Lib.hid ⟨hl, hrow.lower hW.size, hv⟩, hb⟩
      have KB : Hid (∀ W, Below V.heap.size V W → Calls Tryz.prog 11 #[.agg (polA k' u' x' A' n' c')] W fun e w' => ∃ A1 c1 l1, e = .returned (.agg (polA k' u' x' A1 n' c1)) ∧ Hid ((l1 : List RL).length = n' ∧ RowL w' V.heap.size A1 l1 c1 ∧ l1.map RL.val = (List.range n').map (fun i => (R' i).val)) ∧ Below W.heap.size W w') := Lib.hid fun W hW =>
        (of14_any k' u' x' A' n' c' R' W (by have := HLP'.out.1; omega) (fun i hi => (HLP'.out.2 i hi).2) (HR2'.out.below hW (Nat.le_refl _))).mono fun e w' ⟨A1, c1, l1, he, hl, hrow, hv, hb⟩ => ⟨A1, c1, l1, he, Lib.hid ⟨hl, hrow.lower hW.size, hv⟩, hb⟩
      obtain ⟨VS, hVS0⟩ : ∃ VS, V.heap.size = VS := ⟨_, rfl⟩
      have hVS := Lib.hid hVS0
      clear hVS0
      go_wp2_with fail
      go_cut [5, 6] from 15 to 18 (fun s5 s6 wx => ∃ X Y A1 c1 l1 A2 c2 l2, s5 = .pointer (some ⟨X, 0, none⟩) ∧ s6 = .pointer (some ⟨Y, 0, none⟩) ∧ Hid (RowC wx X (polA k u x A1 n c1) 31 ∧ RowC wx Y (polA k' u' x' A2 n' c2) 31 ∧ ((l1 : List RL).length = n ∧ RowL wx V.heap.size A1 l1 c1 ∧ l1.map RL.val = (List.range n).map (fun i => (R i).val)) ∧ ((l2 : List RL).length = n' ∧ RowL wx V.heap.size A2 l2 c2 ∧ l2.map RL.val = (List.range n').map (fun i => (R' i).val)) ∧ Below V.heap.size V wx))
      case first =>
        refine wp_region_held_drew (S := fun w' => w'.cell? ⟨B, 0, none⟩ = some (.int .i64 k) ∧ w'.cell? ⟨B, 1, none⟩ = some (.int .i64 u) ∧ w'.cell? ⟨B, 2, none⟩ = some (.bool x) ∧ w'.cell? ⟨B, 3, none⟩ = some (.slice A n c) ∧ w'.cell? ⟨B + 1, 0, none⟩ = some (.int .i64 k') ∧ w'.cell? ⟨B + 1, 1, none⟩ = some (.int .i64 u') ∧ w'.cell? ⟨B + 1, 2, none⟩ = some (.bool x') ∧ w'.cell? ⟨B + 1, 3, none⟩ = some (.slice A' n' c')) (by kernel_rfl) (HS8.out _ (Below.refl _ V).drew) (fun hHeld => ?_)
        have hbc : Below V.heap.size V V.drew := (Below.refl _ V).drew
        generalize V.drew = Wv0 at *
        refine wpAnyH_take (i := 0) (oi := ({ dst := some 15, op := Op.load 26 (Operand.tmp 2), type := 26, pos := "law.go:94", after := #[], guard := none } : Oper)) (v := ?vz0) rfl (by kernel_rfl) (by kernel_rfl) (by kernel_rfl) (fun _ _ _ h => h) (Or.inl ⟨by rfl, ?hz0⟩) hHeld ?rz0
        case hz0 =>
          intro w hSw
          obtain ⟨s0, s1, s2, s3, s4, s5, s6, s7⟩ := hSw
          go_simp
          all_goals with_reducible rfl
        try simp only [Act.put, List.setIfInBounds_toArray, List.set_cons_zero, List.set_cons_succ]
        refine wpAnyH_take (i := 2) (oi := ({ dst := some 17, op := Op.load 26 (Operand.tmp 3), type := 26, pos := "law.go:94", after := #[], guard := none } : Oper)) (v := ?vz2) rfl (by kernel_rfl) (by kernel_rfl) (by kernel_rfl) (fun _ _ _ h => h) (Or.inl ⟨by rfl, ?hz2⟩) hHeld ?rz2
        case hz2 =>
          intro w hSw
          obtain ⟨s0, s1, s2, s3, s4, s5, s6, s7⟩ := hSw
          go_simp
          all_goals with_reducible rfl
        try simp only [Act.put, List.setIfInBounds_toArray, List.set_cons_zero, List.set_cons_succ]
        refine wpAnyH_ready (rs := [1, 4, 5]) (by kernel_rfl) (by simp) ?_
        refine (AllReadyH.cons (o := ({ dst := some 16, op := Op.call { callee := Callee.value (Operand.func 11), args := #[Operand.tmp 15], argTypes := #[26] }, type := 31, pos := "law.go:94", after := #[{ on := 0, ground := Ground.data }], guard := none } : Oper)) rfl (fun K hK => ?_) (AllReadyH.cons (o := ({ dst := some 5, op := Op.alloc 31, type := 0, pos := "law.go:94", after := #[], guard := none } : Oper)) rfl (fun K hK => ?_) (AllReadyH.cons (o := ({ dst := some 6, op := Op.alloc 31, type := 0, pos := "law.go:94", after := #[], guard := none } : Oper)) rfl (fun K hK => ?_) AllReadyH.nil)))
        · go_simp
          refine (KA.out Wv0 hbc).mono ?_
          rintro e Wv1 ⟨A1, c1, l1, rfl, hq, hst⟩
          (try go_wp2_with fail)
          have hbn := bTr hbc hst
          clear hbc
          clear hst
          have hbc := hbn
          clear hbn
          have q1 := hq
          clear hq
          refine hK.out _ _ ?kt01 (fun hHeld2 => ?_)
          case kt01 => exact HS8.out Wv1 hbc
          clear hK K
          try simp only [Act.put, List.setIfInBounds_toArray, List.set_cons_zero, List.set_cons_succ]
          replace hHeld := hHeld2
          clear hHeld2
          refine wpAnyH_ready (rs := [3, 4, 5]) (by kernel_rfl) (by simp) ?_
          refine (AllReadyH.cons (o := ({ dst := some 18, op := Op.call { callee := Callee.value (Operand.func 11), args := #[Operand.tmp 17], argTypes := #[26] }, type := 31, pos := "law.go:94", after := #[{ on := 2, ground := Ground.data }, { on := 1, ground := Ground.chain }], guard := none } : Oper)) rfl (fun K hK => ?_) (AllReadyH.cons (o := ({ dst := some 5, op := Op.alloc 31, type := 0, pos := "law.go:94", after := #[], guard := none } : Oper)) rfl (fun K hK => ?_) (AllReadyH.cons (o := ({ dst := some 6, op := Op.alloc 31, type := 0, pos := "law.go:94", after := #[], guard := none } : Oper)) rfl (fun K hK => ?_) AllReadyH.nil)))
          · go_simp
            refine (KB.out Wv1 hbc).mono ?_
            rintro e Wv2 ⟨A2, c2, l2, rfl, hq, hst⟩
            (try go_wp2_with fail)
            have hbn := bTr hbc hst
            clear hbc
            replace q1 : Hid _ := Lib.hid (And.intro q1.out.1 (And.intro (q1.out.2.1.below hst (Nat.le_refl _)) q1.out.2.2))
            clear hst
            have hbc := hbn
            clear hbn
            have q2 := hq
            clear hq
            refine hK.out _ _ ?kt13 (fun hHeld2 => ?_)
            case kt13 => exact HS8.out Wv2 hbc
            clear hK K
            try simp only [Act.put, List.setIfInBounds_toArray, List.set_cons_zero, List.set_cons_succ]
            replace hHeld := hHeld2
            clear hHeld2
            refine wpAnyH_ready (rs := [4, 5]) (by kernel_rfl) (by simp) ?_
            refine (AllReadyH.cons (o := ({ dst := some 5, op := Op.alloc 31, type := 0, pos := "law.go:94", after := #[], guard := none } : Oper)) rfl (fun K hK => ?_) (AllReadyH.cons (o := ({ dst := some 6, op := Op.alloc 31, type := 0, pos := "law.go:94", after := #[], guard := none } : Oper)) rfl (fun K hK => ?_) AllReadyH.nil))
            · go_simp
              obtain ⟨X, hX⟩ : ∃ X, Wv2.heap.size = X := ⟨_, rfl⟩
              obtain ⟨Wv3, hWv3⟩ : ∃ W, Wv2.alloc (.cells #[.int .i64 0, .int .i64 0, .bool false, .slice none 0 0] 31) = W := ⟨_, rfl⟩
              have hst : Below Wv2.heap.size Wv2 Wv3 := by rw [← hWv3]; exact (Below.refl _ _).alloc (Nat.le_refl _) _
              have nw : RowC Wv3 X #[.int .i64 0, .int .i64 0, .bool false, .slice none 0 0] 31 := by rw [← hWv3, ← hX]; exact RowC.new _ _ _ _ rfl
              have hVX : VS ≤ X := by rw [← hX, ← hVS.out]; exact hbc.size
              (try rw [hX])
              (try rw [hWv3])
              clear hX hWv3
              have hbn := bTr hbc hst
              clear hbc
              replace q1 : Hid _ := Lib.hid (And.intro q1.out.1 (And.intro (q1.out.2.1.below hst (Nat.le_refl _)) q1.out.2.2))
              replace q2 : Hid _ := Lib.hid (And.intro q2.out.1 (And.intro (q2.out.2.1.below hst (Nat.le_refl _)) q2.out.2.2))
              clear hst
              have hbc := hbn
              clear hbn
              have rX := nw
              clear nw
              refine hK.out _ _ ?kt24 (fun hHeld2 => ?_)
              case kt24 => exact HS8.out Wv3 hbc
              clear hK K
              try simp only [Act.put, List.setIfInBounds_toArray, List.set_cons_zero, List.set_cons_succ]
              replace hHeld := hHeld2
              clear hHeld2
              refine wpAnyH_ready (rs := [5]) (by kernel_rfl) (by simp) ?_
              refine (AllReadyH.cons (o := ({ dst := some 6, op := Op.alloc 31, type := 0, pos := "law.go:94", after := #[], guard := none } : Oper)) rfl (fun K hK => ?_) AllReadyH.nil)
              go_simp
              obtain ⟨Y, hX⟩ : ∃ X, Wv3.heap.size = X := ⟨_, rfl⟩
              obtain ⟨Wv4, hWv4⟩ : ∃ W, Wv3.alloc (.cells #[.int .i64 0, .int .i64 0, .bool false, .slice none 0 0] 31) = W := ⟨_, rfl⟩
              have hst : Below Wv3.heap.size Wv3 Wv4 := by rw [← hWv4]; exact (Below.refl _ _).alloc (Nat.le_refl _) _
              have nw : RowC Wv4 Y #[.int .i64 0, .int .i64 0, .bool false, .slice none 0 0] 31 := by rw [← hWv4, ← hX]; exact RowC.new _ _ _ _ rfl
              have hVY : VS ≤ Y := by rw [← hX, ← hVS.out]; exact hbc.size
              have hne : Hid (X ≠ Y) := Lib.hid (by have := rX.lt; omega)
              (try rw [hX])
              (try rw [hWv4])
              clear hX hWv4
              have hbn := bTr hbc hst
              clear hbc
              replace q1 : Hid _ := Lib.hid (And.intro q1.out.1 (And.intro (q1.out.2.1.below hst (Nat.le_refl _)) q1.out.2.2))
              replace q2 : Hid _ := Lib.hid (And.intro q2.out.1 (And.intro (q2.out.2.1.below hst (Nat.le_refl _)) q2.out.2.2))
              replace rX := rX.below hst rX.lt
              clear hst
              have hbc := hbn
              clear hbn
              have rY := nw
              clear nw
              refine hK.out _ _ ?kt35 (fun hHeld2 => ?_)
              case kt35 => exact HS8.out Wv4 hbc
              clear hK K
              try simp only [Act.put, List.setIfInBounds_toArray, List.set_cons_zero, List.set_cons_succ]
              replace hHeld := hHeld2
              clear hHeld2
              refine wpAnyH_ready (rs := [6]) (by kernel_rfl) (by simp) ?_
              refine (AllReadyH.cons (o := ({ dst := none, op := Op.store 31 (Operand.tmp 5) (Operand.tmp 16), type := 0, pos := "law.go:94", after := #[{ on := 4, ground := Ground.data }, { on := 1, ground := Ground.data }, { on := 3, ground := Ground.chain }, { on := 0, ground := Ground.phase }, { on := 1, ground := Ground.phase }, { on := 2, ground := Ground.textOnly Departure.lateStores }, { on := 3, ground := Ground.textOnly Departure.lateStoresUnsure }, { on := 4, ground := Ground.phase }, { on := 5, ground := Ground.phase }], guard := none } : Oper)) rfl (fun K hK => ?_) AllReadyH.nil)
              have m0 := rX.cell 0 _ rfl
              have f0 := rX.frozen 0
              have m1 := rX.cell 1 _ rfl
              have f1 := rX.frozen 1
              have m2 := rX.cell 2 _ rfl
              have f2 := rX.frozen 2
              have m3 := rX.cell 3 _ rfl
              have f3 := rX.frozen 3
              go_simp
              obtain ⟨Wv5, hWv5⟩ : ∃ W, ((((Wv4.setCell ⟨X, 0, none⟩ (.int .i64 k)).setCell ⟨X, 1, none⟩ (.int .i64 u)).setCell ⟨X, 2, none⟩ (.bool x)).setCell ⟨X, 3, none⟩ (.slice A1 n c1)) = W := ⟨_, rfl⟩
              (try rw [hWv5])
              have t0 := rX
              have t1 := t0.set 0 (.int .i64 k)
              have t2 := t1.set 1 (.int .i64 u)
              have t3 := t2.set 2 (.bool x)
              have t4 := t3.set 3 (.slice A1 n c1)
              have o4 := ((((rY.setOther (g := X) 0 (.int .i64 k) (hne.out.symm)).setOther (g := X) 1 (.int .i64 u) (hne.out.symm)).setOther (g := X) 2 (.bool x) (hne.out.symm)).setOther (g := X) 3 (.slice A1 n c1) (hne.out.symm))
              have p1 := (((q1.out.2.1.setLow t0.ty (by decide) (by decide) 0 (.int .i64 k)).setLow t1.ty (by decide) (by decide) 1 (.int .i64 u)).setLow t2.ty (by decide) (by decide) 2 (.bool x)).setLow t3.ty (by decide) (by decide) 3 (.slice A1 n c1)
              have p2 := (((q2.out.2.1.setLow t0.ty (by decide) (by decide) 0 (.int .i64 k)).setLow t1.ty (by decide) (by decide) 1 (.int .i64 u)).setLow t2.ty (by decide) (by decide) 2 (.bool x)).setLow t3.ty (by decide) (by decide) 3 (.slice A1 n c1)
              have hbn := (((hbc.setCell (p := ⟨X, 0, none⟩) (show V.heap.size ≤ X by rw [hVS.out]; exact hVX) (.int .i64 k)).setCell (p := ⟨X, 1, none⟩) (show V.heap.size ≤ X by rw [hVS.out]; exact hVX) (.int .i64 u)).setCell (p := ⟨X, 2, none⟩) (show V.heap.size ≤ X by rw [hVS.out]; exact hVX) (.bool x)).setCell (p := ⟨X, 3, none⟩) (show V.heap.size ≤ X by rw [hVS.out]; exact hVX) (.slice A1 n c1)
              rw [hWv5] at t4 o4 p1 p2 hbn
              replace q1 : Hid _ := Lib.hid (And.intro q1.out.1 (And.intro p1 q1.out.2.2))
              replace q2 : Hid _ := Lib.hid (And.intro q2.out.1 (And.intro p2 q2.out.2.2))
              clear p1 p2 t0 t1 t2 t3 hWv5 hbc m0 m1 m2 m3 f0 f1 f2 f3 rX rY
              have rX := t4
              have rY := o4
              have hbc := hbn
              clear t4 o4 hbn
              refine hK.out _ _ ?ks46 (fun hHeld2 => ?_)
              case ks46 => exact HS8.out Wv5 hbc
              clear hK K
              try simp only [Act.put, List.setIfInBounds_toArray, List.set_cons_zero, List.set_cons_succ]
              replace hHeld := hHeld2
              clear hHeld2
              refine wpAnyH_ready (rs := [7]) (by kernel_rfl) (by simp) ?_
              refine (AllReadyH.cons (o := ({ dst := none, op := Op.store 31 (Operand.tmp 6) (Operand.tmp 18), type := 0, pos := "law.go:94", after := #[{ on := 5, ground := Ground.data }, { on := 3, ground := Ground.data }, { on := 6, ground := Ground.chain }, { on := 0, ground := Ground.phase }, { on := 1, ground := Ground.phase }, { on := 2, ground := Ground.phase }, { on := 3, ground := Ground.phase }, { on := 4, ground := Ground.phase }, { on := 5, ground := Ground.phase }, { on := 6, ground := Ground.phase }], guard := none } : Oper)) rfl (fun K hK => ?_) AllReadyH.nil)
              have m0 := rY.cell 0 _ rfl
              have f0 := rY.frozen 0
              have m1 := rY.cell 1 _ rfl
              have f1 := rY.frozen 1
              have m2 := rY.cell 2 _ rfl
              have f2 := rY.frozen 2
              have m3 := rY.cell 3 _ rfl
              have f3 := rY.frozen 3
              go_simp
              obtain ⟨Wv6, hWv6⟩ : ∃ W, ((((Wv5.setCell ⟨Y, 0, none⟩ (.int .i64 k')).setCell ⟨Y, 1, none⟩ (.int .i64 u')).setCell ⟨Y, 2, none⟩ (.bool x')).setCell ⟨Y, 3, none⟩ (.slice A2 n' c2)) = W := ⟨_, rfl⟩
              (try rw [hWv6])
              have t0 := rY
              have t1 := t0.set 0 (.int .i64 k')
              have t2 := t1.set 1 (.int .i64 u')
              have t3 := t2.set 2 (.bool x')
              have t4 := t3.set 3 (.slice A2 n' c2)
              have o4 := ((((rX.setOther (g := Y) 0 (.int .i64 k') (hne.out)).setOther (g := Y) 1 (.int .i64 u') (hne.out)).setOther (g := Y) 2 (.bool x') (hne.out)).setOther (g := Y) 3 (.slice A2 n' c2) (hne.out))
              have p1 := (((q1.out.2.1.setLow t0.ty (by decide) (by decide) 0 (.int .i64 k')).setLow t1.ty (by decide) (by decide) 1 (.int .i64 u')).setLow t2.ty (by decide) (by decide) 2 (.bool x')).setLow t3.ty (by decide) (by decide) 3 (.slice A2 n' c2)
              have p2 := (((q2.out.2.1.setLow t0.ty (by decide) (by decide) 0 (.int .i64 k')).setLow t1.ty (by decide) (by decide) 1 (.int .i64 u')).setLow t2.ty (by decide) (by decide) 2 (.bool x')).setLow t3.ty (by decide) (by decide) 3 (.slice A2 n' c2)
              have hbn := (((hbc.setCell (p := ⟨Y, 0, none⟩) (show V.heap.size ≤ Y by rw [hVS.out]; exact hVY) (.int .i64 k')).setCell (p := ⟨Y, 1, none⟩) (show V.heap.size ≤ Y by rw [hVS.out]; exact hVY) (.int .i64 u')).setCell (p := ⟨Y, 2, none⟩) (show V.heap.size ≤ Y by rw [hVS.out]; exact hVY) (.bool x')).setCell (p := ⟨Y, 3, none⟩) (show V.heap.size ≤ Y by rw [hVS.out]; exact hVY) (.slice A2 n' c2)
              rw [hWv6] at t4 o4 p1 p2 hbn
              replace q1 : Hid _ := Lib.hid (And.intro q1.out.1 (And.intro p1 q1.out.2.2))
              replace q2 : Hid _ := Lib.hid (And.intro q2.out.1 (And.intro p2 q2.out.2.2))
              clear p1 p2 t0 t1 t2 t3 hWv6 hbc m0 m1 m2 m3 f0 f1 f2 f3 rY rX
              have rY := t4
              have rX := o4
              have hbc := hbn
              clear t4 o4 hbn
              refine hK.out _ _ ?ku47 (fun hHeld2 => ?_)
              case ku47 => exact HS8.out Wv6 hbc
              clear hK K
              try simp only [Act.put, List.setIfInBounds_toArray, List.set_cons_zero, List.set_cons_succ]
              replace hHeld := hHeld2
              clear hHeld2
              refine wpAnyH_done (by kernel_rfl) ?_ _
              go_wp2_with fail
              go_meet
              exact ⟨X, Y, A1, c1, l1, A2, c2, l2, rfl, rfl, Lib.hid ⟨rX, rY, q1.out, q2.out, hbc⟩⟩
            · go_simp
              obtain ⟨Y, hX⟩ : ∃ X, Wv2.heap.size = X := ⟨_, rfl⟩
              obtain ⟨Wv3, hWv3⟩ : ∃ W, Wv2.alloc (.cells #[.int .i64 0, .int .i64 0, .bool false, .slice none 0 0] 31) = W := ⟨_, rfl⟩
              have hst : Below Wv2.heap.size Wv2 Wv3 := by rw [← hWv3]; exact (Below.refl _ _).alloc (Nat.le_refl _) _
              have nw : RowC Wv3 Y #[.int .i64 0, .int .i64 0, .bool false, .slice none 0 0] 31 := by rw [← hWv3, ← hX]; exact RowC.new _ _ _ _ rfl
              have hVY : VS ≤ Y := by rw [← hX, ← hVS.out]; exact hbc.size
              (try rw [hX])
              (try rw [hWv3])
              clear hX hWv3
              have hbn := bTr hbc hst
              clear hbc
              replace q1 : Hid _ := Lib.hid (And.intro q1.out.1 (And.intro (q1.out.2.1.below hst (Nat.le_refl _)) q1.out.2.2))
              replace q2 : Hid _ := Lib.hid (And.intro q2.out.1 (And.intro (q2.out.2.1.below hst (Nat.le_refl _)) q2.out.2.2))
              clear hst
              have hbc := hbn
              clear hbn
              have rY := nw
              clear nw
              refine hK.out _ _ ?kt45 (fun hHeld2 => ?_)
              case kt45 => exact HS8.out Wv3 hbc
              clear hK K
              try simp only [Act.put, List.setIfInBounds_toArray, List.set_cons_zero, List.set_cons_succ]
              replace hHeld := hHeld2
              clear hHeld2
              refine wpAnyH_ready (rs := [4]) (by kernel_rfl) (by simp) ?_
              refine (AllReadyH.cons (o := ({ dst := some 5, op := Op.alloc 31, type := 0, pos := "law.go:94", after := #[], guard := none } : Oper)) rfl (fun K hK => ?_) AllReadyH.nil)
              go_simp
              obtain ⟨X, hX⟩ : ∃ X, Wv3.heap.size = X := ⟨_, rfl⟩
              obtain ⟨Wv4, hWv4⟩ : ∃ W, Wv3.alloc (.cells #[.int .i64 0, .int .i64 0, .bool false, .slice none 0 0] 31) = W := ⟨_, rfl⟩
              have hst : Below Wv3.heap.size Wv3 Wv4 := by rw [← hWv4]; exact (Below.refl _ _).alloc (Nat.le_refl _) _
              have nw : RowC Wv4 X #[.int .i64 0, .int .i64 0, .bool false, .slice none 0 0] 31 := by rw [← hWv4, ← hX]; exact RowC.new _ _ _ _ rfl
              have hVX : VS ≤ X := by rw [← hX, ← hVS.out]; exact hbc.size
              have hne : Hid (X ≠ Y) := Lib.hid (by have := rY.lt; omega)
              (try rw [hX])
              (try rw [hWv4])
              clear hX hWv4
              have hbn := bTr hbc hst
              clear hbc
              replace q1 : Hid _ := Lib.hid (And.intro q1.out.1 (And.intro (q1.out.2.1.below hst (Nat.le_refl _)) q1.out.2.2))
              replace q2 : Hid _ := Lib.hid (And.intro q2.out.1 (And.intro (q2.out.2.1.below hst (Nat.le_refl _)) q2.out.2.2))
              replace rY := rY.below hst rY.lt
              clear hst
              have hbc := hbn
              clear hbn
              have rX := nw
              clear nw
              refine hK.out _ _ ?kt54 (fun hHeld2 => ?_)
              case kt54 => exact HS8.out Wv4 hbc
              clear hK K
              try simp only [Act.put, List.setIfInBounds_toArray, List.set_cons_zero, List.set_cons_succ]
              replace hHeld := hHeld2
              clear hHeld2
              refine wpAnyH_ready (rs := [6]) (by kernel_rfl) (by simp) ?_
              refine (AllReadyH.cons (o := ({ dst := none, op := Op.store 31 (Operand.tmp 5) (Operand.tmp 16), type := 0, pos := "law.go:94", after := #[{ on := 4, ground := Ground.data }, { on := 1, ground := Ground.data }, { on := 3, ground := Ground.chain }, { on := 0, ground := Ground.phase }, { on := 1, ground := Ground.phase }, { on := 2, ground := Ground.textOnly Departure.lateStores }, { on := 3, ground := Ground.textOnly Departure.lateStoresUnsure }, { on := 4, ground := Ground.phase }, { on := 5, ground := Ground.phase }], guard := none } : Oper)) rfl (fun K hK => ?_) AllReadyH.nil)
              have m0 := rX.cell 0 _ rfl
              have f0 := rX.frozen 0
              have m1 := rX.cell 1 _ rfl
              have f1 := rX.frozen 1
              have m2 := rX.cell 2 _ rfl
              have f2 := rX.frozen 2
              have m3 := rX.cell 3 _ rfl
              have f3 := rX.frozen 3
              go_simp
              obtain ⟨Wv5, hWv5⟩ : ∃ W, ((((Wv4.setCell ⟨X, 0, none⟩ (.int .i64 k)).setCell ⟨X, 1, none⟩ (.int .i64 u)).setCell ⟨X, 2, none⟩ (.bool x)).setCell ⟨X, 3, none⟩ (.slice A1 n c1)) = W := ⟨_, rfl⟩
              (try rw [hWv5])
              have t0 := rX
              have t1 := t0.set 0 (.int .i64 k)
              have t2 := t1.set 1 (.int .i64 u)
              have t3 := t2.set 2 (.bool x)
              have t4 := t3.set 3 (.slice A1 n c1)
              have o4 := ((((rY.setOther (g := X) 0 (.int .i64 k) (hne.out.symm)).setOther (g := X) 1 (.int .i64 u) (hne.out.symm)).setOther (g := X) 2 (.bool x) (hne.out.symm)).setOther (g := X) 3 (.slice A1 n c1) (hne.out.symm))
              have p1 := (((q1.out.2.1.setLow t0.ty (by decide) (by decide) 0 (.int .i64 k)).setLow t1.ty (by decide) (by decide) 1 (.int .i64 u)).setLow t2.ty (by decide) (by decide) 2 (.bool x)).setLow t3.ty (by decide) (by decide) 3 (.slice A1 n c1)
              have p2 := (((q2.out.2.1.setLow t0.ty (by decide) (by decide) 0 (.int .i64 k)).setLow t1.ty (by decide) (by decide) 1 (.int .i64 u)).setLow t2.ty (by decide) (by decide) 2 (.bool x)).setLow t3.ty (by decide) (by decide) 3 (.slice A1 n c1)
              have hbn := (((hbc.setCell (p := ⟨X, 0, none⟩) (show V.heap.size ≤ X by rw [hVS.out]; exact hVX) (.int .i64 k)).setCell (p := ⟨X, 1, none⟩) (show V.heap.size ≤ X by rw [hVS.out]; exact hVX) (.int .i64 u)).setCell (p := ⟨X, 2, none⟩) (show V.heap.size ≤ X by rw [hVS.out]; exact hVX) (.bool x)).setCell (p := ⟨X, 3, none⟩) (show V.heap.size ≤ X by rw [hVS.out]; exact hVX) (.slice A1 n c1)
              rw [hWv5] at t4 o4 p1 p2 hbn
              replace q1 : Hid _ := Lib.hid (And.intro q1.out.1 (And.intro p1 q1.out.2.2))
              replace q2 : Hid _ := Lib.hid (And.intro q2.out.1 (And.intro p2 q2.out.2.2))
              clear p1 p2 t0 t1 t2 t3 hWv5 hbc m0 m1 m2 m3 f0 f1 f2 f3 rX rY
              have rX := t4
              have rY := o4
              have hbc := hbn
              clear t4 o4 hbn
              refine hK.out _ _ ?ks66 (fun hHeld2 => ?_)
              case ks66 => exact HS8.out Wv5 hbc
              clear hK K
              try simp only [Act.put, List.setIfInBounds_toArray, List.set_cons_zero, List.set_cons_succ]
              replace hHeld := hHeld2
              clear hHeld2
              refine wpAnyH_ready (rs := [7]) (by kernel_rfl) (by simp) ?_
              refine (AllReadyH.cons (o := ({ dst := none, op := Op.store 31 (Operand.tmp 6) (Operand.tmp 18), type := 0, pos := "law.go:94", after := #[{ on := 5, ground := Ground.data }, { on := 3, ground := Ground.data }, { on := 6, ground := Ground.chain }, { on := 0, ground := Ground.phase }, { on := 1, ground := Ground.phase }, { on := 2, ground := Ground.phase }, { on := 3, ground := Ground.phase }, { on := 4, ground := Ground.phase }, { on := 5, ground := Ground.phase }, { on := 6, ground := Ground.phase }], guard := none } : Oper)) rfl (fun K hK => ?_) AllReadyH.nil)
              have m0 := rY.cell 0 _ rfl
              have f0 := rY.frozen 0
              have m1 := rY.cell 1 _ rfl
              have f1 := rY.frozen 1
              have m2 := rY.cell 2 _ rfl
              have f2 := rY.frozen 2
              have m3 := rY.cell 3 _ rfl
              have f3 := rY.frozen 3
              go_simp
              obtain ⟨Wv6, hWv6⟩ : ∃ W, ((((Wv5.setCell ⟨Y, 0, none⟩ (.int .i64 k')).setCell ⟨Y, 1, none⟩ (.int .i64 u')).setCell ⟨Y, 2, none⟩ (.bool x')).setCell ⟨Y, 3, none⟩ (.slice A2 n' c2)) = W := ⟨_, rfl⟩
              (try rw [hWv6])
              have t0 := rY
              have t1 := t0.set 0 (.int .i64 k')
              have t2 := t1.set 1 (.int .i64 u')
              have t3 := t2.set 2 (.bool x')
              have t4 := t3.set 3 (.slice A2 n' c2)
              have o4 := ((((rX.setOther (g := Y) 0 (.int .i64 k') (hne.out)).setOther (g := Y) 1 (.int .i64 u') (hne.out)).setOther (g := Y) 2 (.bool x') (hne.out)).setOther (g := Y) 3 (.slice A2 n' c2) (hne.out))
              have p1 := (((q1.out.2.1.setLow t0.ty (by decide) (by decide) 0 (.int .i64 k')).setLow t1.ty (by decide) (by decide) 1 (.int .i64 u')).setLow t2.ty (by decide) (by decide) 2 (.bool x')).setLow t3.ty (by decide) (by decide) 3 (.slice A2 n' c2)
              have p2 := (((q2.out.2.1.setLow t0.ty (by decide) (by decide) 0 (.int .i64 k')).setLow t1.ty (by decide) (by decide) 1 (.int .i64 u')).setLow t2.ty (by decide) (by decide) 2 (.bool x')).setLow t3.ty (by decide) (by decide) 3 (.slice A2 n' c2)
              have hbn := (((hbc.setCell (p := ⟨Y, 0, none⟩) (show V.heap.size ≤ Y by rw [hVS.out]; exact hVY) (.int .i64 k')).setCell (p := ⟨Y, 1, none⟩) (show V.heap.size ≤ Y by rw [hVS.out]; exact hVY) (.int .i64 u')).setCell (p := ⟨Y, 2, none⟩) (show V.heap.size ≤ Y by rw [hVS.out]; exact hVY) (.bool x')).setCell (p := ⟨Y, 3, none⟩) (show V.heap.size ≤ Y by rw [hVS.out]; exact hVY) (.slice A2 n' c2)
              rw [hWv6] at t4 o4 p1 p2 hbn
              replace q1 : Hid _ := Lib.hid (And.intro q1.out.1 (And.intro p1 q1.out.2.2))
              replace q2 : Hid _ := Lib.hid (And.intro q2.out.1 (And.intro p2 q2.out.2.2))
              clear p1 p2 t0 t1 t2 t3 hWv6 hbc m0 m1 m2 m3 f0 f1 f2 f3 rY rX
              have rY := t4
              have rX := o4
              have hbc := hbn
              clear t4 o4 hbn
              refine hK.out _ _ ?ku67 (fun hHeld2 => ?_)
              case ku67 => exact HS8.out Wv6 hbc
              clear hK K
              try simp only [Act.put, List.setIfInBounds_toArray, List.set_cons_zero, List.set_cons_succ]
              replace hHeld := hHeld2
              clear hHeld2
              refine wpAnyH_done (by kernel_rfl) ?_ _
              go_wp2_with fail
              go_meet
              exact ⟨X, Y, A1, c1, l1, A2, c2, l2, rfl, rfl, Lib.hid ⟨rX, rY, q1.out, q2.out, hbc⟩⟩
          · go_simp
            obtain ⟨X, hX⟩ : ∃ X, Wv1.heap.size = X := ⟨_, rfl⟩
            obtain ⟨Wv2, hWv2⟩ : ∃ W, Wv1.alloc (.cells #[.int .i64 0, .int .i64 0, .bool false, .slice none 0 0] 31) = W := ⟨_, rfl⟩
            have hst : Below Wv1.heap.size Wv1 Wv2 := by rw [← hWv2]; exact (Below.refl _ _).alloc (Nat.le_refl _) _
            have nw : RowC Wv2 X #[.int .i64 0, .int .i64 0, .bool false, .slice none 0 0] 31 := by rw [← hWv2, ← hX]; exact RowC.new _ _ _ _ rfl
            have hVX : VS ≤ X := by rw [← hX, ← hVS.out]; exact hbc.size
            (try rw [hX])
            (try rw [hWv2])
            clear hX hWv2
            have hbn := bTr hbc hst
            clear hbc
            replace q1 : Hid _ := Lib.hid (And.intro q1.out.1 (And.intro (q1.out.2.1.below hst (Nat.le_refl _)) q1.out.2.2))
            clear hst
            have hbc := hbn
            clear hbn
            have rX := nw
            clear nw
            refine hK.out _ _ ?kt64 (fun hHeld2 => ?_)
            case kt64 => exact HS8.out Wv2 hbc
            clear hK K
            try simp only [Act.put, List.setIfInBounds_toArray, List.set_cons_zero, List.set_cons_succ]
            replace hHeld := hHeld2
            clear hHeld2
            refine wpAnyH_ready (rs := [3, 5]) (by kernel_rfl) (by simp) ?_
            refine (AllReadyH.cons (o := ({ dst := some 18, op := Op.call { callee := Callee.value (Operand.func 11), args := #[Operand.tmp 17], argTypes := #[26] }, type := 31, pos := "law.go:94", after := #[{ on := 2, ground := Ground.data }, { on := 1, ground := Ground.chain }], guard := none } : Oper)) rfl (fun K hK => ?_) (AllReadyH.cons (o := ({ dst := some 6, op := Op.alloc 31, type := 0, pos := "law.go:94", after := #[], guard := none } : Oper)) rfl (fun K hK => ?_) AllReadyH.nil))
            · go_simp
              refine (KB.out Wv2 hbc).mono ?_
              rintro e Wv3 ⟨A2, c2, l2, rfl, hq, hst⟩
              (try go_wp2_with fail)
              have hbn := bTr hbc hst
              clear hbc
              replace q1 : Hid _ := Lib.hid (And.intro q1.out.1 (And.intro (q1.out.2.1.below hst (Nat.le_refl _)) q1.out.2.2))
              replace rX := rX.below hst rX.lt
              clear hst
              have hbc := hbn
              clear hbn
              have q2 := hq
              clear hq
              refine hK.out _ _ ?kt73 (fun hHeld2 => ?_)
              case kt73 => exact HS8.out Wv3 hbc
              clear hK K
              try simp only [Act.put, List.setIfInBounds_toArray, List.set_cons_zero, List.set_cons_succ]
              replace hHeld := hHeld2
              clear hHeld2
              refine wpAnyH_ready (rs := [5]) (by kernel_rfl) (by simp) ?_
              refine (AllReadyH.cons (o := ({ dst := some 6, op := Op.alloc 31, type := 0, pos := "law.go:94", after := #[], guard := none } : Oper)) rfl (fun K hK => ?_) AllReadyH.nil)
              go_simp
              obtain ⟨Y, hX⟩ : ∃ X, Wv3.heap.size = X := ⟨_, rfl⟩
              obtain ⟨Wv4, hWv4⟩ : ∃ W, Wv3.alloc (.cells #[.int .i64 0, .int .i64 0, .bool false, .slice none 0 0] 31) = W := ⟨_, rfl⟩
              have hst : Below Wv3.heap.size Wv3 Wv4 := by rw [← hWv4]; exact (Below.refl _ _).alloc (Nat.le_refl _) _
              have nw : RowC Wv4 Y #[.int .i64 0, .int .i64 0, .bool false, .slice none 0 0] 31 := by rw [← hWv4, ← hX]; exact RowC.new _ _ _ _ rfl
              have hVY : VS ≤ Y := by rw [← hX, ← hVS.out]; exact hbc.size
              have hne : Hid (X ≠ Y) := Lib.hid (by have := rX.lt; omega)
              (try rw [hX])
              (try rw [hWv4])
              clear hX hWv4
              have hbn := bTr hbc hst
              clear hbc
              replace q1 : Hid _ := Lib.hid (And.intro q1.out.1 (And.intro (q1.out.2.1.below hst (Nat.le_refl _)) q1.out.2.2))
              replace rX := rX.below hst rX.lt
              replace q2 : Hid _ := Lib.hid (And.intro q2.out.1 (And.intro (q2.out.2.1.below hst (Nat.le_refl _)) q2.out.2.2))
              clear hst
              have hbc := hbn
              clear hbn
              have rY := nw
              clear nw
              refine hK.out _ _ ?kt85 (fun hHeld2 => ?_)
              case kt85 => exact HS8.out Wv4 hbc
              clear hK K
              try simp only [Act.put, List.setIfInBounds_toArray, List.set_cons_zero, List.set_cons_succ]
              replace hHeld := hHeld2
              clear hHeld2
              refine wpAnyH_ready (rs := [6]) (by kernel_rfl) (by simp) ?_
              refine (AllReadyH.cons (o := ({ dst := none, op := Op.store 31 (Operand.tmp 5) (Operand.tmp 16), type := 0, pos := "law.go:94", after := #[{ on := 4, ground := Ground.data }, { on := 1, ground := Ground.data }, { on := 3, ground := Ground.chain }, { on := 0, ground := Ground.phase }, { on := 1, ground := Ground.phase }, { on := 2, ground := Ground.textOnly Departure.lateStores }, { on := 3, ground := Ground.textOnly Departure.lateStoresUnsure }, { on := 4, ground := Ground.phase }, { on := 5, ground := Ground.phase }], guard := none } : Oper)) rfl (fun K hK => ?_) AllReadyH.nil)
              have m0 := rX.cell 0 _ rfl
              have f0 := rX.frozen 0
              have m1 := rX.cell 1 _ rfl
              have f1 := rX.frozen 1
              have m2 := rX.cell 2 _ rfl
              have f2 := rX.frozen 2
              have m3 := rX.cell 3 _ rfl
              have f3 := rX.frozen 3
              go_simp
              obtain ⟨Wv5, hWv5⟩ : ∃ W, ((((Wv4.setCell ⟨X, 0, none⟩ (.int .i64 k)).setCell ⟨X, 1, none⟩ (.int .i64 u)).setCell ⟨X, 2, none⟩ (.bool x)).setCell ⟨X, 3, none⟩ (.slice A1 n c1)) = W := ⟨_, rfl⟩
              (try rw [hWv5])
              have t0 := rX
              have t1 := t0.set 0 (.int .i64 k)
              have t2 := t1.set 1 (.int .i64 u)
              have t3 := t2.set 2 (.bool x)
              have t4 := t3.set 3 (.slice A1 n c1)
              have o4 := ((((rY.setOther (g := X) 0 (.int .i64 k) (hne.out.symm)).setOther (g := X) 1 (.int .i64 u) (hne.out.symm)).setOther (g := X) 2 (.bool x) (hne.out.symm)).setOther (g := X) 3 (.slice A1 n c1) (hne.out.symm))
              have p1 := (((q1.out.2.1.setLow t0.ty (by decide) (by decide) 0 (.int .i64 k)).setLow t1.ty (by decide) (by decide) 1 (.int .i64 u)).setLow t2.ty (by decide) (by decide) 2 (.bool x)).setLow t3.ty (by decide) (by decide) 3 (.slice A1 n c1)
              have p2 := (((q2.out.2.1.setLow t0.ty (by decide) (by decide) 0 (.int .i64 k)).setLow t1.ty (by decide) (by decide) 1 (.int .i64 u)).setLow t2.ty (by decide) (by decide) 2 (.bool x)).setLow t3.ty (by decide) (by decide) 3 (.slice A1 n c1)
              have hbn := (((hbc.setCell (p := ⟨X, 0, none⟩) (show V.heap.size ≤ X by rw [hVS.out]; exact hVX) (.int .i64 k)).setCell (p := ⟨X, 1, none⟩) (show V.heap.size ≤ X by rw [hVS.out]; exact hVX) (.int .i64 u)).setCell (p := ⟨X, 2, none⟩) (show V.heap.size ≤ X by rw [hVS.out]; exact hVX) (.bool x)).setCell (p := ⟨X, 3, none⟩) (show V.heap.size ≤ X by rw [hVS.out]; exact hVX) (.slice A1 n c1)
              rw [hWv5] at t4 o4 p1 p2 hbn
              replace q1 : Hid _ := Lib.hid (And.intro q1.out.1 (And.intro p1 q1.out.2.2))
              replace q2 : Hid _ := Lib.hid (And.intro q2.out.1 (And.intro p2 q2.out.2.2))
              clear p1 p2 t0 t1 t2 t3 hWv5 hbc m0 m1 m2 m3 f0 f1 f2 f3 rX rY
              have rX := t4
              have rY := o4
              have hbc := hbn
              clear t4 o4 hbn
              refine hK.out _ _ ?ks96 (fun hHeld2 => ?_)
              case ks96 => exact HS8.out Wv5 hbc
              clear hK K
              try simp only [Act.put, List.setIfInBounds_toArray, List.set_cons_zero, List.set_cons_succ]
              replace hHeld := hHeld2
              clear hHeld2
              refine wpAnyH_ready (rs := [7]) (by kernel_rfl) (by simp) ?_
              refine (AllReadyH.cons (o := ({ dst := none, op := Op.store 31 (Operand.tmp 6) (Operand.tmp 18), type := 0, pos := "law.go:94", after := #[{ on := 5, ground := Ground.data }, { on := 3, ground := Ground.data }, { on := 6, ground := Ground.chain }, { on := 0, ground := Ground.phase }, { on := 1, ground := Ground.phase }, { on := 2, ground := Ground.phase }, { on := 3, ground := Ground.phase }, { on := 4, ground := Ground.phase }, { on := 5, ground := Ground.phase }, { on := 6, ground := Ground.phase }], guard := none } : Oper)) rfl (fun K hK => ?_) AllReadyH.nil)
              have m0 := rY.cell 0 _ rfl
              have f0 := rY.frozen 0
              have m1 := rY.cell 1 _ rfl
              have f1 := rY.frozen 1
              have m2 := rY.cell 2 _ rfl
              have f2 := rY.frozen 2
              have m3 := rY.cell 3 _ rfl
              have f3 := rY.frozen 3
              go_simp
              obtain ⟨Wv6, hWv6⟩ : ∃ W, ((((Wv5.setCell ⟨Y, 0, none⟩ (.int .i64 k')).setCell ⟨Y, 1, none⟩ (.int .i64 u')).setCell ⟨Y, 2, none⟩ (.bool x')).setCell ⟨Y, 3, none⟩ (.slice A2 n' c2)) = W := ⟨_, rfl⟩
              (try rw [hWv6])
              have t0 := rY
              have t1 := t0.set 0 (.int .i64 k')
              have t2 := t1.set 1 (.int .i64 u')
              have t3 := t2.set 2 (.bool x')
              have t4 := t3.set 3 (.slice A2 n' c2)
              have o4 := ((((rX.setOther (g := Y) 0 (.int .i64 k') (hne.out)).setOther (g := Y) 1 (.int .i64 u') (hne.out)).setOther (g := Y) 2 (.bool x') (hne.out)).setOther (g := Y) 3 (.slice A2 n' c2) (hne.out))
              have p1 := (((q1.out.2.1.setLow t0.ty (by decide) (by decide) 0 (.int .i64 k')).setLow t1.ty (by decide) (by decide) 1 (.int .i64 u')).setLow t2.ty (by decide) (by decide) 2 (.bool x')).setLow t3.ty (by decide) (by decide) 3 (.slice A2 n' c2)
              have p2 := (((q2.out.2.1.setLow t0.ty (by decide) (by decide) 0 (.int .i64 k')).setLow t1.ty (by decide) (by decide) 1 (.int .i64 u')).setLow t2.ty (by decide) (by decide) 2 (.bool x')).setLow t3.ty (by decide) (by decide) 3 (.slice A2 n' c2)
              have hbn := (((hbc.setCell (p := ⟨Y, 0, none⟩) (show V.heap.size ≤ Y by rw [hVS.out]; exact hVY) (.int .i64 k')).setCell (p := ⟨Y, 1, none⟩) (show V.heap.size ≤ Y by rw [hVS.out]; exact hVY) (.int .i64 u')).setCell (p := ⟨Y, 2, none⟩) (show V.heap.size ≤ Y by rw [hVS.out]; exact hVY) (.bool x')).setCell (p := ⟨Y, 3, none⟩) (show V.heap.size ≤ Y by rw [hVS.out]; exact hVY) (.slice A2 n' c2)
              rw [hWv6] at t4 o4 p1 p2 hbn
              replace q1 : Hid _ := Lib.hid (And.intro q1.out.1 (And.intro p1 q1.out.2.2))
              replace q2 : Hid _ := Lib.hid (And.intro q2.out.1 (And.intro p2 q2.out.2.2))
              clear p1 p2 t0 t1 t2 t3 hWv6 hbc m0 m1 m2 m3 f0 f1 f2 f3 rY rX
              have rY := t4
              have rX := o4
              have hbc := hbn
              clear t4 o4 hbn
              refine hK.out _ _ ?ku97 (fun hHeld2 => ?_)
              case ku97 => exact HS8.out Wv6 hbc
              clear hK K
              try simp only [Act.put, List.setIfInBounds_toArray, List.set_cons_zero, List.set_cons_succ]
              replace hHeld := hHeld2
              clear hHeld2
              refine wpAnyH_done (by kernel_rfl) ?_ _
              go_wp2_with fail
              go_meet
              exact ⟨X, Y, A1, c1, l1, A2, c2, l2, rfl, rfl, Lib.hid ⟨rX, rY, q1.out, q2.out, hbc⟩⟩
            · go_simp
              obtain ⟨Y, hX⟩ : ∃ X, Wv2.heap.size = X := ⟨_, rfl⟩
              obtain ⟨Wv3, hWv3⟩ : ∃ W, Wv2.alloc (.cells #[.int .i64 0, .int .i64 0, .bool false, .slice none 0 0] 31) = W := ⟨_, rfl⟩
              have hst : Below Wv2.heap.size Wv2 Wv3 := by rw [← hWv3]; exact (Below.refl _ _).alloc (Nat.le_refl _) _
              have nw : RowC Wv3 Y #[.int .i64 0, .int .i64 0, .bool false, .slice none 0 0] 31 := by rw [← hWv3, ← hX]; exact RowC.new _ _ _ _ rfl
              have hVY : VS ≤ Y := by rw [← hX, ← hVS.out]; exact hbc.size
              have hne : Hid (X ≠ Y) := Lib.hid (by have := rX.lt; omega)
              (try rw [hX])
              (try rw [hWv3])
              clear hX hWv3
              have hbn := bTr hbc hst
              clear hbc
              replace q1 : Hid _ := Lib.hid (And.intro q1.out.1 (And.intro (q1.out.2.1.below hst (Nat.le_refl _)) q1.out.2.2))
              replace rX := rX.below hst rX.lt
              clear hst
              have hbc := hbn
              clear hbn
              have rY := nw
              clear nw
              refine hK.out _ _ ?kt95 (fun hHeld2 => ?_)
              case kt95 => exact HS8.out Wv3 hbc
              clear hK K
              try simp only [Act.put, List.setIfInBounds_toArray, List.set_cons_zero, List.set_cons_succ]
              replace hHeld := hHeld2
              clear hHeld2
              refine wpAnyH_ready (rs := [3]) (by kernel_rfl) (by simp) ?_
              refine (AllReadyH.cons (o := ({ dst := some 18, op := Op.call { callee := Callee.value (Operand.func 11), args := #[Operand.tmp 17], argTypes := #[26] }, type := 31, pos := "law.go:94", after := #[{ on := 2, ground := Ground.data }, { on := 1, ground := Ground.chain }], guard := none } : Oper)) rfl (fun K hK => ?_) AllReadyH.nil)
              go_simp
              refine (KB.out Wv3 hbc).mono ?_
              rintro e Wv4 ⟨A2, c2, l2, rfl, hq, hst⟩
              (try go_wp2_with fail)
              have hbn := bTr hbc hst
              clear hbc
              replace q1 : Hid _ := Lib.hid (And.intro q1.out.1 (And.intro (q1.out.2.1.below hst (Nat.le_refl _)) q1.out.2.2))
              replace rX := rX.below hst rX.lt
              replace rY := rY.below hst rY.lt
              clear hst
              have hbc := hbn
              clear hbn
              have q2 := hq
              clear hq
              refine hK.out _ _ ?kt103 (fun hHeld2 => ?_)
              case kt103 => exact HS8.out Wv4 hbc
              clear hK K
              try simp only [Act.put, List.setIfInBounds_toArray, List.set_cons_zero, List.set_cons_succ]
              replace hHeld := hHeld2
              clear hHeld2
              refine wpAnyH_ready (rs := [6]) (by kernel_rfl) (by simp) ?_
              refine (AllReadyH.cons (o := ({ dst := none, op := Op.store 31 (Operand.tmp 5) (Operand.tmp 16), type := 0, pos := "law.go:94", after := #[{ on := 4, ground := Ground.data }, { on := 1, ground := Ground.data }, { on := 3, ground := Ground.chain }, { on := 0, ground := Ground.phase }, { on := 1, ground := Ground.phase }, { on := 2, ground := Ground.textOnly Departure.lateStores }, { on := 3, ground := Ground.textOnly Departure.lateStoresUnsure }, { on := 4, ground := Ground.phase }, { on := 5, ground := Ground.phase }], guard := none } : Oper)) rfl (fun K hK => ?_) AllReadyH.nil)
              have m0 := rX.cell 0 _ rfl
              have f0 := rX.frozen 0
              have m1 := rX.cell 1 _ rfl
              have f1 := rX.frozen 1
              have m2 := rX.cell 2 _ rfl
              have f2 := rX.frozen 2
              have m3 := rX.cell 3 _ rfl
              have f3 := rX.frozen 3
              go_simp
              obtain ⟨Wv5, hWv5⟩ : ∃ W, ((((Wv4.setCell ⟨X, 0, none⟩ (.int .i64 k)).setCell ⟨X, 1, none⟩ (.int .i64 u)).setCell ⟨X, 2, none⟩ (.bool x)).setCell ⟨X, 3, none⟩ (.slice A1 n c1)) = W := ⟨_, rfl⟩
              (try rw [hWv5])
              have t0 := rX
              have t1 := t0.set 0 (.int .i64 k)
              have t2 := t1.set 1 (.int .i64 u)
              have t3 := t2.set 2 (.bool x)
              have t4 := t3.set 3 (.slice A1 n c1)
              have o4 := ((((rY.setOther (g := X) 0 (.int .i64 k) (hne.out.symm)).setOther (g := X) 1 (.int .i64 u) (hne.out.symm)).setOther (g := X) 2 (.bool x) (hne.out.symm)).setOther (g := X) 3 (.slice A1 n c1) (hne.out.symm))
              have p1 := (((q1.out.2.1.setLow t0.ty (by decide) (by decide) 0 (.int .i64 k)).setLow t1.ty (by decide) (by decide) 1 (.int .i64 u)).setLow t2.ty (by decide) (by decide) 2 (.bool x)).setLow t3.ty (by decide) (by decide) 3 (.slice A1 n c1)
              have p2 := (((q2.out.2.1.setLow t0.ty (by decide) (by decide) 0 (.int .i64 k)).setLow t1.ty (by decide) (by decide) 1 (.int .i64 u)).setLow t2.ty (by decide) (by decide) 2 (.bool x)).setLow t3.ty (by decide) (by decide) 3 (.slice A1 n c1)
              have hbn := (((hbc.setCell (p := ⟨X, 0, none⟩) (show V.heap.size ≤ X by rw [hVS.out]; exact hVX) (.int .i64 k)).setCell (p := ⟨X, 1, none⟩) (show V.heap.size ≤ X by rw [hVS.out]; exact hVX) (.int .i64 u)).setCell (p := ⟨X, 2, none⟩) (show V.heap.size ≤ X by rw [hVS.out]; exact hVX) (.bool x)).setCell (p := ⟨X, 3, none⟩) (show V.heap.size ≤ X by rw [hVS.out]; exact hVX) (.slice A1 n c1)
              rw [hWv5] at t4 o4 p1 p2 hbn
              replace q1 : Hid _ := Lib.hid (And.intro q1.out.1 (And.intro p1 q1.out.2.2))
              replace q2 : Hid _ := Lib.hid (And.intro q2.out.1 (And.intro p2 q2.out.2.2))
              clear p1 p2 t0 t1 t2 t3 hWv5 hbc m0 m1 m2 m3 f0 f1 f2 f3 rX rY
              have rX := t4
              have rY := o4
              have hbc := hbn
              clear t4 o4 hbn
              refine hK.out _ _ ?ks116 (fun hHeld2 => ?_)
              case ks116 => exact HS8.out Wv5 hbc
              clear hK K
              try simp only [Act.put, List.setIfInBounds_toArray, List.set_cons_zero, List.set_cons_succ]
              replace hHeld := hHeld2
              clear hHeld2
              refine wpAnyH_ready (rs := [7]) (by kernel_rfl) (by simp) ?_
              refine (AllReadyH.cons (o := ({ dst := none, op := Op.store 31 (Operand.tmp 6) (Operand.tmp 18), type := 0, pos := "law.go:94", after := #[{ on := 5, ground := Ground.data }, { on := 3, ground := Ground.data }, { on := 6, ground := Ground.chain }, { on := 0, ground := Ground.phase }, { on := 1, ground := Ground.phase }, { on := 2, ground := Ground.phase }, { on := 3, ground := Ground.phase }, { on := 4, ground := Ground.phase }, { on := 5, ground := Ground.phase }, { on := 6, ground := Ground.phase }], guard := none } : Oper)) rfl (fun K hK => ?_) AllReadyH.nil)
              have m0 := rY.cell 0 _ rfl
              have f0 := rY.frozen 0
              have m1 := rY.cell 1 _ rfl
              have f1 := rY.frozen 1
              have m2 := rY.cell 2 _ rfl
              have f2 := rY.frozen 2
              have m3 := rY.cell 3 _ rfl
              have f3 := rY.frozen 3
              go_simp
              obtain ⟨Wv6, hWv6⟩ : ∃ W, ((((Wv5.setCell ⟨Y, 0, none⟩ (.int .i64 k')).setCell ⟨Y, 1, none⟩ (.int .i64 u')).setCell ⟨Y, 2, none⟩ (.bool x')).setCell ⟨Y, 3, none⟩ (.slice A2 n' c2)) = W := ⟨_, rfl⟩
              (try rw [hWv6])
              have t0 := rY
              have t1 := t0.set 0 (.int .i64 k')
              have t2 := t1.set 1 (.int .i64 u')
              have t3 := t2.set 2 (.bool x')
              have t4 := t3.set 3 (.slice A2 n' c2)
              have o4 := ((((rX.setOther (g := Y) 0 (.int .i64 k') (hne.out)).setOther (g := Y) 1 (.int .i64 u') (hne.out)).setOther (g := Y) 2 (.bool x') (hne.out)).setOther (g := Y) 3 (.slice A2 n' c2) (hne.out))
              have p1 := (((q1.out.2.1.setLow t0.ty (by decide) (by decide) 0 (.int .i64 k')).setLow t1.ty (by decide) (by decide) 1 (.int .i64 u')).setLow t2.ty (by decide) (by decide) 2 (.bool x')).setLow t3.ty (by decide) (by decide) 3 (.slice A2 n' c2)
              have p2 := (((q2.out.2.1.setLow t0.ty (by decide) (by decide) 0 (.int .i64 k')).setLow t1.ty (by decide) (by decide) 1 (.int .i64 u')).setLow t2.ty (by decide) (by decide) 2 (.bool x')).setLow t3.ty (by decide) (by decide) 3 (.slice A2 n' c2)
              have hbn := (((hbc.setCell (p := ⟨Y, 0, none⟩) (show V.heap.size ≤ Y by rw [hVS.out]; exact hVY) (.int .i64 k')).setCell (p := ⟨Y, 1, none⟩) (show V.heap.size ≤ Y by rw [hVS.out]; exact hVY) (.int .i64 u')).setCell (p := ⟨Y, 2, none⟩) (show V.heap.size ≤ Y by rw [hVS.out]; exact hVY) (.bool x')).setCell (p := ⟨Y, 3, none⟩) (show V.heap.size ≤ Y by rw [hVS.out]; exact hVY) (.slice A2 n' c2)
              rw [hWv6] at t4 o4 p1 p2 hbn
              replace q1 : Hid _ := Lib.hid (And.intro q1.out.1 (And.intro p1 q1.out.2.2))
              replace q2 : Hid _ := Lib.hid (And.intro q2.out.1 (And.intro p2 q2.out.2.2))
              clear p1 p2 t0 t1 t2 t3 hWv6 hbc m0 m1 m2 m3 f0 f1 f2 f3 rY rX
              have rY := t4
              have rX := o4
              have hbc := hbn
              clear t4 o4 hbn
              refine hK.out _ _ ?ku117 (fun hHeld2 => ?_)
              case ku117 => exact HS8.out Wv6 hbc
              clear hK K
              try simp only [Act.put, List.setIfInBounds_toArray, List.set_cons_zero, List.set_cons_succ]
              replace hHeld := hHeld2
              clear hHeld2
              refine wpAnyH_done (by kernel_rfl) ?_ _
              go_wp2_with fail
              go_meet
              exact ⟨X, Y, A1, c1, l1, A2, c2, l2, rfl, rfl, Lib.hid ⟨rX, rY, q1.out, q2.out, hbc⟩⟩
          · go_simp
            obtain ⟨Y, hX⟩ : ∃ X, Wv1.heap.size = X := ⟨_, rfl⟩
            obtain ⟨Wv2, hWv2⟩ : ∃ W, Wv1.alloc (.cells #[.int .i64 0, .int .i64 0, .bool false, .slice none 0 0] 31) = W := ⟨_, rfl⟩
            have hst : Below Wv1.heap.size Wv1 Wv2 := by rw [← hWv2]; exact (Below.refl _ _).alloc (Nat.le_refl _) _
            have nw : RowC Wv2 Y #[.int .i64 0, .int .i64 0, .bool false, .slice none 0 0] 31 := by rw [← hWv2, ← hX]; exact RowC.new _ _ _ _ rfl
            have hVY : VS ≤ Y := by rw [← hX, ← hVS.out]; exact hbc.size
            (try rw [hX])
            (try rw [hWv2])
            clear hX hWv2
            have hbn := bTr hbc hst
            clear hbc
            replace q1 : Hid _ := Lib.hid (And.intro q1.out.1 (And.intro (q1.out.2.1.below hst (Nat.le_refl _)) q1.out.2.2))
            clear hst
            have hbc := hbn
            clear hbn
            have rY := nw
            clear nw
            refine hK.out _ _ ?kt115 (fun hHeld2 => ?_)
            case kt115 => exact HS8.out Wv2 hbc
            clear hK K
            try simp only [Act.put, List.setIfInBounds_toArray, List.set_cons_zero, List.set_cons_succ]
            replace hHeld := hHeld2
            clear hHeld2
            refine wpAnyH_ready (rs := [3, 4]) (by kernel_rfl) (by simp) ?_
            refine (AllReadyH.cons (o := ({ dst := some 18, op := Op.call { callee := Callee.value (Operand.func 11), args := #[Operand.tmp 17], argTypes := #[26] }, type := 31, pos := "law.go:94", after := #[{ on := 2, ground := Ground.data }, { on := 1, ground := Ground.chain }], guard := none } : Oper)) rfl (fun K hK => ?_) (AllReadyH.cons (o := ({ dst := some 5, op := Op.alloc 31, type := 0, pos := "law.go:94", after := #[], guard := none } : Oper)) rfl (fun K hK => ?_) AllReadyH.nil))
            · go_simp
              refine (KB.out Wv2 hbc).mono ?_
              rintro e Wv3 ⟨A2, c2, l2, rfl, hq, hst⟩
              (try go_wp2_with fail)
              have hbn := bTr hbc hst
              clear hbc
              replace q1 : Hid _ := Lib.hid (And.intro q1.out.1 (And.intro (q1.out.2.1.below hst (Nat.le_refl _)) q1.out.2.2))
              replace rY := rY.below hst rY.lt
              clear hst
              have hbc := hbn
              clear hbn
              have q2 := hq
              clear hq
              refine hK.out _ _ ?kt123 (fun hHeld2 => ?_)
              case kt123 => exact HS8.out Wv3 hbc
              clear hK K
              try simp only [Act.put, List.setIfInBounds_toArray, List.set_cons_zero, List.set_cons_succ]
              replace hHeld := hHeld2
              clear hHeld2
              refine wpAnyH_ready (rs := [4]) (by kernel_rfl) (by simp) ?_
              refine (AllReadyH.cons (o := ({ dst := some 5, op := Op.alloc 31, type := 0, pos := "law.go:94", after := #[], guard := none } : Oper)) rfl (fun K hK => ?_) AllReadyH.nil)
              go_simp
              obtain ⟨X, hX⟩ : ∃ X, Wv3.heap.size = X := ⟨_, rfl⟩
              obtain ⟨Wv4, hWv4⟩ : ∃ W, Wv3.alloc (.cells #[.int .i64 0, .int .i64 0, .bool false, .slice none 0 0] 31) = W := ⟨_, rfl⟩
              have hst : Below Wv3.heap.size Wv3 Wv4 := by rw [← hWv4]; exact (Below.refl _ _).alloc (Nat.le_refl _) _
              have nw : RowC Wv4 X #[.int .i64 0, .int .i64 0, .bool false, .slice none 0 0] 31 := by rw [← hWv4, ← hX]; exact RowC.new _ _ _ _ rfl
              have hVX : VS ≤ X := by rw [← hX, ← hVS.out]; exact hbc.size
              have hne : Hid (X ≠ Y) := Lib.hid (by have := rY.lt; omega)
              (try rw [hX])
              (try rw [hWv4])
              clear hX hWv4
              have hbn := bTr hbc hst
              clear hbc
              replace q1 : Hid _ := Lib.hid (And.intro q1.out.1 (And.intro (q1.out.2.1.below hst (Nat.le_refl _)) q1.out.2.2))
              replace rY := rY.below hst rY.lt
              replace q2 : Hid _ := Lib.hid (And.intro q2.out.1 (And.intro (q2.out.2.1.below hst (Nat.le_refl _)) q2.out.2.2))
              clear hst
              have hbc := hbn
              clear hbn
              have rX := nw
              clear nw
              refine hK.out _ _ ?kt134 (fun hHeld2 => ?_)
              case kt134 => exact HS8.out Wv4 hbc
              clear hK K
              try simp only [Act.put, List.setIfInBounds_toArray, List.set_cons_zero, List.set_cons_succ]
              replace hHeld := hHeld2
              clear hHeld2
              refine wpAnyH_ready (rs := [6]) (by kernel_rfl) (by simp) ?_
              refine (AllReadyH.cons (o := ({ dst := none, op := Op.store 31 (Operand.tmp 5) (Operand.tmp 16), type := 0, pos := "law.go:94", after := #[{ on := 4, ground := Ground.data }, { on := 1, ground := Ground.data }, { on := 3, ground := Ground.chain }, { on := 0, ground := Ground.phase }, { on := 1, ground := Ground.phase }, { on := 2, ground := Ground.textOnly Departure.lateStores }, { on := 3, ground := Ground.textOnly Departure.lateStoresUnsure }, { on := 4, ground := Ground.phase }, { on := 5, ground := Ground.phase }], guard := none } : Oper)) rfl (fun K hK => ?_) AllReadyH.nil)
              have m0 := rX.cell 0 _ rfl
              have f0 := rX.frozen 0
              have m1 := rX.cell 1 _ rfl
              have f1 := rX.frozen 1
              have m2 := rX.cell 2 _ rfl
              have f2 := rX.frozen 2
              have m3 := rX.cell 3 _ rfl
              have f3 := rX.frozen 3
              go_simp
              obtain ⟨Wv5, hWv5⟩ : ∃ W, ((((Wv4.setCell ⟨X, 0, none⟩ (.int .i64 k)).setCell ⟨X, 1, none⟩ (.int .i64 u)).setCell ⟨X, 2, none⟩ (.bool x)).setCell ⟨X, 3, none⟩ (.slice A1 n c1)) = W := ⟨_, rfl⟩
              (try rw [hWv5])
              have t0 := rX
              have t1 := t0.set 0 (.int .i64 k)
              have t2 := t1.set 1 (.int .i64 u)
              have t3 := t2.set 2 (.bool x)
              have t4 := t3.set 3 (.slice A1 n c1)
              have o4 := ((((rY.setOther (g := X) 0 (.int .i64 k) (hne.out.symm)).setOther (g := X) 1 (.int .i64 u) (hne.out.symm)).setOther (g := X) 2 (.bool x) (hne.out.symm)).setOther (g := X) 3 (.slice A1 n c1) (hne.out.symm))
              have p1 := (((q1.out.2.1.setLow t0.ty (by decide) (by decide) 0 (.int .i64 k)).setLow t1.ty (by decide) (by decide) 1 (.int .i64 u)).setLow t2.ty (by decide) (by decide) 2 (.bool x)).setLow t3.ty (by decide) (by decide) 3 (.slice A1 n c1)
              have p2 := (((q2.out.2.1.setLow t0.ty (by decide) (by decide) 0 (.int .i64 k)).setLow t1.ty (by decide) (by decide) 1 (.int .i64 u)).setLow t2.ty (by decide) (by decide) 2 (.bool x)).setLow t3.ty (by decide) (by decide) 3 (.slice A1 n c1)
              have hbn := (((hbc.setCell (p := ⟨X, 0, none⟩) (show V.heap.size ≤ X by rw [hVS.out]; exact hVX) (.int .i64 k)).setCell (p := ⟨X, 1, none⟩) (show V.heap.size ≤ X by rw [hVS.out]; exact hVX) (.int .i64 u)).setCell (p := ⟨X, 2, none⟩) (show V.heap.size ≤ X by rw [hVS.out]; exact hVX) (.bool x)).setCell (p := ⟨X, 3, none⟩) (show V.heap.size ≤ X by rw [hVS.out]; exact hVX) (.slice A1 n c1)
              rw [hWv5] at t4 o4 p1 p2 hbn
              replace q1 : Hid _ := Lib.hid (And.intro q1.out.1 (And.intro p1 q1.out.2.2))
              replace q2 : Hid _ := Lib.hid (And.intro q2.out.1 (And.intro p2 q2.out.2.2))
              clear p1 p2 t0 t1 t2 t3 hWv5 hbc m0 m1 m2 m3 f0 f1 f2 f3 rX rY
              have rX := t4
              have rY := o4
              have hbc := hbn
              clear t4 o4 hbn
              refine hK.out _ _ ?ks146 (fun hHeld2 => ?_)
              case ks146 => exact HS8.out Wv5 hbc
              clear hK K
              try simp only [Act.put, List.setIfInBounds_toArray, List.set_cons_zero, List.set_cons_succ]
              replace hHeld := hHeld2
              clear hHeld2
              refine wpAnyH_ready (rs := [7]) (by kernel_rfl) (by simp) ?_
              refine (AllReadyH.cons (o := ({ dst := none, op := Op.store 31 (Operand.tmp 6) (Operand.tmp 18), type := 0, pos := "law.go:94", after := #[{ on := 5, ground := Ground.data }, { on := 3, ground := Ground.data }, { on := 6, ground := Ground.chain }, { on := 0, ground := Ground.phase }, { on := 1, ground := Ground.phase }, { on := 2, ground := Ground.phase }, { on := 3, ground := Ground.phase }, { on := 4, ground := Ground.phase }, { on := 5, ground := Ground.phase }, { on := 6, ground := Ground.phase }], guard := none } : Oper)) rfl (fun K hK => ?_) AllReadyH.nil)
              have m0 := rY.cell 0 _ rfl
              have f0 := rY.frozen 0
              have m1 := rY.cell 1 _ rfl
              have f1 := rY.frozen 1
              have m2 := rY.cell 2 _ rfl
              have f2 := rY.frozen 2
              have m3 := rY.cell 3 _ rfl
              have f3 := rY.frozen 3
              go_simp
              obtain ⟨Wv6, hWv6⟩ : ∃ W, ((((Wv5.setCell ⟨Y, 0, none⟩ (.int .i64 k')).setCell ⟨Y, 1, none⟩ (.int .i64 u')).setCell ⟨Y, 2, none⟩ (.bool x')).setCell ⟨Y, 3, none⟩ (.slice A2 n' c2)) = W := ⟨_, rfl⟩
              (try rw [hWv6])
              have t0 := rY
              have t1 := t0.set 0 (.int .i64 k')
              have t2 := t1.set 1 (.int .i64 u')
              have t3 := t2.set 2 (.bool x')
              have t4 := t3.set 3 (.slice A2 n' c2)
              have o4 := ((((rX.setOther (g := Y) 0 (.int .i64 k') (hne.out)).setOther (g := Y) 1 (.int .i64 u') (hne.out)).setOther (g := Y) 2 (.bool x') (hne.out)).setOther (g := Y) 3 (.slice A2 n' c2) (hne.out))
              have p1 := (((q1.out.2.1.setLow t0.ty (by decide) (by decide) 0 (.int .i64 k')).setLow t1.ty (by decide) (by decide) 1 (.int .i64 u')).setLow t2.ty (by decide) (by decide) 2 (.bool x')).setLow t3.ty (by decide) (by decide) 3 (.slice A2 n' c2)
              have p2 := (((q2.out.2.1.setLow t0.ty (by decide) (by decide) 0 (.int .i64 k')).setLow t1.ty (by decide) (by decide) 1 (.int .i64 u')).setLow t2.ty (by decide) (by decide) 2 (.bool x')).setLow t3.ty (by decide) (by decide) 3 (.slice A2 n' c2)
              have hbn := (((hbc.setCell (p := ⟨Y, 0, none⟩) (show V.heap.size ≤ Y by rw [hVS.out]; exact hVY) (.int .i64 k')).setCell (p := ⟨Y, 1, none⟩) (show V.heap.size ≤ Y by rw [hVS.out]; exact hVY) (.int .i64 u')).setCell (p := ⟨Y, 2, none⟩) (show V.heap.size ≤ Y by rw [hVS.out]; exact hVY) (.bool x')).setCell (p := ⟨Y, 3, none⟩) (show V.heap.size ≤ Y by rw [hVS.out]; exact hVY) (.slice A2 n' c2)
              rw [hWv6] at t4 o4 p1 p2 hbn
              replace q1 : Hid _ := Lib.hid (And.intro q1.out.1 (And.intro p1 q1.out.2.2))
              replace q2 : Hid _ := Lib.hid (And.intro q2.out.1 (And.intro p2 q2.out.2.2))
              clear p1 p2 t0 t1 t2 t3 hWv6 hbc m0 m1 m2 m3 f0 f1 f2 f3 rY rX
              have rY := t4
              have rX := o4
              have hbc := hbn
              clear t4 o4 hbn
              refine hK.out _ _ ?ku147 (fun hHeld2 => ?_)
              case ku147 => exact HS8.out Wv6 hbc
              clear hK K
              try simp only [Act.put, List.setIfInBounds_toArray, List.set_cons_zero, List.set_cons_succ]
              replace hHeld := hHeld2
              clear hHeld2
              refine wpAnyH_done (by kernel_rfl) ?_ _
              go_wp2_with fail
              go_meet
              exact ⟨X, Y, A1, c1, l1, A2, c2, l2, rfl, rfl, Lib.hid ⟨rX, rY, q1.out, q2.out, hbc⟩⟩
            · go_simp
              obtain ⟨X, hX⟩ : ∃ X, Wv2.heap.size = X := ⟨_, rfl⟩
              obtain ⟨Wv3, hWv3⟩ : ∃ W, Wv2.alloc (.cells #[.int .i64 0, .int .i64 0, .bool false, .slice none 0 0] 31) = W := ⟨_, rfl⟩
              have hst : Below Wv2.heap.size Wv2 Wv3 := by rw [← hWv3]; exact (Below.refl _ _).alloc (Nat.le_refl _) _
              have nw : RowC Wv3 X #[.int .i64 0, .int .i64 0, .bool false, .slice none 0 0] 31 := by rw [← hWv3, ← hX]; exact RowC.new _ _ _ _ rfl
              have hVX : VS ≤ X := by rw [← hX, ← hVS.out]; exact hbc.size
              have hne : Hid (X ≠ Y) := Lib.hid (by have := rY.lt; omega)
              (try rw [hX])
              (try rw [hWv3])
              clear hX hWv3
              have hbn := bTr hbc hst
              clear hbc
              replace q1 : Hid _ := Lib.hid (And.intro q1.out.1 (And.intro (q1.out.2.1.below hst (Nat.le_refl _)) q1.out.2.2))
              replace rY := rY.below hst rY.lt
              clear hst
              have hbc := hbn
              clear hbn
              have rX := nw
              clear nw
              refine hK.out _ _ ?kt144 (fun hHeld2 => ?_)
              case kt144 => exact HS8.out Wv3 hbc
              clear hK K
              try simp only [Act.put, List.setIfInBounds_toArray, List.set_cons_zero, List.set_cons_succ]
              replace hHeld := hHeld2
              clear hHeld2
              refine wpAnyH_ready (rs := [3]) (by kernel_rfl) (by simp) ?_
              refine (AllReadyH.cons (o := ({ dst := some 18, op := Op.call { callee := Callee.value (Operand.func 11), args := #[Operand.tmp 17], argTypes := #[26] }, type := 31, pos := "law.go:94", after := #[{ on := 2, ground := Ground.data }, { on := 1, ground := Ground.chain }], guard := none } : Oper)) rfl (fun K hK => ?_) AllReadyH.nil)
              go_simp
              refine (KB.out Wv3 hbc).mono ?_
              rintro e Wv4 ⟨A2, c2, l2, rfl, hq, hst⟩
              (try go_wp2_with fail)
              have hbn := bTr hbc hst
              clear hbc
              replace q1 : Hid _ := Lib.hid (And.intro q1.out.1 (And.intro (q1.out.2.1.below hst (Nat.le_refl _)) q1.out.2.2))
              replace rY := rY.below hst rY.lt
              replace rX := rX.below hst rX.lt
              clear hst
              have hbc := hbn
              clear hbn
              have q2 := hq
              clear hq
              refine hK.out _ _ ?kt153 (fun hHeld2 => ?_)
              case kt153 => exact HS8.out Wv4 hbc
              clear hK K
              try simp only [Act.put, List.setIfInBounds_toArray, List.set_cons_zero, List.set_cons_succ]
              replace hHeld := hHeld2
              clear hHeld2
              refine wpAnyH_ready (rs := [6]) (by kernel_rfl) (by simp) ?_
              refine (AllReadyH.cons (o := ({ dst := none, op := Op.store 31 (Operand.tmp 5) (Operand.tmp 16), type := 0, pos := "law.go:94", after := #[{ on := 4, ground := Ground.data }, { on := 1, ground := Ground.data }, { on := 3, ground := Ground.chain }, { on := 0, ground := Ground.phase }, { on := 1, ground := Ground.phase }, { on := 2, ground := Ground.textOnly Departure.lateStores }, { on := 3, ground := Ground.textOnly Departure.lateStoresUnsure }, { on := 4, ground := Ground.phase }, { on := 5, ground := Ground.phase }], guard := none } : Oper)) rfl (fun K hK => ?_) AllReadyH.nil)
              have m0 := rX.cell 0 _ rfl
              have f0 := rX.frozen 0
              have m1 := rX.cell 1 _ rfl
              have f1 := rX.frozen 1
              have m2 := rX.cell 2 _ rfl
              have f2 := rX.frozen 2
              have m3 := rX.cell 3 _ rfl
              have f3 := rX.frozen 3
              go_simp
              obtain ⟨Wv5, hWv5⟩ : ∃ W, ((((Wv4.setCell ⟨X, 0, none⟩ (.int .i64 k)).setCell ⟨X, 1, none⟩ (.int .i64 u)).setCell ⟨X, 2, none⟩ (.bool x)).setCell ⟨X, 3, none⟩ (.slice A1 n c1)) = W := ⟨_, rfl⟩
              (try rw [hWv5])
              have t0 := rX
              have t1 := t0.set 0 (.int .i64 k)
              have t2 := t1.set 1 (.int .i64 u)
              have t3 := t2.set 2 (.bool x)
              have t4 := t3.set 3 (.slice A1 n c1)
              have o4 := ((((rY.setOther (g := X) 0 (.int .i64 k) (hne.out.symm)).setOther (g := X) 1 (.int .i64 u) (hne.out.symm)).setOther (g := X) 2 (.bool x) (hne.out.symm)).setOther (g := X) 3 (.slice A1 n c1) (hne.out.symm))
              have p1 := (((q1.out.2.1.setLow t0.ty (by decide) (by decide) 0 (.int .i64 k)).setLow t1.ty (by decide) (by decide) 1 (.int .i64 u)).setLow t2.ty (by decide) (by decide) 2 (.bool x)).setLow t3.ty (by decide) (by decide) 3 (.slice A1 n c1)
              have p2 := (((q2.out.2.1.setLow t0.ty (by decide) (by decide) 0 (.int .i64 k)).setLow t1.ty (by decide) (by decide) 1 (.int .i64 u)).setLow t2.ty (by decide) (by decide) 2 (.bool x)).setLow t3.ty (by decide) (by decide) 3 (.slice A1 n c1)
              have hbn := (((hbc.setCell (p := ⟨X, 0, none⟩) (show V.heap.size ≤ X by rw [hVS.out]; exact hVX) (.int .i64 k)).setCell (p := ⟨X, 1, none⟩) (show V.heap.size ≤ X by rw [hVS.out]; exact hVX) (.int .i64 u)).setCell (p := ⟨X, 2, none⟩) (show V.heap.size ≤ X by rw [hVS.out]; exact hVX) (.bool x)).setCell (p := ⟨X, 3, none⟩) (show V.heap.size ≤ X by rw [hVS.out]; exact hVX) (.slice A1 n c1)
              rw [hWv5] at t4 o4 p1 p2 hbn
              replace q1 : Hid _ := Lib.hid (And.intro q1.out.1 (And.intro p1 q1.out.2.2))
              replace q2 : Hid _ := Lib.hid (And.intro q2.out.1 (And.intro p2 q2.out.2.2))
              clear p1 p2 t0 t1 t2 t3 hWv5 hbc m0 m1 m2 m3 f0 f1 f2 f3 rX rY
              have rX := t4
              have rY := o4
              have hbc := hbn
              clear t4 o4 hbn
              refine hK.out _ _ ?ks166 (fun hHeld2 => ?_)
              case ks166 => exact HS8.out Wv5 hbc
              clear hK K
              try simp only [Act.put, List.setIfInBounds_toArray, List.set_cons_zero, List.set_cons_succ]
              replace hHeld := hHeld2
              clear hHeld2
              refine wpAnyH_ready (rs := [7]) (by kernel_rfl) (by simp) ?_
              refine (AllReadyH.cons (o := ({ dst := none, op := Op.store 31 (Operand.tmp 6) (Operand.tmp 18), type := 0, pos := "law.go:94", after := #[{ on := 5, ground := Ground.data }, { on := 3, ground := Ground.data }, { on := 6, ground := Ground.chain }, { on := 0, ground := Ground.phase }, { on := 1, ground := Ground.phase }, { on := 2, ground := Ground.phase }, { on := 3, ground := Ground.phase }, { on := 4, ground := Ground.phase }, { on := 5, ground := Ground.phase }, { on := 6, ground := Ground.phase }], guard := none } : Oper)) rfl (fun K hK => ?_) AllReadyH.nil)
              have m0 := rY.cell 0 _ rfl
              have f0 := rY.frozen 0
              have m1 := rY.cell 1 _ rfl
              have f1 := rY.frozen 1
              have m2 := rY.cell 2 _ rfl
              have f2 := rY.frozen 2
              have m3 := rY.cell 3 _ rfl
              have f3 := rY.frozen 3
              go_simp
              obtain ⟨Wv6, hWv6⟩ : ∃ W, ((((Wv5.setCell ⟨Y, 0, none⟩ (.int .i64 k')).setCell ⟨Y, 1, none⟩ (.int .i64 u')).setCell ⟨Y, 2, none⟩ (.bool x')).setCell ⟨Y, 3, none⟩ (.slice A2 n' c2)) = W := ⟨_, rfl⟩
              (try rw [hWv6])
              have t0 := rY
              have t1 := t0.set 0 (.int .i64 k')
              have t2 := t1.set 1 (.int .i64 u')
              have t3 := t2.set 2 (.bool x')
              have t4 := t3.set 3 (.slice A2 n' c2)
              have o4 := ((((rX.setOther (g := Y) 0 (.int .i64 k') (hne.out)).setOther (g := Y) 1 (.int .i64 u') (hne.out)).setOther (g := Y) 2 (.bool x') (hne.out)).setOther (g := Y) 3 (.slice A2 n' c2) (hne.out))
              have p1 := (((q1.out.2.1.setLow t0.ty (by decide) (by decide) 0 (.int .i64 k')).setLow t1.ty (by decide) (by decide) 1 (.int .i64 u')).setLow t2.ty (by decide) (by decide) 2 (.bool x')).setLow t3.ty (by decide) (by decide) 3 (.slice A2 n' c2)
              have p2 := (((q2.out.2.1.setLow t0.ty (by decide) (by decide) 0 (.int .i64 k')).setLow t1.ty (by decide) (by decide) 1 (.int .i64 u')).setLow t2.ty (by decide) (by decide) 2 (.bool x')).setLow t3.ty (by decide) (by decide) 3 (.slice A2 n' c2)
              have hbn := (((hbc.setCell (p := ⟨Y, 0, none⟩) (show V.heap.size ≤ Y by rw [hVS.out]; exact hVY) (.int .i64 k')).setCell (p := ⟨Y, 1, none⟩) (show V.heap.size ≤ Y by rw [hVS.out]; exact hVY) (.int .i64 u')).setCell (p := ⟨Y, 2, none⟩) (show V.heap.size ≤ Y by rw [hVS.out]; exact hVY) (.bool x')).setCell (p := ⟨Y, 3, none⟩) (show V.heap.size ≤ Y by rw [hVS.out]; exact hVY) (.slice A2 n' c2)
              rw [hWv6] at t4 o4 p1 p2 hbn
              replace q1 : Hid _ := Lib.hid (And.intro q1.out.1 (And.intro p1 q1.out.2.2))
              replace q2 : Hid _ := Lib.hid (And.intro q2.out.1 (And.intro p2 q2.out.2.2))
              clear p1 p2 t0 t1 t2 t3 hWv6 hbc m0 m1 m2 m3 f0 f1 f2 f3 rY rX
              have rY := t4
              have rX := o4
              have hbc := hbn
              clear t4 o4 hbn
              refine hK.out _ _ ?ku167 (fun hHeld2 => ?_)
              case ku167 => exact HS8.out Wv6 hbc
              clear hK K
              try simp only [Act.put, List.setIfInBounds_toArray, List.set_cons_zero, List.set_cons_succ]
              replace hHeld := hHeld2
              clear hHeld2
              refine wpAnyH_done (by kernel_rfl) ?_ _
              go_wp2_with fail
              go_meet
              exact ⟨X, Y, A1, c1, l1, A2, c2, l2, rfl, rfl, Lib.hid ⟨rX, rY, q1.out, q2.out, hbc⟩⟩
        · go_simp
          obtain ⟨X, hX⟩ : ∃ X, Wv0.heap.size = X := ⟨_, rfl⟩
          obtain ⟨Wv1, hWv1⟩ : ∃ W, Wv0.alloc (.cells #[.int .i64 0, .int .i64 0, .bool false, .slice none 0 0] 31) = W := ⟨_, rfl⟩
          have hst : Below Wv0.heap.size Wv0 Wv1 := by rw [← hWv1]; exact (Below.refl _ _).alloc (Nat.le_refl _) _
          have nw : RowC Wv1 X #[.int .i64 0, .int .i64 0, .bool false, .slice none 0 0] 31 := by rw [← hWv1, ← hX]; exact RowC.new _ _ _ _ rfl
          have hVX : VS ≤ X := by rw [← hX, ← hVS.out]; exact hbc.size
          (try rw [hX])
          (try rw [hWv1])
          clear hX hWv1
          have hbn := bTr hbc hst
          clear hbc
          clear hst
          have hbc := hbn
          clear hbn
          have rX := nw
          clear nw
          refine hK.out _ _ ?kt164 (fun hHeld2 => ?_)
          case kt164 => exact HS8.out Wv1 hbc
          clear hK K
          try simp only [Act.put, List.setIfInBounds_toArray, List.set_cons_zero, List.set_cons_succ]
          replace hHeld := hHeld2
          clear hHeld2
          refine wpAnyH_ready (rs := [1, 5]) (by kernel_rfl) (by simp) ?_
          refine (AllReadyH.cons (o := ({ dst := some 16, op := Op.call { callee := Callee.value (Operand.func 11), args := #[Operand.tmp 15], argTypes := #[26] }, type := 31, pos := "law.go:94", after := #[{ on := 0, ground := Ground.data }], guard := none } : Oper)) rfl (fun K hK => ?_) (AllReadyH.cons (o := ({ dst := some 6, op := Op.alloc 31, type := 0, pos := "law.go:94", after := #[], guard := none } : Oper)) rfl (fun K hK => ?_) AllReadyH.nil))
          · go_simp
            refine (KA.out Wv1 hbc).mono ?_
            rintro e Wv2 ⟨A1, c1, l1, rfl, hq, hst⟩
            (try go_wp2_with fail)
            have hbn := bTr hbc hst
            clear hbc
            replace rX := rX.below hst rX.lt
            clear hst
            have hbc := hbn
            clear hbn
            have q1 := hq
            clear hq
            refine hK.out _ _ ?kt171 (fun hHeld2 => ?_)
            case kt171 => exact HS8.out Wv2 hbc
            clear hK K
            try simp only [Act.put, List.setIfInBounds_toArray, List.set_cons_zero, List.set_cons_succ]
            replace hHeld := hHeld2
            clear hHeld2
            refine wpAnyH_ready (rs := [3, 5]) (by kernel_rfl) (by simp) ?_
            refine (AllReadyH.cons (o := ({ dst := some 18, op := Op.call { callee := Callee.value (Operand.func 11), args := #[Operand.tmp 17], argTypes := #[26] }, type := 31, pos := "law.go:94", after := #[{ on := 2, ground := Ground.data }, { on := 1, ground := Ground.chain }], guard := none } : Oper)) rfl (fun K hK => ?_) (AllReadyH.cons (o := ({ dst := some 6, op := Op.alloc 31, type := 0, pos := "law.go:94", after := #[], guard := none } : Oper)) rfl (fun K hK => ?_) AllReadyH.nil))
            · go_simp
              refine (KB.out Wv2 hbc).mono ?_
              rintro e Wv3 ⟨A2, c2, l2, rfl, hq, hst⟩
              (try go_wp2_with fail)
              have hbn := bTr hbc hst
              clear hbc
              replace rX := rX.below hst rX.lt
              replace q1 : Hid _ := Lib.hid (And.intro q1.out.1 (And.intro (q1.out.2.1.below hst (Nat.le_refl _)) q1.out.2.2))
              clear hst
              have hbc := hbn
              clear hbn
              have q2 := hq
              clear hq
              refine hK.out _ _ ?kt183 (fun hHeld2 => ?_)
              case kt183 => exact HS8.out Wv3 hbc
              clear hK K
              try simp only [Act.put, List.setIfInBounds_toArray, List.set_cons_zero, List.set_cons_succ]
              replace hHeld := hHeld2
              clear hHeld2
              refine wpAnyH_ready (rs := [5]) (by kernel_rfl) (by simp) ?_
              refine (AllReadyH.cons (o := ({ dst := some 6, op := Op.alloc 31, type := 0, pos := "law.go:94", after := #[], guard := none } : Oper)) rfl (fun K hK => ?_) AllReadyH.nil)
              go_simp
              obtain ⟨Y, hX⟩ : ∃ X, Wv3.heap.size = X := ⟨_, rfl⟩
              obtain ⟨Wv4, hWv4⟩ : ∃ W, Wv3.alloc (.cells #[.int .i64 0, .int .i64 0, .bool false, .slice none 0 0] 31) = W := ⟨_, rfl⟩
              have hst : Below Wv3.heap.size Wv3 Wv4 := by rw [← hWv4]; exact (Below.refl _ _).alloc (Nat.le_refl _) _
              have nw : RowC Wv4 Y #[.int .i64 0, .int .i64 0, .bool false, .slice none 0 0] 31 := by rw [← hWv4, ← hX]; exact RowC.new _ _ _ _ rfl
              have hVY : VS ≤ Y := by rw [← hX, ← hVS.out]; exact hbc.size
              have hne : Hid (X ≠ Y) := Lib.hid (by have := rX.lt; omega)
              (try rw [hX])
              (try rw [hWv4])
              clear hX hWv4
              have hbn := bTr hbc hst
              clear hbc
              replace rX := rX.below hst rX.lt
              replace q1 : Hid _ := Lib.hid (And.intro q1.out.1 (And.intro (q1.out.2.1.below hst (Nat.le_refl _)) q1.out.2.2))
              replace q2 : Hid _ := Lib.hid (And.intro q2.out.1 (And.intro (q2.out.2.1.below hst (Nat.le_refl _)) q2.out.2.2))
              clear hst
              have hbc := hbn
              clear hbn
              have rY := nw
              clear nw
              refine hK.out _ _ ?kt195 (fun hHeld2 => ?_)
              case kt195 => exact HS8.out Wv4 hbc
              clear hK K
              try simp only [Act.put, List.setIfInBounds_toArray, List.set_cons_zero, List.set_cons_succ]
              replace hHeld := hHeld2
              clear hHeld2
              refine wpAnyH_ready (rs := [6]) (by kernel_rfl) (by simp) ?_
              refine (AllReadyH.cons (o := ({ dst := none, op := Op.store 31 (Operand.tmp 5) (Operand.tmp 16), type := 0, pos := "law.go:94", after := #[{ on := 4, ground := Ground.data }, { on := 1, ground := Ground.data }, { on := 3, ground := Ground.chain }, { on := 0, ground := Ground.phase }, { on := 1, ground := Ground.phase }, { on := 2, ground := Ground.textOnly Departure.lateStores }, { on := 3, ground := Ground.textOnly Departure.lateStoresUnsure }, { on := 4, ground := Ground.phase }, { on := 5, ground := Ground.phase }], guard := none } : Oper)) rfl (fun K hK => ?_) AllReadyH.nil)
              have m0 := rX.cell 0 _ rfl
              have f0 := rX.frozen 0
              have m1 := rX.cell 1 _ rfl
              have f1 := rX.frozen 1
              have m2 := rX.cell 2 _ rfl
              have f2 := rX.frozen 2
              have m3 := rX.cell 3 _ rfl
              have f3 := rX.frozen 3
              go_simp
              obtain ⟨Wv5, hWv5⟩ : ∃ W, ((((Wv4.setCell ⟨X, 0, none⟩ (.int .i64 k)).setCell ⟨X, 1, none⟩ (.int .i64 u)).setCell ⟨X, 2, none⟩ (.bool x)).setCell ⟨X, 3, none⟩ (.slice A1 n c1)) = W := ⟨_, rfl⟩
              (try rw [hWv5])
              have t0 := rX
              have t1 := t0.set 0 (.int .i64 k)
              have t2 := t1.set 1 (.int .i64 u)
              have t3 := t2.set 2 (.bool x)
              have t4 := t3.set 3 (.slice A1 n c1)
              have o4 := ((((rY.setOther (g := X) 0 (.int .i64 k) (hne.out.symm)).setOther (g := X) 1 (.int .i64 u) (hne.out.symm)).setOther (g := X) 2 (.bool x) (hne.out.symm)).setOther (g := X) 3 (.slice A1 n c1) (hne.out.symm))
              have p1 := (((q1.out.2.1.setLow t0.ty (by decide) (by decide) 0 (.int .i64 k)).setLow t1.ty (by decide) (by decide) 1 (.int .i64 u)).setLow t2.ty (by decide) (by decide) 2 (.bool x)).setLow t3.ty (by decide) (by decide) 3 (.slice A1 n c1)
              have p2 := (((q2.out.2.1.setLow t0.ty (by decide) (by decide) 0 (.int .i64 k)).setLow t1.ty (by decide) (by decide) 1 (.int .i64 u)).setLow t2.ty (by decide) (by decide) 2 (.bool x)).setLow t3.ty (by decide) (by decide) 3 (.slice A1 n c1)
              have hbn := (((hbc.setCell (p := ⟨X, 0, none⟩) (show V.heap.size ≤ X by rw [hVS.out]; exact hVX) (.int .i64 k)).setCell (p := ⟨X, 1, none⟩) (show V.heap.size ≤ X by rw [hVS.out]; exact hVX) (.int .i64 u)).setCell (p := ⟨X, 2, none⟩) (show V.heap.size ≤ X by rw [hVS.out]; exact hVX) (.bool x)).setCell (p := ⟨X, 3, none⟩) (show V.heap.size ≤ X by rw [hVS.out]; exact hVX) (.slice A1 n c1)
              rw [hWv5] at t4 o4 p1 p2 hbn
              replace q1 : Hid _ := Lib.hid (And.intro q1.out.1 (And.intro p1 q1.out.2.2))
              replace q2 : Hid _ := Lib.hid (And.intro q2.out.1 (And.intro p2 q2.out.2.2))
              clear p1 p2 t0 t1 t2 t3 hWv5 hbc m0 m1 m2 m3 f0 f1 f2 f3 rX rY
              have rX := t4
              have rY := o4
              have hbc := hbn
              clear t4 o4 hbn
              refine hK.out _ _ ?ks206 (fun hHeld2 => ?_)
              case ks206 => exact HS8.out Wv5 hbc
              clear hK K
              try simp only [Act.put, List.setIfInBounds_toArray, List.set_cons_zero, List.set_cons_succ]
              replace hHeld := hHeld2
              clear hHeld2
              refine wpAnyH_ready (rs := [7]) (by kernel_rfl) (by simp) ?_
              refine (AllReadyH.cons (o := ({ dst := none, op := Op.store 31 (Operand.tmp 6) (Operand.tmp 18), type := 0, pos := "law.go:94", after := #[{ on := 5, ground := Ground.data }, { on := 3, ground := Ground.data }, { on := 6, ground := Ground.chain }, { on := 0, ground := Ground.phase }, { on := 1, ground := Ground.phase }, { on := 2, ground := Ground.phase }, { on := 3, ground := Ground.phase }, { on := 4, ground := Ground.phase }, { on := 5, ground := Ground.phase }, { on := 6, ground := Ground.phase }], guard := none } : Oper)) rfl (fun K hK => ?_) AllReadyH.nil)
              have m0 := rY.cell 0 _ rfl
              have f0 := rY.frozen 0
              have m1 := rY.cell 1 _ rfl
              have f1 := rY.frozen 1
              have m2 := rY.cell 2 _ rfl
              have f2 := rY.frozen 2
              have m3 := rY.cell 3 _ rfl
              have f3 := rY.frozen 3
              go_simp
              obtain ⟨Wv6, hWv6⟩ : ∃ W, ((((Wv5.setCell ⟨Y, 0, none⟩ (.int .i64 k')).setCell ⟨Y, 1, none⟩ (.int .i64 u')).setCell ⟨Y, 2, none⟩ (.bool x')).setCell ⟨Y, 3, none⟩ (.slice A2 n' c2)) = W := ⟨_, rfl⟩
              (try rw [hWv6])
              have t0 := rY
              have t1 := t0.set 0 (.int .i64 k')
              have t2 := t1.set 1 (.int .i64 u')
              have t3 := t2.set 2 (.bool x')
              have t4 := t3.set 3 (.slice A2 n' c2)
              have o4 := ((((rX.setOther (g := Y) 0 (.int .i64 k') (hne.out)).setOther (g := Y) 1 (.int .i64 u') (hne.out)).setOther (g := Y) 2 (.bool x') (hne.out)).setOther (g := Y) 3 (.slice A2 n' c2) (hne.out))
              have p1 := (((q1.out.2.1.setLow t0.ty (by decide) (by decide) 0 (.int .i64 k')).setLow t1.ty (by decide) (by decide) 1 (.int .i64 u')).setLow t2.ty (by decide) (by decide) 2 (.bool x')).setLow t3.ty (by decide) (by decide) 3 (.slice A2 n' c2)
              have p2 := (((q2.out.2.1.setLow t0.ty (by decide) (by decide) 0 (.int .i64 k')).setLow t1.ty (by decide) (by decide) 1 (.int .i64 u')).setLow t2.ty (by decide) (by decide) 2 (.bool x')).setLow t3.ty (by decide) (by decide) 3 (.slice A2 n' c2)
              have hbn := (((hbc.setCell (p := ⟨Y, 0, none⟩) (show V.heap.size ≤ Y by rw [hVS.out]; exact hVY) (.int .i64 k')).setCell (p := ⟨Y, 1, none⟩) (show V.heap.size ≤ Y by rw [hVS.out]; exact hVY) (.int .i64 u')).setCell (p := ⟨Y, 2, none⟩) (show V.heap.size ≤ Y by rw [hVS.out]; exact hVY) (.bool x')).setCell (p := ⟨Y, 3, none⟩) (show V.heap.size ≤ Y by rw [hVS.out]; exact hVY) (.slice A2 n' c2)
              rw [hWv6] at t4 o4 p1 p2 hbn
              replace q1 : Hid _ := Lib.hid (And.intro q1.out.1 (And.intro p1 q1.out.2.2))
              replace q2 : Hid _ := Lib.hid (And.intro q2.out.1 (And.intro p2 q2.out.2.2))
              clear p1 p2 t0 t1 t2 t3 hWv6 hbc m0 m1 m2 m3 f0 f1 f2 f3 rY rX
              have rY := t4
              have rX := o4
              have hbc := hbn
              clear t4 o4 hbn
              refine hK.out _ _ ?ku207 (fun hHeld2 => ?_)
              case ku207 => exact HS8.out Wv6 hbc
              clear hK K
              try simp only [Act.put, List.setIfInBounds_toArray, List.set_cons_zero, List.set_cons_succ]
              replace hHeld := hHeld2
              clear hHeld2
              refine wpAnyH_done (by kernel_rfl) ?_ _
              go_wp2_with fail
              go_meet
              exact ⟨X, Y, A1, c1, l1, A2, c2, l2, rfl, rfl, Lib.hid ⟨rX, rY, q1.out, q2.out, hbc⟩⟩
            · go_simp
              obtain ⟨Y, hX⟩ : ∃ X, Wv2.heap.size = X := ⟨_, rfl⟩
              obtain ⟨Wv3, hWv3⟩ : ∃ W, Wv2.alloc (.cells #[.int .i64 0, .int .i64 0, .bool false, .slice none 0 0] 31) = W := ⟨_, rfl⟩
              have hst : Below Wv2.heap.size Wv2 Wv3 := by rw [← hWv3]; exact (Below.refl _ _).alloc (Nat.le_refl _) _
              have nw : RowC Wv3 Y #[.int .i64 0, .int .i64 0, .bool false, .slice none 0 0] 31 := by rw [← hWv3, ← hX]; exact RowC.new _ _ _ _ rfl
              have hVY : VS ≤ Y := by rw [← hX, ← hVS.out]; exact hbc.size
              have hne : Hid (X ≠ Y) := Lib.hid (by have := rX.lt; omega)
              (try rw [hX])
              (try rw [hWv3])
              clear hX hWv3
              have hbn := bTr hbc hst
              clear hbc
              replace rX := rX.below hst rX.lt
              replace q1 : Hid _ := Lib.hid (And.intro q1.out.1 (And.intro (q1.out.2.1.below hst (Nat.le_refl _)) q1.out.2.2))
              clear hst
              have hbc := hbn
              clear hbn
              have rY := nw
              clear nw
              refine hK.out _ _ ?kt205 (fun hHeld2 => ?_)
              case kt205 => exact HS8.out Wv3 hbc
              clear hK K
              try simp only [Act.put, List.setIfInBounds_toArray, List.set_cons_zero, List.set_cons_succ]
              replace hHeld := hHeld2
              clear hHeld2
              refine wpAnyH_ready (rs := [3]) (by kernel_rfl) (by simp) ?_
              refine (AllReadyH.cons (o := ({ dst := some 18, op := Op.call { callee := Callee.value (Operand.func 11), args := #[Operand.tmp 17], argTypes := #[26] }, type := 31, pos := "law.go:94", after := #[{ on := 2, ground := Ground.data }, { on := 1, ground := Ground.chain }], guard := none } : Oper)) rfl (fun K hK => ?_) AllReadyH.nil)
              go_simp
              refine (KB.out Wv3 hbc).mono ?_
              rintro e Wv4 ⟨A2, c2, l2, rfl, hq, hst⟩
              (try go_wp2_with fail)
              have hbn := bTr hbc hst
              clear hbc
              replace rX := rX.below hst rX.lt
              replace q1 : Hid _ := Lib.hid (And.intro q1.out.1 (And.intro (q1.out.2.1.below hst (Nat.le_refl _)) q1.out.2.2))
              replace rY := rY.below hst rY.lt
              clear hst
              have hbc := hbn
              clear hbn
              have q2 := hq
              clear hq
              refine hK.out _ _ ?kt213 (fun hHeld2 => ?_)
              case kt213 => exact HS8.out Wv4 hbc
              clear hK K
              try simp only [Act.put, List.setIfInBounds_toArray, List.set_cons_zero, List.set_cons_succ]
              replace hHeld := hHeld2
              clear hHeld2
              refine wpAnyH_ready (rs := [6]) (by kernel_rfl) (by simp) ?_
              refine (AllReadyH.cons (o := ({ dst := none, op := Op.store 31 (Operand.tmp 5) (Operand.tmp 16), type := 0, pos := "law.go:94", after := #[{ on := 4, ground := Ground.data }, { on := 1, ground := Ground.data }, { on := 3, ground := Ground.chain }, { on := 0, ground := Ground.phase }, { on := 1, ground := Ground.phase }, { on := 2, ground := Ground.textOnly Departure.lateStores }, { on := 3, ground := Ground.textOnly Departure.lateStoresUnsure }, { on := 4, ground := Ground.phase }, { on := 5, ground := Ground.phase }], guard := none } : Oper)) rfl (fun K hK => ?_) AllReadyH.nil)
              have m0 := rX.cell 0 _ rfl
              have f0 := rX.frozen 0
              have m1 := rX.cell 1 _ rfl
              have f1 := rX.frozen 1
              have m2 := rX.cell 2 _ rfl
              have f2 := rX.frozen 2
              have m3 := rX.cell 3 _ rfl
              have f3 := rX.frozen 3
              go_simp
              obtain ⟨Wv5, hWv5⟩ : ∃ W, ((((Wv4.setCell ⟨X, 0, none⟩ (.int .i64 k)).setCell ⟨X, 1, none⟩ (.int .i64 u)).setCell ⟨X, 2, none⟩ (.bool x)).setCell ⟨X, 3, none⟩ (.slice A1 n c1)) = W := ⟨_, rfl⟩
              (try rw [hWv5])
              have t0 := rX
              have t1 := t0.set 0 (.int .i64 k)
              have t2 := t1.set 1 (.int .i64 u)
              have t3 := t2.set 2 (.bool x)
              have t4 := t3.set 3 (.slice A1 n c1)
              have o4 := ((((rY.setOther (g := X) 0 (.int .i64 k) (hne.out.symm)).setOther (g := X) 1 (.int .i64 u) (hne.out.symm)).setOther (g := X) 2 (.bool x) (hne.out.symm)).setOther (g := X) 3 (.slice A1 n c1) (hne.out.symm))
              have p1 := (((q1.out.2.1.setLow t0.ty (by decide) (by decide) 0 (.int .i64 k)).setLow t1.ty (by decide) (by decide) 1 (.int .i64 u)).setLow t2.ty (by decide) (by decide) 2 (.bool x)).setLow t3.ty (by decide) (by decide) 3 (.slice A1 n c1)
              have p2 := (((q2.out.2.1.setLow t0.ty (by decide) (by decide) 0 (.int .i64 k)).setLow t1.ty (by decide) (by decide) 1 (.int .i64 u)).setLow t2.ty (by decide) (by decide) 2 (.bool x)).setLow t3.ty (by decide) (by decide) 3 (.slice A1 n c1)
              have hbn := (((hbc.setCell (p := ⟨X, 0, none⟩) (show V.heap.size ≤ X by rw [hVS.out]; exact hVX) (.int .i64 k)).setCell (p := ⟨X, 1, none⟩) (show V.heap.size ≤ X by rw [hVS.out]; exact hVX) (.int .i64 u)).setCell (p := ⟨X, 2, none⟩) (show V.heap.size ≤ X by rw [hVS.out]; exact hVX) (.bool x)).setCell (p := ⟨X, 3, none⟩) (show V.heap.size ≤ X by rw [hVS.out]; exact hVX) (.slice A1 n c1)
              rw [hWv5] at t4 o4 p1 p2 hbn
              replace q1 : Hid _ := Lib.hid (And.intro q1.out.1 (And.intro p1 q1.out.2.2))
              replace q2 : Hid _ := Lib.hid (And.intro q2.out.1 (And.intro p2 q2.out.2.2))
              clear p1 p2 t0 t1 t2 t3 hWv5 hbc m0 m1 m2 m3 f0 f1 f2 f3 rX rY
              have rX := t4
              have rY := o4
              have hbc := hbn
              clear t4 o4 hbn
              refine hK.out _ _ ?ks226 (fun hHeld2 => ?_)
              case ks226 => exact HS8.out Wv5 hbc
              clear hK K
              try simp only [Act.put, List.setIfInBounds_toArray, List.set_cons_zero, List.set_cons_succ]
              replace hHeld := hHeld2
              clear hHeld2
              refine wpAnyH_ready (rs := [7]) (by kernel_rfl) (by simp) ?_
              refine (AllReadyH.cons (o := ({ dst := none, op := Op.store 31 (Operand.tmp 6) (Operand.tmp 18), type := 0, pos := "law.go:94", after := #[{ on := 5, ground := Ground.data }, { on := 3, ground := Ground.data }, { on := 6, ground := Ground.chain }, { on := 0, ground := Ground.phase }, { on := 1, ground := Ground.phase }, { on := 2, ground := Ground.phase }, { on := 3, ground := Ground.phase }, { on := 4, ground := Ground.phase }, { on := 5, ground := Ground.phase }, { on := 6, ground := Ground.phase }], guard := none } : Oper)) rfl (fun K hK => ?_) AllReadyH.nil)
              have m0 := rY.cell 0 _ rfl
              have f0 := rY.frozen 0
              have m1 := rY.cell 1 _ rfl
              have f1 := rY.frozen 1
              have m2 := rY.cell 2 _ rfl
              have f2 := rY.frozen 2
              have m3 := rY.cell 3 _ rfl
              have f3 := rY.frozen 3
              go_simp
              obtain ⟨Wv6, hWv6⟩ : ∃ W, ((((Wv5.setCell ⟨Y, 0, none⟩ (.int .i64 k')).setCell ⟨Y, 1, none⟩ (.int .i64 u')).setCell ⟨Y, 2, none⟩ (.bool x')).setCell ⟨Y, 3, none⟩ (.slice A2 n' c2)) = W := ⟨_, rfl⟩
              (try rw [hWv6])
              have t0 := rY
              have t1 := t0.set 0 (.int .i64 k')
              have t2 := t1.set 1 (.int .i64 u')
              have t3 := t2.set 2 (.bool x')
              have t4 := t3.set 3 (.slice A2 n' c2)
              have o4 := ((((rX.setOther (g := Y) 0 (.int .i64 k') (hne.out)).setOther (g := Y) 1 (.int .i64 u') (hne.out)).setOther (g := Y) 2 (.bool x') (hne.out)).setOther (g := Y) 3 (.slice A2 n' c2) (hne.out))
              have p1 := (((q1.out.2.1.setLow t0.ty (by decide) (by decide) 0 (.int .i64 k')).setLow t1.ty (by decide) (by decide) 1 (.int .i64 u')).setLow t2.ty (by decide) (by decide) 2 (.bool x')).setLow t3.ty (by decide) (by decide) 3 (.slice A2 n' c2)
              have p2 := (((q2.out.2.1.setLow t0.ty (by decide) (by decide) 0 (.int .i64 k')).setLow t1.ty (by decide) (by decide) 1 (.int .i64 u')).setLow t2.ty (by decide) (by decide) 2 (.bool x')).setLow t3.ty (by decide) (by decide) 3 (.slice A2 n' c2)
              have hbn := (((hbc.setCell (p := ⟨Y, 0, none⟩) (show V.heap.size ≤ Y by rw [hVS.out]; exact hVY) (.int .i64 k')).setCell (p := ⟨Y, 1, none⟩) (show V.heap.size ≤ Y by rw [hVS.out]; exact hVY) (.int .i64 u')).setCell (p := ⟨Y, 2, none⟩) (show V.heap.size ≤ Y by rw [hVS.out]; exact hVY) (.bool x')).setCell (p := ⟨Y, 3, none⟩) (show V.heap.size ≤ Y by rw [hVS.out]; exact hVY) (.slice A2 n' c2)
              rw [hWv6] at t4 o4 p1 p2 hbn
              replace q1 : Hid _ := Lib.hid (And.intro q1.out.1 (And.intro p1 q1.out.2.2))
              replace q2 : Hid _ := Lib.hid (And.intro q2.out.1 (And.intro p2 q2.out.2.2))
              clear p1 p2 t0 t1 t2 t3 hWv6 hbc m0 m1 m2 m3 f0 f1 f2 f3 rY rX
              have rY := t4
              have rX := o4
              have hbc := hbn
              clear t4 o4 hbn
              refine hK.out _ _ ?ku227 (fun hHeld2 => ?_)
              case ku227 => exact HS8.out Wv6 hbc
              clear hK K
              try simp only [Act.put, List.setIfInBounds_toArray, List.set_cons_zero, List.set_cons_succ]
              replace hHeld := hHeld2
              clear hHeld2
              refine wpAnyH_done (by kernel_rfl) ?_ _
              go_wp2_with fail
              go_meet
              exact ⟨X, Y, A1, c1, l1, A2, c2, l2, rfl, rfl, Lib.hid ⟨rX, rY, q1.out, q2.out, hbc⟩⟩
          · go_simp
            obtain ⟨Y, hX⟩ : ∃ X, Wv1.heap.size = X := ⟨_, rfl⟩
            obtain ⟨Wv2, hWv2⟩ : ∃ W, Wv1.alloc (.cells #[.int .i64 0, .int .i64 0, .bool false, .slice none 0 0] 31) = W := ⟨_, rfl⟩
            have hst : Below Wv1.heap.size Wv1 Wv2 := by rw [← hWv2]; exact (Below.refl _ _).alloc (Nat.le_refl _) _
            have nw : RowC Wv2 Y #[.int .i64 0, .int .i64 0, .bool false, .slice none 0 0] 31 := by rw [← hWv2, ← hX]; exact RowC.new _ _ _ _ rfl
            have hVY : VS ≤ Y := by rw [← hX, ← hVS.out]; exact hbc.size
            have hne : Hid (X ≠ Y) := Lib.hid (by have := rX.lt; omega)
            (try rw [hX])
            (try rw [hWv2])
            clear hX hWv2
            have hbn := bTr hbc hst
            clear hbc
            replace rX := rX.below hst rX.lt
            clear hst
            have hbc := hbn
            clear hbn
            have rY := nw
            clear nw
            refine hK.out _ _ ?kt225 (fun hHeld2 => ?_)
            case kt225 => exact HS8.out Wv2 hbc
            clear hK K
            try simp only [Act.put, List.setIfInBounds_toArray, List.set_cons_zero, List.set_cons_succ]
            replace hHeld := hHeld2
            clear hHeld2
            refine wpAnyH_ready (rs := [1]) (by kernel_rfl) (by simp) ?_
            refine (AllReadyH.cons (o := ({ dst := some 16, op := Op.call { callee := Callee.value (Operand.func 11), args := #[Operand.tmp 15], argTypes := #[26] }, type := 31, pos := "law.go:94", after := #[{ on := 0, ground := Ground.data }], guard := none } : Oper)) rfl (fun K hK => ?_) AllReadyH.nil)
            go_simp
            refine (KA.out Wv2 hbc).mono ?_
            rintro e Wv3 ⟨A1, c1, l1, rfl, hq, hst⟩
            (try go_wp2_with fail)
            have hbn := bTr hbc hst
            clear hbc
            replace rX := rX.below hst rX.lt
            replace rY := rY.below hst rY.lt
            clear hst
            have hbc := hbn
            clear hbn
            have q1 := hq
            clear hq
            refine hK.out _ _ ?kt231 (fun hHeld2 => ?_)
            case kt231 => exact HS8.out Wv3 hbc
            clear hK K
            try simp only [Act.put, List.setIfInBounds_toArray, List.set_cons_zero, List.set_cons_succ]
            replace hHeld := hHeld2
            clear hHeld2
            refine wpAnyH_ready (rs := [3]) (by kernel_rfl) (by simp) ?_
            refine (AllReadyH.cons (o := ({ dst := some 18, op := Op.call { callee := Callee.value (Operand.func 11), args := #[Operand.tmp 17], argTypes := #[26] }, type := 31, pos := "law.go:94", after := #[{ on := 2, ground := Ground.data }, { on := 1, ground := Ground.chain }], guard := none } : Oper)) rfl (fun K hK => ?_) AllReadyH.nil)
            go_simp
            refine (KB.out Wv3 hbc).mono ?_
            rintro e Wv4 ⟨A2, c2, l2, rfl, hq, hst⟩
            (try go_wp2_with fail)
            have hbn := bTr hbc hst
            clear hbc
            replace rX := rX.below hst rX.lt
            replace rY := rY.below hst rY.lt
            replace q1 : Hid _ := Lib.hid (And.intro q1.out.1 (And.intro (q1.out.2.1.below hst (Nat.le_refl _)) q1.out.2.2))
            clear hst
            have hbc := hbn
            clear hbn
            have q2 := hq
            clear hq
            refine hK.out _ _ ?kt243 (fun hHeld2 => ?_)
            case kt243 => exact HS8.out Wv4 hbc
            clear hK K
            try simp only [Act.put, List.setIfInBounds_toArray, List.set_cons_zero, List.set_cons_succ]
            replace hHeld := hHeld2
            clear hHeld2
            refine wpAnyH_ready (rs := [6]) (by kernel_rfl) (by simp) ?_
            refine (AllReadyH.cons (o := ({ dst := none, op := Op.store 31 (Operand.tmp 5) (Operand.tmp 16), type := 0, pos := "law.go:94", after := #[{ on := 4, ground := Ground.data }, { on := 1, ground := Ground.data }, { on := 3, ground := Ground.chain }, { on := 0, ground := Ground.phase }, { on := 1, ground := Ground.phase }, { on := 2, ground := Ground.textOnly Departure.lateStores }, { on := 3, ground := Ground.textOnly Departure.lateStoresUnsure }, { on := 4, ground := Ground.phase }, { on := 5, ground := Ground.phase }], guard := none } : Oper)) rfl (fun K hK => ?_) AllReadyH.nil)
            have m0 := rX.cell 0 _ rfl
            have f0 := rX.frozen 0
            have m1 := rX.cell 1 _ rfl
            have f1 := rX.frozen 1
            have m2 := rX.cell 2 _ rfl
            have f2 := rX.frozen 2
            have m3 := rX.cell 3 _ rfl
            have f3 := rX.frozen 3
            go_simp
            obtain ⟨Wv5, hWv5⟩ : ∃ W, ((((Wv4.setCell ⟨X, 0, none⟩ (.int .i64 k)).setCell ⟨X, 1, none⟩ (.int .i64 u)).setCell ⟨X, 2, none⟩ (.bool x)).setCell ⟨X, 3, none⟩ (.slice A1 n c1)) = W := ⟨_, rfl⟩
            (try rw [hWv5])
            have t0 := rX
            have t1 := t0.set 0 (.int .i64 k)
            have t2 := t1.set 1 (.int .i64 u)
            have t3 := t2.set 2 (.bool x)
            have t4 := t3.set 3 (.slice A1 n c1)
            have o4 := ((((rY.setOther (g := X) 0 (.int .i64 k) (hne.out.symm)).setOther (g := X) 1 (.int .i64 u) (hne.out.symm)).setOther (g := X) 2 (.bool x) (hne.out.symm)).setOther (g := X) 3 (.slice A1 n c1) (hne.out.symm))
            have p1 := (((q1.out.2.1.setLow t0.ty (by decide) (by decide) 0 (.int .i64 k)).setLow t1.ty (by decide) (by decide) 1 (.int .i64 u)).setLow t2.ty (by decide) (by decide) 2 (.bool x)).setLow t3.ty (by decide) (by decide) 3 (.slice A1 n c1)
            have p2 := (((q2.out.2.1.setLow t0.ty (by decide) (by decide) 0 (.int .i64 k)).setLow t1.ty (by decide) (by decide) 1 (.int .i64 u)).setLow t2.ty (by decide) (by decide) 2 (.bool x)).setLow t3.ty (by decide) (by decide) 3 (.slice A1 n c1)
            have hbn := (((hbc.setCell (p := ⟨X, 0, none⟩) (show V.heap.size ≤ X by rw [hVS.out]; exact hVX) (.int .i64 k)).setCell (p := ⟨X, 1, none⟩) (show V.heap.size ≤ X by rw [hVS.out]; exact hVX) (.int .i64 u)).setCell (p := ⟨X, 2, none⟩) (show V.heap.size ≤ X by rw [hVS.out]; exact hVX) (.bool x)).setCell (p := ⟨X, 3, none⟩) (show V.heap.size ≤ X by rw [hVS.out]; exact hVX) (.slice A1 n c1)
            rw [hWv5] at t4 o4 p1 p2 hbn
            replace q1 : Hid _ := Lib.hid (And.intro q1.out.1 (And.intro p1 q1.out.2.2))
            replace q2 : Hid _ := Lib.hid (And.intro q2.out.1 (And.intro p2 q2.out.2.2))
            clear p1 p2 t0 t1 t2 t3 hWv5 hbc m0 m1 m2 m3 f0 f1 f2 f3 rX rY
            have rX := t4
            have rY := o4
            have hbc := hbn
            clear t4 o4 hbn
            refine hK.out _ _ ?ks256 (fun hHeld2 => ?_)
            case ks256 => exact HS8.out Wv5 hbc
            clear hK K
            try simp only [Act.put, List.setIfInBounds_toArray, List.set_cons_zero, List.set_cons_succ]
            replace hHeld := hHeld2
            clear hHeld2
            refine wpAnyH_ready (rs := [7]) (by kernel_rfl) (by simp) ?_
            refine (AllReadyH.cons (o := ({ dst := none, op := Op.store 31 (Operand.tmp 6) (Operand.tmp 18), type := 0, pos := "law.go:94", after := #[{ on := 5, ground := Ground.data }, { on := 3, ground := Ground.data }, { on := 6, ground := Ground.chain }, { on := 0, ground := Ground.phase }, { on := 1, ground := Ground.phase }, { on := 2, ground := Ground.phase }, { on := 3, ground := Ground.phase }, { on := 4, ground := Ground.phase }, { on := 5, ground := Ground.phase }, { on := 6, ground := Ground.phase }], guard := none } : Oper)) rfl (fun K hK => ?_) AllReadyH.nil)
            have m0 := rY.cell 0 _ rfl
            have f0 := rY.frozen 0
            have m1 := rY.cell 1 _ rfl
            have f1 := rY.frozen 1
            have m2 := rY.cell 2 _ rfl
            have f2 := rY.frozen 2
            have m3 := rY.cell 3 _ rfl
            have f3 := rY.frozen 3
            go_simp
            obtain ⟨Wv6, hWv6⟩ : ∃ W, ((((Wv5.setCell ⟨Y, 0, none⟩ (.int .i64 k')).setCell ⟨Y, 1, none⟩ (.int .i64 u')).setCell ⟨Y, 2, none⟩ (.bool x')).setCell ⟨Y, 3, none⟩ (.slice A2 n' c2)) = W := ⟨_, rfl⟩
            (try rw [hWv6])
            have t0 := rY
            have t1 := t0.set 0 (.int .i64 k')
            have t2 := t1.set 1 (.int .i64 u')
            have t3 := t2.set 2 (.bool x')
            have t4 := t3.set 3 (.slice A2 n' c2)
            have o4 := ((((rX.setOther (g := Y) 0 (.int .i64 k') (hne.out)).setOther (g := Y) 1 (.int .i64 u') (hne.out)).setOther (g := Y) 2 (.bool x') (hne.out)).setOther (g := Y) 3 (.slice A2 n' c2) (hne.out))
            have p1 := (((q1.out.2.1.setLow t0.ty (by decide) (by decide) 0 (.int .i64 k')).setLow t1.ty (by decide) (by decide) 1 (.int .i64 u')).setLow t2.ty (by decide) (by decide) 2 (.bool x')).setLow t3.ty (by decide) (by decide) 3 (.slice A2 n' c2)
            have p2 := (((q2.out.2.1.setLow t0.ty (by decide) (by decide) 0 (.int .i64 k')).setLow t1.ty (by decide) (by decide) 1 (.int .i64 u')).setLow t2.ty (by decide) (by decide) 2 (.bool x')).setLow t3.ty (by decide) (by decide) 3 (.slice A2 n' c2)
            have hbn := (((hbc.setCell (p := ⟨Y, 0, none⟩) (show V.heap.size ≤ Y by rw [hVS.out]; exact hVY) (.int .i64 k')).setCell (p := ⟨Y, 1, none⟩) (show V.heap.size ≤ Y by rw [hVS.out]; exact hVY) (.int .i64 u')).setCell (p := ⟨Y, 2, none⟩) (show V.heap.size ≤ Y by rw [hVS.out]; exact hVY) (.bool x')).setCell (p := ⟨Y, 3, none⟩) (show V.heap.size ≤ Y by rw [hVS.out]; exact hVY) (.slice A2 n' c2)
            rw [hWv6] at t4 o4 p1 p2 hbn
            replace q1 : Hid _ := Lib.hid (And.intro q1.out.1 (And.intro p1 q1.out.2.2))
            replace q2 : Hid _ := Lib.hid (And.intro q2.out.1 (And.intro p2 q2.out.2.2))
            clear p1 p2 t0 t1 t2 t3 hWv6 hbc m0 m1 m2 m3 f0 f1 f2 f3 rY rX
            have rY := t4
            have rX := o4
            have hbc := hbn
            clear t4 o4 hbn
            refine hK.out _ _ ?ku257 (fun hHeld2 => ?_)
            case ku257 => exact HS8.out Wv6 hbc
            clear hK K
            try simp only [Act.put, List.setIfInBounds_toArray, List.set_cons_zero, List.set_cons_succ]
            replace hHeld := hHeld2
            clear hHeld2
            refine wpAnyH_done (by kernel_rfl) ?_ _
            go_wp2_with fail
            go_meet
            exact ⟨X, Y, A1, c1, l1, A2, c2, l2, rfl, rfl, Lib.hid ⟨rX, rY, q1.out, q2.out, hbc⟩⟩
        · go_simp
          obtain ⟨Y, hX⟩ : ∃ X, Wv0.heap.size = X := ⟨_, rfl⟩
          obtain ⟨Wv1, hWv1⟩ : ∃ W, Wv0.alloc (.cells #[.int .i64 0, .int .i64 0, .bool false, .slice none 0 0] 31) = W := ⟨_, rfl⟩
          have hst : Below Wv0.heap.size Wv0 Wv1 := by rw [← hWv1]; exact (Below.refl _ _).alloc (Nat.le_refl _) _
          have nw : RowC Wv1 Y #[.int .i64 0, .int .i64 0, .bool false, .slice none 0 0] 31 := by rw [← hWv1, ← hX]; exact RowC.new _ _ _ _ rfl
          have hVY : VS ≤ Y := by rw [← hX, ← hVS.out]; exact hbc.size
          (try rw [hX])
          (try rw [hWv1])
          clear hX hWv1
          have hbn := bTr hbc hst
          clear hbc
          clear hst
          have hbc := hbn
          clear hbn
          have rY := nw
          clear nw
          refine hK.out _ _ ?kt255 (fun hHeld2 => ?_)
          case kt255 => exact HS8.out Wv1 hbc
          clear hK K
          try simp only [Act.put, List.setIfInBounds_toArray, List.set_cons_zero, List.set_cons_succ]
          replace hHeld := hHeld2
          clear hHeld2
          refine wpAnyH_ready (rs := [1, 4]) (by kernel_rfl) (by simp) ?_
          refine (AllReadyH.cons (o := ({ dst := some 16, op := Op.call { callee := Callee.value (Operand.func 11), args := #[Operand.tmp 15], argTypes := #[26] }, type := 31, pos := "law.go:94", after := #[{ on := 0, ground := Ground.data }], guard := none } : Oper)) rfl (fun K hK => ?_) (AllReadyH.cons (o := ({ dst := some 5, op := Op.alloc 31, type := 0, pos := "law.go:94", after := #[], guard := none } : Oper)) rfl (fun K hK => ?_) AllReadyH.nil))
          · go_simp
            refine (KA.out Wv1 hbc).mono ?_
            rintro e Wv2 ⟨A1, c1, l1, rfl, hq, hst⟩
            (try go_wp2_with fail)
            have hbn := bTr hbc hst
            clear hbc
            replace rY := rY.below hst rY.lt
            clear hst
            have hbc := hbn
            clear hbn
            have q1 := hq
            clear hq
            refine hK.out _ _ ?kt261 (fun hHeld2 => ?_)
            case kt261 => exact HS8.out Wv2 hbc
            clear hK K
            try simp only [Act.put, List.setIfInBounds_toArray, List.set_cons_zero, List.set_cons_succ]
            replace hHeld := hHeld2
            clear hHeld2
            refine wpAnyH_ready (rs := [3, 4]) (by kernel_rfl) (by simp) ?_
            refine (AllReadyH.cons (o := ({ dst := some 18, op := Op.call { callee := Callee.value (Operand.func 11), args := #[Operand.tmp 17], argTypes := #[26] }, type := 31, pos := "law.go:94", after := #[{ on := 2, ground := Ground.data }, { on := 1, ground := Ground.chain }], guard := none } : Oper)) rfl (fun K hK => ?_) (AllReadyH.cons (o := ({ dst := some 5, op := Op.alloc 31, type := 0, pos := "law.go:94", after := #[], guard := none } : Oper)) rfl (fun K hK => ?_) AllReadyH.nil))
            · go_simp
              refine (KB.out Wv2 hbc).mono ?_
              rintro e Wv3 ⟨A2, c2, l2, rfl, hq, hst⟩
              (try go_wp2_with fail)
              have hbn := bTr hbc hst
              clear hbc
              replace rY := rY.below hst rY.lt
              replace q1 : Hid _ := Lib.hid (And.intro q1.out.1 (And.intro (q1.out.2.1.below hst (Nat.le_refl _)) q1.out.2.2))
              clear hst
              have hbc := hbn
              clear hbn
              have q2 := hq
              clear hq
              refine hK.out _ _ ?kt273 (fun hHeld2 => ?_)
              case kt273 => exact HS8.out Wv3 hbc
              clear hK K
              try simp only [Act.put, List.setIfInBounds_toArray, List.set_cons_zero, List.set_cons_succ]
              replace hHeld := hHeld2
              clear hHeld2
              refine wpAnyH_ready (rs := [4]) (by kernel_rfl) (by simp) ?_
              refine (AllReadyH.cons (o := ({ dst := some 5, op := Op.alloc 31, type := 0, pos := "law.go:94", after := #[], guard := none } : Oper)) rfl (fun K hK => ?_) AllReadyH.nil)
              go_simp
              obtain ⟨X, hX⟩ : ∃ X, Wv3.heap.size = X := ⟨_, rfl⟩
              obtain ⟨Wv4, hWv4⟩ : ∃ W, Wv3.alloc (.cells #[.int .i64 0, .int .i64 0, .bool false, .slice none 0 0] 31) = W := ⟨_, rfl⟩
              have hst : Below Wv3.heap.size Wv3 Wv4 := by rw [← hWv4]; exact (Below.refl _ _).alloc (Nat.le_refl _) _
              have nw : RowC Wv4 X #[.int .i64 0, .int .i64 0, .bool false, .slice none 0 0] 31 := by rw [← hWv4, ← hX]; exact RowC.new _ _ _ _ rfl
              have hVX : VS ≤ X := by rw [← hX, ← hVS.out]; exact hbc.size
              have hne : Hid (X ≠ Y) := Lib.hid (by have := rY.lt; omega)
              (try rw [hX])
              (try rw [hWv4])
              clear hX hWv4
              have hbn := bTr hbc hst
              clear hbc
              replace rY := rY.below hst rY.lt
              replace q1 : Hid _ := Lib.hid (And.intro q1.out.1 (And.intro (q1.out.2.1.below hst (Nat.le_refl _)) q1.out.2.2))
              replace q2 : Hid _ := Lib.hid (And.intro q2.out.1 (And.intro (q2.out.2.1.below hst (Nat.le_refl _)) q2.out.2.2))
              clear hst
              have hbc := hbn
              clear hbn
              have rX := nw
              clear nw
              refine hK.out _ _ ?kt284 (fun hHeld2 => ?_)
              case kt284 => exact HS8.out Wv4 hbc
              clear hK K
              try simp only [Act.put, List.setIfInBounds_toArray, List.set_cons_zero, List.set_cons_succ]
              replace hHeld := hHeld2
              clear hHeld2
              refine wpAnyH_ready (rs := [6]) (by kernel_rfl) (by simp) ?_
              refine (AllReadyH.cons (o := ({ dst := none, op := Op.store 31 (Operand.tmp 5) (Operand.tmp 16), type := 0, pos := "law.go:94", after := #[{ on := 4, ground := Ground.data }, { on := 1, ground := Ground.data }, { on := 3, ground := Ground.chain }, { on := 0, ground := Ground.phase }, { on := 1, ground := Ground.phase }, { on := 2, ground := Ground.textOnly Departure.lateStores }, { on := 3, ground := Ground.textOnly Departure.lateStoresUnsure }, { on := 4, ground := Ground.phase }, { on := 5, ground := Ground.phase }], guard := none } : Oper)) rfl (fun K hK => ?_) AllReadyH.nil)
              have m0 := rX.cell 0 _ rfl
              have f0 := rX.frozen 0
              have m1 := rX.cell 1 _ rfl
              have f1 := rX.frozen 1
              have m2 := rX.cell 2 _ rfl
              have f2 := rX.frozen 2
              have m3 := rX.cell 3 _ rfl
              have f3 := rX.frozen 3
              go_simp
              obtain ⟨Wv5, hWv5⟩ : ∃ W, ((((Wv4.setCell ⟨X, 0, none⟩ (.int .i64 k)).setCell ⟨X, 1, none⟩ (.int .i64 u)).setCell ⟨X, 2, none⟩ (.bool x)).setCell ⟨X, 3, none⟩ (.slice A1 n c1)) = W := ⟨_, rfl⟩
              (try rw [hWv5])
              have t0 := rX
              have t1 := t0.set 0 (.int .i64 k)
              have t2 := t1.set 1 (.int .i64 u)
              have t3 := t2.set 2 (.bool x)
              have t4 := t3.set 3 (.slice A1 n c1)
              have o4 := ((((rY.setOther (g := X) 0 (.int .i64 k) (hne.out.symm)).setOther (g := X) 1 (.int .i64 u) (hne.out.symm)).setOther (g := X) 2 (.bool x) (hne.out.symm)).setOther (g := X) 3 (.slice A1 n c1) (hne.out.symm))
              have p1 := (((q1.out.2.1.setLow t0.ty (by decide) (by decide) 0 (.int .i64 k)).setLow t1.ty (by decide) (by decide) 1 (.int .i64 u)).setLow t2.ty (by decide) (by decide) 2 (.bool x)).setLow t3.ty (by decide) (by decide) 3 (.slice A1 n c1)
              have p2 := (((q2.out.2.1.setLow t0.ty (by decide) (by decide) 0 (.int .i64 k)).setLow t1.ty (by decide) (by decide) 1 (.int .i64 u)).setLow t2.ty (by decide) (by decide) 2 (.bool x)).setLow t3.ty (by decide) (by decide) 3 (.slice A1 n c1)
              have hbn := (((hbc.setCell (p := ⟨X, 0, none⟩) (show V.heap.size ≤ X by rw [hVS.out]; exact hVX) (.int .i64 k)).setCell (p := ⟨X, 1, none⟩) (show V.heap.size ≤ X by rw [hVS.out]; exact hVX) (.int .i64 u)).setCell (p := ⟨X, 2, none⟩) (show V.heap.size ≤ X by rw [hVS.out]; exact hVX) (.bool x)).setCell (p := ⟨X, 3, none⟩) (show V.heap.size ≤ X by rw [hVS.out]; exact hVX) (.slice A1 n c1)
              rw [hWv5] at t4 o4 p1 p2 hbn
              replace q1 : Hid _ := Lib.hid (And.intro q1.out.1 (And.intro p1 q1.out.2.2))
              replace q2 : Hid _ := Lib.hid (And.intro q2.out.1 (And.intro p2 q2.out.2.2))
              clear p1 p2 t0 t1 t2 t3 hWv5 hbc m0 m1 m2 m3 f0 f1 f2 f3 rX rY
              have rX := t4
              have rY := o4
              have hbc := hbn
              clear t4 o4 hbn
              refine hK.out _ _ ?ks296 (fun hHeld2 => ?_)
              case ks296 => exact HS8.out Wv5 hbc
              clear hK K
              try simp only [Act.put, List.setIfInBounds_toArray, List.set_cons_zero, List.set_cons_succ]
              replace hHeld := hHeld2
              clear hHeld2
              refine wpAnyH_ready (rs := [7]) (by kernel_rfl) (by simp) ?_
              refine (AllReadyH.cons (o := ({ dst := none, op := Op.store 31 (Operand.tmp 6) (Operand.tmp 18), type := 0, pos := "law.go:94", after := #[{ on := 5, ground := Ground.data }, { on := 3, ground := Ground.data }, { on := 6, ground := Ground.chain }, { on := 0, ground := Ground.phase }, { on := 1, ground := Ground.phase }, { on := 2, ground := Ground.phase }, { on := 3, ground := Ground.phase }, { on := 4, ground := Ground.phase }, { on := 5, ground := Ground.phase }, { on := 6, ground := Ground.phase }], guard := none } : Oper)) rfl (fun K hK => ?_) AllReadyH.nil)
              have m0 := rY.cell 0 _ rfl
              have f0 := rY.frozen 0
              have m1 := rY.cell 1 _ rfl
              have f1 := rY.frozen 1
              have m2 := rY.cell 2 _ rfl
              have f2 := rY.frozen 2
              have m3 := rY.cell 3 _ rfl
              have f3 := rY.frozen 3
              go_simp
              obtain ⟨Wv6, hWv6⟩ : ∃ W, ((((Wv5.setCell ⟨Y, 0, none⟩ (.int .i64 k')).setCell ⟨Y, 1, none⟩ (.int .i64 u')).setCell ⟨Y, 2, none⟩ (.bool x')).setCell ⟨Y, 3, none⟩ (.slice A2 n' c2)) = W := ⟨_, rfl⟩
              (try rw [hWv6])
              have t0 := rY
              have t1 := t0.set 0 (.int .i64 k')
              have t2 := t1.set 1 (.int .i64 u')
              have t3 := t2.set 2 (.bool x')
              have t4 := t3.set 3 (.slice A2 n' c2)
              have o4 := ((((rX.setOther (g := Y) 0 (.int .i64 k') (hne.out)).setOther (g := Y) 1 (.int .i64 u') (hne.out)).setOther (g := Y) 2 (.bool x') (hne.out)).setOther (g := Y) 3 (.slice A2 n' c2) (hne.out))
              have p1 := (((q1.out.2.1.setLow t0.ty (by decide) (by decide) 0 (.int .i64 k')).setLow t1.ty (by decide) (by decide) 1 (.int .i64 u')).setLow t2.ty (by decide) (by decide) 2 (.bool x')).setLow t3.ty (by decide) (by decide) 3 (.slice A2 n' c2)
              have p2 := (((q2.out.2.1.setLow t0.ty (by decide) (by decide) 0 (.int .i64 k')).setLow t1.ty (by decide) (by decide) 1 (.int .i64 u')).setLow t2.ty (by decide) (by decide) 2 (.bool x')).setLow t3.ty (by decide) (by decide) 3 (.slice A2 n' c2)
              have hbn := (((hbc.setCell (p := ⟨Y, 0, none⟩) (show V.heap.size ≤ Y by rw [hVS.out]; exact hVY) (.int .i64 k')).setCell (p := ⟨Y, 1, none⟩) (show V.heap.size ≤ Y by rw [hVS.out]; exact hVY) (.int .i64 u')).setCell (p := ⟨Y, 2, none⟩) (show V.heap.size ≤ Y by rw [hVS.out]; exact hVY) (.bool x')).setCell (p := ⟨Y, 3, none⟩) (show V.heap.size ≤ Y by rw [hVS.out]; exact hVY) (.slice A2 n' c2)
              rw [hWv6] at t4 o4 p1 p2 hbn
              replace q1 : Hid _ := Lib.hid (And.intro q1.out.1 (And.intro p1 q1.out.2.2))
              replace q2 : Hid _ := Lib.hid (And.intro q2.out.1 (And.intro p2 q2.out.2.2))
              clear p1 p2 t0 t1 t2 t3 hWv6 hbc m0 m1 m2 m3 f0 f1 f2 f3 rY rX
              have rY := t4
              have rX := o4
              have hbc := hbn
              clear t4 o4 hbn
              refine hK.out _ _ ?ku297 (fun hHeld2 => ?_)
              case ku297 => exact HS8.out Wv6 hbc
              clear hK K
              try simp only [Act.put, List.setIfInBounds_toArray, List.set_cons_zero, List.set_cons_succ]
              replace hHeld := hHeld2
              clear hHeld2
              refine wpAnyH_done (by kernel_rfl) ?_ _
              go_wp2_with fail
              go_meet
              exact ⟨X, Y, A1, c1, l1, A2, c2, l2, rfl, rfl, Lib.hid ⟨rX, rY, q1.out, q2.out, hbc⟩⟩
            · go_simp
              obtain ⟨X, hX⟩ : ∃ X, Wv2.heap.size = X := ⟨_, rfl⟩
              obtain ⟨Wv3, hWv3⟩ : ∃ W, Wv2.alloc (.cells #[.int .i64 0, .int .i64 0, .bool false, .slice none 0 0] 31) = W := ⟨_, rfl⟩
              have hst : Below Wv2.heap.size Wv2 Wv3 := by rw [← hWv3]; exact (Below.refl _ _).alloc (Nat.le_refl _) _
              have nw : RowC Wv3 X #[.int .i64 0, .int .i64 0, .bool false, .slice none 0 0] 31 := by rw [← hWv3, ← hX]; exact RowC.new _ _ _ _ rfl
              have hVX : VS ≤ X := by rw [← hX, ← hVS.out]; exact hbc.size
              have hne : Hid (X ≠ Y) := Lib.hid (by have := rY.lt; omega)
              (try rw [hX])
              (try rw [hWv3])
              clear hX hWv3
              have hbn := bTr hbc hst
              clear hbc
              replace rY := rY.below hst rY.lt
              replace q1 : Hid _ := Lib.hid (And.intro q1.out.1 (And.intro (q1.out.2.1.below hst (Nat.le_refl _)) q1.out.2.2))
              clear hst
              have hbc := hbn
              clear hbn
              have rX := nw
              clear nw
              refine hK.out _ _ ?kt294 (fun hHeld2 => ?_)
              case kt294 => exact HS8.out Wv3 hbc
              clear hK K
              try simp only [Act.put, List.setIfInBounds_toArray, List.set_cons_zero, List.set_cons_succ]
              replace hHeld := hHeld2
              clear hHeld2
              refine wpAnyH_ready (rs := [3]) (by kernel_rfl) (by simp) ?_
              refine (AllReadyH.cons (o := ({ dst := some 18, op := Op.call { callee := Callee.value (Operand.func 11), args := #[Operand.tmp 17], argTypes := #[26] }, type := 31, pos := "law.go:94", after := #[{ on := 2, ground := Ground.data }, { on := 1, ground := Ground.chain }], guard := none } : Oper)) rfl (fun K hK => ?_) AllReadyH.nil)
              go_simp
              refine (KB.out Wv3 hbc).mono ?_
              rintro e Wv4 ⟨A2, c2, l2, rfl, hq, hst⟩
              (try go_wp2_with fail)
              have hbn := bTr hbc hst
              clear hbc
              replace rY := rY.below hst rY.lt
              replace q1 : Hid _ := Lib.hid (And.intro q1.out.1 (And.intro (q1.out.2.1.below hst (Nat.le_refl _)) q1.out.2.2))
              replace rX := rX.below hst rX.lt
              clear hst
              have hbc := hbn
              clear hbn
              have q2 := hq
              clear hq
              refine hK.out _ _ ?kt303 (fun hHeld2 => ?_)
              case kt303 => exact HS8.out Wv4 hbc
              clear hK K
              try simp only [Act.put, List.setIfInBounds_toArray, List.set_cons_zero, List.set_cons_succ]
              replace hHeld := hHeld2
              clear hHeld2
              refine wpAnyH_ready (rs := [6]) (by kernel_rfl) (by simp) ?_
              refine (AllReadyH.cons (o := ({ dst := none, op := Op.store 31 (Operand.tmp 5) (Operand.tmp 16), type := 0, pos := "law.go:94", after := #[{ on := 4, ground := Ground.data }, { on := 1, ground := Ground.data }, { on := 3, ground := Ground.chain }, { on := 0, ground := Ground.phase }, { on := 1, ground := Ground.phase }, { on := 2, ground := Ground.textOnly Departure.lateStores }, { on := 3, ground := Ground.textOnly Departure.lateStoresUnsure }, { on := 4, ground := Ground.phase }, { on := 5, ground := Ground.phase }], guard := none } : Oper)) rfl (fun K hK => ?_) AllReadyH.nil)
              have m0 := rX.cell 0 _ rfl
              have f0 := rX.frozen 0
              have m1 := rX.cell 1 _ rfl
              have f1 := rX.frozen 1
              have m2 := rX.cell 2 _ rfl
              have f2 := rX.frozen 2
              have m3 := rX.cell 3 _ rfl
              have f3 := rX.frozen 3
              go_simp
              obtain ⟨Wv5, hWv5⟩ : ∃ W, ((((Wv4.setCell ⟨X, 0, none⟩ (.int .i64 k)).setCell ⟨X, 1, none⟩ (.int .i64 u)).setCell ⟨X, 2, none⟩ (.bool x)).setCell ⟨X, 3, none⟩ (.slice A1 n c1)) = W := ⟨_, rfl⟩
              (try rw [hWv5])
              have t0 := rX
              have t1 := t0.set 0 (.int .i64 k)
              have t2 := t1.set 1 (.int .i64 u)
              have t3 := t2.set 2 (.bool x)
              have t4 := t3.set 3 (.slice A1 n c1)
              have o4 := ((((rY.setOther (g := X) 0 (.int .i64 k) (hne.out.symm)).setOther (g := X) 1 (.int .i64 u) (hne.out.symm)).setOther (g := X) 2 (.bool x) (hne.out.symm)).setOther (g := X) 3 (.slice A1 n c1) (hne.out.symm))
              have p1 := (((q1.out.2.1.setLow t0.ty (by decide) (by decide) 0 (.int .i64 k)).setLow t1.ty (by decide) (by decide) 1 (.int .i64 u)).setLow t2.ty (by decide) (by decide) 2 (.bool x)).setLow t3.ty (by decide) (by decide) 3 (.slice A1 n c1)
              have p2 := (((q2.out.2.1.setLow t0.ty (by decide) (by decide) 0 (.int .i64 k)).setLow t1.ty (by decide) (by decide) 1 (.int .i64 u)).setLow t2.ty (by decide) (by decide) 2 (.bool x)).setLow t3.ty (by decide) (by decide) 3 (.slice A1 n c1)
              have hbn := (((hbc.setCell (p := ⟨X, 0, none⟩) (show V.heap.size ≤ X by rw [hVS.out]; exact hVX) (.int .i64 k)).setCell (p := ⟨X, 1, none⟩) (show V.heap.size ≤ X by rw [hVS.out]; exact hVX) (.int .i64 u)).setCell (p := ⟨X, 2, none⟩) (show V.heap.size ≤ X by rw [hVS.out]; exact hVX) (.bool x)).setCell (p := ⟨X, 3, none⟩) (show V.heap.size ≤ X by rw [hVS.out]; exact hVX) (.slice A1 n c1)
              rw [hWv5] at t4 o4 p1 p2 hbn
              replace q1 : Hid _ := Lib.hid (And.intro q1.out.1 (And.intro p1 q1.out.2.2))
              replace q2 : Hid _ := Lib.hid (And.intro q2.out.1 (And.intro p2 q2.out.2.2))
              clear p1 p2 t0 t1 t2 t3 hWv5 hbc m0 m1 m2 m3 f0 f1 f2 f3 rX rY
              have rX := t4
              have rY := o4
              have hbc := hbn
              clear t4 o4 hbn
              refine hK.out _ _ ?ks316 (fun hHeld2 => ?_)
              case ks316 => exact HS8.out Wv5 hbc
              clear hK K
              try simp only [Act.put, List.setIfInBounds_toArray, List.set_cons_zero, List.set_cons_succ]
              replace hHeld := hHeld2
              clear hHeld2
              refine wpAnyH_ready (rs := [7]) (by kernel_rfl) (by simp) ?_
              refine (AllReadyH.cons (o := ({ dst := none, op := Op.store 31 (Operand.tmp 6) (Operand.tmp 18), type := 0, pos := "law.go:94", after := #[{ on := 5, ground := Ground.data }, { on := 3, ground := Ground.data }, { on := 6, ground := Ground.chain }, { on := 0, ground := Ground.phase }, { on := 1, ground := Ground.phase }, { on := 2, ground := Ground.phase }, { on := 3, ground := Ground.phase }, { on := 4, ground := Ground.phase }, { on := 5, ground := Ground.phase }, { on := 6, ground := Ground.phase }], guard := none } : Oper)) rfl (fun K hK => ?_) AllReadyH.nil)
              have m0 := rY.cell 0 _ rfl
              have f0 := rY.frozen 0
              have m1 := rY.cell 1 _ rfl
              have f1 := rY.frozen 1
              have m2 := rY.cell 2 _ rfl
              have f2 := rY.frozen 2
              have m3 := rY.cell 3 _ rfl
              have f3 := rY.frozen 3
              go_simp
              obtain ⟨Wv6, hWv6⟩ : ∃ W, ((((Wv5.setCell ⟨Y, 0, none⟩ (.int .i64 k')).setCell ⟨Y, 1, none⟩ (.int .i64 u')).setCell ⟨Y, 2, none⟩ (.bool x')).setCell ⟨Y, 3, none⟩ (.slice A2 n' c2)) = W := ⟨_, rfl⟩
              (try rw [hWv6])
              have t0 := rY
              have t1 := t0.set 0 (.int .i64 k')
              have t2 := t1.set 1 (.int .i64 u')
              have t3 := t2.set 2 (.bool x')
              have t4 := t3.set 3 (.slice A2 n' c2)
              have o4 := ((((rX.setOther (g := Y) 0 (.int .i64 k') (hne.out)).setOther (g := Y) 1 (.int .i64 u') (hne.out)).setOther (g := Y) 2 (.bool x') (hne.out)).setOther (g := Y) 3 (.slice A2 n' c2) (hne.out))
              have p1 := (((q1.out.2.1.setLow t0.ty (by decide) (by decide) 0 (.int .i64 k')).setLow t1.ty (by decide) (by decide) 1 (.int .i64 u')).setLow t2.ty (by decide) (by decide) 2 (.bool x')).setLow t3.ty (by decide) (by decide) 3 (.slice A2 n' c2)
              have p2 := (((q2.out.2.1.setLow t0.ty (by decide) (by decide) 0 (.int .i64 k')).setLow t1.ty (by decide) (by decide) 1 (.int .i64 u')).setLow t2.ty (by decide) (by decide) 2 (.bool x')).setLow t3.ty (by decide) (by decide) 3 (.slice A2 n' c2)
              have hbn := (((hbc.setCell (p := ⟨Y, 0, none⟩) (show V.heap.size ≤ Y by rw [hVS.out]; exact hVY) (.int .i64 k')).setCell (p := ⟨Y, 1, none⟩) (show V.heap.size ≤ Y by rw [hVS.out]; exact hVY) (.int .i64 u')).setCell (p := ⟨Y, 2, none⟩) (show V.heap.size ≤ Y by rw [hVS.out]; exact hVY) (.bool x')).setCell (p := ⟨Y, 3, none⟩) (show V.heap.size ≤ Y by rw [hVS.out]; exact hVY) (.slice A2 n' c2)
              rw [hWv6] at t4 o4 p1 p2 hbn
              replace q1 : Hid _ := Lib.hid (And.intro q1.out.1 (And.intro p1 q1.out.2.2))
              replace q2 : Hid _ := Lib.hid (And.intro q2.out.1 (And.intro p2 q2.out.2.2))
              clear p1 p2 t0 t1 t2 t3 hWv6 hbc m0 m1 m2 m3 f0 f1 f2 f3 rY rX
              have rY := t4
              have rX := o4
              have hbc := hbn
              clear t4 o4 hbn
              refine hK.out _ _ ?ku317 (fun hHeld2 => ?_)
              case ku317 => exact HS8.out Wv6 hbc
              clear hK K
              try simp only [Act.put, List.setIfInBounds_toArray, List.set_cons_zero, List.set_cons_succ]
              replace hHeld := hHeld2
              clear hHeld2
              refine wpAnyH_done (by kernel_rfl) ?_ _
              go_wp2_with fail
              go_meet
              exact ⟨X, Y, A1, c1, l1, A2, c2, l2, rfl, rfl, Lib.hid ⟨rX, rY, q1.out, q2.out, hbc⟩⟩
          · go_simp
            obtain ⟨X, hX⟩ : ∃ X, Wv1.heap.size = X := ⟨_, rfl⟩
            obtain ⟨Wv2, hWv2⟩ : ∃ W, Wv1.alloc (.cells #[.int .i64 0, .int .i64 0, .bool false, .slice none 0 0] 31) = W := ⟨_, rfl⟩
            have hst : Below Wv1.heap.size Wv1 Wv2 := by rw [← hWv2]; exact (Below.refl _ _).alloc (Nat.le_refl _) _
            have nw : RowC Wv2 X #[.int .i64 0, .int .i64 0, .bool false, .slice none 0 0] 31 := by rw [← hWv2, ← hX]; exact RowC.new _ _ _ _ rfl
            have hVX : VS ≤ X := by rw [← hX, ← hVS.out]; exact hbc.size
            have hne : Hid (X ≠ Y) := Lib.hid (by have := rY.lt; omega)
            (try rw [hX])
            (try rw [hWv2])
            clear hX hWv2
            have hbn := bTr hbc hst
            clear hbc
            replace rY := rY.below hst rY.lt
            clear hst
            have hbc := hbn
            clear hbn
            have rX := nw
            clear nw
            refine hK.out _ _ ?kt314 (fun hHeld2 => ?_)
            case kt314 => exact HS8.out Wv2 hbc
            clear hK K
            try simp only [Act.put, List.setIfInBounds_toArray, List.set_cons_zero, List.set_cons_succ]
            replace hHeld := hHeld2
            clear hHeld2
            refine wpAnyH_ready (rs := [1]) (by kernel_rfl) (by simp) ?_
            refine (AllReadyH.cons (o := ({ dst := some 16, op := Op.call { callee := Callee.value (Operand.func 11), args := #[Operand.tmp 15], argTypes := #[26] }, type := 31, pos := "law.go:94", after := #[{ on := 0, ground := Ground.data }], guard := none } : Oper)) rfl (fun K hK => ?_) AllReadyH.nil)
            go_simp
            refine (KA.out Wv2 hbc).mono ?_
            rintro e Wv3 ⟨A1, c1, l1, rfl, hq, hst⟩
            (try go_wp2_with fail)
            have hbn := bTr hbc hst
            clear hbc
            replace rY := rY.below hst rY.lt
            replace rX := rX.below hst rX.lt
            clear hst
            have hbc := hbn
            clear hbn
            have q1 := hq
            clear hq
            refine hK.out _ _ ?kt321 (fun hHeld2 => ?_)
            case kt321 => exact HS8.out Wv3 hbc
            clear hK K
            try simp only [Act.put, List.setIfInBounds_toArray, List.set_cons_zero, List.set_cons_succ]
            replace hHeld := hHeld2
            clear hHeld2
            refine wpAnyH_ready (rs := [3]) (by kernel_rfl) (by simp) ?_
            refine (AllReadyH.cons (o := ({ dst := some 18, op := Op.call { callee := Callee.value (Operand.func 11), args := #[Operand.tmp 17], argTypes := #[26] }, type := 31, pos := "law.go:94", after := #[{ on := 2, ground := Ground.data }, { on := 1, ground := Ground.chain }], guard := none } : Oper)) rfl (fun K hK => ?_) AllReadyH.nil)
            go_simp
            refine (KB.out Wv3 hbc).mono ?_
            rintro e Wv4 ⟨A2, c2, l2, rfl, hq, hst⟩
            (try go_wp2_with fail)
            have hbn := bTr hbc hst
            clear hbc
            replace rY := rY.below hst rY.lt
            replace rX := rX.below hst rX.lt
            replace q1 : Hid _ := Lib.hid (And.intro q1.out.1 (And.intro (q1.out.2.1.below hst (Nat.le_refl _)) q1.out.2.2))
            clear hst
            have hbc := hbn
            clear hbn
            have q2 := hq
            clear hq
            refine hK.out _ _ ?kt333 (fun hHeld2 => ?_)
            case kt333 => exact HS8.out Wv4 hbc
            clear hK K
            try simp only [Act.put, List.setIfInBounds_toArray, List.set_cons_zero, List.set_cons_succ]
            replace hHeld := hHeld2
            clear hHeld2
            refine wpAnyH_ready (rs := [6]) (by kernel_rfl) (by simp) ?_
            refine (AllReadyH.cons (o := ({ dst := none, op := Op.store 31 (Operand.tmp 5) (Operand.tmp 16), type := 0, pos := "law.go:94", after := #[{ on := 4, ground := Ground.data }, { on := 1, ground := Ground.data }, { on := 3, ground := Ground.chain }, { on := 0, ground := Ground.phase }, { on := 1, ground := Ground.phase }, { on := 2, ground := Ground.textOnly Departure.lateStores }, { on := 3, ground := Ground.textOnly Departure.lateStoresUnsure }, { on := 4, ground := Ground.phase }, { on := 5, ground := Ground.phase }], guard := none } : Oper)) rfl (fun K hK => ?_) AllReadyH.nil)
            have m0 := rX.cell 0 _ rfl
            have f0 := rX.frozen 0
            have m1 := rX.cell 1 _ rfl
            have f1 := rX.frozen 1
            have m2 := rX.cell 2 _ rfl
            have f2 := rX.frozen 2
            have m3 := rX.cell 3 _ rfl
            have f3 := rX.frozen 3
            go_simp
            obtain ⟨Wv5, hWv5⟩ : ∃ W, ((((Wv4.setCell ⟨X, 0, none⟩ (.int .i64 k)).setCell ⟨X, 1, none⟩ (.int .i64 u)).setCell ⟨X, 2, none⟩ (.bool x)).setCell ⟨X, 3, none⟩ (.slice A1 n c1)) = W := ⟨_, rfl⟩
            (try rw [hWv5])
            have t0 := rX
            have t1 := t0.set 0 (.int .i64 k)
            have t2 := t1.set 1 (.int .i64 u)
            have t3 := t2.set 2 (.bool x)
            have t4 := t3.set 3 (.slice A1 n c1)
            have o4 := ((((rY.setOther (g := X) 0 (.int .i64 k) (hne.out.symm)).setOther (g := X) 1 (.int .i64 u) (hne.out.symm)).setOther (g := X) 2 (.bool x) (hne.out.symm)).setOther (g := X) 3 (.slice A1 n c1) (hne.out.symm))
            have p1 := (((q1.out.2.1.setLow t0.ty (by decide) (by decide) 0 (.int .i64 k)).setLow t1.ty (by decide) (by decide) 1 (.int .i64 u)).setLow t2.ty (by decide) (by decide) 2 (.bool x)).setLow t3.ty (by decide) (by decide) 3 (.slice A1 n c1)
            have p2 := (((q2.out.2.1.setLow t0.ty (by decide) (by decide) 0 (.int .i64 k)).setLow t1.ty (by decide) (by decide) 1 (.int .i64 u)).setLow t2.ty (by decide) (by decide) 2 (.bool x)).setLow t3.ty (by decide) (by decide) 3 (.slice A1 n c1)
            have hbn := (((hbc.setCell (p := ⟨X, 0, none⟩) (show V.heap.size ≤ X by rw [hVS.out]; exact hVX) (.int .i64 k)).setCell (p := ⟨X, 1, none⟩) (show V.heap.size ≤ X by rw [hVS.out]; exact hVX) (.int .i64 u)).setCell (p := ⟨X, 2, none⟩) (show V.heap.size ≤ X by rw [hVS.out]; exact hVX) (.bool x)).setCell (p := ⟨X, 3, none⟩) (show V.heap.size ≤ X by rw [hVS.out]; exact hVX) (.slice A1 n c1)
            rw [hWv5] at t4 o4 p1 p2 hbn
            replace q1 : Hid _ := Lib.hid (And.intro q1.out.1 (And.intro p1 q1.out.2.2))
            replace q2 : Hid _ := Lib.hid (And.intro q2.out.1 (And.intro p2 q2.out.2.2))
            clear p1 p2 t0 t1 t2 t3 hWv5 hbc m0 m1 m2 m3 f0 f1 f2 f3 rX rY
            have rX := t4
            have rY := o4
            have hbc := hbn
            clear t4 o4 hbn
            refine hK.out _ _ ?ks346 (fun hHeld2 => ?_)
            case ks346 => exact HS8.out Wv5 hbc
            clear hK K
            try simp only [Act.put, List.setIfInBounds_toArray, List.set_cons_zero, List.set_cons_succ]
            replace hHeld := hHeld2
            clear hHeld2
            refine wpAnyH_ready (rs := [7]) (by kernel_rfl) (by simp) ?_
            refine (AllReadyH.cons (o := ({ dst := none, op := Op.store 31 (Operand.tmp 6) (Operand.tmp 18), type := 0, pos := "law.go:94", after := #[{ on := 5, ground := Ground.data }, { on := 3, ground := Ground.data }, { on := 6, ground := Ground.chain }, { on := 0, ground := Ground.phase }, { on := 1, ground := Ground.phase }, { on := 2, ground := Ground.phase }, { on := 3, ground := Ground.phase }, { on := 4, ground := Ground.phase }, { on := 5, ground := Ground.phase }, { on := 6, ground := Ground.phase }], guard := none } : Oper)) rfl (fun K hK => ?_) AllReadyH.nil)
            have m0 := rY.cell 0 _ rfl
            have f0 := rY.frozen 0
            have m1 := rY.cell 1 _ rfl
            have f1 := rY.frozen 1
            have m2 := rY.cell 2 _ rfl
            have f2 := rY.frozen 2
            have m3 := rY.cell 3 _ rfl
            have f3 := rY.frozen 3
            go_simp
            obtain ⟨Wv6, hWv6⟩ : ∃ W, ((((Wv5.setCell ⟨Y, 0, none⟩ (.int .i64 k')).setCell ⟨Y, 1, none⟩ (.int .i64 u')).setCell ⟨Y, 2, none⟩ (.bool x')).setCell ⟨Y, 3, none⟩ (.slice A2 n' c2)) = W := ⟨_, rfl⟩
            (try rw [hWv6])
            have t0 := rY
            have t1 := t0.set 0 (.int .i64 k')
            have t2 := t1.set 1 (.int .i64 u')
            have t3 := t2.set 2 (.bool x')
            have t4 := t3.set 3 (.slice A2 n' c2)
            have o4 := ((((rX.setOther (g := Y) 0 (.int .i64 k') (hne.out)).setOther (g := Y) 1 (.int .i64 u') (hne.out)).setOther (g := Y) 2 (.bool x') (hne.out)).setOther (g := Y) 3 (.slice A2 n' c2) (hne.out))
            have p1 := (((q1.out.2.1.setLow t0.ty (by decide) (by decide) 0 (.int .i64 k')).setLow t1.ty (by decide) (by decide) 1 (.int .i64 u')).setLow t2.ty (by decide) (by decide) 2 (.bool x')).setLow t3.ty (by decide) (by decide) 3 (.slice A2 n' c2)
            have p2 := (((q2.out.2.1.setLow t0.ty (by decide) (by decide) 0 (.int .i64 k')).setLow t1.ty (by decide) (by decide) 1 (.int .i64 u')).setLow t2.ty (by decide) (by decide) 2 (.bool x')).setLow t3.ty (by decide) (by decide) 3 (.slice A2 n' c2)
            have hbn := (((hbc.setCell (p := ⟨Y, 0, none⟩) (show V.heap.size ≤ Y by rw [hVS.out]; exact hVY) (.int .i64 k')).setCell (p := ⟨Y, 1, none⟩) (show V.heap.size ≤ Y by rw [hVS.out]; exact hVY) (.int .i64 u')).setCell (p := ⟨Y, 2, none⟩) (show V.heap.size ≤ Y by rw [hVS.out]; exact hVY) (.bool x')).setCell (p := ⟨Y, 3, none⟩) (show V.heap.size ≤ Y by rw [hVS.out]; exact hVY) (.slice A2 n' c2)
            rw [hWv6] at t4 o4 p1 p2 hbn
            replace q1 : Hid _ := Lib.hid (And.intro q1.out.1 (And.intro p1 q1.out.2.2))
            replace q2 : Hid _ := Lib.hid (And.intro q2.out.1 (And.intro p2 q2.out.2.2))
            clear p1 p2 t0 t1 t2 t3 hWv6 hbc m0 m1 m2 m3 f0 f1 f2 f3 rY rX
            have rY := t4
            have rX := o4
            have hbc := hbn
            clear t4 o4 hbn
            refine hK.out _ _ ?ku347 (fun hHeld2 => ?_)
            case ku347 => exact HS8.out Wv6 hbc
            clear hK K
            try simp only [Act.put, List.setIfInBounds_toArray, List.set_cons_zero, List.set_cons_succ]
            replace hHeld := hHeld2
            clear hHeld2
            refine wpAnyH_done (by kernel_rfl) ?_ _
            go_wp2_with fail
            go_meet
            exact ⟨X, Y, A1, c1, l1, A2, c2, l2, rfl, rfl, Lib.hid ⟨rX, rY, q1.out, q2.out, hbc⟩⟩
      case rest =>
        obtain ⟨X, Y, A1, c1, l1, A2, c2, l2, rfl, rfl, HC⟩ := hcut
        obtain ⟨v, hv⟩ : ∃ v : Bool, v = true ↔ (k = k' ∧ u = u' ∧ x = x' ∧ l1.map RL.val = l2.map RL.val) := by
          haveI := Classical.propDecidable (k = k' ∧ u = u' ∧ x = x' ∧ l1.map RL.val = l2.map RL.val)
          exact ⟨decide (k = k' ∧ u = u' ∧ x = x' ∧ l1.map RL.val = l2.map RL.val), by simp⟩
        have hVc : V.heap.size ≤ wc.heap.size := HC.out.2.2.2.2.size
        have H1 : ∀ e ∈ l1, e.n ≤ 100000 := fun e he => small_of (R := R) HC.out.2.2.1.2.2 (fun i hi => (HLP.out.2 i hi).2) e he
        have H2 : ∀ e ∈ l2, e.n ≤ 100000 := fun e he => small_of (R := R') HC.out.2.2.2.1.2.2 (fun i hi => (HLP'.out.2 i hi).2) e he
        have N1 : l1.length ≤ 1000000 := by have := HLP.out.1; have := HC.out.2.2.1.1; omega
        have N2 : l2.length ≤ 1000000 := by have := HLP'.out.1; have := HC.out.2.2.2.1.1; omega
        have KXY : Hid (∀ W, Below wc.heap.size wc W → Calls Tryz.prog 12 #[.agg (polA k u x A1 n c1), .agg (polA k' u' x' A2 n' c2)] W fun e w' => e = .returned (.bool v) ∧ Below W.heap.size W w') := Lib.hid fun W hW => by
          have h := same_any k u k' u' x x' A1 A2 l1 l2 c1 c2 W (HC.out.2.2.1.2.1.rl.below hW (Nat.le_refl _)) (HC.out.2.2.2.1.2.1.rl.below hW (Nat.le_refl _)) N1 H1
          rw [HC.out.2.2.1.1, HC.out.2.2.2.1.1] at h
          refine h.mono ?_
          rintro e w' ⟨⟨b, rfl, hb⟩, hB⟩
          exact ⟨by rw [show b = v from Bool.eq_iff_iff.2 (hb.trans hv.symm)], hB⟩
        have KYX : Hid (∀ W, Below wc.heap.size wc W → Calls Tryz.prog 12 #[.agg (polA k' u' x' A2 n' c2), .agg (polA k u x A1 n c1)] W fun e w' => e = .returned (.bool v) ∧ Below W.heap.size W w') := Lib.hid fun W hW => by
          have h := same_any k' u' k u x' x A2 A1 l2 l1 c2 c1 W (HC.out.2.2.2.1.2.1.rl.below hW (Nat.le_refl _)) (HC.out.2.2.1.2.1.rl.below hW (Nat.le_refl _)) N2 H2
          rw [HC.out.2.2.1.1, HC.out.2.2.2.1.1] at h
          refine h.mono ?_
          rintro e w' ⟨⟨b, rfl, hb⟩, hB⟩
          have e1 : b = v := Bool.eq_iff_iff.2 (hb.trans (Iff.trans ⟨fun ⟨a1, a2, a3, a4⟩ => ⟨a1.symm, a2.symm, a3.symm, a4.symm⟩, fun ⟨a1, a2, a3, a4⟩ => ⟨a1.symm, a2.symm, a3.symm, a4.symm⟩⟩ hv.symm))
          exact ⟨by rw [e1], hB⟩
        have KT : Hid (∀ W, Below wc.heap.size wc W → Calls Tryz.prog 13 #[.agg (polA k u x A1 n c1), .agg (polA k' u' x' A' n' c')] W fun e w' => e = .returned (.bool v) ∧ Below W.heap.size W w') := Lib.hid fun W hW => by
          have h := told14_any k u k' u' x x' A1 A' l1 c1 n' c' R' W (HC.out.2.2.1.2.1.rl.below hW (Nat.le_refl _)) N1 (by have := HLP'.out.1; omega) (fun i hi => (HLP'.out.2 i hi).2) (HR2'.out.below (HC.out.2.2.2.2.trans (hW.mono hVc)) (Nat.le_refl _))
          rw [HC.out.2.2.1.1] at h
          refine h.mono ?_
          rintro e w' ⟨⟨b, rfl, hb⟩, hB⟩
          have e1 : b = v := Bool.eq_iff_iff.2 (hb.trans (by unfold TP; rw [hv, HC.out.2.2.2.1.2.2]))
          exact ⟨by rw [e1], hB⟩
        have KO : Hid (∀ W, Below wc.heap.size wc W → Calls Tryz.prog 11 #[.agg (polA k u x A n c)] W fun e w' => ∃ A3 c3 l3, e = .returned (.agg (polA k u x A3 n c3)) ∧ Hid ((l3 : List RL).length = n ∧ RowL w' V.heap.size A3 l3 c3 ∧ l3.map RL.val = (List.range n).map (fun i => (R i).val)) ∧ Below W.heap.size W w') := Lib.hid fun W hW => KA.out W (HC.out.2.2.2.2.trans (hW.mono hVc))
        have KZ : Hid (∀ W A3 c3 l3, Below wc.heap.size wc W → Hid ((l3 : List RL).length = n ∧ RowL W V.heap.size A3 l3 c3 ∧ l3.map RL.val = (List.range n).map (fun i => (R i).val)) → Calls Tryz.prog 12 #[.agg (polA k u x A1 n c1), .agg (polA k u x A3 n c3)] W fun e w' => e = .returned (.bool true) ∧ Below W.heap.size W w') := Lib.hid fun W A3 c3 l3 hW hq => by
          have h := same_any k u k u x x A1 A3 l1 l3 c1 c3 W (HC.out.2.2.1.2.1.rl.below hW (Nat.le_refl _)) hq.out.2.1.rl N1 H1
          rw [HC.out.2.2.1.1, hq.out.1] at h
          refine h.mono ?_
          rintro e w' ⟨⟨b, rfl, hb⟩, hB⟩
          have e1 : b = true := hb.2 ⟨rfl, rfl, rfl, by rw [HC.out.2.2.1.2.2, hq.out.2.2]⟩
          exact ⟨by rw [e1], hB⟩
        have KW : Hid (∀ W, Below wc.heap.size wc W → Calls Tryz.prog 14 #[] W fun e w' => e = .returned (.bool true) ∧ Below W.heap.size W w') := Lib.hid fun W hW => awake14_any W (tab_on HT2.out (HC.out.2.2.2.2.trans (hW.mono hVc)) (Nat.le_refl _))
        have HS16 : Hid (∀ W, Below wc.heap.size wc W → W.cell? ⟨X, 0, none⟩ = some (.int .i64 k) ∧ W.cell? ⟨X, 1, none⟩ = some (.int .i64 u) ∧ W.cell? ⟨X, 2, none⟩ = some (.bool x) ∧ W.cell? ⟨X, 3, none⟩ = some (.slice A1 n c1) ∧ W.cell? ⟨Y, 0, none⟩ = some (.int .i64 k') ∧ W.cell? ⟨Y, 1, none⟩ = some (.int .i64 u') ∧ W.cell? ⟨Y, 2, none⟩ = some (.bool x') ∧ W.cell? ⟨Y, 3, none⟩ = some (.slice A2 n' c2) ∧
            W.cell? ⟨B, 0, none⟩ = some (.int .i64 k) ∧ W.cell? ⟨B, 1, none⟩ = some (.int .i64 u) ∧ W.cell? ⟨B, 2, none⟩ = some (.bool x) ∧ W.cell? ⟨B, 3, none⟩ = some (.slice A n c) ∧ W.cell? ⟨B + 1, 0, none⟩ = some (.int .i64 k') ∧ W.cell? ⟨B + 1, 1, none⟩ = some (.int .i64 u') ∧ W.cell? ⟨B + 1, 2, none⟩ = some (.bool x') ∧ W.cell? ⟨B + 1, 3, none⟩ = some (.slice A' n' c')) := Lib.hid fun W hW => by
          have h1 := HC.out.1.below hW HC.out.1.lt
          have h2 := HC.out.2.1.below hW HC.out.2.1.lt
          have h3 := HS8.out W (HC.out.2.2.2.2.trans (hW.mono hVc))
          exact ⟨h1.cell 0 _ rfl, h1.cell 1 _ rfl, h1.cell 2 _ rfl, h1.cell 3 _ rfl, h2.cell 0 _ rfl, h2.cell 1 _ rfl, h2.cell 2 _ rfl, h2.cell 3 _ rfl, h3.1, h3.2.1, h3.2.2.1, h3.2.2.2.1, h3.2.2.2.2.1, h3.2.2.2.2.2.1, h3.2.2.2.2.2.2.1, h3.2.2.2.2.2.2.2⟩
        have HBC := Lib.hid (show Below B w0 wc from HB02.out.trans (HC.out.2.2.2.2.mono HS2.out))
        have HSC := Lib.hid (Nat.le_trans HS2.out hVc)
        clear KA KB HS8 HC hv H1 H2 N1 N2 hVc
        go_wp2_with fail
        go_region_held3 (fun w' => w'.cell? ⟨X, 0, none⟩ = some (.int .i64 k) ∧ w'.cell? ⟨X, 1, none⟩ = some (.int .i64 u) ∧ w'.cell? ⟨X, 2, none⟩ = some (.bool x) ∧ w'.cell? ⟨X, 3, none⟩ = some (.slice A1 n c1) ∧ w'.cell? ⟨Y, 0, none⟩ = some (.int .i64 k') ∧ w'.cell? ⟨Y, 1, none⟩ = some (.int .i64 u') ∧ w'.cell? ⟨Y, 2, none⟩ = some (.bool x') ∧ w'.cell? ⟨Y, 3, none⟩ = some (.slice A2 n' c2) ∧
            w'.cell? ⟨B, 0, none⟩ = some (.int .i64 k) ∧ w'.cell? ⟨B, 1, none⟩ = some (.int .i64 u) ∧ w'.cell? ⟨B, 2, none⟩ = some (.bool x) ∧ w'.cell? ⟨B, 3, none⟩ = some (.slice A n c) ∧ w'.cell? ⟨B + 1, 0, none⟩ = some (.int .i64 k') ∧ w'.cell? ⟨B + 1, 1, none⟩ = some (.int .i64 u') ∧ w'.cell? ⟨B + 1, 2, none⟩ = some (.bool x') ∧ w'.cell? ⟨B + 1, 3, none⟩ = some (.slice A' n' c'))
          (with_reducible exact HS16.out _ (by repeat (first | assumption | exact Below.refl _ _ | apply Below.drew | apply bAl2)))
          (first
            | (go_at_call 12
               first
                 | (with_reducible refine (KXY.out _ (by repeat (first | assumption | exact Below.refl _ _ | apply Below.drew | apply bAl2))).mono ?_)
                 | (with_reducible refine (KYX.out _ (by repeat (first | assumption | exact Below.refl _ _ | apply Below.drew | apply bAl2))).mono ?_)
                 | (with_reducible refine (KZ.out _ _ _ _ (by repeat (first | assumption | exact Below.refl _ _ | apply Below.drew | apply bAl2)) hq3).mono ?_)
               rintro e w9 ⟨rfl, hB9⟩
               have hb9 : Below wc.heap.size wc w9 := bTr (by repeat (first | assumption | exact Below.refl _ _ | apply Below.drew | apply bAl2)) hB9
               clear hB9)
            | (go_at_call 13
               (with_reducible refine (KT.out _ (by repeat (first | assumption | exact Below.refl _ _ | apply Below.drew | apply bAl2))).mono ?_)
               rintro e w9 ⟨rfl, hB9⟩
               have hb9 : Below wc.heap.size wc w9 := bTr (by repeat (first | assumption | exact Below.refl _ _ | apply Below.drew | apply bAl2)) hB9
               clear hB9)
            | (go_at_call 11
               (with_reducible refine (KO.out _ (by repeat (first | assumption | exact Below.refl _ _ | apply Below.drew | apply bAl2))).mono ?_)
               rintro e w9 ⟨A3, c3, l3, rfl, hq3, hB9⟩
               have hb9 : Below wc.heap.size wc w9 := bTr (by repeat (first | assumption | exact Below.refl _ _ | apply Below.drew | apply bAl2)) hB9
               clear hB9)
            | (go_at_call 14
               (with_reducible refine (KW.out _ (by repeat (first | assumption | exact Below.refl _ _ | apply Below.drew | apply bAl2))).mono ?_)
               rintro e w9 ⟨rfl, hB9⟩
               have hb9 : Below wc.heap.size wc w9 := bTr (by repeat (first | assumption | exact Below.refl _ _ | apply Below.drew | apply bAl2)) hB9
               clear hB9))
        all_goals
          go_wp2
          go_ret
          exact ⟨rfl, by rw [HBS.out]; exact HBC.out.trans (hb9.mono HSC.out)⟩
theorem of_laid {W : World} (h : laidMetH Tryz.prog Rows.policySameRow.laid W) : TabP W := by
  rw [MakeChecks.laidMetH_plain _ _ _ (by kernel_rfl)] at h
  exact tab_of_third h

namespace policySameRow
open Go.ChangeShapes Go.WideShapes Go.ChangeAt Go.RowKit Go.Joins
open Go.ChangeMaps (open_string shut_string)
set_option linter.unusedVariables false
theorem own : ownKnob Tryz.prog.godebug = none := by kernel_rfl
theorem laidOut : laidOutB Tryz.prog = true := by kernel_rfl
set_option maxRecDepth 100000 in
theorem lifted (os : Os) (started : os.Started) (H : Type) (enc : TypeId × Value → H) :
    ReturnsInHanded {} Tryz.checked os 3 .any (fun w args => (Rows.policySameSpec.pre enc Tryz.prog Tryz.f3 [] false w args ∧ laidMetH Tryz.prog Rows.policySameRow.laid w) ∧ sizedMet enc Tryz.prog Tryz.f3 (OpenSpec.ofChange Rows.policySameSpec) false w args) (Rows.policySameSpec.post enc Tryz.prog Tryz.f3 false true false false) := by
  refine returnsInHanded_of_change_and (C := Tryz.checked) (X := fun w _ => laidMetH Tryz.prog Rows.policySameRow.laid w) (fun _ _ _ hh h => h.of_heap hh) own started (by kernel_rfl) Tryz.func3
    (ChangeSpec.witness_shaped (enc := enc) (C := Tryz.checked) (os := os) (X := fun w _ => laidMetH Tryz.prog Rows.policySameRow.laid w) false (World.laidAll Tryz.prog os Rows.policySameRow.laid) #[.agg #[.int .i64 0, .int .i64 0, .bool false, .slice none 0 0], .agg #[.int .i64 0, .int .i64 0, .bool false, .slice none 0 0]] 8 (World.laidAll_os _ _ _) (World.shaped_of_ZipB (by kernel_rfl) (by kernel_rfl)) (by kernel_rfl) (by kernel_rfl) (by kernel_rfl) (by rw [MakeChecks.laidMetH_plain _ _ _ (by kernel_rfl)]; exact laidMet_laidAll _ (by kernel_rfl) (by kernel_rfl))) ?_
  intro W base args ds gs before hval0 hW _ _ hL _
  have hval : ∀ (j : Nat) t v, Tryz.f3.params[j]? = some t → args[j]? = some v → Value.okWide Tryz.prog W .any base t v := hval0
  have hW' := hW
  obtain ⟨p, q, hA0, hV, rfl, hfz, hnd⟩ := hW
  have hA : DataW.TrodAll enc Tryz.prog W 0 (fun _ => true) true Tryz.f3.params.toList args.toList ds p := hA0
  rw [Tryz.params3] at hA hval
  obtain ⟨v0, vs0, d0, ds0, p0, q0, hargs, rfl, rfl, h0, r0⟩ := trodAll_cons hA
  obtain ⟨v1, vs1, d1, ds1, p1, q1, rfl, rfl, rfl, h1, r1⟩ := trodAll_cons r0
  obtain ⟨rfl, rfl, rfl⟩ := trodAll_nil r1
  obtain rfl : args = #[v0, v1] := by cases args; simp_all
  obtain ⟨rfl, rfl⟩ := trodVars_none hV
  have k0 := h0
  have lt0 : ∀ x ∈ p0, x.block < W.heap.size := by obtain ⟨m, hm⟩ := k0; exact DataW.trod_lt m _ _ _ hm
  have k1 := h1
  have lt1 : ∀ x ∈ p1, x.block < W.heap.size := by obtain ⟨m, hm⟩ := k1; exact DataW.trod_lt m _ _ _ hm
  obtain ⟨pk0, pu0, px0, pA0, pn0, pc0, pR0, rfl, pa0, pb0, pl0, pm0, pt0⟩ := open_policy (hval 0 26 v0 rfl rfl) h0
  obtain ⟨pk1, pu1, px1, pA1, pn1, pc1, pR1, rfl, pa1, pb1, pl1, pm1, pt1⟩ := open_policy (hval 1 26 v1 rfl rfl) h1
  clear hA0 hval0
  refine (walk_PolicySame (w0 := W) pk0 pu0 px0 pA0 pn0 pc0 pR0 pa0 pb0 pl0 pm0 pt0 pk1 pu1 px1 pA1 pn1 pc1 pR1 pa1 pb1 pl1 pm1 pt1 (of_laid hL)).mono fun e W' ⟨he, bel⟩ => ?_
  subst he
  exact ⟨_, rfl, _, _, _, [], _, [], hW', trodAll_mk1 (shut_bool Tryz.underlying4 _), (trodAll_cons_mk (Below.trod laidOut (by kernel_rfl) (of_decide_eq_true (by kernel_rfl)) k0 bel lt0) (trodAll_cons_mk (Below.trod laidOut (by kernel_rfl) (of_decide_eq_true (by kernel_rfl)) k1 bel lt1) trodAll_mk0)), rfl, bel.frame _, fun h => by cases h⟩

theorem over : Rows.policySameRow.holds Tryz.pinned (OpenSpec.ofChange Rows.policySameSpec) :=
  OpenClaim.holds_of_wide 3 Tryz.f3 rfl rfl rfl rfl rfl rfl rfl ⟨rfl, rfl, rfl, rfl, rfl⟩ rfl rfl rfl rfl rfl (by kernel_rfl) Tryz.func3 (by kernel_rfl)
    (of_decide_eq_true (by kernel_rfl)) (by unfold Func.isWrapper; first | (rw [if_pos (by decide +kernel)]; kernel_rfl) | (rw [if_neg (by decide +kernel)]; exact ⟨rfl, rfl⟩))
    (fun os started H enc _ => lifted os started H enc)
end policySameRow

theorem policySame_proved : Rows.PolicySameCardSaid :=
  Claim7.holds_tied_plain_at .later [] [.data, .data, .data, .data, .sentinel, .sentinel, .pinned] true Rows.policySameCard.stood.harness true
    policySameRow.over (fun _ h => by cases h) (by kernel_rfl) (fun _ h => by cases h) policySame_row_tie rfl ⟨rfl, rfl⟩ (by kernel_rfl) rfl
    (fun f fn hf hfn => by
      obtain rfl : f = 3 := Option.some.inj ((show Tryz.prog.funcNamed "strainer/strainerlaw14.PolicySame" = some 3 by kernel_rfl).symm.trans hf) |>.symm
      obtain rfl : fn = Tryz.f3 := (Option.some.inj (Tryz.func3.symm.trans hfn)).symm
      exact ⟨by kernel_rfl, fun j t ht => by
        rw [Tryz.params3] at ht
        have hall : ∀ t ∈ [26, 26], Tryz.prog.wantsStandIn t = false := by
          intro t ht
          simp only [List.mem_cons, List.not_mem_nil, or_false] at ht
          rcases ht with rfl | rfl <;> kernel_rfl
        exact hall t (by simpa using Array.mem_of_getElem? ht)⟩)
    (by kernel_rfl)
#print axioms policySame_proved
end Go.Proofs.YtlpcallgkciklaaGreatDoor
