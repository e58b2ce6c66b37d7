/-
  The law AsmFar holds for every input: however far a jump leads, it leads there. No condition. Made by gen_asmfar.py.
-/
import Derived.Test.YtiofgaadfbjnoaaAsM
import Derived.Test.YtiofgaadfbjnoaaYb
import Derived.Test.YtiofgaadfbjnoaaRows
import Derived.Below
import Derived.ChangeOld
import Derived.ShutString
import Derived.Lib.SmallJoins
import Derived.OpenShut
import Derived.ProofKit
import Derived.WalkKit
namespace Go.Proofs.Ytiofgaadfbjnoaa
open Go.RowKit Go.Shelf
set_option linter.unusedVariables false
theorem it_snoc2 {N : Nat} (L : List IT) (x : IT) (h : N = L.length) : ∀ i, i < (N + 1) * 5 → catC (N * 5) (itcell fun i => L[i]!) (itcell fun _ => x) i = itcell (fun i => (L ++ [x])[i]!) i := by
  subst h
  exact it_snoc L x
theorem byt64s (w : World) : Byt (w.alloc (.cells (Array.replicate 64 (.int .u8 0)) 5)) (w.alloc (.cells (Array.replicate 64 (.int .u8 0)) 5)).heap.size (some ⟨w.heap.size, 0, none⟩) 64 64 (fun _ => 0) := (byt64 w).more (by simp)
theorem prog_oks (l : List IT) (hl : l.length ≤ 1000000) (hx : ∀ x ∈ l, x.ok) (i : Nat) (hi : i < (progI l).length) : (progI l)[i]!.ok := by
  rw [getElem!_pos (progI l) i hi]
  exact progI_ok l hl hx _ (List.getElem_mem _)
set_option maxRecDepth 100000 in
set_option maxHeartbeats 16000000 in
theorem walk_AsmFar_true {w0 : World} (b a k : Nat) (hb : b < 65536) (ha : a < 4294967296) (hk : k < 4294967296) :
    Calls Try.prog 3 #[.agg #[.int .u16 (b : Int), .int .u32 (a : Int), .int .u32 (k : Int), .bool true]] w0 fun e w' => e = .returned (.bool true) ∧ Below w0.heap.size w0 w' := by
  obtain ⟨n, hr⟩ : ∃ n : Nat, (b : Int) % 1000 = (n : Int) := ⟨b % 1000, by omega⟩
  have hn9 : n ≤ 999 := by omega
  have hor : ((0 : Int) = 1 ∧ (1 : Int) = 0) ∨ ((0 : Int) = 0 ∧ (1 : Int) = 1) := by decide
  obtain ⟨vv, hvv⟩ : ∃ z, (if (a = k) = ((0 : Int) = 1) then 2 else 1) = z := ⟨_, rfl⟩
  have hv2 : vv < 3 := by rw [← hvv]; split <;> decide
  have hFP0 := far_whole n a k 0 1 hor (by omega)
  rw [hvv] at hFP0
  have HVV := Lib.hid hvv
  have HFP := Lib.hid hFP0
  clear hvv hFP0
  have HFF := Lib.hid (far_formed n a k 0 1 hor)
  have HFK := Lib.hid (farL_ok n a k 0 1 hor ha hk)
  have HMK := Lib.hid mk64
  have hmk := mk64
  have hfl := fldO
  go_enter Try.func3, Try.ntmps3
  go_wp2
  go_quiet (fail)
  go_wp2
  obtain ⟨V, hV⟩ : ∃ V, (((w0.alloc (.cells #[.int .u16 (b : Int), .int .u32 (a : Int), .int .u32 (k : Int), .bool true] 25)).drewN nq).alloc (.cells #[.int .i64 0, .int .u16 21, .int .u32 (k : Int), .int .i64 0, .int .i64 1] 27)) = V := ⟨_, rfl⟩
  have hVs : V.heap.size = w0.heap.size + 1 + 1 := by rw [← hV]; simp
  have hVb : Below w0.heap.size w0 V := by
    have h1 : Below w0.heap.size w0 (w0.alloc (.cells #[.int .u16 (b : Int), .int .u32 (a : Int), .int .u32 (k : Int), .bool true] 25)) := (Below.refl _ _).alloc (Nat.le_refl _) _
    have h2 : Below w0.heap.size w0 ((w0.alloc (.cells #[.int .u16 (b : Int), .int .u32 (a : Int), .int .u32 (k : Int), .bool true] 25)).drewN nq) := ⟨h1.os, h1.tape, h1.output, h1.size, h1.block⟩
    rw [← hV]
    exact h2.alloc h2.size _
  have hO0 := two_own V ⟨0, 0, a, 0, 0⟩ ⟨0, 21, k, 0, 1⟩
  rw [hVs] at hO0
  rw [hV]
  have HO0 := Lib.hid (hO0.lower (show w0.heap.size ≤ w0.heap.size + 1 + 1 by omega))
  have HB0 : Hid (Below w0.heap.size w0 (V.alloc (.cells #[.int .i64 0, .int .u16 0, .int .u32 (a : Int), .int .i64 0, .int .i64 0, .int .i64 0, .int .u16 21, .int .u32 (k : Int), .int .i64 0, .int .i64 1] 27))) := Lib.hid (hVb.alloc (by omega) _)
  clear hO0 hVb hVs hV
  rw [hr]
  clear hr
  go_loopw [9, 10] (fun s i wr => ∃ (q : Nat) (A' : Option Addr) (c' N : Nat), q ≤ n ∧ i = .int .i64 q ∧ s = .slice A' N c' ∧ N = 2 + q ∧ Hid (OwnC wr w0.heap.size 27 5 A' N c' (itcell fun j => ([⟨0, 0, a, 0, 0⟩, ⟨0, 21, k, 0, 1⟩] ++ List.replicate q fNeg : List IT)[j]!)) ∧ Below w0.heap.size w0 wr)
    (fun _ i _ => n - (intOf i).toNat)
  case atStart => exact ⟨0, _, _, 2, Nat.zero_le _, rfl, rfl, rfl, HO0, HB0.out⟩
  case round =>
    obtain ⟨q, A', c', N, hq, rfl, rfl, hN, HO, hB⟩ := hrel
    subst hN
    by_cases hlt : q < n
    · have i1 : (q : Int) < (n : Int) := by omega
      have HL : Hid (2 + q = ([⟨0, 0, a, 0, 0⟩, ⟨0, 21, k, 0, 1⟩] ++ List.replicate q fNeg : List IT).length) := Lib.hid (by simp; omega)
      go_wp2_with (at_builtin; go_must (refine app_cells _ rfl _ _ _ 27 rfl Try.underlying28 infoItm rfl (by decide) rfl (HO.out.alloc _) rfl (one_item wr fNeg 27) (fun i _ => itcell_one _ i) (by unfold maxLen; omega) (by omega) (by have := hB.size; simp; omega) (2 + q + 1) rfl (itcell fun j => (([⟨0, 0, a, 0, 0⟩, ⟨0, 21, k, 0, 1⟩] ++ List.replicate q fNeg : List IT) ++ [fNeg])[j]!) (it_snoc2 _ fNeg HL.out) ?_; rintro A2 c2 w2 hown2 hB2; have hb2 : Below w0.heap.size w0 w2 := (hB.alloc hB.size _).trans hB2; have HO2 : Hid (OwnC w2 w0.heap.size 27 5 A2 (2 + q + 1) c2 (itcell fun j => ([⟨0, 0, a, 0, 0⟩, ⟨0, 21, k, 0, 1⟩] ++ List.replicate (q + 1) fNeg : List IT)[j]!) ) := Lib.hid (by rw [List.replicate_succ', ← List.append_assoc]; exact hown2); clear hown2))
      go_roundw
      case rel => exact ⟨q + 1, A2, c2, 2 + q + 1, by omega, by go_num, rfl, by omega, HO2, hb2⟩
      case measure => simp [intOf]; omega
    · obtain rfl : n = q := by omega
      have i1 : ¬ (n : Int) < (n : Int) := by omega
      have HL : Hid (2 + n = ([⟨0, 0, a, 0, 0⟩, ⟨0, 21, k, 0, 1⟩] ++ List.replicate n fNeg : List IT).length) := Lib.hid (by simp; omega)
      go_wp2_with (at_builtin; go_must (refine app_cells _ rfl _ _ _ 27 rfl Try.underlying28 infoItm rfl (by decide) rfl (HO.out.alloc _) rfl (three_its wr ⟨0, 6, 1, 0, 0⟩ ⟨1, 0, 0, 0, 0⟩ ⟨0, 6, 2, 0, 0⟩) (fun i _ => itcell_one _ i) (by unfold maxLen; omega) (by omega) (by have := hB.size; simp; omega) (2 + n + 3) rfl (itcell fun j => (farL n a k 0 1)[j]!) (it_appL _ [⟨0, 6, 1, 0, 0⟩, ⟨1, 0, 0, 0, 0⟩, ⟨0, 6, 2, 0, 0⟩] HL.out) ?_; rintro A2 c2 w2 hown2 hB2; have hb2 : Below w0.heap.size w0 w2 := (hB.alloc hB.size _).trans hB2; have HC2 := Lib.hid hown2.cel; clear hown2))
      have e5 : 2 + n + 3 = n + 5 := by omega
      rw [e5] at HC2 ⊢
      have hway : (255 < n + 1 ∧ (if 255 < n + 1 then n + 6 else n + 4) = n + 6) ∨ (¬ 255 < n + 1 ∧ (if 255 < n + 1 then n + 6 else n + 4) = n + 4) := by
        by_cases h : 255 < n + 1
        · exact .inl ⟨h, if_pos h⟩
        · exact .inr ⟨h, if_neg h⟩
      rcases hway with ⟨hfar, hNP⟩ | ⟨hfar, hNP⟩
      · rw [hNP] at HFP
        have j1 : ¬ ((n : Int) + 1 ≤ 255) := by omega
        refine (assemble_ok A2 (n + 5) c2 (farL n a k 0 1) w2 (farL_len n a k 0 1) (by omega) HC2.out HFK.out HFF.out 0 (by rw [HFP.out.len, HFP.out.check])).mono ?_
        rw [HFP.out.len]
        rintro e w3 ⟨A3, n3, c3, rfl, hB3, _, hz⟩
        obtain ⟨rfl, hO3⟩ := hz rfl
        have hb3 := hb2.trans (hB3.mono hb2.size)
        have HO3 := Lib.hid hO3
        have HSZ := Lib.hid (size_ok A2 (n + 5) c2 (farL n a k 0 1) w3 (farL_len n a k 0 1) (by omega) ((HC2.out.below hB3).more hB3.size) HFK.out HFF.out)
        rw [HFP.out.len] at HSZ
        clear hO3 hz hNP
        go_wp2_with fail
        refine HSZ.out.mono ?_
        rintro e w4 ⟨rfl, hB4⟩
        have hb4 := hb3.trans (hB4.mono hb3.size)
        by_cases hak : (a : Int) = (k : Int)
        · have hbe : ((a : Int) == (k : Int)) = true := by simpa using hak
          have hvv : vv = 1 := by
            rw [← HVV.out]
            have hak2 : a = k := by omega
            simp [hak2]
          subst hvv
          have HI3 : Hid (∀ W, Below w4.heap.size w4 W → Ins W W.heap.size A3 (n + 6) c3 (fun i => (progI (farL n a k 0 1))[i]!)) := Lib.hid fun W hW => (((show Ins w3 w3.heap.size A3 (n + 6) c3 (fun i => (progI (farL n a k 0 1))[i]!) from ⟨HO3.out.cel, fun i hi => prog_oks _ (by rw [farL_len]; omega) HFK.out i (by rw [HFP.out.len]; exact hi)⟩).below hB4).more hB4.size).below hW |>.more hW.size
          have HRUN : Hid (∀ (A5 : Option Addr) (c5 : Nat) (A7 : Option Addr) (V : World), Cel V V.heap.size 4 A5 (n + 6) c5 (icell fun i => (progI (farL n a k 0 1))[i]!) → Byt V V.heap.size A7 64 64 (fun _ => 0) → Calls Try.prog 10 #[.slice A5 (n + 6) c5, .slice A7 64 64] V fun e w' => ∃ (A' : Option Addr) (n' c' : Nat) (st' : Int), e = .returned (.agg #[.int .u32 1, .int .i64 st', .slice A' n' c']) ∧ Below V.heap.size V w') := Lib.hid fun A5 c5 A7 V hc hby => by
            obtain ⟨sF, hrun⟩ := HFP.out.run
            refine (refRun_any A5 (n + 6) c5 _ A7 64 (fun _ => 0) V 1 sF ⟨hc, (HI3.out w4 (Below.refl _ _)).2⟩ (by omega) (by omega) HFP.out.alone HFP.out.last hby (fun _ => by decide) hrun).mono ?_
            rintro e w' ⟨A', c', rfl, _, hb⟩
            exact ⟨A', _, c', _, rfl, hb⟩
          have hN1 : (n + 6) ≤ 1000000 := by omega
          have hb3 := hb4
          clear HVV HO3 HSZ HFP HC2 hB4
          go_wp2
          refine wp_region_E (S := fun _ => True) 10 (by kernel_rfl) ?_
          have hHeld : True := trivial
          refine wpAnyE_take (i := 0) (oi := ({ dst := some 81, op := Op.move (Operand.tmp 11), type := 29, pos := "outright.go:46", after := #[], guard := none } : Oper)) (v := ?vr10x1) rfl (by kernel_rfl) (by decide) (by kernel_rfl) (fun _ _ _ h => h) (by rfl) ?hr10x1 hHeld ?rr10x1
          case hr10x1 =>
            intro V hV
            go_simp
            all_goals with_reducible rfl
          try simp only [Act.put, List.setIfInBounds_toArray, List.set_cons_zero, List.set_cons_succ]
          refine wpAnyE_take (i := 5) (oi := ({ dst := some 86, op := Op.move (Operand.tmp 14), type := 23, pos := "outright.go:46", after := #[], guard := none } : Oper)) (v := ?vr15x2) rfl (by kernel_rfl) (by decide) (by kernel_rfl) (fun _ _ _ h => h) (by rfl) ?hr15x2 hHeld ?rr15x2
          case hr15x2 =>
            intro V hV
            go_simp
            all_goals with_reducible rfl
          try simp only [Act.put, List.setIfInBounds_toArray, List.set_cons_zero, List.set_cons_succ]
          refine wpAnyE_ready (rs := [1, 2]) (by kernel_rfl) (by simp) ?_
          refine (AllE.cons (o := ({ dst := some 82, op := Op.call { callee := Callee.value (Operand.func 11), args := #[Operand.tmp 81], argTypes := #[29] }, type := 38, pos := "outright.go:46", after := #[{ on := 0, ground := Ground.data }], guard := none } : Oper)) rfl (by decide) (fun K hK => ?_) (AllE.cons (o := ({ dst := some 83, op := Op.makeSlice 40 (Operand.const (Value.int IntKind.i64 64)) (Operand.const (Value.int IntKind.i64 64)), type := 40, pos := "outright.go:46", after := #[], guard := none } : Oper)) rfl (by decide) (fun K hK => ?_) AllE.nil))
          · go_simp
            refine (back21_any A3 (n + 6) c3 _ _ hN1 (HI3.out _ (Below.refl _ _).drew)).mono ?_
            rintro e V1 ⟨A5, c5, rfl, hO5, hV1⟩
            have HO5 := Lib.hid hO5
            clear hO5
            refine hK.out _ _ ?kr11x3 (fun hHeld2 => ?_)
            case kr11x3 => exact trivial
            clear hK K
            try simp only [Act.put, List.setIfInBounds_toArray, List.set_cons_zero, List.set_cons_succ]
            replace hHeld := hHeld2
            clear hHeld2
            have hb4 := hb3.drew.trans (hV1.mono hb3.drew.size)
            refine wpAnyE_ready (rs := [2]) (by kernel_rfl) (by simp) ?_
            refine (AllE.cons (o := ({ dst := some 83, op := Op.makeSlice 40 (Operand.const (Value.int IntKind.i64 64)) (Operand.const (Value.int IntKind.i64 64)), type := 40, pos := "outright.go:46", after := #[], guard := none } : Oper)) rfl (by decide) (fun K hK => ?_) AllE.nil)
            go_simp
            refine hK.out _ _ ?kr12x4 (fun hHeld2 => ?_)
            case kr12x4 => exact trivial
            clear hK K
            try simp only [Act.put, List.setIfInBounds_toArray, List.set_cons_zero, List.set_cons_succ]
            replace hHeld := hHeld2
            clear hHeld2
            refine wpAnyE_ready (rs := [3]) (by kernel_rfl) (by simp) ?_
            refine (AllE.cons (o := ({ dst := some 84, op := Op.call { callee := Callee.value (Operand.func 10), args := #[Operand.tmp 82, Operand.tmp 83], argTypes := #[38, 40] }, type := 36, pos := "outright.go:46", after := #[{ on := 1, ground := Ground.data }, { on := 2, ground := Ground.data }, { on := 1, ground := Ground.chain }], guard := none } : Oper)) rfl (by decide) (fun K hK => ?_) AllE.nil)
            go_simp
            refine (HRUN.out _ _ _ _ (HO5.out.alloc _).cel (byt64s V1)).mono ?_
            rintro e V2 ⟨A6, n6, c6, st6, rfl, hV2⟩
            have hb5 : Below w0.heap.size w0 V2 := (hb4.alloc hb4.size _).trans (hV2.mono (hb4.alloc hb4.size _).size)
            refine hK.out _ _ ?kr13x5 (fun hHeld2 => ?_)
            case kr13x5 => exact trivial
            clear hK K
            try simp only [Act.put, List.setIfInBounds_toArray, List.set_cons_zero, List.set_cons_succ]
            replace hHeld := hHeld2
            clear hHeld2
            refine wpAnyE_take (i := 4) (oi := ({ dst := some 85, op := Op.field 36 (Operand.tmp 84) 0, type := 23, pos := "outright.go:46", after := #[{ on := 3, ground := Ground.data }], guard := none } : Oper)) (v := ?vr14x6) rfl (by kernel_rfl) (by decide) (by kernel_rfl) (fun _ _ _ h => h) (by rfl) ?hr14x6 hHeld ?rr14x6
            case hr14x6 =>
              intro V hV
              go_simp
              all_goals with_reducible rfl
            try simp only [Act.put, List.setIfInBounds_toArray, List.set_cons_zero, List.set_cons_succ]
            refine wpAnyE_take (i := 6) (oi := ({ dst := some 87, op := Op.binOp BinOp.eql 23 (Operand.tmp 85) (Operand.tmp 86) 23, type := 4, pos := "outright.go:46", after := #[{ on := 4, ground := Ground.data }, { on := 5, ground := Ground.data }], guard := none } : Oper)) (v := ?vr16x7) rfl (by kernel_rfl) (by decide) (by kernel_rfl) (fun _ _ _ h => h) (by rfl) ?hr16x7 hHeld ?rr16x7
            case hr16x7 =>
              intro V hV
              go_simp
              all_goals with_reducible rfl
            try simp only [Act.put, List.setIfInBounds_toArray, List.set_cons_zero, List.set_cons_succ]
            refine wpAnyE_take (i := 7) (oi := ({ dst := some 88, op := Op.move (Operand.tmp 87), type := 4, pos := "outright.go:46", after := #[{ on := 6, ground := Ground.data }, { on := 3, ground := Ground.chain }], guard := none } : Oper)) (v := ?vr17x8) rfl (by kernel_rfl) (by decide) (by kernel_rfl) (fun _ _ _ h => h) (by rfl) ?hr17x8 hHeld ?rr17x8
            case hr17x8 =>
              intro V hV
              go_simp
              all_goals with_reducible rfl
            try simp only [Act.put, List.setIfInBounds_toArray, List.set_cons_zero, List.set_cons_succ]
            refine wpAnyE_ready (rs := [8]) (by kernel_rfl) (by simp) ?_
            refine (AllE.cons (o := ({ dst := some 89, op := Op.call { callee := Callee.value (Operand.func 12), args := #[], argTypes := #[] }, type := 4, pos := "outright.go:46", after := #[{ on := 7, ground := Ground.chain }, { on := 7, ground := Ground.guard }], guard := some (7, true) } : Oper)) rfl (by decide) (fun K hK => ?_) AllE.nil)
            go_simp
            refine (awake21_any _).mono ?_
            rintro e V3 ⟨rfl, hV3⟩
            have hb6 := hb5.trans (hV3.mono hb5.size)
            refine hK.out _ _ ?kr18x9 (fun hHeld2 => ?_)
            case kr18x9 => exact trivial
            clear hK K
            try simp only [Act.put, List.setIfInBounds_toArray, List.set_cons_zero, List.set_cons_succ]
            replace hHeld := hHeld2
            clear hHeld2
            refine wpAnyE_take (i := 9) (oi := ({ dst := some 90, op := Op.pick (Operand.tmp 88) (Operand.tmp 89) (Operand.const (Value.bool false)), type := 4, pos := "outright.go:46", after := #[{ on := 7, ground := Ground.data }, { on := 8, ground := Ground.data }], guard := none } : Oper)) (v := ?vr19x10) rfl (by kernel_rfl) (by decide) (by kernel_rfl) (fun _ _ _ h => h) (by rfl) ?hr19x10 hHeld ?rr19x10
            case hr19x10 =>
              intro V hV
              go_simp
              all_goals with_reducible rfl
            try simp only [Act.put, List.setIfInBounds_toArray, List.set_cons_zero, List.set_cons_succ]
            refine wpAnyE_late (j := 10) (o := ({ dst := some 2, op := Op.assign (Operand.tmp 90), type := 4, pos := "outright.go:46", after := #[{ on := 9, ground := Ground.data }, { on := 8, ground := Ground.chain }, { on := 0, ground := Ground.phase }, { on := 1, ground := Ground.phase }, { on := 2, ground := Ground.phase }, { on := 3, ground := Ground.phase }, { on := 4, ground := Ground.phase }, { on := 5, ground := Ground.phase }, { on := 6, ground := Ground.phase }, { on := 7, ground := Ground.phase }, { on := 8, ground := Ground.phase }, { on := 9, ground := Ground.phase }], guard := none } : Oper)) (by kernel_rfl) (by decide) rfl (fun K hK => ?_)
            go_simp
            refine hK.out _ _ ?_
            clear hK K
            try simp only [Act.put, List.setIfInBounds_toArray, List.set_cons_zero, List.set_cons_succ]
            refine wpAnyE_done (by kernel_rfl) ?_ _
            go_wp2
            go_ret
            exact ⟨rfl, hb6⟩
          · go_simp
            refine hK.out _ _ ?kr12x11 (fun hHeld2 => ?_)
            case kr12x11 => exact trivial
            clear hK K
            try simp only [Act.put, List.setIfInBounds_toArray, List.set_cons_zero, List.set_cons_succ]
            replace hHeld := hHeld2
            clear hHeld2
            have hb3a := hb3.drew.alloc hb3.drew.size (.cells (Array.replicate 64 (.int .u8 0)) 5)
            refine wpAnyE_ready (rs := [1]) (by kernel_rfl) (by simp) ?_
            refine (AllE.cons (o := ({ dst := some 82, op := Op.call { callee := Callee.value (Operand.func 11), args := #[Operand.tmp 81], argTypes := #[29] }, type := 38, pos := "outright.go:46", after := #[{ on := 0, ground := Ground.data }], guard := none } : Oper)) rfl (by decide) (fun K hK => ?_) AllE.nil)
            go_simp
            refine (back21_any A3 (n + 6) c3 _ _ hN1 (HI3.out _ ((Below.refl _ _).drew.alloc (Nat.le_refl _) _))).mono ?_
            rintro e V1 ⟨A5, c5, rfl, hO5, hV1⟩
            have HO5 := Lib.hid hO5
            clear hO5
            refine hK.out _ _ ?kr11x12 (fun hHeld2 => ?_)
            case kr11x12 => exact trivial
            clear hK K
            try simp only [Act.put, List.setIfInBounds_toArray, List.set_cons_zero, List.set_cons_succ]
            replace hHeld := hHeld2
            clear hHeld2
            have hb4 := hb3a.trans (hV1.mono hb3a.size)
            refine wpAnyE_ready (rs := [3]) (by kernel_rfl) (by simp) ?_
            refine (AllE.cons (o := ({ dst := some 84, op := Op.call { callee := Callee.value (Operand.func 10), args := #[Operand.tmp 82, Operand.tmp 83], argTypes := #[38, 40] }, type := 36, pos := "outright.go:46", after := #[{ on := 1, ground := Ground.data }, { on := 2, ground := Ground.data }, { on := 1, ground := Ground.chain }], guard := none } : Oper)) rfl (by decide) (fun K hK => ?_) AllE.nil)
            go_simp
            refine (HRUN.out _ _ _ _ HO5.out.cel (((byt64s _).below hV1).more hV1.size)).mono ?_
            rintro e V2 ⟨A6, n6, c6, st6, rfl, hV2⟩
            have hb5 : Below w0.heap.size w0 V2 := hb4.trans (hV2.mono hb4.size)
            refine hK.out _ _ ?kr13x13 (fun hHeld2 => ?_)
            case kr13x13 => exact trivial
            clear hK K
            try simp only [Act.put, List.setIfInBounds_toArray, List.set_cons_zero, List.set_cons_succ]
            replace hHeld := hHeld2
            clear hHeld2
            refine wpAnyE_take (i := 4) (oi := ({ dst := some 85, op := Op.field 36 (Operand.tmp 84) 0, type := 23, pos := "outright.go:46", after := #[{ on := 3, ground := Ground.data }], guard := none } : Oper)) (v := ?vr14x14) rfl (by kernel_rfl) (by decide) (by kernel_rfl) (fun _ _ _ h => h) (by rfl) ?hr14x14 hHeld ?rr14x14
            case hr14x14 =>
              intro V hV
              go_simp
              all_goals with_reducible rfl
            try simp only [Act.put, List.setIfInBounds_toArray, List.set_cons_zero, List.set_cons_succ]
            refine wpAnyE_take (i := 6) (oi := ({ dst := some 87, op := Op.binOp BinOp.eql 23 (Operand.tmp 85) (Operand.tmp 86) 23, type := 4, pos := "outright.go:46", after := #[{ on := 4, ground := Ground.data }, { on := 5, ground := Ground.data }], guard := none } : Oper)) (v := ?vr16x15) rfl (by kernel_rfl) (by decide) (by kernel_rfl) (fun _ _ _ h => h) (by rfl) ?hr16x15 hHeld ?rr16x15
            case hr16x15 =>
              intro V hV
              go_simp
              all_goals with_reducible rfl
            try simp only [Act.put, List.setIfInBounds_toArray, List.set_cons_zero, List.set_cons_succ]
            refine wpAnyE_take (i := 7) (oi := ({ dst := some 88, op := Op.move (Operand.tmp 87), type := 4, pos := "outright.go:46", after := #[{ on := 6, ground := Ground.data }, { on := 3, ground := Ground.chain }], guard := none } : Oper)) (v := ?vr17x16) rfl (by kernel_rfl) (by decide) (by kernel_rfl) (fun _ _ _ h => h) (by rfl) ?hr17x16 hHeld ?rr17x16
            case hr17x16 =>
              intro V hV
              go_simp
              all_goals with_reducible rfl
            try simp only [Act.put, List.setIfInBounds_toArray, List.set_cons_zero, List.set_cons_succ]
            refine wpAnyE_ready (rs := [8]) (by kernel_rfl) (by simp) ?_
            refine (AllE.cons (o := ({ dst := some 89, op := Op.call { callee := Callee.value (Operand.func 12), args := #[], argTypes := #[] }, type := 4, pos := "outright.go:46", after := #[{ on := 7, ground := Ground.chain }, { on := 7, ground := Ground.guard }], guard := some (7, true) } : Oper)) rfl (by decide) (fun K hK => ?_) AllE.nil)
            go_simp
            refine (awake21_any _).mono ?_
            rintro e V3 ⟨rfl, hV3⟩
            have hb6 := hb5.trans (hV3.mono hb5.size)
            refine hK.out _ _ ?kr18x17 (fun hHeld2 => ?_)
            case kr18x17 => exact trivial
            clear hK K
            try simp only [Act.put, List.setIfInBounds_toArray, List.set_cons_zero, List.set_cons_succ]
            replace hHeld := hHeld2
            clear hHeld2
            refine wpAnyE_take (i := 9) (oi := ({ dst := some 90, op := Op.pick (Operand.tmp 88) (Operand.tmp 89) (Operand.const (Value.bool false)), type := 4, pos := "outright.go:46", after := #[{ on := 7, ground := Ground.data }, { on := 8, ground := Ground.data }], guard := none } : Oper)) (v := ?vr19x18) rfl (by kernel_rfl) (by decide) (by kernel_rfl) (fun _ _ _ h => h) (by rfl) ?hr19x18 hHeld ?rr19x18
            case hr19x18 =>
              intro V hV
              go_simp
              all_goals with_reducible rfl
            try simp only [Act.put, List.setIfInBounds_toArray, List.set_cons_zero, List.set_cons_succ]
            refine wpAnyE_late (j := 10) (o := ({ dst := some 2, op := Op.assign (Operand.tmp 90), type := 4, pos := "outright.go:46", after := #[{ on := 9, ground := Ground.data }, { on := 8, ground := Ground.chain }, { on := 0, ground := Ground.phase }, { on := 1, ground := Ground.phase }, { on := 2, ground := Ground.phase }, { on := 3, ground := Ground.phase }, { on := 4, ground := Ground.phase }, { on := 5, ground := Ground.phase }, { on := 6, ground := Ground.phase }, { on := 7, ground := Ground.phase }, { on := 8, ground := Ground.phase }, { on := 9, ground := Ground.phase }], guard := none } : Oper)) (by kernel_rfl) (by decide) rfl (fun K hK => ?_)
            go_simp
            refine hK.out _ _ ?_
            clear hK K
            try simp only [Act.put, List.setIfInBounds_toArray, List.set_cons_zero, List.set_cons_succ]
            refine wpAnyE_done (by kernel_rfl) ?_ _
            go_wp2
            go_ret
            exact ⟨rfl, hb6⟩
        · have hbe : ((a : Int) == (k : Int)) = false := by simpa using hak
          have hvv : vv = 2 := by
            rw [← HVV.out]
            have hak2 : ¬ a = k := by omega
            simp [hak2]
          subst hvv
          have HI3 : Hid (∀ W, Below w4.heap.size w4 W → Ins W W.heap.size A3 (n + 6) c3 (fun i => (progI (farL n a k 0 1))[i]!)) := Lib.hid fun W hW => (((show Ins w3 w3.heap.size A3 (n + 6) c3 (fun i => (progI (farL n a k 0 1))[i]!) from ⟨HO3.out.cel, fun i hi => prog_oks _ (by rw [farL_len]; omega) HFK.out i (by rw [HFP.out.len]; exact hi)⟩).below hB4).more hB4.size).below hW |>.more hW.size
          have HRUN : Hid (∀ (A5 : Option Addr) (c5 : Nat) (A7 : Option Addr) (V : World), Cel V V.heap.size 4 A5 (n + 6) c5 (icell fun i => (progI (farL n a k 0 1))[i]!) → Byt V V.heap.size A7 64 64 (fun _ => 0) → Calls Try.prog 10 #[.slice A5 (n + 6) c5, .slice A7 64 64] V fun e w' => ∃ (A' : Option Addr) (n' c' : Nat) (st' : Int), e = .returned (.agg #[.int .u32 2, .int .i64 st', .slice A' n' c']) ∧ Below V.heap.size V w') := Lib.hid fun A5 c5 A7 V hc hby => by
            obtain ⟨sF, hrun⟩ := HFP.out.run
            refine (refRun_any A5 (n + 6) c5 _ A7 64 (fun _ => 0) V 2 sF ⟨hc, (HI3.out w4 (Below.refl _ _)).2⟩ (by omega) (by omega) HFP.out.alone HFP.out.last hby (fun _ => by decide) hrun).mono ?_
            rintro e w' ⟨A', c', rfl, _, hb⟩
            exact ⟨A', _, c', _, rfl, hb⟩
          have hN1 : (n + 6) ≤ 1000000 := by omega
          have hb3 := hb4
          clear HVV HO3 HSZ HFP HC2 hB4
          go_wp2
          refine wp_region_E (S := fun _ => True) 10 (by kernel_rfl) ?_
          have hHeld : True := trivial
          refine wpAnyE_take (i := 0) (oi := ({ dst := some 81, op := Op.move (Operand.tmp 11), type := 29, pos := "outright.go:46", after := #[], guard := none } : Oper)) (v := ?vr20x1) rfl (by kernel_rfl) (by decide) (by kernel_rfl) (fun _ _ _ h => h) (by rfl) ?hr20x1 hHeld ?rr20x1
          case hr20x1 =>
            intro V hV
            go_simp
            all_goals with_reducible rfl
          try simp only [Act.put, List.setIfInBounds_toArray, List.set_cons_zero, List.set_cons_succ]
          refine wpAnyE_take (i := 5) (oi := ({ dst := some 86, op := Op.move (Operand.tmp 14), type := 23, pos := "outright.go:46", after := #[], guard := none } : Oper)) (v := ?vr25x2) rfl (by kernel_rfl) (by decide) (by kernel_rfl) (fun _ _ _ h => h) (by rfl) ?hr25x2 hHeld ?rr25x2
          case hr25x2 =>
            intro V hV
            go_simp
            all_goals with_reducible rfl
          try simp only [Act.put, List.setIfInBounds_toArray, List.set_cons_zero, List.set_cons_succ]
          refine wpAnyE_ready (rs := [1, 2]) (by kernel_rfl) (by simp) ?_
          refine (AllE.cons (o := ({ dst := some 82, op := Op.call { callee := Callee.value (Operand.func 11), args := #[Operand.tmp 81], argTypes := #[29] }, type := 38, pos := "outright.go:46", after := #[{ on := 0, ground := Ground.data }], guard := none } : Oper)) rfl (by decide) (fun K hK => ?_) (AllE.cons (o := ({ dst := some 83, op := Op.makeSlice 40 (Operand.const (Value.int IntKind.i64 64)) (Operand.const (Value.int IntKind.i64 64)), type := 40, pos := "outright.go:46", after := #[], guard := none } : Oper)) rfl (by decide) (fun K hK => ?_) AllE.nil))
          · go_simp
            refine (back21_any A3 (n + 6) c3 _ _ hN1 (HI3.out _ (Below.refl _ _).drew)).mono ?_
            rintro e V1 ⟨A5, c5, rfl, hO5, hV1⟩
            have HO5 := Lib.hid hO5
            clear hO5
            refine hK.out _ _ ?kr21x3 (fun hHeld2 => ?_)
            case kr21x3 => exact trivial
            clear hK K
            try simp only [Act.put, List.setIfInBounds_toArray, List.set_cons_zero, List.set_cons_succ]
            replace hHeld := hHeld2
            clear hHeld2
            have hb4 := hb3.drew.trans (hV1.mono hb3.drew.size)
            refine wpAnyE_ready (rs := [2]) (by kernel_rfl) (by simp) ?_
            refine (AllE.cons (o := ({ dst := some 83, op := Op.makeSlice 40 (Operand.const (Value.int IntKind.i64 64)) (Operand.const (Value.int IntKind.i64 64)), type := 40, pos := "outright.go:46", after := #[], guard := none } : Oper)) rfl (by decide) (fun K hK => ?_) AllE.nil)
            go_simp
            refine hK.out _ _ ?kr22x4 (fun hHeld2 => ?_)
            case kr22x4 => exact trivial
            clear hK K
            try simp only [Act.put, List.setIfInBounds_toArray, List.set_cons_zero, List.set_cons_succ]
            replace hHeld := hHeld2
            clear hHeld2
            refine wpAnyE_ready (rs := [3]) (by kernel_rfl) (by simp) ?_
            refine (AllE.cons (o := ({ dst := some 84, op := Op.call { callee := Callee.value (Operand.func 10), args := #[Operand.tmp 82, Operand.tmp 83], argTypes := #[38, 40] }, type := 36, pos := "outright.go:46", after := #[{ on := 1, ground := Ground.data }, { on := 2, ground := Ground.data }, { on := 1, ground := Ground.chain }], guard := none } : Oper)) rfl (by decide) (fun K hK => ?_) AllE.nil)
            go_simp
            refine (HRUN.out _ _ _ _ (HO5.out.alloc _).cel (byt64s V1)).mono ?_
            rintro e V2 ⟨A6, n6, c6, st6, rfl, hV2⟩
            have hb5 : Below w0.heap.size w0 V2 := (hb4.alloc hb4.size _).trans (hV2.mono (hb4.alloc hb4.size _).size)
            refine hK.out _ _ ?kr23x5 (fun hHeld2 => ?_)
            case kr23x5 => exact trivial
            clear hK K
            try simp only [Act.put, List.setIfInBounds_toArray, List.set_cons_zero, List.set_cons_succ]
            replace hHeld := hHeld2
            clear hHeld2
            refine wpAnyE_take (i := 4) (oi := ({ dst := some 85, op := Op.field 36 (Operand.tmp 84) 0, type := 23, pos := "outright.go:46", after := #[{ on := 3, ground := Ground.data }], guard := none } : Oper)) (v := ?vr24x6) rfl (by kernel_rfl) (by decide) (by kernel_rfl) (fun _ _ _ h => h) (by rfl) ?hr24x6 hHeld ?rr24x6
            case hr24x6 =>
              intro V hV
              go_simp
              all_goals with_reducible rfl
            try simp only [Act.put, List.setIfInBounds_toArray, List.set_cons_zero, List.set_cons_succ]
            refine wpAnyE_take (i := 6) (oi := ({ dst := some 87, op := Op.binOp BinOp.eql 23 (Operand.tmp 85) (Operand.tmp 86) 23, type := 4, pos := "outright.go:46", after := #[{ on := 4, ground := Ground.data }, { on := 5, ground := Ground.data }], guard := none } : Oper)) (v := ?vr26x7) rfl (by kernel_rfl) (by decide) (by kernel_rfl) (fun _ _ _ h => h) (by rfl) ?hr26x7 hHeld ?rr26x7
            case hr26x7 =>
              intro V hV
              go_simp
              all_goals with_reducible rfl
            try simp only [Act.put, List.setIfInBounds_toArray, List.set_cons_zero, List.set_cons_succ]
            refine wpAnyE_take (i := 7) (oi := ({ dst := some 88, op := Op.move (Operand.tmp 87), type := 4, pos := "outright.go:46", after := #[{ on := 6, ground := Ground.data }, { on := 3, ground := Ground.chain }], guard := none } : Oper)) (v := ?vr27x8) rfl (by kernel_rfl) (by decide) (by kernel_rfl) (fun _ _ _ h => h) (by rfl) ?hr27x8 hHeld ?rr27x8
            case hr27x8 =>
              intro V hV
              go_simp
              all_goals with_reducible rfl
            try simp only [Act.put, List.setIfInBounds_toArray, List.set_cons_zero, List.set_cons_succ]
            refine wpAnyE_ready (rs := [8]) (by kernel_rfl) (by simp) ?_
            refine (AllE.cons (o := ({ dst := some 89, op := Op.call { callee := Callee.value (Operand.func 12), args := #[], argTypes := #[] }, type := 4, pos := "outright.go:46", after := #[{ on := 7, ground := Ground.chain }, { on := 7, ground := Ground.guard }], guard := some (7, true) } : Oper)) rfl (by decide) (fun K hK => ?_) AllE.nil)
            go_simp
            refine (awake21_any _).mono ?_
            rintro e V3 ⟨rfl, hV3⟩
            have hb6 := hb5.trans (hV3.mono hb5.size)
            refine hK.out _ _ ?kr28x9 (fun hHeld2 => ?_)
            case kr28x9 => exact trivial
            clear hK K
            try simp only [Act.put, List.setIfInBounds_toArray, List.set_cons_zero, List.set_cons_succ]
            replace hHeld := hHeld2
            clear hHeld2
            refine wpAnyE_take (i := 9) (oi := ({ dst := some 90, op := Op.pick (Operand.tmp 88) (Operand.tmp 89) (Operand.const (Value.bool false)), type := 4, pos := "outright.go:46", after := #[{ on := 7, ground := Ground.data }, { on := 8, ground := Ground.data }], guard := none } : Oper)) (v := ?vr29x10) rfl (by kernel_rfl) (by decide) (by kernel_rfl) (fun _ _ _ h => h) (by rfl) ?hr29x10 hHeld ?rr29x10
            case hr29x10 =>
              intro V hV
              go_simp
              all_goals with_reducible rfl
            try simp only [Act.put, List.setIfInBounds_toArray, List.set_cons_zero, List.set_cons_succ]
            refine wpAnyE_late (j := 10) (o := ({ dst := some 2, op := Op.assign (Operand.tmp 90), type := 4, pos := "outright.go:46", after := #[{ on := 9, ground := Ground.data }, { on := 8, ground := Ground.chain }, { on := 0, ground := Ground.phase }, { on := 1, ground := Ground.phase }, { on := 2, ground := Ground.phase }, { on := 3, ground := Ground.phase }, { on := 4, ground := Ground.phase }, { on := 5, ground := Ground.phase }, { on := 6, ground := Ground.phase }, { on := 7, ground := Ground.phase }, { on := 8, ground := Ground.phase }, { on := 9, ground := Ground.phase }], guard := none } : Oper)) (by kernel_rfl) (by decide) rfl (fun K hK => ?_)
            go_simp
            refine hK.out _ _ ?_
            clear hK K
            try simp only [Act.put, List.setIfInBounds_toArray, List.set_cons_zero, List.set_cons_succ]
            refine wpAnyE_done (by kernel_rfl) ?_ _
            go_wp2
            go_ret
            exact ⟨rfl, hb6⟩
          · go_simp
            refine hK.out _ _ ?kr22x11 (fun hHeld2 => ?_)
            case kr22x11 => exact trivial
            clear hK K
            try simp only [Act.put, List.setIfInBounds_toArray, List.set_cons_zero, List.set_cons_succ]
            replace hHeld := hHeld2
            clear hHeld2
            have hb3a := hb3.drew.alloc hb3.drew.size (.cells (Array.replicate 64 (.int .u8 0)) 5)
            refine wpAnyE_ready (rs := [1]) (by kernel_rfl) (by simp) ?_
            refine (AllE.cons (o := ({ dst := some 82, op := Op.call { callee := Callee.value (Operand.func 11), args := #[Operand.tmp 81], argTypes := #[29] }, type := 38, pos := "outright.go:46", after := #[{ on := 0, ground := Ground.data }], guard := none } : Oper)) rfl (by decide) (fun K hK => ?_) AllE.nil)
            go_simp
            refine (back21_any A3 (n + 6) c3 _ _ hN1 (HI3.out _ ((Below.refl _ _).drew.alloc (Nat.le_refl _) _))).mono ?_
            rintro e V1 ⟨A5, c5, rfl, hO5, hV1⟩
            have HO5 := Lib.hid hO5
            clear hO5
            refine hK.out _ _ ?kr21x12 (fun hHeld2 => ?_)
            case kr21x12 => exact trivial
            clear hK K
            try simp only [Act.put, List.setIfInBounds_toArray, List.set_cons_zero, List.set_cons_succ]
            replace hHeld := hHeld2
            clear hHeld2
            have hb4 := hb3a.trans (hV1.mono hb3a.size)
            refine wpAnyE_ready (rs := [3]) (by kernel_rfl) (by simp) ?_
            refine (AllE.cons (o := ({ dst := some 84, op := Op.call { callee := Callee.value (Operand.func 10), args := #[Operand.tmp 82, Operand.tmp 83], argTypes := #[38, 40] }, type := 36, pos := "outright.go:46", after := #[{ on := 1, ground := Ground.data }, { on := 2, ground := Ground.data }, { on := 1, ground := Ground.chain }], guard := none } : Oper)) rfl (by decide) (fun K hK => ?_) AllE.nil)
            go_simp
            refine (HRUN.out _ _ _ _ HO5.out.cel (((byt64s _).below hV1).more hV1.size)).mono ?_
            rintro e V2 ⟨A6, n6, c6, st6, rfl, hV2⟩
            have hb5 : Below w0.heap.size w0 V2 := hb4.trans (hV2.mono hb4.size)
            refine hK.out _ _ ?kr23x13 (fun hHeld2 => ?_)
            case kr23x13 => exact trivial
            clear hK K
            try simp only [Act.put, List.setIfInBounds_toArray, List.set_cons_zero, List.set_cons_succ]
            replace hHeld := hHeld2
            clear hHeld2
            refine wpAnyE_take (i := 4) (oi := ({ dst := some 85, op := Op.field 36 (Operand.tmp 84) 0, type := 23, pos := "outright.go:46", after := #[{ on := 3, ground := Ground.data }], guard := none } : Oper)) (v := ?vr24x14) rfl (by kernel_rfl) (by decide) (by kernel_rfl) (fun _ _ _ h => h) (by rfl) ?hr24x14 hHeld ?rr24x14
            case hr24x14 =>
              intro V hV
              go_simp
              all_goals with_reducible rfl
            try simp only [Act.put, List.setIfInBounds_toArray, List.set_cons_zero, List.set_cons_succ]
            refine wpAnyE_take (i := 6) (oi := ({ dst := some 87, op := Op.binOp BinOp.eql 23 (Operand.tmp 85) (Operand.tmp 86) 23, type := 4, pos := "outright.go:46", after := #[{ on := 4, ground := Ground.data }, { on := 5, ground := Ground.data }], guard := none } : Oper)) (v := ?vr26x15) rfl (by kernel_rfl) (by decide) (by kernel_rfl) (fun _ _ _ h => h) (by rfl) ?hr26x15 hHeld ?rr26x15
            case hr26x15 =>
              intro V hV
              go_simp
              all_goals with_reducible rfl
            try simp only [Act.put, List.setIfInBounds_toArray, List.set_cons_zero, List.set_cons_succ]
            refine wpAnyE_take (i := 7) (oi := ({ dst := some 88, op := Op.move (Operand.tmp 87), type := 4, pos := "outright.go:46", after := #[{ on := 6, ground := Ground.data }, { on := 3, ground := Ground.chain }], guard := none } : Oper)) (v := ?vr27x16) rfl (by kernel_rfl) (by decide) (by kernel_rfl) (fun _ _ _ h => h) (by rfl) ?hr27x16 hHeld ?rr27x16
            case hr27x16 =>
              intro V hV
              go_simp
              all_goals with_reducible rfl
            try simp only [Act.put, List.setIfInBounds_toArray, List.set_cons_zero, List.set_cons_succ]
            refine wpAnyE_ready (rs := [8]) (by kernel_rfl) (by simp) ?_
            refine (AllE.cons (o := ({ dst := some 89, op := Op.call { callee := Callee.value (Operand.func 12), args := #[], argTypes := #[] }, type := 4, pos := "outright.go:46", after := #[{ on := 7, ground := Ground.chain }, { on := 7, ground := Ground.guard }], guard := some (7, true) } : Oper)) rfl (by decide) (fun K hK => ?_) AllE.nil)
            go_simp
            refine (awake21_any _).mono ?_
            rintro e V3 ⟨rfl, hV3⟩
            have hb6 := hb5.trans (hV3.mono hb5.size)
            refine hK.out _ _ ?kr28x17 (fun hHeld2 => ?_)
            case kr28x17 => exact trivial
            clear hK K
            try simp only [Act.put, List.setIfInBounds_toArray, List.set_cons_zero, List.set_cons_succ]
            replace hHeld := hHeld2
            clear hHeld2
            refine wpAnyE_take (i := 9) (oi := ({ dst := some 90, op := Op.pick (Operand.tmp 88) (Operand.tmp 89) (Operand.const (Value.bool false)), type := 4, pos := "outright.go:46", after := #[{ on := 7, ground := Ground.data }, { on := 8, ground := Ground.data }], guard := none } : Oper)) (v := ?vr29x18) rfl (by kernel_rfl) (by decide) (by kernel_rfl) (fun _ _ _ h => h) (by rfl) ?hr29x18 hHeld ?rr29x18
            case hr29x18 =>
              intro V hV
              go_simp
              all_goals with_reducible rfl
            try simp only [Act.put, List.setIfInBounds_toArray, List.set_cons_zero, List.set_cons_succ]
            refine wpAnyE_late (j := 10) (o := ({ dst := some 2, op := Op.assign (Operand.tmp 90), type := 4, pos := "outright.go:46", after := #[{ on := 9, ground := Ground.data }, { on := 8, ground := Ground.chain }, { on := 0, ground := Ground.phase }, { on := 1, ground := Ground.phase }, { on := 2, ground := Ground.phase }, { on := 3, ground := Ground.phase }, { on := 4, ground := Ground.phase }, { on := 5, ground := Ground.phase }, { on := 6, ground := Ground.phase }, { on := 7, ground := Ground.phase }, { on := 8, ground := Ground.phase }, { on := 9, ground := Ground.phase }], guard := none } : Oper)) (by kernel_rfl) (by decide) rfl (fun K hK => ?_)
            go_simp
            refine hK.out _ _ ?_
            clear hK K
            try simp only [Act.put, List.setIfInBounds_toArray, List.set_cons_zero, List.set_cons_succ]
            refine wpAnyE_done (by kernel_rfl) ?_ _
            go_wp2
            go_ret
            exact ⟨rfl, hb6⟩
      · rw [hNP] at HFP
        have j1 : ¬ ((n : Int) + 1 > 255) := by omega
        refine (assemble_ok A2 (n + 5) c2 (farL n a k 0 1) w2 (farL_len n a k 0 1) (by omega) HC2.out HFK.out HFF.out 0 (by rw [HFP.out.len, HFP.out.check])).mono ?_
        rw [HFP.out.len]
        rintro e w3 ⟨A3, n3, c3, rfl, hB3, _, hz⟩
        obtain ⟨rfl, hO3⟩ := hz rfl
        have hb3 := hb2.trans (hB3.mono hb2.size)
        have HO3 := Lib.hid hO3
        have HSZ := Lib.hid (size_ok A2 (n + 5) c2 (farL n a k 0 1) w3 (farL_len n a k 0 1) (by omega) ((HC2.out.below hB3).more hB3.size) HFK.out HFF.out)
        rw [HFP.out.len] at HSZ
        clear hO3 hz hNP
        go_wp2_with fail
        refine HSZ.out.mono ?_
        rintro e w4 ⟨rfl, hB4⟩
        have hb4 := hb3.trans (hB4.mono hb3.size)
        by_cases hak : (a : Int) = (k : Int)
        · have hbe : ((a : Int) == (k : Int)) = true := by simpa using hak
          have hvv : vv = 1 := by
            rw [← HVV.out]
            have hak2 : a = k := by omega
            simp [hak2]
          subst hvv
          have HI3 : Hid (∀ W, Below w4.heap.size w4 W → Ins W W.heap.size A3 (n + 4) c3 (fun i => (progI (farL n a k 0 1))[i]!)) := Lib.hid fun W hW => (((show Ins w3 w3.heap.size A3 (n + 4) c3 (fun i => (progI (farL n a k 0 1))[i]!) from ⟨HO3.out.cel, fun i hi => prog_oks _ (by rw [farL_len]; omega) HFK.out i (by rw [HFP.out.len]; exact hi)⟩).below hB4).more hB4.size).below hW |>.more hW.size
          have HRUN : Hid (∀ (A5 : Option Addr) (c5 : Nat) (A7 : Option Addr) (V : World), Cel V V.heap.size 4 A5 (n + 4) c5 (icell fun i => (progI (farL n a k 0 1))[i]!) → Byt V V.heap.size A7 64 64 (fun _ => 0) → Calls Try.prog 10 #[.slice A5 (n + 4) c5, .slice A7 64 64] V fun e w' => ∃ (A' : Option Addr) (n' c' : Nat) (st' : Int), e = .returned (.agg #[.int .u32 1, .int .i64 st', .slice A' n' c']) ∧ Below V.heap.size V w') := Lib.hid fun A5 c5 A7 V hc hby => by
            obtain ⟨sF, hrun⟩ := HFP.out.run
            refine (refRun_any A5 (n + 4) c5 _ A7 64 (fun _ => 0) V 1 sF ⟨hc, (HI3.out w4 (Below.refl _ _)).2⟩ (by omega) (by omega) HFP.out.alone HFP.out.last hby (fun _ => by decide) hrun).mono ?_
            rintro e w' ⟨A', c', rfl, _, hb⟩
            exact ⟨A', _, c', _, rfl, hb⟩
          have hN1 : (n + 4) ≤ 1000000 := by omega
          have hb3 := hb4
          clear HVV HO3 HSZ HFP HC2 hB4
          go_wp2
          refine wp_region_E (S := fun _ => True) 10 (by kernel_rfl) ?_
          have hHeld : True := trivial
          refine wpAnyE_take (i := 0) (oi := ({ dst := some 81, op := Op.move (Operand.tmp 11), type := 29, pos := "outright.go:46", after := #[], guard := none } : Oper)) (v := ?vr30x1) rfl (by kernel_rfl) (by decide) (by kernel_rfl) (fun _ _ _ h => h) (by rfl) ?hr30x1 hHeld ?rr30x1
          case hr30x1 =>
            intro V hV
            go_simp
            all_goals with_reducible rfl
          try simp only [Act.put, List.setIfInBounds_toArray, List.set_cons_zero, List.set_cons_succ]
          refine wpAnyE_take (i := 5) (oi := ({ dst := some 86, op := Op.move (Operand.tmp 14), type := 23, pos := "outright.go:46", after := #[], guard := none } : Oper)) (v := ?vr35x2) rfl (by kernel_rfl) (by decide) (by kernel_rfl) (fun _ _ _ h => h) (by rfl) ?hr35x2 hHeld ?rr35x2
          case hr35x2 =>
            intro V hV
            go_simp
            all_goals with_reducible rfl
          try simp only [Act.put, List.setIfInBounds_toArray, List.set_cons_zero, List.set_cons_succ]
          refine wpAnyE_ready (rs := [1, 2]) (by kernel_rfl) (by simp) ?_
          refine (AllE.cons (o := ({ dst := some 82, op := Op.call { callee := Callee.value (Operand.func 11), args := #[Operand.tmp 81], argTypes := #[29] }, type := 38, pos := "outright.go:46", after := #[{ on := 0, ground := Ground.data }], guard := none } : Oper)) rfl (by decide) (fun K hK => ?_) (AllE.cons (o := ({ dst := some 83, op := Op.makeSlice 40 (Operand.const (Value.int IntKind.i64 64)) (Operand.const (Value.int IntKind.i64 64)), type := 40, pos := "outright.go:46", after := #[], guard := none } : Oper)) rfl (by decide) (fun K hK => ?_) AllE.nil))
          · go_simp
            refine (back21_any A3 (n + 4) c3 _ _ hN1 (HI3.out _ (Below.refl _ _).drew)).mono ?_
            rintro e V1 ⟨A5, c5, rfl, hO5, hV1⟩
            have HO5 := Lib.hid hO5
            clear hO5
            refine hK.out _ _ ?kr31x3 (fun hHeld2 => ?_)
            case kr31x3 => exact trivial
            clear hK K
            try simp only [Act.put, List.setIfInBounds_toArray, List.set_cons_zero, List.set_cons_succ]
            replace hHeld := hHeld2
            clear hHeld2
            have hb4 := hb3.drew.trans (hV1.mono hb3.drew.size)
            refine wpAnyE_ready (rs := [2]) (by kernel_rfl) (by simp) ?_
            refine (AllE.cons (o := ({ dst := some 83, op := Op.makeSlice 40 (Operand.const (Value.int IntKind.i64 64)) (Operand.const (Value.int IntKind.i64 64)), type := 40, pos := "outright.go:46", after := #[], guard := none } : Oper)) rfl (by decide) (fun K hK => ?_) AllE.nil)
            go_simp
            refine hK.out _ _ ?kr32x4 (fun hHeld2 => ?_)
            case kr32x4 => exact trivial
            clear hK K
            try simp only [Act.put, List.setIfInBounds_toArray, List.set_cons_zero, List.set_cons_succ]
            replace hHeld := hHeld2
            clear hHeld2
            refine wpAnyE_ready (rs := [3]) (by kernel_rfl) (by simp) ?_
            refine (AllE.cons (o := ({ dst := some 84, op := Op.call { callee := Callee.value (Operand.func 10), args := #[Operand.tmp 82, Operand.tmp 83], argTypes := #[38, 40] }, type := 36, pos := "outright.go:46", after := #[{ on := 1, ground := Ground.data }, { on := 2, ground := Ground.data }, { on := 1, ground := Ground.chain }], guard := none } : Oper)) rfl (by decide) (fun K hK => ?_) AllE.nil)
            go_simp
            refine (HRUN.out _ _ _ _ (HO5.out.alloc _).cel (byt64s V1)).mono ?_
            rintro e V2 ⟨A6, n6, c6, st6, rfl, hV2⟩
            have hb5 : Below w0.heap.size w0 V2 := (hb4.alloc hb4.size _).trans (hV2.mono (hb4.alloc hb4.size _).size)
            refine hK.out _ _ ?kr33x5 (fun hHeld2 => ?_)
            case kr33x5 => exact trivial
            clear hK K
            try simp only [Act.put, List.setIfInBounds_toArray, List.set_cons_zero, List.set_cons_succ]
            replace hHeld := hHeld2
            clear hHeld2
            refine wpAnyE_take (i := 4) (oi := ({ dst := some 85, op := Op.field 36 (Operand.tmp 84) 0, type := 23, pos := "outright.go:46", after := #[{ on := 3, ground := Ground.data }], guard := none } : Oper)) (v := ?vr34x6) rfl (by kernel_rfl) (by decide) (by kernel_rfl) (fun _ _ _ h => h) (by rfl) ?hr34x6 hHeld ?rr34x6
            case hr34x6 =>
              intro V hV
              go_simp
              all_goals with_reducible rfl
            try simp only [Act.put, List.setIfInBounds_toArray, List.set_cons_zero, List.set_cons_succ]
            refine wpAnyE_take (i := 6) (oi := ({ dst := some 87, op := Op.binOp BinOp.eql 23 (Operand.tmp 85) (Operand.tmp 86) 23, type := 4, pos := "outright.go:46", after := #[{ on := 4, ground := Ground.data }, { on := 5, ground := Ground.data }], guard := none } : Oper)) (v := ?vr36x7) rfl (by kernel_rfl) (by decide) (by kernel_rfl) (fun _ _ _ h => h) (by rfl) ?hr36x7 hHeld ?rr36x7
            case hr36x7 =>
              intro V hV
              go_simp
              all_goals with_reducible rfl
            try simp only [Act.put, List.setIfInBounds_toArray, List.set_cons_zero, List.set_cons_succ]
            refine wpAnyE_take (i := 7) (oi := ({ dst := some 88, op := Op.move (Operand.tmp 87), type := 4, pos := "outright.go:46", after := #[{ on := 6, ground := Ground.data }, { on := 3, ground := Ground.chain }], guard := none } : Oper)) (v := ?vr37x8) rfl (by kernel_rfl) (by decide) (by kernel_rfl) (fun _ _ _ h => h) (by rfl) ?hr37x8 hHeld ?rr37x8
            case hr37x8 =>
              intro V hV
              go_simp
              all_goals with_reducible rfl
            try simp only [Act.put, List.setIfInBounds_toArray, List.set_cons_zero, List.set_cons_succ]
            refine wpAnyE_ready (rs := [8]) (by kernel_rfl) (by simp) ?_
            refine (AllE.cons (o := ({ dst := some 89, op := Op.call { callee := Callee.value (Operand.func 12), args := #[], argTypes := #[] }, type := 4, pos := "outright.go:46", after := #[{ on := 7, ground := Ground.chain }, { on := 7, ground := Ground.guard }], guard := some (7, true) } : Oper)) rfl (by decide) (fun K hK => ?_) AllE.nil)
            go_simp
            refine (awake21_any _).mono ?_
            rintro e V3 ⟨rfl, hV3⟩
            have hb6 := hb5.trans (hV3.mono hb5.size)
            refine hK.out _ _ ?kr38x9 (fun hHeld2 => ?_)
            case kr38x9 => exact trivial
            clear hK K
            try simp only [Act.put, List.setIfInBounds_toArray, List.set_cons_zero, List.set_cons_succ]
            replace hHeld := hHeld2
            clear hHeld2
            refine wpAnyE_take (i := 9) (oi := ({ dst := some 90, op := Op.pick (Operand.tmp 88) (Operand.tmp 89) (Operand.const (Value.bool false)), type := 4, pos := "outright.go:46", after := #[{ on := 7, ground := Ground.data }, { on := 8, ground := Ground.data }], guard := none } : Oper)) (v := ?vr39x10) rfl (by kernel_rfl) (by decide) (by kernel_rfl) (fun _ _ _ h => h) (by rfl) ?hr39x10 hHeld ?rr39x10
            case hr39x10 =>
              intro V hV
              go_simp
              all_goals with_reducible rfl
            try simp only [Act.put, List.setIfInBounds_toArray, List.set_cons_zero, List.set_cons_succ]
            refine wpAnyE_late (j := 10) (o := ({ dst := some 2, op := Op.assign (Operand.tmp 90), type := 4, pos := "outright.go:46", after := #[{ on := 9, ground := Ground.data }, { on := 8, ground := Ground.chain }, { on := 0, ground := Ground.phase }, { on := 1, ground := Ground.phase }, { on := 2, ground := Ground.phase }, { on := 3, ground := Ground.phase }, { on := 4, ground := Ground.phase }, { on := 5, ground := Ground.phase }, { on := 6, ground := Ground.phase }, { on := 7, ground := Ground.phase }, { on := 8, ground := Ground.phase }, { on := 9, ground := Ground.phase }], guard := none } : Oper)) (by kernel_rfl) (by decide) rfl (fun K hK => ?_)
            go_simp
            refine hK.out _ _ ?_
            clear hK K
            try simp only [Act.put, List.setIfInBounds_toArray, List.set_cons_zero, List.set_cons_succ]
            refine wpAnyE_done (by kernel_rfl) ?_ _
            go_wp2
            go_ret
            exact ⟨rfl, hb6⟩
          · go_simp
            refine hK.out _ _ ?kr32x11 (fun hHeld2 => ?_)
            case kr32x11 => exact trivial
            clear hK K
            try simp only [Act.put, List.setIfInBounds_toArray, List.set_cons_zero, List.set_cons_succ]
            replace hHeld := hHeld2
            clear hHeld2
            have hb3a := hb3.drew.alloc hb3.drew.size (.cells (Array.replicate 64 (.int .u8 0)) 5)
            refine wpAnyE_ready (rs := [1]) (by kernel_rfl) (by simp) ?_
            refine (AllE.cons (o := ({ dst := some 82, op := Op.call { callee := Callee.value (Operand.func 11), args := #[Operand.tmp 81], argTypes := #[29] }, type := 38, pos := "outright.go:46", after := #[{ on := 0, ground := Ground.data }], guard := none } : Oper)) rfl (by decide) (fun K hK => ?_) AllE.nil)
            go_simp
            refine (back21_any A3 (n + 4) c3 _ _ hN1 (HI3.out _ ((Below.refl _ _).drew.alloc (Nat.le_refl _) _))).mono ?_
            rintro e V1 ⟨A5, c5, rfl, hO5, hV1⟩
            have HO5 := Lib.hid hO5
            clear hO5
            refine hK.out _ _ ?kr31x12 (fun hHeld2 => ?_)
            case kr31x12 => exact trivial
            clear hK K
            try simp only [Act.put, List.setIfInBounds_toArray, List.set_cons_zero, List.set_cons_succ]
            replace hHeld := hHeld2
            clear hHeld2
            have hb4 := hb3a.trans (hV1.mono hb3a.size)
            refine wpAnyE_ready (rs := [3]) (by kernel_rfl) (by simp) ?_
            refine (AllE.cons (o := ({ dst := some 84, op := Op.call { callee := Callee.value (Operand.func 10), args := #[Operand.tmp 82, Operand.tmp 83], argTypes := #[38, 40] }, type := 36, pos := "outright.go:46", after := #[{ on := 1, ground := Ground.data }, { on := 2, ground := Ground.data }, { on := 1, ground := Ground.chain }], guard := none } : Oper)) rfl (by decide) (fun K hK => ?_) AllE.nil)
            go_simp
            refine (HRUN.out _ _ _ _ HO5.out.cel (((byt64s _).below hV1).more hV1.size)).mono ?_
            rintro e V2 ⟨A6, n6, c6, st6, rfl, hV2⟩
            have hb5 : Below w0.heap.size w0 V2 := hb4.trans (hV2.mono hb4.size)
            refine hK.out _ _ ?kr33x13 (fun hHeld2 => ?_)
            case kr33x13 => exact trivial
            clear hK K
            try simp only [Act.put, List.setIfInBounds_toArray, List.set_cons_zero, List.set_cons_succ]
            replace hHeld := hHeld2
            clear hHeld2
            refine wpAnyE_take (i := 4) (oi := ({ dst := some 85, op := Op.field 36 (Operand.tmp 84) 0, type := 23, pos := "outright.go:46", after := #[{ on := 3, ground := Ground.data }], guard := none } : Oper)) (v := ?vr34x14) rfl (by kernel_rfl) (by decide) (by kernel_rfl) (fun _ _ _ h => h) (by rfl) ?hr34x14 hHeld ?rr34x14
            case hr34x14 =>
              intro V hV
              go_simp
              all_goals with_reducible rfl
            try simp only [Act.put, List.setIfInBounds_toArray, List.set_cons_zero, List.set_cons_succ]
            refine wpAnyE_take (i := 6) (oi := ({ dst := some 87, op := Op.binOp BinOp.eql 23 (Operand.tmp 85) (Operand.tmp 86) 23, type := 4, pos := "outright.go:46", after := #[{ on := 4, ground := Ground.data }, { on := 5, ground := Ground.data }], guard := none } : Oper)) (v := ?vr36x15) rfl (by kernel_rfl) (by decide) (by kernel_rfl) (fun _ _ _ h => h) (by rfl) ?hr36x15 hHeld ?rr36x15
            case hr36x15 =>
              intro V hV
              go_simp
              all_goals with_reducible rfl
            try simp only [Act.put, List.setIfInBounds_toArray, List.set_cons_zero, List.set_cons_succ]
            refine wpAnyE_take (i := 7) (oi := ({ dst := some 88, op := Op.move (Operand.tmp 87), type := 4, pos := "outright.go:46", after := #[{ on := 6, ground := Ground.data }, { on := 3, ground := Ground.chain }], guard := none } : Oper)) (v := ?vr37x16) rfl (by kernel_rfl) (by decide) (by kernel_rfl) (fun _ _ _ h => h) (by rfl) ?hr37x16 hHeld ?rr37x16
            case hr37x16 =>
              intro V hV
              go_simp
              all_goals with_reducible rfl
            try simp only [Act.put, List.setIfInBounds_toArray, List.set_cons_zero, List.set_cons_succ]
            refine wpAnyE_ready (rs := [8]) (by kernel_rfl) (by simp) ?_
            refine (AllE.cons (o := ({ dst := some 89, op := Op.call { callee := Callee.value (Operand.func 12), args := #[], argTypes := #[] }, type := 4, pos := "outright.go:46", after := #[{ on := 7, ground := Ground.chain }, { on := 7, ground := Ground.guard }], guard := some (7, true) } : Oper)) rfl (by decide) (fun K hK => ?_) AllE.nil)
            go_simp
            refine (awake21_any _).mono ?_
            rintro e V3 ⟨rfl, hV3⟩
            have hb6 := hb5.trans (hV3.mono hb5.size)
            refine hK.out _ _ ?kr38x17 (fun hHeld2 => ?_)
            case kr38x17 => exact trivial
            clear hK K
            try simp only [Act.put, List.setIfInBounds_toArray, List.set_cons_zero, List.set_cons_succ]
            replace hHeld := hHeld2
            clear hHeld2
            refine wpAnyE_take (i := 9) (oi := ({ dst := some 90, op := Op.pick (Operand.tmp 88) (Operand.tmp 89) (Operand.const (Value.bool false)), type := 4, pos := "outright.go:46", after := #[{ on := 7, ground := Ground.data }, { on := 8, ground := Ground.data }], guard := none } : Oper)) (v := ?vr39x18) rfl (by kernel_rfl) (by decide) (by kernel_rfl) (fun _ _ _ h => h) (by rfl) ?hr39x18 hHeld ?rr39x18
            case hr39x18 =>
              intro V hV
              go_simp
              all_goals with_reducible rfl
            try simp only [Act.put, List.setIfInBounds_toArray, List.set_cons_zero, List.set_cons_succ]
            refine wpAnyE_late (j := 10) (o := ({ dst := some 2, op := Op.assign (Operand.tmp 90), type := 4, pos := "outright.go:46", after := #[{ on := 9, ground := Ground.data }, { on := 8, ground := Ground.chain }, { on := 0, ground := Ground.phase }, { on := 1, ground := Ground.phase }, { on := 2, ground := Ground.phase }, { on := 3, ground := Ground.phase }, { on := 4, ground := Ground.phase }, { on := 5, ground := Ground.phase }, { on := 6, ground := Ground.phase }, { on := 7, ground := Ground.phase }, { on := 8, ground := Ground.phase }, { on := 9, ground := Ground.phase }], guard := none } : Oper)) (by kernel_rfl) (by decide) rfl (fun K hK => ?_)
            go_simp
            refine hK.out _ _ ?_
            clear hK K
            try simp only [Act.put, List.setIfInBounds_toArray, List.set_cons_zero, List.set_cons_succ]
            refine wpAnyE_done (by kernel_rfl) ?_ _
            go_wp2
            go_ret
            exact ⟨rfl, hb6⟩
        · have hbe : ((a : Int) == (k : Int)) = false := by simpa using hak
          have hvv : vv = 2 := by
            rw [← HVV.out]
            have hak2 : ¬ a = k := by omega
            simp [hak2]
          subst hvv
          have HI3 : Hid (∀ W, Below w4.heap.size w4 W → Ins W W.heap.size A3 (n + 4) c3 (fun i => (progI (farL n a k 0 1))[i]!)) := Lib.hid fun W hW => (((show Ins w3 w3.heap.size A3 (n + 4) c3 (fun i => (progI (farL n a k 0 1))[i]!) from ⟨HO3.out.cel, fun i hi => prog_oks _ (by rw [farL_len]; omega) HFK.out i (by rw [HFP.out.len]; exact hi)⟩).below hB4).more hB4.size).below hW |>.more hW.size
          have HRUN : Hid (∀ (A5 : Option Addr) (c5 : Nat) (A7 : Option Addr) (V : World), Cel V V.heap.size 4 A5 (n + 4) c5 (icell fun i => (progI (farL n a k 0 1))[i]!) → Byt V V.heap.size A7 64 64 (fun _ => 0) → Calls Try.prog 10 #[.slice A5 (n + 4) c5, .slice A7 64 64] V fun e w' => ∃ (A' : Option Addr) (n' c' : Nat) (st' : Int), e = .returned (.agg #[.int .u32 2, .int .i64 st', .slice A' n' c']) ∧ Below V.heap.size V w') := Lib.hid fun A5 c5 A7 V hc hby => by
            obtain ⟨sF, hrun⟩ := HFP.out.run
            refine (refRun_any A5 (n + 4) c5 _ A7 64 (fun _ => 0) V 2 sF ⟨hc, (HI3.out w4 (Below.refl _ _)).2⟩ (by omega) (by omega) HFP.out.alone HFP.out.last hby (fun _ => by decide) hrun).mono ?_
            rintro e w' ⟨A', c', rfl, _, hb⟩
            exact ⟨A', _, c', _, rfl, hb⟩
          have hN1 : (n + 4) ≤ 1000000 := by omega
          have hb3 := hb4
          clear HVV HO3 HSZ HFP HC2 hB4
          go_wp2
          refine wp_region_E (S := fun _ => True) 10 (by kernel_rfl) ?_
          have hHeld : True := trivial
          refine wpAnyE_take (i := 0) (oi := ({ dst := some 81, op := Op.move (Operand.tmp 11), type := 29, pos := "outright.go:46", after := #[], guard := none } : Oper)) (v := ?vr40x1) rfl (by kernel_rfl) (by decide) (by kernel_rfl) (fun _ _ _ h => h) (by rfl) ?hr40x1 hHeld ?rr40x1
          case hr40x1 =>
            intro V hV
            go_simp
            all_goals with_reducible rfl
          try simp only [Act.put, List.setIfInBounds_toArray, List.set_cons_zero, List.set_cons_succ]
          refine wpAnyE_take (i := 5) (oi := ({ dst := some 86, op := Op.move (Operand.tmp 14), type := 23, pos := "outright.go:46", after := #[], guard := none } : Oper)) (v := ?vr45x2) rfl (by kernel_rfl) (by decide) (by kernel_rfl) (fun _ _ _ h => h) (by rfl) ?hr45x2 hHeld ?rr45x2
          case hr45x2 =>
            intro V hV
            go_simp
            all_goals with_reducible rfl
          try simp only [Act.put, List.setIfInBounds_toArray, List.set_cons_zero, List.set_cons_succ]
          refine wpAnyE_ready (rs := [1, 2]) (by kernel_rfl) (by simp) ?_
          refine (AllE.cons (o := ({ dst := some 82, op := Op.call { callee := Callee.value (Operand.func 11), args := #[Operand.tmp 81], argTypes := #[29] }, type := 38, pos := "outright.go:46", after := #[{ on := 0, ground := Ground.data }], guard := none } : Oper)) rfl (by decide) (fun K hK => ?_) (AllE.cons (o := ({ dst := some 83, op := Op.makeSlice 40 (Operand.const (Value.int IntKind.i64 64)) (Operand.const (Value.int IntKind.i64 64)), type := 40, pos := "outright.go:46", after := #[], guard := none } : Oper)) rfl (by decide) (fun K hK => ?_) AllE.nil))
          · go_simp
            refine (back21_any A3 (n + 4) c3 _ _ hN1 (HI3.out _ (Below.refl _ _).drew)).mono ?_
            rintro e V1 ⟨A5, c5, rfl, hO5, hV1⟩
            have HO5 := Lib.hid hO5
            clear hO5
            refine hK.out _ _ ?kr41x3 (fun hHeld2 => ?_)
            case kr41x3 => exact trivial
            clear hK K
            try simp only [Act.put, List.setIfInBounds_toArray, List.set_cons_zero, List.set_cons_succ]
            replace hHeld := hHeld2
            clear hHeld2
            have hb4 := hb3.drew.trans (hV1.mono hb3.drew.size)
            refine wpAnyE_ready (rs := [2]) (by kernel_rfl) (by simp) ?_
            refine (AllE.cons (o := ({ dst := some 83, op := Op.makeSlice 40 (Operand.const (Value.int IntKind.i64 64)) (Operand.const (Value.int IntKind.i64 64)), type := 40, pos := "outright.go:46", after := #[], guard := none } : Oper)) rfl (by decide) (fun K hK => ?_) AllE.nil)
            go_simp
            refine hK.out _ _ ?kr42x4 (fun hHeld2 => ?_)
            case kr42x4 => exact trivial
            clear hK K
            try simp only [Act.put, List.setIfInBounds_toArray, List.set_cons_zero, List.set_cons_succ]
            replace hHeld := hHeld2
            clear hHeld2
            refine wpAnyE_ready (rs := [3]) (by kernel_rfl) (by simp) ?_
            refine (AllE.cons (o := ({ dst := some 84, op := Op.call { callee := Callee.value (Operand.func 10), args := #[Operand.tmp 82, Operand.tmp 83], argTypes := #[38, 40] }, type := 36, pos := "outright.go:46", after := #[{ on := 1, ground := Ground.data }, { on := 2, ground := Ground.data }, { on := 1, ground := Ground.chain }], guard := none } : Oper)) rfl (by decide) (fun K hK => ?_) AllE.nil)
            go_simp
            refine (HRUN.out _ _ _ _ (HO5.out.alloc _).cel (byt64s V1)).mono ?_
            rintro e V2 ⟨A6, n6, c6, st6, rfl, hV2⟩
            have hb5 : Below w0.heap.size w0 V2 := (hb4.alloc hb4.size _).trans (hV2.mono (hb4.alloc hb4.size _).size)
            refine hK.out _ _ ?kr43x5 (fun hHeld2 => ?_)
            case kr43x5 => exact trivial
            clear hK K
            try simp only [Act.put, List.setIfInBounds_toArray, List.set_cons_zero, List.set_cons_succ]
            replace hHeld := hHeld2
            clear hHeld2
            refine wpAnyE_take (i := 4) (oi := ({ dst := some 85, op := Op.field 36 (Operand.tmp 84) 0, type := 23, pos := "outright.go:46", after := #[{ on := 3, ground := Ground.data }], guard := none } : Oper)) (v := ?vr44x6) rfl (by kernel_rfl) (by decide) (by kernel_rfl) (fun _ _ _ h => h) (by rfl) ?hr44x6 hHeld ?rr44x6
            case hr44x6 =>
              intro V hV
              go_simp
              all_goals with_reducible rfl
            try simp only [Act.put, List.setIfInBounds_toArray, List.set_cons_zero, List.set_cons_succ]
            refine wpAnyE_take (i := 6) (oi := ({ dst := some 87, op := Op.binOp BinOp.eql 23 (Operand.tmp 85) (Operand.tmp 86) 23, type := 4, pos := "outright.go:46", after := #[{ on := 4, ground := Ground.data }, { on := 5, ground := Ground.data }], guard := none } : Oper)) (v := ?vr46x7) rfl (by kernel_rfl) (by decide) (by kernel_rfl) (fun _ _ _ h => h) (by rfl) ?hr46x7 hHeld ?rr46x7
            case hr46x7 =>
              intro V hV
              go_simp
              all_goals with_reducible rfl
            try simp only [Act.put, List.setIfInBounds_toArray, List.set_cons_zero, List.set_cons_succ]
            refine wpAnyE_take (i := 7) (oi := ({ dst := some 88, op := Op.move (Operand.tmp 87), type := 4, pos := "outright.go:46", after := #[{ on := 6, ground := Ground.data }, { on := 3, ground := Ground.chain }], guard := none } : Oper)) (v := ?vr47x8) rfl (by kernel_rfl) (by decide) (by kernel_rfl) (fun _ _ _ h => h) (by rfl) ?hr47x8 hHeld ?rr47x8
            case hr47x8 =>
              intro V hV
              go_simp
              all_goals with_reducible rfl
            try simp only [Act.put, List.setIfInBounds_toArray, List.set_cons_zero, List.set_cons_succ]
            refine wpAnyE_ready (rs := [8]) (by kernel_rfl) (by simp) ?_
            refine (AllE.cons (o := ({ dst := some 89, op := Op.call { callee := Callee.value (Operand.func 12), args := #[], argTypes := #[] }, type := 4, pos := "outright.go:46", after := #[{ on := 7, ground := Ground.chain }, { on := 7, ground := Ground.guard }], guard := some (7, true) } : Oper)) rfl (by decide) (fun K hK => ?_) AllE.nil)
            go_simp
            refine (awake21_any _).mono ?_
            rintro e V3 ⟨rfl, hV3⟩
            have hb6 := hb5.trans (hV3.mono hb5.size)
            refine hK.out _ _ ?kr48x9 (fun hHeld2 => ?_)
            case kr48x9 => exact trivial
            clear hK K
            try simp only [Act.put, List.setIfInBounds_toArray, List.set_cons_zero, List.set_cons_succ]
            replace hHeld := hHeld2
            clear hHeld2
            refine wpAnyE_take (i := 9) (oi := ({ dst := some 90, op := Op.pick (Operand.tmp 88) (Operand.tmp 89) (Operand.const (Value.bool false)), type := 4, pos := "outright.go:46", after := #[{ on := 7, ground := Ground.data }, { on := 8, ground := Ground.data }], guard := none } : Oper)) (v := ?vr49x10) rfl (by kernel_rfl) (by decide) (by kernel_rfl) (fun _ _ _ h => h) (by rfl) ?hr49x10 hHeld ?rr49x10
            case hr49x10 =>
              intro V hV
              go_simp
              all_goals with_reducible rfl
            try simp only [Act.put, List.setIfInBounds_toArray, List.set_cons_zero, List.set_cons_succ]
            refine wpAnyE_late (j := 10) (o := ({ dst := some 2, op := Op.assign (Operand.tmp 90), type := 4, pos := "outright.go:46", after := #[{ on := 9, ground := Ground.data }, { on := 8, ground := Ground.chain }, { on := 0, ground := Ground.phase }, { on := 1, ground := Ground.phase }, { on := 2, ground := Ground.phase }, { on := 3, ground := Ground.phase }, { on := 4, ground := Ground.phase }, { on := 5, ground := Ground.phase }, { on := 6, ground := Ground.phase }, { on := 7, ground := Ground.phase }, { on := 8, ground := Ground.phase }, { on := 9, ground := Ground.phase }], guard := none } : Oper)) (by kernel_rfl) (by decide) rfl (fun K hK => ?_)
            go_simp
            refine hK.out _ _ ?_
            clear hK K
            try simp only [Act.put, List.setIfInBounds_toArray, List.set_cons_zero, List.set_cons_succ]
            refine wpAnyE_done (by kernel_rfl) ?_ _
            go_wp2
            go_ret
            exact ⟨rfl, hb6⟩
          · go_simp
            refine hK.out _ _ ?kr42x11 (fun hHeld2 => ?_)
            case kr42x11 => exact trivial
            clear hK K
            try simp only [Act.put, List.setIfInBounds_toArray, List.set_cons_zero, List.set_cons_succ]
            replace hHeld := hHeld2
            clear hHeld2
            have hb3a := hb3.drew.alloc hb3.drew.size (.cells (Array.replicate 64 (.int .u8 0)) 5)
            refine wpAnyE_ready (rs := [1]) (by kernel_rfl) (by simp) ?_
            refine (AllE.cons (o := ({ dst := some 82, op := Op.call { callee := Callee.value (Operand.func 11), args := #[Operand.tmp 81], argTypes := #[29] }, type := 38, pos := "outright.go:46", after := #[{ on := 0, ground := Ground.data }], guard := none } : Oper)) rfl (by decide) (fun K hK => ?_) AllE.nil)
            go_simp
            refine (back21_any A3 (n + 4) c3 _ _ hN1 (HI3.out _ ((Below.refl _ _).drew.alloc (Nat.le_refl _) _))).mono ?_
            rintro e V1 ⟨A5, c5, rfl, hO5, hV1⟩
            have HO5 := Lib.hid hO5
            clear hO5
            refine hK.out _ _ ?kr41x12 (fun hHeld2 => ?_)
            case kr41x12 => exact trivial
            clear hK K
            try simp only [Act.put, List.setIfInBounds_toArray, List.set_cons_zero, List.set_cons_succ]
            replace hHeld := hHeld2
            clear hHeld2
            have hb4 := hb3a.trans (hV1.mono hb3a.size)
            refine wpAnyE_ready (rs := [3]) (by kernel_rfl) (by simp) ?_
            refine (AllE.cons (o := ({ dst := some 84, op := Op.call { callee := Callee.value (Operand.func 10), args := #[Operand.tmp 82, Operand.tmp 83], argTypes := #[38, 40] }, type := 36, pos := "outright.go:46", after := #[{ on := 1, ground := Ground.data }, { on := 2, ground := Ground.data }, { on := 1, ground := Ground.chain }], guard := none } : Oper)) rfl (by decide) (fun K hK => ?_) AllE.nil)
            go_simp
            refine (HRUN.out _ _ _ _ HO5.out.cel (((byt64s _).below hV1).more hV1.size)).mono ?_
            rintro e V2 ⟨A6, n6, c6, st6, rfl, hV2⟩
            have hb5 : Below w0.heap.size w0 V2 := hb4.trans (hV2.mono hb4.size)
            refine hK.out _ _ ?kr43x13 (fun hHeld2 => ?_)
            case kr43x13 => exact trivial
            clear hK K
            try simp only [Act.put, List.setIfInBounds_toArray, List.set_cons_zero, List.set_cons_succ]
            replace hHeld := hHeld2
            clear hHeld2
            refine wpAnyE_take (i := 4) (oi := ({ dst := some 85, op := Op.field 36 (Operand.tmp 84) 0, type := 23, pos := "outright.go:46", after := #[{ on := 3, ground := Ground.data }], guard := none } : Oper)) (v := ?vr44x14) rfl (by kernel_rfl) (by decide) (by kernel_rfl) (fun _ _ _ h => h) (by rfl) ?hr44x14 hHeld ?rr44x14
            case hr44x14 =>
              intro V hV
              go_simp
              all_goals with_reducible rfl
            try simp only [Act.put, List.setIfInBounds_toArray, List.set_cons_zero, List.set_cons_succ]
            refine wpAnyE_take (i := 6) (oi := ({ dst := some 87, op := Op.binOp BinOp.eql 23 (Operand.tmp 85) (Operand.tmp 86) 23, type := 4, pos := "outright.go:46", after := #[{ on := 4, ground := Ground.data }, { on := 5, ground := Ground.data }], guard := none } : Oper)) (v := ?vr46x15) rfl (by kernel_rfl) (by decide) (by kernel_rfl) (fun _ _ _ h => h) (by rfl) ?hr46x15 hHeld ?rr46x15
            case hr46x15 =>
              intro V hV
              go_simp
              all_goals with_reducible rfl
            try simp only [Act.put, List.setIfInBounds_toArray, List.set_cons_zero, List.set_cons_succ]
            refine wpAnyE_take (i := 7) (oi := ({ dst := some 88, op := Op.move (Operand.tmp 87), type := 4, pos := "outright.go:46", after := #[{ on := 6, ground := Ground.data }, { on := 3, ground := Ground.chain }], guard := none } : Oper)) (v := ?vr47x16) rfl (by kernel_rfl) (by decide) (by kernel_rfl) (fun _ _ _ h => h) (by rfl) ?hr47x16 hHeld ?rr47x16
            case hr47x16 =>
              intro V hV
              go_simp
              all_goals with_reducible rfl
            try simp only [Act.put, List.setIfInBounds_toArray, List.set_cons_zero, List.set_cons_succ]
            refine wpAnyE_ready (rs := [8]) (by kernel_rfl) (by simp) ?_
            refine (AllE.cons (o := ({ dst := some 89, op := Op.call { callee := Callee.value (Operand.func 12), args := #[], argTypes := #[] }, type := 4, pos := "outright.go:46", after := #[{ on := 7, ground := Ground.chain }, { on := 7, ground := Ground.guard }], guard := some (7, true) } : Oper)) rfl (by decide) (fun K hK => ?_) AllE.nil)
            go_simp
            refine (awake21_any _).mono ?_
            rintro e V3 ⟨rfl, hV3⟩
            have hb6 := hb5.trans (hV3.mono hb5.size)
            refine hK.out _ _ ?kr48x17 (fun hHeld2 => ?_)
            case kr48x17 => exact trivial
            clear hK K
            try simp only [Act.put, List.setIfInBounds_toArray, List.set_cons_zero, List.set_cons_succ]
            replace hHeld := hHeld2
            clear hHeld2
            refine wpAnyE_take (i := 9) (oi := ({ dst := some 90, op := Op.pick (Operand.tmp 88) (Operand.tmp 89) (Operand.const (Value.bool false)), type := 4, pos := "outright.go:46", after := #[{ on := 7, ground := Ground.data }, { on := 8, ground := Ground.data }], guard := none } : Oper)) (v := ?vr49x18) rfl (by kernel_rfl) (by decide) (by kernel_rfl) (fun _ _ _ h => h) (by rfl) ?hr49x18 hHeld ?rr49x18
            case hr49x18 =>
              intro V hV
              go_simp
              all_goals with_reducible rfl
            try simp only [Act.put, List.setIfInBounds_toArray, List.set_cons_zero, List.set_cons_succ]
            refine wpAnyE_late (j := 10) (o := ({ dst := some 2, op := Op.assign (Operand.tmp 90), type := 4, pos := "outright.go:46", after := #[{ on := 9, ground := Ground.data }, { on := 8, ground := Ground.chain }, { on := 0, ground := Ground.phase }, { on := 1, ground := Ground.phase }, { on := 2, ground := Ground.phase }, { on := 3, ground := Ground.phase }, { on := 4, ground := Ground.phase }, { on := 5, ground := Ground.phase }, { on := 6, ground := Ground.phase }, { on := 7, ground := Ground.phase }, { on := 8, ground := Ground.phase }, { on := 9, ground := Ground.phase }], guard := none } : Oper)) (by kernel_rfl) (by decide) rfl (fun K hK => ?_)
            go_simp
            refine hK.out _ _ ?_
            clear hK K
            try simp only [Act.put, List.setIfInBounds_toArray, List.set_cons_zero, List.set_cons_succ]
            refine wpAnyE_done (by kernel_rfl) ?_ _
            go_wp2
            go_ret
            exact ⟨rfl, hb6⟩
set_option maxRecDepth 100000 in
set_option maxHeartbeats 16000000 in
theorem walk_AsmFar_false {w0 : World} (b a k : Nat) (hb : b < 65536) (ha : a < 4294967296) (hk : k < 4294967296) :
    Calls Try.prog 3 #[.agg #[.int .u16 (b : Int), .int .u32 (a : Int), .int .u32 (k : Int), .bool false]] w0 fun e w' => e = .returned (.bool true) ∧ Below w0.heap.size w0 w' := by
  obtain ⟨n, hr⟩ : ∃ n : Nat, (b : Int) % 1000 = (n : Int) := ⟨b % 1000, by omega⟩
  have hn9 : n ≤ 999 := by omega
  have hor : ((1 : Int) = 1 ∧ (0 : Int) = 0) ∨ ((1 : Int) = 0 ∧ (0 : Int) = 1) := by decide
  obtain ⟨vv, hvv⟩ : ∃ z, (if (a = k) = ((1 : Int) = 1) then 2 else 1) = z := ⟨_, rfl⟩
  have hv2 : vv < 3 := by rw [← hvv]; split <;> decide
  have hFP0 := far_whole n a k 1 0 hor (by omega)
  rw [hvv] at hFP0
  have HVV := Lib.hid hvv
  have HFP := Lib.hid hFP0
  clear hvv hFP0
  have HFF := Lib.hid (far_formed n a k 1 0 hor)
  have HFK := Lib.hid (farL_ok n a k 1 0 hor ha hk)
  have HMK := Lib.hid mk64
  have hmk := mk64
  have hfl := fldO
  go_enter Try.func3, Try.ntmps3
  go_wp2
  go_quiet (fail)
  go_wp2
  obtain ⟨V, hV⟩ : ∃ V, (((w0.alloc (.cells #[.int .u16 (b : Int), .int .u32 (a : Int), .int .u32 (k : Int), .bool false] 25)).drewN nq).alloc (.cells #[.int .i64 0, .int .u16 21, .int .u32 (k : Int), .int .i64 1, .int .i64 0] 27)) = V := ⟨_, rfl⟩
  have hVs : V.heap.size = w0.heap.size + 1 + 1 := by rw [← hV]; simp
  have hVb : Below w0.heap.size w0 V := by
    have h1 : Below w0.heap.size w0 (w0.alloc (.cells #[.int .u16 (b : Int), .int .u32 (a : Int), .int .u32 (k : Int), .bool false] 25)) := (Below.refl _ _).alloc (Nat.le_refl _) _
    have h2 : Below w0.heap.size w0 ((w0.alloc (.cells #[.int .u16 (b : Int), .int .u32 (a : Int), .int .u32 (k : Int), .bool false] 25)).drewN nq) := ⟨h1.os, h1.tape, h1.output, h1.size, h1.block⟩
    rw [← hV]
    exact h2.alloc h2.size _
  have hO0 := two_own V ⟨0, 0, a, 0, 0⟩ ⟨0, 21, k, 1, 0⟩
  rw [hVs] at hO0
  rw [hV]
  have HO0 := Lib.hid (hO0.lower (show w0.heap.size ≤ w0.heap.size + 1 + 1 by omega))
  have HB0 : Hid (Below w0.heap.size w0 (V.alloc (.cells #[.int .i64 0, .int .u16 0, .int .u32 (a : Int), .int .i64 0, .int .i64 0, .int .i64 0, .int .u16 21, .int .u32 (k : Int), .int .i64 1, .int .i64 0] 27))) := Lib.hid (hVb.alloc (by omega) _)
  clear hO0 hVb hVs hV
  rw [hr]
  clear hr
  go_loopw [9, 10] (fun s i wr => ∃ (q : Nat) (A' : Option Addr) (c' N : Nat), q ≤ n ∧ i = .int .i64 q ∧ s = .slice A' N c' ∧ N = 2 + q ∧ Hid (OwnC wr w0.heap.size 27 5 A' N c' (itcell fun j => ([⟨0, 0, a, 0, 0⟩, ⟨0, 21, k, 1, 0⟩] ++ List.replicate q fNeg : List IT)[j]!)) ∧ Below w0.heap.size w0 wr)
    (fun _ i _ => n - (intOf i).toNat)
  case atStart => exact ⟨0, _, _, 2, Nat.zero_le _, rfl, rfl, rfl, HO0, HB0.out⟩
  case round =>
    obtain ⟨q, A', c', N, hq, rfl, rfl, hN, HO, hB⟩ := hrel
    subst hN
    by_cases hlt : q < n
    · have i1 : (q : Int) < (n : Int) := by omega
      have HL : Hid (2 + q = ([⟨0, 0, a, 0, 0⟩, ⟨0, 21, k, 1, 0⟩] ++ List.replicate q fNeg : List IT).length) := Lib.hid (by simp; omega)
      go_wp2_with (at_builtin; go_must (refine app_cells _ rfl _ _ _ 27 rfl Try.underlying28 infoItm rfl (by decide) rfl (HO.out.alloc _) rfl (one_item wr fNeg 27) (fun i _ => itcell_one _ i) (by unfold maxLen; omega) (by omega) (by have := hB.size; simp; omega) (2 + q + 1) rfl (itcell fun j => (([⟨0, 0, a, 0, 0⟩, ⟨0, 21, k, 1, 0⟩] ++ List.replicate q fNeg : List IT) ++ [fNeg])[j]!) (it_snoc2 _ fNeg HL.out) ?_; rintro A2 c2 w2 hown2 hB2; have hb2 : Below w0.heap.size w0 w2 := (hB.alloc hB.size _).trans hB2; have HO2 : Hid (OwnC w2 w0.heap.size 27 5 A2 (2 + q + 1) c2 (itcell fun j => ([⟨0, 0, a, 0, 0⟩, ⟨0, 21, k, 1, 0⟩] ++ List.replicate (q + 1) fNeg : List IT)[j]!) ) := Lib.hid (by rw [List.replicate_succ', ← List.append_assoc]; exact hown2); clear hown2))
      go_roundw
      case rel => exact ⟨q + 1, A2, c2, 2 + q + 1, by omega, by go_num, rfl, by omega, HO2, hb2⟩
      case measure => simp [intOf]; omega
    · obtain rfl : n = q := by omega
      have i1 : ¬ (n : Int) < (n : Int) := by omega
      have HL : Hid (2 + n = ([⟨0, 0, a, 0, 0⟩, ⟨0, 21, k, 1, 0⟩] ++ List.replicate n fNeg : List IT).length) := Lib.hid (by simp; omega)
      go_wp2_with (at_builtin; go_must (refine app_cells _ rfl _ _ _ 27 rfl Try.underlying28 infoItm rfl (by decide) rfl (HO.out.alloc _) rfl (three_its wr ⟨0, 6, 1, 0, 0⟩ ⟨1, 0, 0, 0, 0⟩ ⟨0, 6, 2, 0, 0⟩) (fun i _ => itcell_one _ i) (by unfold maxLen; omega) (by omega) (by have := hB.size; simp; omega) (2 + n + 3) rfl (itcell fun j => (farL n a k 1 0)[j]!) (it_appL _ [⟨0, 6, 1, 0, 0⟩, ⟨1, 0, 0, 0, 0⟩, ⟨0, 6, 2, 0, 0⟩] HL.out) ?_; rintro A2 c2 w2 hown2 hB2; have hb2 : Below w0.heap.size w0 w2 := (hB.alloc hB.size _).trans hB2; have HC2 := Lib.hid hown2.cel; clear hown2))
      have e5 : 2 + n + 3 = n + 5 := by omega
      rw [e5] at HC2 ⊢
      have hway : (255 < n + 1 ∧ (if 255 < n + 1 then n + 6 else n + 4) = n + 6) ∨ (¬ 255 < n + 1 ∧ (if 255 < n + 1 then n + 6 else n + 4) = n + 4) := by
        by_cases h : 255 < n + 1
        · exact .inl ⟨h, if_pos h⟩
        · exact .inr ⟨h, if_neg h⟩
      rcases hway with ⟨hfar, hNP⟩ | ⟨hfar, hNP⟩
      · rw [hNP] at HFP
        have j1 : ¬ ((n : Int) + 1 ≤ 255) := by omega
        refine (assemble_ok A2 (n + 5) c2 (farL n a k 1 0) w2 (farL_len n a k 1 0) (by omega) HC2.out HFK.out HFF.out 0 (by rw [HFP.out.len, HFP.out.check])).mono ?_
        rw [HFP.out.len]
        rintro e w3 ⟨A3, n3, c3, rfl, hB3, _, hz⟩
        obtain ⟨rfl, hO3⟩ := hz rfl
        have hb3 := hb2.trans (hB3.mono hb2.size)
        have HO3 := Lib.hid hO3
        have HSZ := Lib.hid (size_ok A2 (n + 5) c2 (farL n a k 1 0) w3 (farL_len n a k 1 0) (by omega) ((HC2.out.below hB3).more hB3.size) HFK.out HFF.out)
        rw [HFP.out.len] at HSZ
        clear hO3 hz hNP
        go_wp2_with fail
        refine HSZ.out.mono ?_
        rintro e w4 ⟨rfl, hB4⟩
        have hb4 := hb3.trans (hB4.mono hb3.size)
        by_cases hak : (a : Int) = (k : Int)
        · have hbe : ((a : Int) == (k : Int)) = true := by simpa using hak
          have hvv : vv = 2 := by
            rw [← HVV.out]
            have hak2 : a = k := by omega
            simp [hak2]
          subst hvv
          have HI3 : Hid (∀ W, Below w4.heap.size w4 W → Ins W W.heap.size A3 (n + 6) c3 (fun i => (progI (farL n a k 1 0))[i]!)) := Lib.hid fun W hW => (((show Ins w3 w3.heap.size A3 (n + 6) c3 (fun i => (progI (farL n a k 1 0))[i]!) from ⟨HO3.out.cel, fun i hi => prog_oks _ (by rw [farL_len]; omega) HFK.out i (by rw [HFP.out.len]; exact hi)⟩).below hB4).more hB4.size).below hW |>.more hW.size
          have HRUN : Hid (∀ (A5 : Option Addr) (c5 : Nat) (A7 : Option Addr) (V : World), Cel V V.heap.size 4 A5 (n + 6) c5 (icell fun i => (progI (farL n a k 1 0))[i]!) → Byt V V.heap.size A7 64 64 (fun _ => 0) → Calls Try.prog 10 #[.slice A5 (n + 6) c5, .slice A7 64 64] V fun e w' => ∃ (A' : Option Addr) (n' c' : Nat) (st' : Int), e = .returned (.agg #[.int .u32 2, .int .i64 st', .slice A' n' c']) ∧ Below V.heap.size V w') := Lib.hid fun A5 c5 A7 V hc hby => by
            obtain ⟨sF, hrun⟩ := HFP.out.run
            refine (refRun_any A5 (n + 6) c5 _ A7 64 (fun _ => 0) V 2 sF ⟨hc, (HI3.out w4 (Below.refl _ _)).2⟩ (by omega) (by omega) HFP.out.alone HFP.out.last hby (fun _ => by decide) hrun).mono ?_
            rintro e w' ⟨A', c', rfl, _, hb⟩
            exact ⟨A', _, c', _, rfl, hb⟩
          have hN1 : (n + 6) ≤ 1000000 := by omega
          have hb3 := hb4
          clear HVV HO3 HSZ HFP HC2 hB4
          go_wp2
          refine wp_region_E (S := fun _ => True) 10 (by kernel_rfl) ?_
          have hHeld : True := trivial
          refine wpAnyE_take (i := 0) (oi := ({ dst := some 81, op := Op.move (Operand.tmp 11), type := 29, pos := "outright.go:46", after := #[], guard := none } : Oper)) (v := ?vr50x1) rfl (by kernel_rfl) (by decide) (by kernel_rfl) (fun _ _ _ h => h) (by rfl) ?hr50x1 hHeld ?rr50x1
          case hr50x1 =>
            intro V hV
            go_simp
            all_goals with_reducible rfl
          try simp only [Act.put, List.setIfInBounds_toArray, List.set_cons_zero, List.set_cons_succ]
          refine wpAnyE_take (i := 5) (oi := ({ dst := some 86, op := Op.move (Operand.tmp 14), type := 23, pos := "outright.go:46", after := #[], guard := none } : Oper)) (v := ?vr55x2) rfl (by kernel_rfl) (by decide) (by kernel_rfl) (fun _ _ _ h => h) (by rfl) ?hr55x2 hHeld ?rr55x2
          case hr55x2 =>
            intro V hV
            go_simp
            all_goals with_reducible rfl
          try simp only [Act.put, List.setIfInBounds_toArray, List.set_cons_zero, List.set_cons_succ]
          refine wpAnyE_ready (rs := [1, 2]) (by kernel_rfl) (by simp) ?_
          refine (AllE.cons (o := ({ dst := some 82, op := Op.call { callee := Callee.value (Operand.func 11), args := #[Operand.tmp 81], argTypes := #[29] }, type := 38, pos := "outright.go:46", after := #[{ on := 0, ground := Ground.data }], guard := none } : Oper)) rfl (by decide) (fun K hK => ?_) (AllE.cons (o := ({ dst := some 83, op := Op.makeSlice 40 (Operand.const (Value.int IntKind.i64 64)) (Operand.const (Value.int IntKind.i64 64)), type := 40, pos := "outright.go:46", after := #[], guard := none } : Oper)) rfl (by decide) (fun K hK => ?_) AllE.nil))
          · go_simp
            refine (back21_any A3 (n + 6) c3 _ _ hN1 (HI3.out _ (Below.refl _ _).drew)).mono ?_
            rintro e V1 ⟨A5, c5, rfl, hO5, hV1⟩
            have HO5 := Lib.hid hO5
            clear hO5
            refine hK.out _ _ ?kr51x3 (fun hHeld2 => ?_)
            case kr51x3 => exact trivial
            clear hK K
            try simp only [Act.put, List.setIfInBounds_toArray, List.set_cons_zero, List.set_cons_succ]
            replace hHeld := hHeld2
            clear hHeld2
            have hb4 := hb3.drew.trans (hV1.mono hb3.drew.size)
            refine wpAnyE_ready (rs := [2]) (by kernel_rfl) (by simp) ?_
            refine (AllE.cons (o := ({ dst := some 83, op := Op.makeSlice 40 (Operand.const (Value.int IntKind.i64 64)) (Operand.const (Value.int IntKind.i64 64)), type := 40, pos := "outright.go:46", after := #[], guard := none } : Oper)) rfl (by decide) (fun K hK => ?_) AllE.nil)
            go_simp
            refine hK.out _ _ ?kr52x4 (fun hHeld2 => ?_)
            case kr52x4 => exact trivial
            clear hK K
            try simp only [Act.put, List.setIfInBounds_toArray, List.set_cons_zero, List.set_cons_succ]
            replace hHeld := hHeld2
            clear hHeld2
            refine wpAnyE_ready (rs := [3]) (by kernel_rfl) (by simp) ?_
            refine (AllE.cons (o := ({ dst := some 84, op := Op.call { callee := Callee.value (Operand.func 10), args := #[Operand.tmp 82, Operand.tmp 83], argTypes := #[38, 40] }, type := 36, pos := "outright.go:46", after := #[{ on := 1, ground := Ground.data }, { on := 2, ground := Ground.data }, { on := 1, ground := Ground.chain }], guard := none } : Oper)) rfl (by decide) (fun K hK => ?_) AllE.nil)
            go_simp
            refine (HRUN.out _ _ _ _ (HO5.out.alloc _).cel (byt64s V1)).mono ?_
            rintro e V2 ⟨A6, n6, c6, st6, rfl, hV2⟩
            have hb5 : Below w0.heap.size w0 V2 := (hb4.alloc hb4.size _).trans (hV2.mono (hb4.alloc hb4.size _).size)
            refine hK.out _ _ ?kr53x5 (fun hHeld2 => ?_)
            case kr53x5 => exact trivial
            clear hK K
            try simp only [Act.put, List.setIfInBounds_toArray, List.set_cons_zero, List.set_cons_succ]
            replace hHeld := hHeld2
            clear hHeld2
            refine wpAnyE_take (i := 4) (oi := ({ dst := some 85, op := Op.field 36 (Operand.tmp 84) 0, type := 23, pos := "outright.go:46", after := #[{ on := 3, ground := Ground.data }], guard := none } : Oper)) (v := ?vr54x6) rfl (by kernel_rfl) (by decide) (by kernel_rfl) (fun _ _ _ h => h) (by rfl) ?hr54x6 hHeld ?rr54x6
            case hr54x6 =>
              intro V hV
              go_simp
              all_goals with_reducible rfl
            try simp only [Act.put, List.setIfInBounds_toArray, List.set_cons_zero, List.set_cons_succ]
            refine wpAnyE_take (i := 6) (oi := ({ dst := some 87, op := Op.binOp BinOp.eql 23 (Operand.tmp 85) (Operand.tmp 86) 23, type := 4, pos := "outright.go:46", after := #[{ on := 4, ground := Ground.data }, { on := 5, ground := Ground.data }], guard := none } : Oper)) (v := ?vr56x7) rfl (by kernel_rfl) (by decide) (by kernel_rfl) (fun _ _ _ h => h) (by rfl) ?hr56x7 hHeld ?rr56x7
            case hr56x7 =>
              intro V hV
              go_simp
              all_goals with_reducible rfl
            try simp only [Act.put, List.setIfInBounds_toArray, List.set_cons_zero, List.set_cons_succ]
            refine wpAnyE_take (i := 7) (oi := ({ dst := some 88, op := Op.move (Operand.tmp 87), type := 4, pos := "outright.go:46", after := #[{ on := 6, ground := Ground.data }, { on := 3, ground := Ground.chain }], guard := none } : Oper)) (v := ?vr57x8) rfl (by kernel_rfl) (by decide) (by kernel_rfl) (fun _ _ _ h => h) (by rfl) ?hr57x8 hHeld ?rr57x8
            case hr57x8 =>
              intro V hV
              go_simp
              all_goals with_reducible rfl
            try simp only [Act.put, List.setIfInBounds_toArray, List.set_cons_zero, List.set_cons_succ]
            refine wpAnyE_ready (rs := [8]) (by kernel_rfl) (by simp) ?_
            refine (AllE.cons (o := ({ dst := some 89, op := Op.call { callee := Callee.value (Operand.func 12), args := #[], argTypes := #[] }, type := 4, pos := "outright.go:46", after := #[{ on := 7, ground := Ground.chain }, { on := 7, ground := Ground.guard }], guard := some (7, true) } : Oper)) rfl (by decide) (fun K hK => ?_) AllE.nil)
            go_simp
            refine (awake21_any _).mono ?_
            rintro e V3 ⟨rfl, hV3⟩
            have hb6 := hb5.trans (hV3.mono hb5.size)
            refine hK.out _ _ ?kr58x9 (fun hHeld2 => ?_)
            case kr58x9 => exact trivial
            clear hK K
            try simp only [Act.put, List.setIfInBounds_toArray, List.set_cons_zero, List.set_cons_succ]
            replace hHeld := hHeld2
            clear hHeld2
            refine wpAnyE_take (i := 9) (oi := ({ dst := some 90, op := Op.pick (Operand.tmp 88) (Operand.tmp 89) (Operand.const (Value.bool false)), type := 4, pos := "outright.go:46", after := #[{ on := 7, ground := Ground.data }, { on := 8, ground := Ground.data }], guard := none } : Oper)) (v := ?vr59x10) rfl (by kernel_rfl) (by decide) (by kernel_rfl) (fun _ _ _ h => h) (by rfl) ?hr59x10 hHeld ?rr59x10
            case hr59x10 =>
              intro V hV
              go_simp
              all_goals with_reducible rfl
            try simp only [Act.put, List.setIfInBounds_toArray, List.set_cons_zero, List.set_cons_succ]
            refine wpAnyE_late (j := 10) (o := ({ dst := some 2, op := Op.assign (Operand.tmp 90), type := 4, pos := "outright.go:46", after := #[{ on := 9, ground := Ground.data }, { on := 8, ground := Ground.chain }, { on := 0, ground := Ground.phase }, { on := 1, ground := Ground.phase }, { on := 2, ground := Ground.phase }, { on := 3, ground := Ground.phase }, { on := 4, ground := Ground.phase }, { on := 5, ground := Ground.phase }, { on := 6, ground := Ground.phase }, { on := 7, ground := Ground.phase }, { on := 8, ground := Ground.phase }, { on := 9, ground := Ground.phase }], guard := none } : Oper)) (by kernel_rfl) (by decide) rfl (fun K hK => ?_)
            go_simp
            refine hK.out _ _ ?_
            clear hK K
            try simp only [Act.put, List.setIfInBounds_toArray, List.set_cons_zero, List.set_cons_succ]
            refine wpAnyE_done (by kernel_rfl) ?_ _
            go_wp2
            go_ret
            exact ⟨rfl, hb6⟩
          · go_simp
            refine hK.out _ _ ?kr52x11 (fun hHeld2 => ?_)
            case kr52x11 => exact trivial
            clear hK K
            try simp only [Act.put, List.setIfInBounds_toArray, List.set_cons_zero, List.set_cons_succ]
            replace hHeld := hHeld2
            clear hHeld2
            have hb3a := hb3.drew.alloc hb3.drew.size (.cells (Array.replicate 64 (.int .u8 0)) 5)
            refine wpAnyE_ready (rs := [1]) (by kernel_rfl) (by simp) ?_
            refine (AllE.cons (o := ({ dst := some 82, op := Op.call { callee := Callee.value (Operand.func 11), args := #[Operand.tmp 81], argTypes := #[29] }, type := 38, pos := "outright.go:46", after := #[{ on := 0, ground := Ground.data }], guard := none } : Oper)) rfl (by decide) (fun K hK => ?_) AllE.nil)
            go_simp
            refine (back21_any A3 (n + 6) c3 _ _ hN1 (HI3.out _ ((Below.refl _ _).drew.alloc (Nat.le_refl _) _))).mono ?_
            rintro e V1 ⟨A5, c5, rfl, hO5, hV1⟩
            have HO5 := Lib.hid hO5
            clear hO5
            refine hK.out _ _ ?kr51x12 (fun hHeld2 => ?_)
            case kr51x12 => exact trivial
            clear hK K
            try simp only [Act.put, List.setIfInBounds_toArray, List.set_cons_zero, List.set_cons_succ]
            replace hHeld := hHeld2
            clear hHeld2
            have hb4 := hb3a.trans (hV1.mono hb3a.size)
            refine wpAnyE_ready (rs := [3]) (by kernel_rfl) (by simp) ?_
            refine (AllE.cons (o := ({ dst := some 84, op := Op.call { callee := Callee.value (Operand.func 10), args := #[Operand.tmp 82, Operand.tmp 83], argTypes := #[38, 40] }, type := 36, pos := "outright.go:46", after := #[{ on := 1, ground := Ground.data }, { on := 2, ground := Ground.data }, { on := 1, ground := Ground.chain }], guard := none } : Oper)) rfl (by decide) (fun K hK => ?_) AllE.nil)
            go_simp
            refine (HRUN.out _ _ _ _ HO5.out.cel (((byt64s _).below hV1).more hV1.size)).mono ?_
            rintro e V2 ⟨A6, n6, c6, st6, rfl, hV2⟩
            have hb5 : Below w0.heap.size w0 V2 := hb4.trans (hV2.mono hb4.size)
            refine hK.out _ _ ?kr53x13 (fun hHeld2 => ?_)
            case kr53x13 => exact trivial
            clear hK K
            try simp only [Act.put, List.setIfInBounds_toArray, List.set_cons_zero, List.set_cons_succ]
            replace hHeld := hHeld2
            clear hHeld2
            refine wpAnyE_take (i := 4) (oi := ({ dst := some 85, op := Op.field 36 (Operand.tmp 84) 0, type := 23, pos := "outright.go:46", after := #[{ on := 3, ground := Ground.data }], guard := none } : Oper)) (v := ?vr54x14) rfl (by kernel_rfl) (by decide) (by kernel_rfl) (fun _ _ _ h => h) (by rfl) ?hr54x14 hHeld ?rr54x14
            case hr54x14 =>
              intro V hV
              go_simp
              all_goals with_reducible rfl
            try simp only [Act.put, List.setIfInBounds_toArray, List.set_cons_zero, List.set_cons_succ]
            refine wpAnyE_take (i := 6) (oi := ({ dst := some 87, op := Op.binOp BinOp.eql 23 (Operand.tmp 85) (Operand.tmp 86) 23, type := 4, pos := "outright.go:46", after := #[{ on := 4, ground := Ground.data }, { on := 5, ground := Ground.data }], guard := none } : Oper)) (v := ?vr56x15) rfl (by kernel_rfl) (by decide) (by kernel_rfl) (fun _ _ _ h => h) (by rfl) ?hr56x15 hHeld ?rr56x15
            case hr56x15 =>
              intro V hV
              go_simp
              all_goals with_reducible rfl
            try simp only [Act.put, List.setIfInBounds_toArray, List.set_cons_zero, List.set_cons_succ]
            refine wpAnyE_take (i := 7) (oi := ({ dst := some 88, op := Op.move (Operand.tmp 87), type := 4, pos := "outright.go:46", after := #[{ on := 6, ground := Ground.data }, { on := 3, ground := Ground.chain }], guard := none } : Oper)) (v := ?vr57x16) rfl (by kernel_rfl) (by decide) (by kernel_rfl) (fun _ _ _ h => h) (by rfl) ?hr57x16 hHeld ?rr57x16
            case hr57x16 =>
              intro V hV
              go_simp
              all_goals with_reducible rfl
            try simp only [Act.put, List.setIfInBounds_toArray, List.set_cons_zero, List.set_cons_succ]
            refine wpAnyE_ready (rs := [8]) (by kernel_rfl) (by simp) ?_
            refine (AllE.cons (o := ({ dst := some 89, op := Op.call { callee := Callee.value (Operand.func 12), args := #[], argTypes := #[] }, type := 4, pos := "outright.go:46", after := #[{ on := 7, ground := Ground.chain }, { on := 7, ground := Ground.guard }], guard := some (7, true) } : Oper)) rfl (by decide) (fun K hK => ?_) AllE.nil)
            go_simp
            refine (awake21_any _).mono ?_
            rintro e V3 ⟨rfl, hV3⟩
            have hb6 := hb5.trans (hV3.mono hb5.size)
            refine hK.out _ _ ?kr58x17 (fun hHeld2 => ?_)
            case kr58x17 => exact trivial
            clear hK K
            try simp only [Act.put, List.setIfInBounds_toArray, List.set_cons_zero, List.set_cons_succ]
            replace hHeld := hHeld2
            clear hHeld2
            refine wpAnyE_take (i := 9) (oi := ({ dst := some 90, op := Op.pick (Operand.tmp 88) (Operand.tmp 89) (Operand.const (Value.bool false)), type := 4, pos := "outright.go:46", after := #[{ on := 7, ground := Ground.data }, { on := 8, ground := Ground.data }], guard := none } : Oper)) (v := ?vr59x18) rfl (by kernel_rfl) (by decide) (by kernel_rfl) (fun _ _ _ h => h) (by rfl) ?hr59x18 hHeld ?rr59x18
            case hr59x18 =>
              intro V hV
              go_simp
              all_goals with_reducible rfl
            try simp only [Act.put, List.setIfInBounds_toArray, List.set_cons_zero, List.set_cons_succ]
            refine wpAnyE_late (j := 10) (o := ({ dst := some 2, op := Op.assign (Operand.tmp 90), type := 4, pos := "outright.go:46", after := #[{ on := 9, ground := Ground.data }, { on := 8, ground := Ground.chain }, { on := 0, ground := Ground.phase }, { on := 1, ground := Ground.phase }, { on := 2, ground := Ground.phase }, { on := 3, ground := Ground.phase }, { on := 4, ground := Ground.phase }, { on := 5, ground := Ground.phase }, { on := 6, ground := Ground.phase }, { on := 7, ground := Ground.phase }, { on := 8, ground := Ground.phase }, { on := 9, ground := Ground.phase }], guard := none } : Oper)) (by kernel_rfl) (by decide) rfl (fun K hK => ?_)
            go_simp
            refine hK.out _ _ ?_
            clear hK K
            try simp only [Act.put, List.setIfInBounds_toArray, List.set_cons_zero, List.set_cons_succ]
            refine wpAnyE_done (by kernel_rfl) ?_ _
            go_wp2
            go_ret
            exact ⟨rfl, hb6⟩
        · have hbe : ((a : Int) == (k : Int)) = false := by simpa using hak
          have hvv : vv = 1 := by
            rw [← HVV.out]
            have hak2 : ¬ a = k := by omega
            simp [hak2]
          subst hvv
          have HI3 : Hid (∀ W, Below w4.heap.size w4 W → Ins W W.heap.size A3 (n + 6) c3 (fun i => (progI (farL n a k 1 0))[i]!)) := Lib.hid fun W hW => (((show Ins w3 w3.heap.size A3 (n + 6) c3 (fun i => (progI (farL n a k 1 0))[i]!) from ⟨HO3.out.cel, fun i hi => prog_oks _ (by rw [farL_len]; omega) HFK.out i (by rw [HFP.out.len]; exact hi)⟩).below hB4).more hB4.size).below hW |>.more hW.size
          have HRUN : Hid (∀ (A5 : Option Addr) (c5 : Nat) (A7 : Option Addr) (V : World), Cel V V.heap.size 4 A5 (n + 6) c5 (icell fun i => (progI (farL n a k 1 0))[i]!) → Byt V V.heap.size A7 64 64 (fun _ => 0) → Calls Try.prog 10 #[.slice A5 (n + 6) c5, .slice A7 64 64] V fun e w' => ∃ (A' : Option Addr) (n' c' : Nat) (st' : Int), e = .returned (.agg #[.int .u32 1, .int .i64 st', .slice A' n' c']) ∧ Below V.heap.size V w') := Lib.hid fun A5 c5 A7 V hc hby => by
            obtain ⟨sF, hrun⟩ := HFP.out.run
            refine (refRun_any A5 (n + 6) c5 _ A7 64 (fun _ => 0) V 1 sF ⟨hc, (HI3.out w4 (Below.refl _ _)).2⟩ (by omega) (by omega) HFP.out.alone HFP.out.last hby (fun _ => by decide) hrun).mono ?_
            rintro e w' ⟨A', c', rfl, _, hb⟩
            exact ⟨A', _, c', _, rfl, hb⟩
          have hN1 : (n + 6) ≤ 1000000 := by omega
          have hb3 := hb4
          clear HVV HO3 HSZ HFP HC2 hB4
          go_wp2
          refine wp_region_E (S := fun _ => True) 10 (by kernel_rfl) ?_
          have hHeld : True := trivial
          refine wpAnyE_take (i := 0) (oi := ({ dst := some 81, op := Op.move (Operand.tmp 11), type := 29, pos := "outright.go:46", after := #[], guard := none } : Oper)) (v := ?vr60x1) rfl (by kernel_rfl) (by decide) (by kernel_rfl) (fun _ _ _ h => h) (by rfl) ?hr60x1 hHeld ?rr60x1
          case hr60x1 =>
            intro V hV
            go_simp
            all_goals with_reducible rfl
          try simp only [Act.put, List.setIfInBounds_toArray, List.set_cons_zero, List.set_cons_succ]
          refine wpAnyE_take (i := 5) (oi := ({ dst := some 86, op := Op.move (Operand.tmp 14), type := 23, pos := "outright.go:46", after := #[], guard := none } : Oper)) (v := ?vr65x2) rfl (by kernel_rfl) (by decide) (by kernel_rfl) (fun _ _ _ h => h) (by rfl) ?hr65x2 hHeld ?rr65x2
          case hr65x2 =>
            intro V hV
            go_simp
            all_goals with_reducible rfl
          try simp only [Act.put, List.setIfInBounds_toArray, List.set_cons_zero, List.set_cons_succ]
          refine wpAnyE_ready (rs := [1, 2]) (by kernel_rfl) (by simp) ?_
          refine (AllE.cons (o := ({ dst := some 82, op := Op.call { callee := Callee.value (Operand.func 11), args := #[Operand.tmp 81], argTypes := #[29] }, type := 38, pos := "outright.go:46", after := #[{ on := 0, ground := Ground.data }], guard := none } : Oper)) rfl (by decide) (fun K hK => ?_) (AllE.cons (o := ({ dst := some 83, op := Op.makeSlice 40 (Operand.const (Value.int IntKind.i64 64)) (Operand.const (Value.int IntKind.i64 64)), type := 40, pos := "outright.go:46", after := #[], guard := none } : Oper)) rfl (by decide) (fun K hK => ?_) AllE.nil))
          · go_simp
            refine (back21_any A3 (n + 6) c3 _ _ hN1 (HI3.out _ (Below.refl _ _).drew)).mono ?_
            rintro e V1 ⟨A5, c5, rfl, hO5, hV1⟩
            have HO5 := Lib.hid hO5
            clear hO5
            refine hK.out _ _ ?kr61x3 (fun hHeld2 => ?_)
            case kr61x3 => exact trivial
            clear hK K
            try simp only [Act.put, List.setIfInBounds_toArray, List.set_cons_zero, List.set_cons_succ]
            replace hHeld := hHeld2
            clear hHeld2
            have hb4 := hb3.drew.trans (hV1.mono hb3.drew.size)
            refine wpAnyE_ready (rs := [2]) (by kernel_rfl) (by simp) ?_
            refine (AllE.cons (o := ({ dst := some 83, op := Op.makeSlice 40 (Operand.const (Value.int IntKind.i64 64)) (Operand.const (Value.int IntKind.i64 64)), type := 40, pos := "outright.go:46", after := #[], guard := none } : Oper)) rfl (by decide) (fun K hK => ?_) AllE.nil)
            go_simp
            refine hK.out _ _ ?kr62x4 (fun hHeld2 => ?_)
            case kr62x4 => exact trivial
            clear hK K
            try simp only [Act.put, List.setIfInBounds_toArray, List.set_cons_zero, List.set_cons_succ]
            replace hHeld := hHeld2
            clear hHeld2
            refine wpAnyE_ready (rs := [3]) (by kernel_rfl) (by simp) ?_
            refine (AllE.cons (o := ({ dst := some 84, op := Op.call { callee := Callee.value (Operand.func 10), args := #[Operand.tmp 82, Operand.tmp 83], argTypes := #[38, 40] }, type := 36, pos := "outright.go:46", after := #[{ on := 1, ground := Ground.data }, { on := 2, ground := Ground.data }, { on := 1, ground := Ground.chain }], guard := none } : Oper)) rfl (by decide) (fun K hK => ?_) AllE.nil)
            go_simp
            refine (HRUN.out _ _ _ _ (HO5.out.alloc _).cel (byt64s V1)).mono ?_
            rintro e V2 ⟨A6, n6, c6, st6, rfl, hV2⟩
            have hb5 : Below w0.heap.size w0 V2 := (hb4.alloc hb4.size _).trans (hV2.mono (hb4.alloc hb4.size _).size)
            refine hK.out _ _ ?kr63x5 (fun hHeld2 => ?_)
            case kr63x5 => exact trivial
            clear hK K
            try simp only [Act.put, List.setIfInBounds_toArray, List.set_cons_zero, List.set_cons_succ]
            replace hHeld := hHeld2
            clear hHeld2
            refine wpAnyE_take (i := 4) (oi := ({ dst := some 85, op := Op.field 36 (Operand.tmp 84) 0, type := 23, pos := "outright.go:46", after := #[{ on := 3, ground := Ground.data }], guard := none } : Oper)) (v := ?vr64x6) rfl (by kernel_rfl) (by decide) (by kernel_rfl) (fun _ _ _ h => h) (by rfl) ?hr64x6 hHeld ?rr64x6
            case hr64x6 =>
              intro V hV
              go_simp
              all_goals with_reducible rfl
            try simp only [Act.put, List.setIfInBounds_toArray, List.set_cons_zero, List.set_cons_succ]
            refine wpAnyE_take (i := 6) (oi := ({ dst := some 87, op := Op.binOp BinOp.eql 23 (Operand.tmp 85) (Operand.tmp 86) 23, type := 4, pos := "outright.go:46", after := #[{ on := 4, ground := Ground.data }, { on := 5, ground := Ground.data }], guard := none } : Oper)) (v := ?vr66x7) rfl (by kernel_rfl) (by decide) (by kernel_rfl) (fun _ _ _ h => h) (by rfl) ?hr66x7 hHeld ?rr66x7
            case hr66x7 =>
              intro V hV
              go_simp
              all_goals with_reducible rfl
            try simp only [Act.put, List.setIfInBounds_toArray, List.set_cons_zero, List.set_cons_succ]
            refine wpAnyE_take (i := 7) (oi := ({ dst := some 88, op := Op.move (Operand.tmp 87), type := 4, pos := "outright.go:46", after := #[{ on := 6, ground := Ground.data }, { on := 3, ground := Ground.chain }], guard := none } : Oper)) (v := ?vr67x8) rfl (by kernel_rfl) (by decide) (by kernel_rfl) (fun _ _ _ h => h) (by rfl) ?hr67x8 hHeld ?rr67x8
            case hr67x8 =>
              intro V hV
              go_simp
              all_goals with_reducible rfl
            try simp only [Act.put, List.setIfInBounds_toArray, List.set_cons_zero, List.set_cons_succ]
            refine wpAnyE_ready (rs := [8]) (by kernel_rfl) (by simp) ?_
            refine (AllE.cons (o := ({ dst := some 89, op := Op.call { callee := Callee.value (Operand.func 12), args := #[], argTypes := #[] }, type := 4, pos := "outright.go:46", after := #[{ on := 7, ground := Ground.chain }, { on := 7, ground := Ground.guard }], guard := some (7, true) } : Oper)) rfl (by decide) (fun K hK => ?_) AllE.nil)
            go_simp
            refine (awake21_any _).mono ?_
            rintro e V3 ⟨rfl, hV3⟩
            have hb6 := hb5.trans (hV3.mono hb5.size)
            refine hK.out _ _ ?kr68x9 (fun hHeld2 => ?_)
            case kr68x9 => exact trivial
            clear hK K
            try simp only [Act.put, List.setIfInBounds_toArray, List.set_cons_zero, List.set_cons_succ]
            replace hHeld := hHeld2
            clear hHeld2
            refine wpAnyE_take (i := 9) (oi := ({ dst := some 90, op := Op.pick (Operand.tmp 88) (Operand.tmp 89) (Operand.const (Value.bool false)), type := 4, pos := "outright.go:46", after := #[{ on := 7, ground := Ground.data }, { on := 8, ground := Ground.data }], guard := none } : Oper)) (v := ?vr69x10) rfl (by kernel_rfl) (by decide) (by kernel_rfl) (fun _ _ _ h => h) (by rfl) ?hr69x10 hHeld ?rr69x10
            case hr69x10 =>
              intro V hV
              go_simp
              all_goals with_reducible rfl
            try simp only [Act.put, List.setIfInBounds_toArray, List.set_cons_zero, List.set_cons_succ]
            refine wpAnyE_late (j := 10) (o := ({ dst := some 2, op := Op.assign (Operand.tmp 90), type := 4, pos := "outright.go:46", after := #[{ on := 9, ground := Ground.data }, { on := 8, ground := Ground.chain }, { on := 0, ground := Ground.phase }, { on := 1, ground := Ground.phase }, { on := 2, ground := Ground.phase }, { on := 3, ground := Ground.phase }, { on := 4, ground := Ground.phase }, { on := 5, ground := Ground.phase }, { on := 6, ground := Ground.phase }, { on := 7, ground := Ground.phase }, { on := 8, ground := Ground.phase }, { on := 9, ground := Ground.phase }], guard := none } : Oper)) (by kernel_rfl) (by decide) rfl (fun K hK => ?_)
            go_simp
            refine hK.out _ _ ?_
            clear hK K
            try simp only [Act.put, List.setIfInBounds_toArray, List.set_cons_zero, List.set_cons_succ]
            refine wpAnyE_done (by kernel_rfl) ?_ _
            go_wp2
            go_ret
            exact ⟨rfl, hb6⟩
          · go_simp
            refine hK.out _ _ ?kr62x11 (fun hHeld2 => ?_)
            case kr62x11 => exact trivial
            clear hK K
            try simp only [Act.put, List.setIfInBounds_toArray, List.set_cons_zero, List.set_cons_succ]
            replace hHeld := hHeld2
            clear hHeld2
            have hb3a := hb3.drew.alloc hb3.drew.size (.cells (Array.replicate 64 (.int .u8 0)) 5)
            refine wpAnyE_ready (rs := [1]) (by kernel_rfl) (by simp) ?_
            refine (AllE.cons (o := ({ dst := some 82, op := Op.call { callee := Callee.value (Operand.func 11), args := #[Operand.tmp 81], argTypes := #[29] }, type := 38, pos := "outright.go:46", after := #[{ on := 0, ground := Ground.data }], guard := none } : Oper)) rfl (by decide) (fun K hK => ?_) AllE.nil)
            go_simp
            refine (back21_any A3 (n + 6) c3 _ _ hN1 (HI3.out _ ((Below.refl _ _).drew.alloc (Nat.le_refl _) _))).mono ?_
            rintro e V1 ⟨A5, c5, rfl, hO5, hV1⟩
            have HO5 := Lib.hid hO5
            clear hO5
            refine hK.out _ _ ?kr61x12 (fun hHeld2 => ?_)
            case kr61x12 => exact trivial
            clear hK K
            try simp only [Act.put, List.setIfInBounds_toArray, List.set_cons_zero, List.set_cons_succ]
            replace hHeld := hHeld2
            clear hHeld2
            have hb4 := hb3a.trans (hV1.mono hb3a.size)
            refine wpAnyE_ready (rs := [3]) (by kernel_rfl) (by simp) ?_
            refine (AllE.cons (o := ({ dst := some 84, op := Op.call { callee := Callee.value (Operand.func 10), args := #[Operand.tmp 82, Operand.tmp 83], argTypes := #[38, 40] }, type := 36, pos := "outright.go:46", after := #[{ on := 1, ground := Ground.data }, { on := 2, ground := Ground.data }, { on := 1, ground := Ground.chain }], guard := none } : Oper)) rfl (by decide) (fun K hK => ?_) AllE.nil)
            go_simp
            refine (HRUN.out _ _ _ _ HO5.out.cel (((byt64s _).below hV1).more hV1.size)).mono ?_
            rintro e V2 ⟨A6, n6, c6, st6, rfl, hV2⟩
            have hb5 : Below w0.heap.size w0 V2 := hb4.trans (hV2.mono hb4.size)
            refine hK.out _ _ ?kr63x13 (fun hHeld2 => ?_)
            case kr63x13 => exact trivial
            clear hK K
            try simp only [Act.put, List.setIfInBounds_toArray, List.set_cons_zero, List.set_cons_succ]
            replace hHeld := hHeld2
            clear hHeld2
            refine wpAnyE_take (i := 4) (oi := ({ dst := some 85, op := Op.field 36 (Operand.tmp 84) 0, type := 23, pos := "outright.go:46", after := #[{ on := 3, ground := Ground.data }], guard := none } : Oper)) (v := ?vr64x14) rfl (by kernel_rfl) (by decide) (by kernel_rfl) (fun _ _ _ h => h) (by rfl) ?hr64x14 hHeld ?rr64x14
            case hr64x14 =>
              intro V hV
              go_simp
              all_goals with_reducible rfl
            try simp only [Act.put, List.setIfInBounds_toArray, List.set_cons_zero, List.set_cons_succ]
            refine wpAnyE_take (i := 6) (oi := ({ dst := some 87, op := Op.binOp BinOp.eql 23 (Operand.tmp 85) (Operand.tmp 86) 23, type := 4, pos := "outright.go:46", after := #[{ on := 4, ground := Ground.data }, { on := 5, ground := Ground.data }], guard := none } : Oper)) (v := ?vr66x15) rfl (by kernel_rfl) (by decide) (by kernel_rfl) (fun _ _ _ h => h) (by rfl) ?hr66x15 hHeld ?rr66x15
            case hr66x15 =>
              intro V hV
              go_simp
              all_goals with_reducible rfl
            try simp only [Act.put, List.setIfInBounds_toArray, List.set_cons_zero, List.set_cons_succ]
            refine wpAnyE_take (i := 7) (oi := ({ dst := some 88, op := Op.move (Operand.tmp 87), type := 4, pos := "outright.go:46", after := #[{ on := 6, ground := Ground.data }, { on := 3, ground := Ground.chain }], guard := none } : Oper)) (v := ?vr67x16) rfl (by kernel_rfl) (by decide) (by kernel_rfl) (fun _ _ _ h => h) (by rfl) ?hr67x16 hHeld ?rr67x16
            case hr67x16 =>
              intro V hV
              go_simp
              all_goals with_reducible rfl
            try simp only [Act.put, List.setIfInBounds_toArray, List.set_cons_zero, List.set_cons_succ]
            refine wpAnyE_ready (rs := [8]) (by kernel_rfl) (by simp) ?_
            refine (AllE.cons (o := ({ dst := some 89, op := Op.call { callee := Callee.value (Operand.func 12), args := #[], argTypes := #[] }, type := 4, pos := "outright.go:46", after := #[{ on := 7, ground := Ground.chain }, { on := 7, ground := Ground.guard }], guard := some (7, true) } : Oper)) rfl (by decide) (fun K hK => ?_) AllE.nil)
            go_simp
            refine (awake21_any _).mono ?_
            rintro e V3 ⟨rfl, hV3⟩
            have hb6 := hb5.trans (hV3.mono hb5.size)
            refine hK.out _ _ ?kr68x17 (fun hHeld2 => ?_)
            case kr68x17 => exact trivial
            clear hK K
            try simp only [Act.put, List.setIfInBounds_toArray, List.set_cons_zero, List.set_cons_succ]
            replace hHeld := hHeld2
            clear hHeld2
            refine wpAnyE_take (i := 9) (oi := ({ dst := some 90, op := Op.pick (Operand.tmp 88) (Operand.tmp 89) (Operand.const (Value.bool false)), type := 4, pos := "outright.go:46", after := #[{ on := 7, ground := Ground.data }, { on := 8, ground := Ground.data }], guard := none } : Oper)) (v := ?vr69x18) rfl (by kernel_rfl) (by decide) (by kernel_rfl) (fun _ _ _ h => h) (by rfl) ?hr69x18 hHeld ?rr69x18
            case hr69x18 =>
              intro V hV
              go_simp
              all_goals with_reducible rfl
            try simp only [Act.put, List.setIfInBounds_toArray, List.set_cons_zero, List.set_cons_succ]
            refine wpAnyE_late (j := 10) (o := ({ dst := some 2, op := Op.assign (Operand.tmp 90), type := 4, pos := "outright.go:46", after := #[{ on := 9, ground := Ground.data }, { on := 8, ground := Ground.chain }, { on := 0, ground := Ground.phase }, { on := 1, ground := Ground.phase }, { on := 2, ground := Ground.phase }, { on := 3, ground := Ground.phase }, { on := 4, ground := Ground.phase }, { on := 5, ground := Ground.phase }, { on := 6, ground := Ground.phase }, { on := 7, ground := Ground.phase }, { on := 8, ground := Ground.phase }, { on := 9, ground := Ground.phase }], guard := none } : Oper)) (by kernel_rfl) (by decide) rfl (fun K hK => ?_)
            go_simp
            refine hK.out _ _ ?_
            clear hK K
            try simp only [Act.put, List.setIfInBounds_toArray, List.set_cons_zero, List.set_cons_succ]
            refine wpAnyE_done (by kernel_rfl) ?_ _
            go_wp2
            go_ret
            exact ⟨rfl, hb6⟩
      · rw [hNP] at HFP
        have j1 : ¬ ((n : Int) + 1 > 255) := by omega
        refine (assemble_ok A2 (n + 5) c2 (farL n a k 1 0) w2 (farL_len n a k 1 0) (by omega) HC2.out HFK.out HFF.out 0 (by rw [HFP.out.len, HFP.out.check])).mono ?_
        rw [HFP.out.len]
        rintro e w3 ⟨A3, n3, c3, rfl, hB3, _, hz⟩
        obtain ⟨rfl, hO3⟩ := hz rfl
        have hb3 := hb2.trans (hB3.mono hb2.size)
        have HO3 := Lib.hid hO3
        have HSZ := Lib.hid (size_ok A2 (n + 5) c2 (farL n a k 1 0) w3 (farL_len n a k 1 0) (by omega) ((HC2.out.below hB3).more hB3.size) HFK.out HFF.out)
        rw [HFP.out.len] at HSZ
        clear hO3 hz hNP
        go_wp2_with fail
        refine HSZ.out.mono ?_
        rintro e w4 ⟨rfl, hB4⟩
        have hb4 := hb3.trans (hB4.mono hb3.size)
        by_cases hak : (a : Int) = (k : Int)
        · have hbe : ((a : Int) == (k : Int)) = true := by simpa using hak
          have hvv : vv = 2 := by
            rw [← HVV.out]
            have hak2 : a = k := by omega
            simp [hak2]
          subst hvv
          have HI3 : Hid (∀ W, Below w4.heap.size w4 W → Ins W W.heap.size A3 (n + 4) c3 (fun i => (progI (farL n a k 1 0))[i]!)) := Lib.hid fun W hW => (((show Ins w3 w3.heap.size A3 (n + 4) c3 (fun i => (progI (farL n a k 1 0))[i]!) from ⟨HO3.out.cel, fun i hi => prog_oks _ (by rw [farL_len]; omega) HFK.out i (by rw [HFP.out.len]; exact hi)⟩).below hB4).more hB4.size).below hW |>.more hW.size
          have HRUN : Hid (∀ (A5 : Option Addr) (c5 : Nat) (A7 : Option Addr) (V : World), Cel V V.heap.size 4 A5 (n + 4) c5 (icell fun i => (progI (farL n a k 1 0))[i]!) → Byt V V.heap.size A7 64 64 (fun _ => 0) → Calls Try.prog 10 #[.slice A5 (n + 4) c5, .slice A7 64 64] V fun e w' => ∃ (A' : Option Addr) (n' c' : Nat) (st' : Int), e = .returned (.agg #[.int .u32 2, .int .i64 st', .slice A' n' c']) ∧ Below V.heap.size V w') := Lib.hid fun A5 c5 A7 V hc hby => by
            obtain ⟨sF, hrun⟩ := HFP.out.run
            refine (refRun_any A5 (n + 4) c5 _ A7 64 (fun _ => 0) V 2 sF ⟨hc, (HI3.out w4 (Below.refl _ _)).2⟩ (by omega) (by omega) HFP.out.alone HFP.out.last hby (fun _ => by decide) hrun).mono ?_
            rintro e w' ⟨A', c', rfl, _, hb⟩
            exact ⟨A', _, c', _, rfl, hb⟩
          have hN1 : (n + 4) ≤ 1000000 := by omega
          have hb3 := hb4
          clear HVV HO3 HSZ HFP HC2 hB4
          go_wp2
          refine wp_region_E (S := fun _ => True) 10 (by kernel_rfl) ?_
          have hHeld : True := trivial
          refine wpAnyE_take (i := 0) (oi := ({ dst := some 81, op := Op.move (Operand.tmp 11), type := 29, pos := "outright.go:46", after := #[], guard := none } : Oper)) (v := ?vr70x1) rfl (by kernel_rfl) (by decide) (by kernel_rfl) (fun _ _ _ h => h) (by rfl) ?hr70x1 hHeld ?rr70x1
          case hr70x1 =>
            intro V hV
            go_simp
            all_goals with_reducible rfl
          try simp only [Act.put, List.setIfInBounds_toArray, List.set_cons_zero, List.set_cons_succ]
          refine wpAnyE_take (i := 5) (oi := ({ dst := some 86, op := Op.move (Operand.tmp 14), type := 23, pos := "outright.go:46", after := #[], guard := none } : Oper)) (v := ?vr75x2) rfl (by kernel_rfl) (by decide) (by kernel_rfl) (fun _ _ _ h => h) (by rfl) ?hr75x2 hHeld ?rr75x2
          case hr75x2 =>
            intro V hV
            go_simp
            all_goals with_reducible rfl
          try simp only [Act.put, List.setIfInBounds_toArray, List.set_cons_zero, List.set_cons_succ]
          refine wpAnyE_ready (rs := [1, 2]) (by kernel_rfl) (by simp) ?_
          refine (AllE.cons (o := ({ dst := some 82, op := Op.call { callee := Callee.value (Operand.func 11), args := #[Operand.tmp 81], argTypes := #[29] }, type := 38, pos := "outright.go:46", after := #[{ on := 0, ground := Ground.data }], guard := none } : Oper)) rfl (by decide) (fun K hK => ?_) (AllE.cons (o := ({ dst := some 83, op := Op.makeSlice 40 (Operand.const (Value.int IntKind.i64 64)) (Operand.const (Value.int IntKind.i64 64)), type := 40, pos := "outright.go:46", after := #[], guard := none } : Oper)) rfl (by decide) (fun K hK => ?_) AllE.nil))
          · go_simp
            refine (back21_any A3 (n + 4) c3 _ _ hN1 (HI3.out _ (Below.refl _ _).drew)).mono ?_
            rintro e V1 ⟨A5, c5, rfl, hO5, hV1⟩
            have HO5 := Lib.hid hO5
            clear hO5
            refine hK.out _ _ ?kr71x3 (fun hHeld2 => ?_)
            case kr71x3 => exact trivial
            clear hK K
            try simp only [Act.put, List.setIfInBounds_toArray, List.set_cons_zero, List.set_cons_succ]
            replace hHeld := hHeld2
            clear hHeld2
            have hb4 := hb3.drew.trans (hV1.mono hb3.drew.size)
            refine wpAnyE_ready (rs := [2]) (by kernel_rfl) (by simp) ?_
            refine (AllE.cons (o := ({ dst := some 83, op := Op.makeSlice 40 (Operand.const (Value.int IntKind.i64 64)) (Operand.const (Value.int IntKind.i64 64)), type := 40, pos := "outright.go:46", after := #[], guard := none } : Oper)) rfl (by decide) (fun K hK => ?_) AllE.nil)
            go_simp
            refine hK.out _ _ ?kr72x4 (fun hHeld2 => ?_)
            case kr72x4 => exact trivial
            clear hK K
            try simp only [Act.put, List.setIfInBounds_toArray, List.set_cons_zero, List.set_cons_succ]
            replace hHeld := hHeld2
            clear hHeld2
            refine wpAnyE_ready (rs := [3]) (by kernel_rfl) (by simp) ?_
            refine (AllE.cons (o := ({ dst := some 84, op := Op.call { callee := Callee.value (Operand.func 10), args := #[Operand.tmp 82, Operand.tmp 83], argTypes := #[38, 40] }, type := 36, pos := "outright.go:46", after := #[{ on := 1, ground := Ground.data }, { on := 2, ground := Ground.data }, { on := 1, ground := Ground.chain }], guard := none } : Oper)) rfl (by decide) (fun K hK => ?_) AllE.nil)
            go_simp
            refine (HRUN.out _ _ _ _ (HO5.out.alloc _).cel (byt64s V1)).mono ?_
            rintro e V2 ⟨A6, n6, c6, st6, rfl, hV2⟩
            have hb5 : Below w0.heap.size w0 V2 := (hb4.alloc hb4.size _).trans (hV2.mono (hb4.alloc hb4.size _).size)
            refine hK.out _ _ ?kr73x5 (fun hHeld2 => ?_)
            case kr73x5 => exact trivial
            clear hK K
            try simp only [Act.put, List.setIfInBounds_toArray, List.set_cons_zero, List.set_cons_succ]
            replace hHeld := hHeld2
            clear hHeld2
            refine wpAnyE_take (i := 4) (oi := ({ dst := some 85, op := Op.field 36 (Operand.tmp 84) 0, type := 23, pos := "outright.go:46", after := #[{ on := 3, ground := Ground.data }], guard := none } : Oper)) (v := ?vr74x6) rfl (by kernel_rfl) (by decide) (by kernel_rfl) (fun _ _ _ h => h) (by rfl) ?hr74x6 hHeld ?rr74x6
            case hr74x6 =>
              intro V hV
              go_simp
              all_goals with_reducible rfl
            try simp only [Act.put, List.setIfInBounds_toArray, List.set_cons_zero, List.set_cons_succ]
            refine wpAnyE_take (i := 6) (oi := ({ dst := some 87, op := Op.binOp BinOp.eql 23 (Operand.tmp 85) (Operand.tmp 86) 23, type := 4, pos := "outright.go:46", after := #[{ on := 4, ground := Ground.data }, { on := 5, ground := Ground.data }], guard := none } : Oper)) (v := ?vr76x7) rfl (by kernel_rfl) (by decide) (by kernel_rfl) (fun _ _ _ h => h) (by rfl) ?hr76x7 hHeld ?rr76x7
            case hr76x7 =>
              intro V hV
              go_simp
              all_goals with_reducible rfl
            try simp only [Act.put, List.setIfInBounds_toArray, List.set_cons_zero, List.set_cons_succ]
            refine wpAnyE_take (i := 7) (oi := ({ dst := some 88, op := Op.move (Operand.tmp 87), type := 4, pos := "outright.go:46", after := #[{ on := 6, ground := Ground.data }, { on := 3, ground := Ground.chain }], guard := none } : Oper)) (v := ?vr77x8) rfl (by kernel_rfl) (by decide) (by kernel_rfl) (fun _ _ _ h => h) (by rfl) ?hr77x8 hHeld ?rr77x8
            case hr77x8 =>
              intro V hV
              go_simp
              all_goals with_reducible rfl
            try simp only [Act.put, List.setIfInBounds_toArray, List.set_cons_zero, List.set_cons_succ]
            refine wpAnyE_ready (rs := [8]) (by kernel_rfl) (by simp) ?_
            refine (AllE.cons (o := ({ dst := some 89, op := Op.call { callee := Callee.value (Operand.func 12), args := #[], argTypes := #[] }, type := 4, pos := "outright.go:46", after := #[{ on := 7, ground := Ground.chain }, { on := 7, ground := Ground.guard }], guard := some (7, true) } : Oper)) rfl (by decide) (fun K hK => ?_) AllE.nil)
            go_simp
            refine (awake21_any _).mono ?_
            rintro e V3 ⟨rfl, hV3⟩
            have hb6 := hb5.trans (hV3.mono hb5.size)
            refine hK.out _ _ ?kr78x9 (fun hHeld2 => ?_)
            case kr78x9 => exact trivial
            clear hK K
            try simp only [Act.put, List.setIfInBounds_toArray, List.set_cons_zero, List.set_cons_succ]
            replace hHeld := hHeld2
            clear hHeld2
            refine wpAnyE_take (i := 9) (oi := ({ dst := some 90, op := Op.pick (Operand.tmp 88) (Operand.tmp 89) (Operand.const (Value.bool false)), type := 4, pos := "outright.go:46", after := #[{ on := 7, ground := Ground.data }, { on := 8, ground := Ground.data }], guard := none } : Oper)) (v := ?vr79x10) rfl (by kernel_rfl) (by decide) (by kernel_rfl) (fun _ _ _ h => h) (by rfl) ?hr79x10 hHeld ?rr79x10
            case hr79x10 =>
              intro V hV
              go_simp
              all_goals with_reducible rfl
            try simp only [Act.put, List.setIfInBounds_toArray, List.set_cons_zero, List.set_cons_succ]
            refine wpAnyE_late (j := 10) (o := ({ dst := some 2, op := Op.assign (Operand.tmp 90), type := 4, pos := "outright.go:46", after := #[{ on := 9, ground := Ground.data }, { on := 8, ground := Ground.chain }, { on := 0, ground := Ground.phase }, { on := 1, ground := Ground.phase }, { on := 2, ground := Ground.phase }, { on := 3, ground := Ground.phase }, { on := 4, ground := Ground.phase }, { on := 5, ground := Ground.phase }, { on := 6, ground := Ground.phase }, { on := 7, ground := Ground.phase }, { on := 8, ground := Ground.phase }, { on := 9, ground := Ground.phase }], guard := none } : Oper)) (by kernel_rfl) (by decide) rfl (fun K hK => ?_)
            go_simp
            refine hK.out _ _ ?_
            clear hK K
            try simp only [Act.put, List.setIfInBounds_toArray, List.set_cons_zero, List.set_cons_succ]
            refine wpAnyE_done (by kernel_rfl) ?_ _
            go_wp2
            go_ret
            exact ⟨rfl, hb6⟩
          · go_simp
            refine hK.out _ _ ?kr72x11 (fun hHeld2 => ?_)
            case kr72x11 => exact trivial
            clear hK K
            try simp only [Act.put, List.setIfInBounds_toArray, List.set_cons_zero, List.set_cons_succ]
            replace hHeld := hHeld2
            clear hHeld2
            have hb3a := hb3.drew.alloc hb3.drew.size (.cells (Array.replicate 64 (.int .u8 0)) 5)
            refine wpAnyE_ready (rs := [1]) (by kernel_rfl) (by simp) ?_
            refine (AllE.cons (o := ({ dst := some 82, op := Op.call { callee := Callee.value (Operand.func 11), args := #[Operand.tmp 81], argTypes := #[29] }, type := 38, pos := "outright.go:46", after := #[{ on := 0, ground := Ground.data }], guard := none } : Oper)) rfl (by decide) (fun K hK => ?_) AllE.nil)
            go_simp
            refine (back21_any A3 (n + 4) c3 _ _ hN1 (HI3.out _ ((Below.refl _ _).drew.alloc (Nat.le_refl _) _))).mono ?_
            rintro e V1 ⟨A5, c5, rfl, hO5, hV1⟩
            have HO5 := Lib.hid hO5
            clear hO5
            refine hK.out _ _ ?kr71x12 (fun hHeld2 => ?_)
            case kr71x12 => exact trivial
            clear hK K
            try simp only [Act.put, List.setIfInBounds_toArray, List.set_cons_zero, List.set_cons_succ]
            replace hHeld := hHeld2
            clear hHeld2
            have hb4 := hb3a.trans (hV1.mono hb3a.size)
            refine wpAnyE_ready (rs := [3]) (by kernel_rfl) (by simp) ?_
            refine (AllE.cons (o := ({ dst := some 84, op := Op.call { callee := Callee.value (Operand.func 10), args := #[Operand.tmp 82, Operand.tmp 83], argTypes := #[38, 40] }, type := 36, pos := "outright.go:46", after := #[{ on := 1, ground := Ground.data }, { on := 2, ground := Ground.data }, { on := 1, ground := Ground.chain }], guard := none } : Oper)) rfl (by decide) (fun K hK => ?_) AllE.nil)
            go_simp
            refine (HRUN.out _ _ _ _ HO5.out.cel (((byt64s _).below hV1).more hV1.size)).mono ?_
            rintro e V2 ⟨A6, n6, c6, st6, rfl, hV2⟩
            have hb5 : Below w0.heap.size w0 V2 := hb4.trans (hV2.mono hb4.size)
            refine hK.out _ _ ?kr73x13 (fun hHeld2 => ?_)
            case kr73x13 => exact trivial
            clear hK K
            try simp only [Act.put, List.setIfInBounds_toArray, List.set_cons_zero, List.set_cons_succ]
            replace hHeld := hHeld2
            clear hHeld2
            refine wpAnyE_take (i := 4) (oi := ({ dst := some 85, op := Op.field 36 (Operand.tmp 84) 0, type := 23, pos := "outright.go:46", after := #[{ on := 3, ground := Ground.data }], guard := none } : Oper)) (v := ?vr74x14) rfl (by kernel_rfl) (by decide) (by kernel_rfl) (fun _ _ _ h => h) (by rfl) ?hr74x14 hHeld ?rr74x14
            case hr74x14 =>
              intro V hV
              go_simp
              all_goals with_reducible rfl
            try simp only [Act.put, List.setIfInBounds_toArray, List.set_cons_zero, List.set_cons_succ]
            refine wpAnyE_take (i := 6) (oi := ({ dst := some 87, op := Op.binOp BinOp.eql 23 (Operand.tmp 85) (Operand.tmp 86) 23, type := 4, pos := "outright.go:46", after := #[{ on := 4, ground := Ground.data }, { on := 5, ground := Ground.data }], guard := none } : Oper)) (v := ?vr76x15) rfl (by kernel_rfl) (by decide) (by kernel_rfl) (fun _ _ _ h => h) (by rfl) ?hr76x15 hHeld ?rr76x15
            case hr76x15 =>
              intro V hV
              go_simp
              all_goals with_reducible rfl
            try simp only [Act.put, List.setIfInBounds_toArray, List.set_cons_zero, List.set_cons_succ]
            refine wpAnyE_take (i := 7) (oi := ({ dst := some 88, op := Op.move (Operand.tmp 87), type := 4, pos := "outright.go:46", after := #[{ on := 6, ground := Ground.data }, { on := 3, ground := Ground.chain }], guard := none } : Oper)) (v := ?vr77x16) rfl (by kernel_rfl) (by decide) (by kernel_rfl) (fun _ _ _ h => h) (by rfl) ?hr77x16 hHeld ?rr77x16
            case hr77x16 =>
              intro V hV
              go_simp
              all_goals with_reducible rfl
            try simp only [Act.put, List.setIfInBounds_toArray, List.set_cons_zero, List.set_cons_succ]
            refine wpAnyE_ready (rs := [8]) (by kernel_rfl) (by simp) ?_
            refine (AllE.cons (o := ({ dst := some 89, op := Op.call { callee := Callee.value (Operand.func 12), args := #[], argTypes := #[] }, type := 4, pos := "outright.go:46", after := #[{ on := 7, ground := Ground.chain }, { on := 7, ground := Ground.guard }], guard := some (7, true) } : Oper)) rfl (by decide) (fun K hK => ?_) AllE.nil)
            go_simp
            refine (awake21_any _).mono ?_
            rintro e V3 ⟨rfl, hV3⟩
            have hb6 := hb5.trans (hV3.mono hb5.size)
            refine hK.out _ _ ?kr78x17 (fun hHeld2 => ?_)
            case kr78x17 => exact trivial
            clear hK K
            try simp only [Act.put, List.setIfInBounds_toArray, List.set_cons_zero, List.set_cons_succ]
            replace hHeld := hHeld2
            clear hHeld2
            refine wpAnyE_take (i := 9) (oi := ({ dst := some 90, op := Op.pick (Operand.tmp 88) (Operand.tmp 89) (Operand.const (Value.bool false)), type := 4, pos := "outright.go:46", after := #[{ on := 7, ground := Ground.data }, { on := 8, ground := Ground.data }], guard := none } : Oper)) (v := ?vr79x18) rfl (by kernel_rfl) (by decide) (by kernel_rfl) (fun _ _ _ h => h) (by rfl) ?hr79x18 hHeld ?rr79x18
            case hr79x18 =>
              intro V hV
              go_simp
              all_goals with_reducible rfl
            try simp only [Act.put, List.setIfInBounds_toArray, List.set_cons_zero, List.set_cons_succ]
            refine wpAnyE_late (j := 10) (o := ({ dst := some 2, op := Op.assign (Operand.tmp 90), type := 4, pos := "outright.go:46", after := #[{ on := 9, ground := Ground.data }, { on := 8, ground := Ground.chain }, { on := 0, ground := Ground.phase }, { on := 1, ground := Ground.phase }, { on := 2, ground := Ground.phase }, { on := 3, ground := Ground.phase }, { on := 4, ground := Ground.phase }, { on := 5, ground := Ground.phase }, { on := 6, ground := Ground.phase }, { on := 7, ground := Ground.phase }, { on := 8, ground := Ground.phase }, { on := 9, ground := Ground.phase }], guard := none } : Oper)) (by kernel_rfl) (by decide) rfl (fun K hK => ?_)
            go_simp
            refine hK.out _ _ ?_
            clear hK K
            try simp only [Act.put, List.setIfInBounds_toArray, List.set_cons_zero, List.set_cons_succ]
            refine wpAnyE_done (by kernel_rfl) ?_ _
            go_wp2
            go_ret
            exact ⟨rfl, hb6⟩
        · have hbe : ((a : Int) == (k : Int)) = false := by simpa using hak
          have hvv : vv = 1 := by
            rw [← HVV.out]
            have hak2 : ¬ a = k := by omega
            simp [hak2]
          subst hvv
          have HI3 : Hid (∀ W, Below w4.heap.size w4 W → Ins W W.heap.size A3 (n + 4) c3 (fun i => (progI (farL n a k 1 0))[i]!)) := Lib.hid fun W hW => (((show Ins w3 w3.heap.size A3 (n + 4) c3 (fun i => (progI (farL n a k 1 0))[i]!) from ⟨HO3.out.cel, fun i hi => prog_oks _ (by rw [farL_len]; omega) HFK.out i (by rw [HFP.out.len]; exact hi)⟩).below hB4).more hB4.size).below hW |>.more hW.size
          have HRUN : Hid (∀ (A5 : Option Addr) (c5 : Nat) (A7 : Option Addr) (V : World), Cel V V.heap.size 4 A5 (n + 4) c5 (icell fun i => (progI (farL n a k 1 0))[i]!) → Byt V V.heap.size A7 64 64 (fun _ => 0) → Calls Try.prog 10 #[.slice A5 (n + 4) c5, .slice A7 64 64] V fun e w' => ∃ (A' : Option Addr) (n' c' : Nat) (st' : Int), e = .returned (.agg #[.int .u32 1, .int .i64 st', .slice A' n' c']) ∧ Below V.heap.size V w') := Lib.hid fun A5 c5 A7 V hc hby => by
            obtain ⟨sF, hrun⟩ := HFP.out.run
            refine (refRun_any A5 (n + 4) c5 _ A7 64 (fun _ => 0) V 1 sF ⟨hc, (HI3.out w4 (Below.refl _ _)).2⟩ (by omega) (by omega) HFP.out.alone HFP.out.last hby (fun _ => by decide) hrun).mono ?_
            rintro e w' ⟨A', c', rfl, _, hb⟩
            exact ⟨A', _, c', _, rfl, hb⟩
          have hN1 : (n + 4) ≤ 1000000 := by omega
          have hb3 := hb4
          clear HVV HO3 HSZ HFP HC2 hB4
          go_wp2
          refine wp_region_E (S := fun _ => True) 10 (by kernel_rfl) ?_
          have hHeld : True := trivial
          refine wpAnyE_take (i := 0) (oi := ({ dst := some 81, op := Op.move (Operand.tmp 11), type := 29, pos := "outright.go:46", after := #[], guard := none } : Oper)) (v := ?vr80x1) rfl (by kernel_rfl) (by decide) (by kernel_rfl) (fun _ _ _ h => h) (by rfl) ?hr80x1 hHeld ?rr80x1
          case hr80x1 =>
            intro V hV
            go_simp
            all_goals with_reducible rfl
          try simp only [Act.put, List.setIfInBounds_toArray, List.set_cons_zero, List.set_cons_succ]
          refine wpAnyE_take (i := 5) (oi := ({ dst := some 86, op := Op.move (Operand.tmp 14), type := 23, pos := "outright.go:46", after := #[], guard := none } : Oper)) (v := ?vr85x2) rfl (by kernel_rfl) (by decide) (by kernel_rfl) (fun _ _ _ h => h) (by rfl) ?hr85x2 hHeld ?rr85x2
          case hr85x2 =>
            intro V hV
            go_simp
            all_goals with_reducible rfl
          try simp only [Act.put, List.setIfInBounds_toArray, List.set_cons_zero, List.set_cons_succ]
          refine wpAnyE_ready (rs := [1, 2]) (by kernel_rfl) (by simp) ?_
          refine (AllE.cons (o := ({ dst := some 82, op := Op.call { callee := Callee.value (Operand.func 11), args := #[Operand.tmp 81], argTypes := #[29] }, type := 38, pos := "outright.go:46", after := #[{ on := 0, ground := Ground.data }], guard := none } : Oper)) rfl (by decide) (fun K hK => ?_) (AllE.cons (o := ({ dst := some 83, op := Op.makeSlice 40 (Operand.const (Value.int IntKind.i64 64)) (Operand.const (Value.int IntKind.i64 64)), type := 40, pos := "outright.go:46", after := #[], guard := none } : Oper)) rfl (by decide) (fun K hK => ?_) AllE.nil))
          · go_simp
            refine (back21_any A3 (n + 4) c3 _ _ hN1 (HI3.out _ (Below.refl _ _).drew)).mono ?_
            rintro e V1 ⟨A5, c5, rfl, hO5, hV1⟩
            have HO5 := Lib.hid hO5
            clear hO5
            refine hK.out _ _ ?kr81x3 (fun hHeld2 => ?_)
            case kr81x3 => exact trivial
            clear hK K
            try simp only [Act.put, List.setIfInBounds_toArray, List.set_cons_zero, List.set_cons_succ]
            replace hHeld := hHeld2
            clear hHeld2
            have hb4 := hb3.drew.trans (hV1.mono hb3.drew.size)
            refine wpAnyE_ready (rs := [2]) (by kernel_rfl) (by simp) ?_
            refine (AllE.cons (o := ({ dst := some 83, op := Op.makeSlice 40 (Operand.const (Value.int IntKind.i64 64)) (Operand.const (Value.int IntKind.i64 64)), type := 40, pos := "outright.go:46", after := #[], guard := none } : Oper)) rfl (by decide) (fun K hK => ?_) AllE.nil)
            go_simp
            refine hK.out _ _ ?kr82x4 (fun hHeld2 => ?_)
            case kr82x4 => exact trivial
            clear hK K
            try simp only [Act.put, List.setIfInBounds_toArray, List.set_cons_zero, List.set_cons_succ]
            replace hHeld := hHeld2
            clear hHeld2
            refine wpAnyE_ready (rs := [3]) (by kernel_rfl) (by simp) ?_
            refine (AllE.cons (o := ({ dst := some 84, op := Op.call { callee := Callee.value (Operand.func 10), args := #[Operand.tmp 82, Operand.tmp 83], argTypes := #[38, 40] }, type := 36, pos := "outright.go:46", after := #[{ on := 1, ground := Ground.data }, { on := 2, ground := Ground.data }, { on := 1, ground := Ground.chain }], guard := none } : Oper)) rfl (by decide) (fun K hK => ?_) AllE.nil)
            go_simp
            refine (HRUN.out _ _ _ _ (HO5.out.alloc _).cel (byt64s V1)).mono ?_
            rintro e V2 ⟨A6, n6, c6, st6, rfl, hV2⟩
            have hb5 : Below w0.heap.size w0 V2 := (hb4.alloc hb4.size _).trans (hV2.mono (hb4.alloc hb4.size _).size)
            refine hK.out _ _ ?kr83x5 (fun hHeld2 => ?_)
            case kr83x5 => exact trivial
            clear hK K
            try simp only [Act.put, List.setIfInBounds_toArray, List.set_cons_zero, List.set_cons_succ]
            replace hHeld := hHeld2
            clear hHeld2
            refine wpAnyE_take (i := 4) (oi := ({ dst := some 85, op := Op.field 36 (Operand.tmp 84) 0, type := 23, pos := "outright.go:46", after := #[{ on := 3, ground := Ground.data }], guard := none } : Oper)) (v := ?vr84x6) rfl (by kernel_rfl) (by decide) (by kernel_rfl) (fun _ _ _ h => h) (by rfl) ?hr84x6 hHeld ?rr84x6
            case hr84x6 =>
              intro V hV
              go_simp
              all_goals with_reducible rfl
            try simp only [Act.put, List.setIfInBounds_toArray, List.set_cons_zero, List.set_cons_succ]
            refine wpAnyE_take (i := 6) (oi := ({ dst := some 87, op := Op.binOp BinOp.eql 23 (Operand.tmp 85) (Operand.tmp 86) 23, type := 4, pos := "outright.go:46", after := #[{ on := 4, ground := Ground.data }, { on := 5, ground := Ground.data }], guard := none } : Oper)) (v := ?vr86x7) rfl (by kernel_rfl) (by decide) (by kernel_rfl) (fun _ _ _ h => h) (by rfl) ?hr86x7 hHeld ?rr86x7
            case hr86x7 =>
              intro V hV
              go_simp
              all_goals with_reducible rfl
            try simp only [Act.put, List.setIfInBounds_toArray, List.set_cons_zero, List.set_cons_succ]
            refine wpAnyE_take (i := 7) (oi := ({ dst := some 88, op := Op.move (Operand.tmp 87), type := 4, pos := "outright.go:46", after := #[{ on := 6, ground := Ground.data }, { on := 3, ground := Ground.chain }], guard := none } : Oper)) (v := ?vr87x8) rfl (by kernel_rfl) (by decide) (by kernel_rfl) (fun _ _ _ h => h) (by rfl) ?hr87x8 hHeld ?rr87x8
            case hr87x8 =>
              intro V hV
              go_simp
              all_goals with_reducible rfl
            try simp only [Act.put, List.setIfInBounds_toArray, List.set_cons_zero, List.set_cons_succ]
            refine wpAnyE_ready (rs := [8]) (by kernel_rfl) (by simp) ?_
            refine (AllE.cons (o := ({ dst := some 89, op := Op.call { callee := Callee.value (Operand.func 12), args := #[], argTypes := #[] }, type := 4, pos := "outright.go:46", after := #[{ on := 7, ground := Ground.chain }, { on := 7, ground := Ground.guard }], guard := some (7, true) } : Oper)) rfl (by decide) (fun K hK => ?_) AllE.nil)
            go_simp
            refine (awake21_any _).mono ?_
            rintro e V3 ⟨rfl, hV3⟩
            have hb6 := hb5.trans (hV3.mono hb5.size)
            refine hK.out _ _ ?kr88x9 (fun hHeld2 => ?_)
            case kr88x9 => exact trivial
            clear hK K
            try simp only [Act.put, List.setIfInBounds_toArray, List.set_cons_zero, List.set_cons_succ]
            replace hHeld := hHeld2
            clear hHeld2
            refine wpAnyE_take (i := 9) (oi := ({ dst := some 90, op := Op.pick (Operand.tmp 88) (Operand.tmp 89) (Operand.const (Value.bool false)), type := 4, pos := "outright.go:46", after := #[{ on := 7, ground := Ground.data }, { on := 8, ground := Ground.data }], guard := none } : Oper)) (v := ?vr89x10) rfl (by kernel_rfl) (by decide) (by kernel_rfl) (fun _ _ _ h => h) (by rfl) ?hr89x10 hHeld ?rr89x10
            case hr89x10 =>
              intro V hV
              go_simp
              all_goals with_reducible rfl
            try simp only [Act.put, List.setIfInBounds_toArray, List.set_cons_zero, List.set_cons_succ]
            refine wpAnyE_late (j := 10) (o := ({ dst := some 2, op := Op.assign (Operand.tmp 90), type := 4, pos := "outright.go:46", after := #[{ on := 9, ground := Ground.data }, { on := 8, ground := Ground.chain }, { on := 0, ground := Ground.phase }, { on := 1, ground := Ground.phase }, { on := 2, ground := Ground.phase }, { on := 3, ground := Ground.phase }, { on := 4, ground := Ground.phase }, { on := 5, ground := Ground.phase }, { on := 6, ground := Ground.phase }, { on := 7, ground := Ground.phase }, { on := 8, ground := Ground.phase }, { on := 9, ground := Ground.phase }], guard := none } : Oper)) (by kernel_rfl) (by decide) rfl (fun K hK => ?_)
            go_simp
            refine hK.out _ _ ?_
            clear hK K
            try simp only [Act.put, List.setIfInBounds_toArray, List.set_cons_zero, List.set_cons_succ]
            refine wpAnyE_done (by kernel_rfl) ?_ _
            go_wp2
            go_ret
            exact ⟨rfl, hb6⟩
          · go_simp
            refine hK.out _ _ ?kr82x11 (fun hHeld2 => ?_)
            case kr82x11 => exact trivial
            clear hK K
            try simp only [Act.put, List.setIfInBounds_toArray, List.set_cons_zero, List.set_cons_succ]
            replace hHeld := hHeld2
            clear hHeld2
            have hb3a := hb3.drew.alloc hb3.drew.size (.cells (Array.replicate 64 (.int .u8 0)) 5)
            refine wpAnyE_ready (rs := [1]) (by kernel_rfl) (by simp) ?_
            refine (AllE.cons (o := ({ dst := some 82, op := Op.call { callee := Callee.value (Operand.func 11), args := #[Operand.tmp 81], argTypes := #[29] }, type := 38, pos := "outright.go:46", after := #[{ on := 0, ground := Ground.data }], guard := none } : Oper)) rfl (by decide) (fun K hK => ?_) AllE.nil)
            go_simp
            refine (back21_any A3 (n + 4) c3 _ _ hN1 (HI3.out _ ((Below.refl _ _).drew.alloc (Nat.le_refl _) _))).mono ?_
            rintro e V1 ⟨A5, c5, rfl, hO5, hV1⟩
            have HO5 := Lib.hid hO5
            clear hO5
            refine hK.out _ _ ?kr81x12 (fun hHeld2 => ?_)
            case kr81x12 => exact trivial
            clear hK K
            try simp only [Act.put, List.setIfInBounds_toArray, List.set_cons_zero, List.set_cons_succ]
            replace hHeld := hHeld2
            clear hHeld2
            have hb4 := hb3a.trans (hV1.mono hb3a.size)
            refine wpAnyE_ready (rs := [3]) (by kernel_rfl) (by simp) ?_
            refine (AllE.cons (o := ({ dst := some 84, op := Op.call { callee := Callee.value (Operand.func 10), args := #[Operand.tmp 82, Operand.tmp 83], argTypes := #[38, 40] }, type := 36, pos := "outright.go:46", after := #[{ on := 1, ground := Ground.data }, { on := 2, ground := Ground.data }, { on := 1, ground := Ground.chain }], guard := none } : Oper)) rfl (by decide) (fun K hK => ?_) AllE.nil)
            go_simp
            refine (HRUN.out _ _ _ _ HO5.out.cel (((byt64s _).below hV1).more hV1.size)).mono ?_
            rintro e V2 ⟨A6, n6, c6, st6, rfl, hV2⟩
            have hb5 : Below w0.heap.size w0 V2 := hb4.trans (hV2.mono hb4.size)
            refine hK.out _ _ ?kr83x13 (fun hHeld2 => ?_)
            case kr83x13 => exact trivial
            clear hK K
            try simp only [Act.put, List.setIfInBounds_toArray, List.set_cons_zero, List.set_cons_succ]
            replace hHeld := hHeld2
            clear hHeld2
            refine wpAnyE_take (i := 4) (oi := ({ dst := some 85, op := Op.field 36 (Operand.tmp 84) 0, type := 23, pos := "outright.go:46", after := #[{ on := 3, ground := Ground.data }], guard := none } : Oper)) (v := ?vr84x14) rfl (by kernel_rfl) (by decide) (by kernel_rfl) (fun _ _ _ h => h) (by rfl) ?hr84x14 hHeld ?rr84x14
            case hr84x14 =>
              intro V hV
              go_simp
              all_goals with_reducible rfl
            try simp only [Act.put, List.setIfInBounds_toArray, List.set_cons_zero, List.set_cons_succ]
            refine wpAnyE_take (i := 6) (oi := ({ dst := some 87, op := Op.binOp BinOp.eql 23 (Operand.tmp 85) (Operand.tmp 86) 23, type := 4, pos := "outright.go:46", after := #[{ on := 4, ground := Ground.data }, { on := 5, ground := Ground.data }], guard := none } : Oper)) (v := ?vr86x15) rfl (by kernel_rfl) (by decide) (by kernel_rfl) (fun _ _ _ h => h) (by rfl) ?hr86x15 hHeld ?rr86x15
            case hr86x15 =>
              intro V hV
              go_simp
              all_goals with_reducible rfl
            try simp only [Act.put, List.setIfInBounds_toArray, List.set_cons_zero, List.set_cons_succ]
            refine wpAnyE_take (i := 7) (oi := ({ dst := some 88, op := Op.move (Operand.tmp 87), type := 4, pos := "outright.go:46", after := #[{ on := 6, ground := Ground.data }, { on := 3, ground := Ground.chain }], guard := none } : Oper)) (v := ?vr87x16) rfl (by kernel_rfl) (by decide) (by kernel_rfl) (fun _ _ _ h => h) (by rfl) ?hr87x16 hHeld ?rr87x16
            case hr87x16 =>
              intro V hV
              go_simp
              all_goals with_reducible rfl
            try simp only [Act.put, List.setIfInBounds_toArray, List.set_cons_zero, List.set_cons_succ]
            refine wpAnyE_ready (rs := [8]) (by kernel_rfl) (by simp) ?_
            refine (AllE.cons (o := ({ dst := some 89, op := Op.call { callee := Callee.value (Operand.func 12), args := #[], argTypes := #[] }, type := 4, pos := "outright.go:46", after := #[{ on := 7, ground := Ground.chain }, { on := 7, ground := Ground.guard }], guard := some (7, true) } : Oper)) rfl (by decide) (fun K hK => ?_) AllE.nil)
            go_simp
            refine (awake21_any _).mono ?_
            rintro e V3 ⟨rfl, hV3⟩
            have hb6 := hb5.trans (hV3.mono hb5.size)
            refine hK.out _ _ ?kr88x17 (fun hHeld2 => ?_)
            case kr88x17 => exact trivial
            clear hK K
            try simp only [Act.put, List.setIfInBounds_toArray, List.set_cons_zero, List.set_cons_succ]
            replace hHeld := hHeld2
            clear hHeld2
            refine wpAnyE_take (i := 9) (oi := ({ dst := some 90, op := Op.pick (Operand.tmp 88) (Operand.tmp 89) (Operand.const (Value.bool false)), type := 4, pos := "outright.go:46", after := #[{ on := 7, ground := Ground.data }, { on := 8, ground := Ground.data }], guard := none } : Oper)) (v := ?vr89x18) rfl (by kernel_rfl) (by decide) (by kernel_rfl) (fun _ _ _ h => h) (by rfl) ?hr89x18 hHeld ?rr89x18
            case hr89x18 =>
              intro V hV
              go_simp
              all_goals with_reducible rfl
            try simp only [Act.put, List.setIfInBounds_toArray, List.set_cons_zero, List.set_cons_succ]
            refine wpAnyE_late (j := 10) (o := ({ dst := some 2, op := Op.assign (Operand.tmp 90), type := 4, pos := "outright.go:46", after := #[{ on := 9, ground := Ground.data }, { on := 8, ground := Ground.chain }, { on := 0, ground := Ground.phase }, { on := 1, ground := Ground.phase }, { on := 2, ground := Ground.phase }, { on := 3, ground := Ground.phase }, { on := 4, ground := Ground.phase }, { on := 5, ground := Ground.phase }, { on := 6, ground := Ground.phase }, { on := 7, ground := Ground.phase }, { on := 8, ground := Ground.phase }, { on := 9, ground := Ground.phase }], guard := none } : Oper)) (by kernel_rfl) (by decide) rfl (fun K hK => ?_)
            go_simp
            refine hK.out _ _ ?_
            clear hK K
            try simp only [Act.put, List.setIfInBounds_toArray, List.set_cons_zero, List.set_cons_succ]
            refine wpAnyE_done (by kernel_rfl) ?_ _
            go_wp2
            go_ret
            exact ⟨rfl, hb6⟩
theorem walk_AsmFar {w0 : World} (b a k : Nat) (s : Bool) (hb : b < 65536) (ha : a < 4294967296) (hk : k < 4294967296) :
    Calls Try.prog 3 #[.agg #[.int .u16 (b : Int), .int .u32 (a : Int), .int .u32 (k : Int), .bool s]] w0 fun e w' => e = .returned (.bool true) ∧ Below w0.heap.size w0 w' := by
  cases s
  · exact walk_AsmFar_false b a k hb ha hk
  · exact walk_AsmFar_true b a k hb ha hk

namespace asmFarRow
open Go.ChangeShapes Go.WideShapes Go.ChangeAt Go.RowKit Go.Joins
open Go.ChangeMaps (open_string shut_string)
set_option linter.unusedVariables false
theorem own : ownKnob Try.prog.godebug = none := by kernel_rfl
theorem laidOut : laidOutB Try.prog = true := by kernel_rfl
set_option maxRecDepth 100000 in
theorem lifted (os : Os) (started : os.Started) (H : Type) (enc : TypeId × Value → H) :
    ReturnsInHanded {} Try.checked os 3 .any (Rows.asmFarSpec.pre6 enc Try.prog Try.f3 Rows.asmFarRow.domain false) (Rows.asmFarSpec.post enc Try.prog Try.f3 false true false false) := by
  refine returnsInHanded_of_change (C := Try.checked) own started (by kernel_rfl) Try.func3
    (ChangeSpec.witness6 (enc := enc) (C := Try.checked) false ⟨#[], #[.agg #[.int .u16 0, .int .u32 0, .int .u32 0, .bool false]], []⟩ 8 (by kernel_rfl) (by kernel_rfl) (by kernel_rfl) (by kernel_rfl)) ?_
  intro W base args ds gs before hval0 hW hcnd _
  have hval : ∀ (j : Nat) t v, Try.f3.params[j]? = some t → args[j]? = some v → Value.okWide Try.prog W .any base t v := hval0
  have hW' := hW
  obtain ⟨p, q, hA0, hV, rfl, hfz, hnd⟩ := hW
  have hA : DataW.TrodAll enc Try.prog W 0 (fun _ => true) true Try.f3.params.toList args.toList ds p := hA0
  rw [Try.params3] at hA hval
  obtain ⟨v0, vs0, d0, ds0, p0, q0, hargs, rfl, rfl, h0, r0⟩ := trodAll_cons hA
  obtain ⟨rfl, rfl, rfl⟩ := trodAll_nil r0
  obtain rfl : args = #[v0] := by cases args; simp_all
  obtain ⟨rfl, rfl⟩ := trodVars_none hV
  have k0 := h0
  have lt0 : ∀ x ∈ p0, x.block < W.heap.size := by obtain ⟨m, hm⟩ := k0; exact DataW.trod_lt m _ _ _ hm
  obtain ⟨cc0, cc1, cc2, cc3, yy0, yy1, yy2, yy3, mm, rfl, _, _, hyy0, hyy1, hyy2, hyy3⟩ := open_agg4 Try.underlying25 (by kernel_rfl) (show Try.prog.cellsOf 25 = 4 by kernel_rfl) (hval 0 25 v0 rfl rfl) h0
  obtain ⟨n0, ee0, _, u0⟩ := DataW.trod_int Try.underlying22 hyy0
  obtain ⟨n1, ee1, _, u1⟩ := DataW.trod_int Try.underlying23 hyy1
  obtain ⟨n2, ee2, _, u2⟩ := DataW.trod_int Try.underlying23 hyy2
  obtain ⟨b3, ee3, _⟩ := DataW.trod_bool Try.underlying4 hyy3
  simp only [List.cons.injEq, and_true] at ee0 ee1 ee2 ee3
  subst ee0 ee1 ee2 ee3
  simp [Lit.wf, IntKind.min, IntKind.max, IntKind.signed, IntKind.bits] at u0 u1 u2
  obtain ⟨x0, rfl⟩ := Int.eq_ofNat_of_zero_le u0.1
  obtain ⟨x1, rfl⟩ := Int.eq_ofNat_of_zero_le u1.1
  obtain ⟨x2, rfl⟩ := Int.eq_ofNat_of_zero_le u2.1
  clear hA0 hval0
  refine (walk_AsmFar (w0 := W) x0 x1 x2 b3 (by omega) (by omega) (by omega)).mono fun e W' ⟨he, bel⟩ => ?_
  subst he
  exact ⟨_, rfl, _, _, _, [], _, [], hW', trodAll_mk1 (shut_bool Try.underlying4 _), (trodAll_cons_mk (Below.trod laidOut (by kernel_rfl) (of_decide_eq_true (by kernel_rfl)) k0 bel lt0) trodAll_mk0), rfl, bel.frame _, fun h => by cases h⟩

theorem over_inPlace : (Rows.asmFarRow.inPlace == Try.prog.inPlace 3) = true := by kernel_rfl
theorem over_unfollowed : (Rows.asmFarRow.unfollowed == Try.prog.unfollowed 3) = true := by kernel_rfl
theorem over_recurses : (Rows.asmFarRow.recurses == Try.prog.recurses 3) = true := by kernel_rfl
theorem over_named : (Rows.asmFarRow.named == Try.prog.varsNamed 3) = true := by kernel_rfl
theorem over_closed : joinedFacts Try.prog 3 Try.f3 Rows.asmFarSpec Rows.asmFarRow = true := by
  unfold joinedFacts
  rw [over_inPlace, over_unfollowed, over_recurses, over_named, laidOut]
  kernel_rfl
theorem over_found : Try.prog.funcNamed Rows.asmFarRow.func = some 3 := by kernel_rfl
theorem over : Rows.asmFarRow.holds Try.pinned (OpenSpec.ofChange Rows.asmFarSpec) :=
  OpenClaim.holds_of_wide 3 Try.f3 rfl rfl rfl rfl rfl rfl rfl ⟨rfl, rfl, rfl, rfl, rfl⟩ rfl rfl rfl rfl rfl over_found Try.func3 over_closed
    (of_decide_eq_true (by kernel_rfl)) (by unfold Func.isWrapper; first | (rw [if_pos (by decide +kernel)]; kernel_rfl) | (rw [if_neg (by decide +kernel)]; exact ⟨rfl, rfl⟩))
    (fun os started H enc _ => lifted os started H enc)
end asmFarRow

theorem asmFar_proved : Rows.AsmFarSaid := asmFarRow.over
#print axioms asmFar_proved
end Go.Proofs.Ytiofgaadfbjnoaa
