/-
  The law AsmChains holds for every input: a row of branches that all lead to one place behind them does what its items do. No condition.
-/
import Derived.Test.YtiofgaadfbjnoaaAsM
import Derived.Test.YtiofgaadfbjnoaaYb
import Derived.Test.YtiofgaadfbjnoaaKr
import Derived.Test.YtiofgaadfbjnoaaRows
import Derived.Below
import Derived.ChangeOld
import Derived.ShutString
import Derived.Lib.SmallJoins
import Derived.OpenShut
import Derived.ProofKit
import Derived.WalkKit
namespace Go.Proofs.Ytiofgaadfbjnoaa
open Go.RowKit Go.Shelf
set_option linter.unusedVariables false
def chQ (q : Nat) : List IT := [⟨0, 32, 0, 0, 0⟩] ++ chB q
theorem chQ_len (q : Nat) : (chQ q).length = 1 + q := by simp [chQ, chB_len]; omega
theorem it_snocQ (q : Nat) : ∀ i, i < (1 + q + 1) * 5 → catC ((1 + q) * 5) (itcell fun i => (chQ q)[i]!) (itcell fun _ => brI q) i = itcell (fun i => (chQ (q + 1))[i]!) i := by
  have h := it_snoc (chQ q) (brI q)
  rw [chQ_len] at h
  have e : chQ (q + 1) = chQ q ++ [brI q] := by unfold chQ; rw [chB_snoc, List.append_assoc]
  rw [e]
  exact h
theorem it_appQ (q : Nat) : ∀ i, i < (1 + q + 3) * 5 → catC ((1 + q) * 5) (itcell fun i => (chQ q)[i]!) (itcell fun i => chT[i]!) i = itcell (fun i => (chL q)[i]!) i :=
  it_appL (chQ q) chT (chQ_len q).symm
theorem one_own (w : World) (x : IT) : OwnC (w.alloc (.cells #[.int .i64 x.m, .int .u16 x.c, .int .u32 x.k, .int .i64 x.t, .int .i64 x.f] 27)) w.heap.size 27 5 (some ⟨w.heap.size, 0, none⟩) 1 1 (itcell fun i => ([x] : List IT)[i]!) := by
  refine ⟨by simp, .inr ⟨w.heap.size, 1, _, rfl, Nat.le_refl _, heap_alloc_last w _, Nat.le_refl _, by decide, rfl, ?_⟩⟩
  rfl
def rowB (x : Nat) : Array Value := ((Array.replicate 64 (.int .u8 0)).setIfInBounds 0 (.int .u8 ((x : Int) % 256))).setIfInBounds 1 (.int .u8 ((x : Int) / 256))
theorem bytB (x : Nat) (hx : x < 65536) (w : World) : Byt (w.alloc (.cells (rowB x) 5)) (w.heap.size + 1) (some ⟨w.heap.size, 0, none⟩) 64 64 (askF x) := by
  refine .inr ⟨_, rfl, Nat.le_refl _, by decide, fun i hi => ⟨by show w.heap.size < _; omega, ?_, by unfold askF; split <;> (try split) <;> omega⟩⟩
  rw [Addr.add_lit, Nat.zero_add, cell_of_row _ _ _ _ _ _ (heap_alloc_last w _)]
  unfold rowB askF
  by_cases h0 : i = 0
  · subst h0; rfl
  · by_cases h1 : i = 1
    · subst h1
      rw [if_neg h0, if_pos rfl, show x / 256 % 256 = x / 256 by omega]
      rfl
    · rw [if_neg h0, if_neg h1]
      simp [hi, Ne.symm h0, Ne.symm h1]
theorem askF_lt (x i : Nat) : askF x i < 256 := by unfold askF; split <;> (try split) <;> omega
theorem prog_oks (l : List IT) (hl : l.length ≤ 1000000) (hx : ∀ x ∈ l, x.ok) (i : Nat) (hi : i < (progI l).length) : (progI l)[i]!.ok := by
  rw [getElem!_pos (progI l) i hi]
  exact progI_ok l hl hx _ (List.getElem_mem _)
set_option maxRecDepth 100000 in
set_option maxHeartbeats 16000000 in
theorem walk_AsmChains {w0 : World} (m : Int) (hm : (Lit.int .u16 m).wf = true) (x : Int) (hx : (Lit.int .u16 x).wf = true) :
    Calls Try.prog 4 #[.int .u16 m, .int .u16 x] w0 fun e w' => e = .returned (.bool true) ∧ Below w0.heap.size w0 w' := by
  simp [Lit.wf, IntKind.min, IntKind.max, IntKind.signed, IntKind.bits] at hm hx
  obtain ⟨m, rfl⟩ := Int.eq_ofNat_of_zero_le hm.1
  obtain ⟨x, rfl⟩ := Int.eq_ofNat_of_zero_le hx.1
  obtain ⟨n, hr⟩ : ∃ n : Nat, (m : Int) % 600 + 1 = (n : Int) := ⟨m % 600 + 1, by omega⟩
  have hn0 : 0 < n := by omega
  have hn9 : n ≤ 600 := by omega
  have hx2 : x < 65536 := by omega
  have hm2 : m < 65536 := by omega
  obtain ⟨N, hN0, hN, hP⟩ := ch_whole n x hn0 (by omega) hx2
  have HP := Lib.hid hP
  have HFF := Lib.hid (ch_formed n)
  have HFK := Lib.hid (chL_ok n (by omega))
  have hmk := mk64
  have hfl := fldO
  clear hP hm hx
  go_enter Try.func4, Try.ntmps4
  go_wp2
  clear hr
  have HO0 := Lib.hid (one_own w0 ⟨0, 32, 0, 0, 0⟩)
  have hB0 : Below w0.heap.size w0 (w0.alloc (.cells #[.int .i64 0, .int .u16 32, .int .u32 0, .int .i64 0, .int .i64 0] 27)) := (Below.refl _ _).alloc (Nat.le_refl _) _
  go_loopw [6, 7] (fun s i wr => ∃ (q : Nat) (A' : Option Addr) (c' M : Nat), q ≤ n ∧ i = .int .i64 q ∧ s = .slice A' M c' ∧ M = 1 + q ∧ Hid (OwnC wr w0.heap.size 27 5 A' M c' (itcell fun j => (chQ q)[j]!)) ∧ Below w0.heap.size w0 wr)
    (fun _ i _ => n - (intOf i).toNat)
  case atStart => exact ⟨0, _, _, 1, Nat.zero_le _, rfl, rfl, rfl, HO0, hB0⟩
  case round =>
    obtain ⟨q, A', c', M, hq, rfl, rfl, hM, HO, hB⟩ := hrel
    subst hM
    clear HO0 hB0
    by_cases hlt : q < n
    · have i1 : (q : Int) < (n : Int) := by omega
      have v0 : IntKind.u32.wrap (q : Int) = (q : Int) := by rw [IntKind.wrap_u32]; omega
      go_wp2_with (at_builtin; go_must (refine app_cells _ rfl _ _ _ 27 rfl Try.underlying28 infoItm rfl (by decide) rfl (HO.out.alloc _) rfl (one_item wr (brI q) 27) (fun i _ => itcell_one _ i) (by unfold maxLen; omega) (by omega) (by have := hB.size; simp; omega) (1 + q + 1) rfl (itcell fun j => (chQ (q + 1))[j]!) (it_snocQ q) ?_; rintro A2 c2 w2 hown2 hB2; have hb2 : Below w0.heap.size w0 w2 := (hB.alloc hB.size _).trans hB2; have HO2 := Lib.hid hown2; clear hown2))
      go_roundw
      case rel => exact ⟨q + 1, A2, c2, 1 + q + 1, by omega, by go_num, rfl, by omega, HO2, hb2⟩
      case measure => simp [intOf]; omega
    · obtain rfl : n = q := by omega
      have i1 : ¬ (n : Int) < (n : Int) := by omega
      go_wp2_with (at_builtin; go_must (refine app_cells _ rfl _ _ _ 27 rfl Try.underlying28 infoItm rfl (by decide) rfl (HO.out.alloc _) rfl (three_its wr ⟨0, 6, 1, 0, 0⟩ ⟨1, 0, 0, 0, 0⟩ ⟨0, 6, 2, 0, 0⟩) (fun i _ => itcell_one _ i) (by unfold maxLen; omega) (by omega) (by have := hB.size; simp; omega) (1 + n + 3) rfl (itcell fun j => (chL n)[j]!) (it_appQ n) ?_; rintro A2 c2 w2 hown2 hB2; have hb2 : Below w0.heap.size w0 w2 := (hB.alloc hB.size _).trans hB2; have HC2 := Lib.hid hown2.cel; clear hown2))
      have e5 : 1 + n + 3 = n + 4 := by omega
      rw [e5] at HC2 ⊢
      refine (assemble_ok A2 (n + 4) c2 (chL n) w2 (chL_len n) (by omega) HC2.out HFK.out HFF.out 0 (by rw [HP.out.len, HP.out.check])).mono ?_
      rw [HP.out.len]
      rintro e w3 ⟨A3, n3, c3, rfl, hB3, _, hz⟩
      obtain ⟨rfl, hO3⟩ := hz rfl
      have HB3 := Lib.hid (hb2.trans (hB3.mono hb2.size))
      have HI3 : Hid (Ins w3 w3.heap.size A3 n3 c3 (fun i => (progI (chL n))[i]!)) := Lib.hid ⟨hO3.cel, fun i hi => prog_oks _ (by rw [chL_len]; omega) HFK.out i (by rw [HP.out.len]; exact hi)⟩
      clear hO3 hz hb2 hB3 HC2 HO hB
      by_cases hxn : x < n
      · have j1 : (x : Int) < (n : Int) := by omega
        rw [if_pos hxn] at HP
        go_wp2_with fail
        have HK0 : Hid (Below w3.heap.size w3 (w3.alloc (.cells (rowB x) 5))) := Lib.hid ((Below.refl _ _).alloc (Nat.le_refl _) _)
        have HBY := Lib.hid (bytB x hx2 w3)
        show Calls Try.prog 11 #[.slice A3 n3 c3] (w3.alloc (.cells (rowB x) 5)) _
        have hzW : (w3.alloc (.cells (rowB x) 5)).heap.size = w3.heap.size + 1 := by simp
        generalize w3.alloc (.cells (rowB x) 5) = WB at *
        refine (back21_any A3 n3 c3 _ WB (by omega) ((HI3.out.below HK0.out).more HK0.out.size)).mono ?_
        rintro e V1 ⟨A5, c5, rfl, hO5, hV1⟩
        have HI5 : Hid (Ins V1 V1.heap.size A5 n3 c5 (fun i => (progI (chL n))[i]!)) := Lib.hid ⟨hO5.cel, HI3.out.2⟩
        have HV1 := Lib.hid hV1
        clear hO5 hV1
        go_wp2_with fail
        refine (refCheck_any A5 n3 c5 _ V1 HI5.out (by omega)).mono ?_
        rintro e V2 ⟨rfl, hV2⟩
        rw [HP.out.check]
        have HV2 := Lib.hid (HV1.out.trans (hV2.mono HV1.out.size))
        clear hV2 HI5 HV1
        go_wp2_with fail
        refine (back21_any A3 n3 c3 _ V2 (by omega) (((HI3.out.below HK0.out).more HK0.out.size).below HV2.out |>.more HV2.out.size)).mono ?_
        rintro e V3 ⟨A6, c6, rfl, hO6, hV3⟩
        have HI6 : Hid (Ins V3 V3.heap.size A6 n3 c6 (fun i => (progI (chL n))[i]!)) := Lib.hid ⟨hO6.cel, HI3.out.2⟩
        have HV3 := Lib.hid (HV2.out.trans (hV3.mono HV2.out.size))
        clear hO6 hV3 HV2
        go_wp2_with fail
        obtain ⟨sF, hrun⟩ := HP.out.run
        refine (refRun_any A6 n3 c6 _ _ 64 (askF x) V3 2 sF HI6.out (by omega) (by omega) HP.out.alone HP.out.last ((HBY.out.below (by rw [← hzW]; exact HV3.out)).more (by rw [← hzW]; exact HV3.out.size)) (askF_lt x) hrun).mono ?_
        rintro e V4 ⟨A7, c7, rfl, _, hV4⟩
        have HV4 := Lib.hid (HV3.out.trans (hV4.mono HV3.out.size))
        clear hV4 HI6 HV3
        go_wp2_with fail
        refine (awake21_any _).mono ?_
        rintro e V5 ⟨rfl, hV5⟩
        have HV5 := Lib.hid (HV4.out.trans (hV5.mono HV4.out.size))
        have HE := Lib.hid (HB3.out.trans (HK0.out.trans (HV5.out.mono HK0.out.size) |>.mono HB3.out.size))
        clear hV5
        go_wp2
        go_ret
        exact ⟨rfl, HE.out⟩
      · have j1 : ¬ (x : Int) < (n : Int) := by omega
        rw [if_neg hxn] at HP
        go_wp2_with fail
        have HK0 : Hid (Below w3.heap.size w3 (w3.alloc (.cells (rowB x) 5))) := Lib.hid ((Below.refl _ _).alloc (Nat.le_refl _) _)
        have HBY := Lib.hid (bytB x hx2 w3)
        show Calls Try.prog 11 #[.slice A3 n3 c3] (w3.alloc (.cells (rowB x) 5)) _
        have hzW : (w3.alloc (.cells (rowB x) 5)).heap.size = w3.heap.size + 1 := by simp
        generalize w3.alloc (.cells (rowB x) 5) = WB at *
        refine (back21_any A3 n3 c3 _ WB (by omega) ((HI3.out.below HK0.out).more HK0.out.size)).mono ?_
        rintro e V1 ⟨A5, c5, rfl, hO5, hV1⟩
        have HI5 : Hid (Ins V1 V1.heap.size A5 n3 c5 (fun i => (progI (chL n))[i]!)) := Lib.hid ⟨hO5.cel, HI3.out.2⟩
        have HV1 := Lib.hid hV1
        clear hO5 hV1
        go_wp2_with fail
        refine (refCheck_any A5 n3 c5 _ V1 HI5.out (by omega)).mono ?_
        rintro e V2 ⟨rfl, hV2⟩
        rw [HP.out.check]
        have HV2 := Lib.hid (HV1.out.trans (hV2.mono HV1.out.size))
        clear hV2 HI5 HV1
        go_wp2_with fail
        refine (back21_any A3 n3 c3 _ V2 (by omega) (((HI3.out.below HK0.out).more HK0.out.size).below HV2.out |>.more HV2.out.size)).mono ?_
        rintro e V3 ⟨A6, c6, rfl, hO6, hV3⟩
        have HI6 : Hid (Ins V3 V3.heap.size A6 n3 c6 (fun i => (progI (chL n))[i]!)) := Lib.hid ⟨hO6.cel, HI3.out.2⟩
        have HV3 := Lib.hid (HV2.out.trans (hV3.mono HV2.out.size))
        clear hO6 hV3 HV2
        go_wp2_with fail
        obtain ⟨sF, hrun⟩ := HP.out.run
        refine (refRun_any A6 n3 c6 _ _ 64 (askF x) V3 1 sF HI6.out (by omega) (by omega) HP.out.alone HP.out.last ((HBY.out.below (by rw [← hzW]; exact HV3.out)).more (by rw [← hzW]; exact HV3.out.size)) (askF_lt x) hrun).mono ?_
        rintro e V4 ⟨A7, c7, rfl, _, hV4⟩
        have HV4 := Lib.hid (HV3.out.trans (hV4.mono HV3.out.size))
        clear hV4 HI6 HV3
        go_wp2_with fail
        refine (awake21_any _).mono ?_
        rintro e V5 ⟨rfl, hV5⟩
        have HV5 := Lib.hid (HV4.out.trans (hV5.mono HV4.out.size))
        have HE := Lib.hid (HB3.out.trans (HK0.out.trans (HV5.out.mono HK0.out.size) |>.mono HB3.out.size))
        clear hV5
        go_wp2
        go_ret
        exact ⟨rfl, HE.out⟩

namespace asmChainsRow
open Go.ChangeShapes Go.WideShapes Go.ChangeAt Go.RowKit Go.Joins
open Go.ChangeMaps (open_string shut_string)
set_option linter.unusedVariables false
theorem own : ownKnob Try.prog.godebug = none := by kernel_rfl
theorem laidOut : laidOutB Try.prog = true := by kernel_rfl
set_option maxRecDepth 100000 in
theorem lifted (os : Os) (started : os.Started) (H : Type) (enc : TypeId × Value → H) :
    ReturnsInHanded {} Try.checked os 4 .any (Rows.asmChainsSpec.pre6 enc Try.prog Try.f4 Rows.asmChainsRow.domain false) (Rows.asmChainsSpec.post enc Try.prog Try.f4 false true false false) := by
  refine returnsInHanded_of_change (C := Try.checked) own started (by kernel_rfl) Try.func4
    (ChangeSpec.witness6 (enc := enc) (C := Try.checked) false ⟨#[], #[.int .u16 0, .int .u16 0], []⟩ 8 (by kernel_rfl) (by kernel_rfl) (by kernel_rfl) (by kernel_rfl)) ?_
  intro W base args ds gs before hval0 hW hcnd _
  have hval : ∀ (j : Nat) t v, Try.f4.params[j]? = some t → args[j]? = some v → Value.okWide Try.prog W .any base t v := hval0
  have hW' := hW
  obtain ⟨p, q, hA0, hV, rfl, hfz, hnd⟩ := hW
  have hA : DataW.TrodAll enc Try.prog W 0 (fun _ => true) true Try.f4.params.toList args.toList ds p := hA0
  rw [Try.params4] at hA hval
  obtain ⟨v0, vs0, d0, ds0, p0, q0, hargs, rfl, rfl, h0, r0⟩ := trodAll_cons hA
  obtain ⟨v1, vs1, d1, ds1, p1, q1, rfl, rfl, rfl, h1, r1⟩ := trodAll_cons r0
  obtain ⟨rfl, rfl, rfl⟩ := trodAll_nil r1
  obtain rfl : args = #[v0, v1] := by cases args; simp_all
  obtain ⟨rfl, rfl⟩ := trodVars_none hV
  have k0 := h0
  have lt0 : ∀ x ∈ p0, x.block < W.heap.size := by obtain ⟨m, hm⟩ := k0; exact DataW.trod_lt m _ _ _ hm
  have k1 := h1
  have lt1 : ∀ x ∈ p1, x.block < W.heap.size := by obtain ⟨m, hm⟩ := k1; exact DataW.trod_lt m _ _ _ hm
  obtain ⟨a0, rfl, rfl, rfl, w0⟩ := open_int Try.underlying22 (hval 0 22 v0 rfl rfl) h0
  obtain ⟨a1, rfl, rfl, rfl, w1⟩ := open_int Try.underlying22 (hval 1 22 v1 rfl rfl) h1
  clear hA0 hval0
  refine (walk_AsmChains (w0 := W) a0 w0 a1 w1).mono fun e W' ⟨he, bel⟩ => ?_
  subst he
  exact ⟨_, rfl, _, _, _, [], _, [], hW', trodAll_mk1 (shut_bool Try.underlying4 _), (trodAll_cons_mk (Below.trod laidOut (by kernel_rfl) (of_decide_eq_true (by kernel_rfl)) k0 bel lt0) (trodAll_cons_mk (Below.trod laidOut (by kernel_rfl) (of_decide_eq_true (by kernel_rfl)) k1 bel lt1) trodAll_mk0)), rfl, bel.frame _, fun h => by cases h⟩

theorem over_inPlace : (Rows.asmChainsRow.inPlace == Try.prog.inPlace 4) = true := by kernel_rfl
theorem over_unfollowed : (Rows.asmChainsRow.unfollowed == Try.prog.unfollowed 4) = true := by kernel_rfl
theorem over_recurses : (Rows.asmChainsRow.recurses == Try.prog.recurses 4) = true := by kernel_rfl
theorem over_named : (Rows.asmChainsRow.named == Try.prog.varsNamed 4) = true := by kernel_rfl
theorem over_closed : joinedFacts Try.prog 4 Try.f4 Rows.asmChainsSpec Rows.asmChainsRow = true := by
  unfold joinedFacts
  rw [over_inPlace, over_unfollowed, over_recurses, over_named, laidOut]
  kernel_rfl
theorem over_found : Try.prog.funcNamed Rows.asmChainsRow.func = some 4 := by kernel_rfl
theorem over : Rows.asmChainsRow.holds Try.pinned (OpenSpec.ofChange Rows.asmChainsSpec) :=
  OpenClaim.holds_of_wide 4 Try.f4 rfl rfl rfl rfl rfl rfl rfl ⟨rfl, rfl, rfl, rfl, rfl⟩ rfl rfl rfl rfl rfl over_found Try.func4 over_closed
    (of_decide_eq_true (by kernel_rfl)) (by unfold Func.isWrapper; first | (rw [if_pos (by decide +kernel)]; kernel_rfl) | (rw [if_neg (by decide +kernel)]; exact ⟨rfl, rfl⟩))
    (fun os started H enc _ => lifted os started H enc)
end asmChainsRow

theorem asmChains_proved : Rows.AsmChainsSaid := asmChainsRow.over
#print axioms asmChains_proved
end Go.Proofs.Ytiofgaadfbjnoaa
