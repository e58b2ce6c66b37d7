/-
  The law FlowPrunes holds for every input: the pruned program does the same, with as many steps; pruned again it is the same; its longest way is as long. No condition.
-/
import Derived.Test.YtjblkkffdhaiiabFq
import Derived.Test.YtjblkkffdhaiiabIf
import Derived.Test.YtjblkkffdhaiiabDe
import Derived.Test.YtjblkkffdhaiiabRows
import Derived.Below
import Derived.ChangeOld
import Derived.ShutString
import Derived.Lib.SmallJoins
import Derived.OpenShut
import Derived.ProofKit
import Derived.WalkKit
import Derived.Deep.QuietTactic
import Derived.BigQuiet
import Derived.Deep.RegionWith
import Derived.Deep.RegionLaw
namespace Go.Proofs.Ytjblkkffdhaiiab
open Go.RowKit

theorem vrun_errL (A : Option Addr) (n c : Nat) (g : Nat → IV) (A2 : Option Addr) (n2 c2 : Nat) (w : World) (y : Nat) (hr : Ins w w.heap.size A n c g) (hy : (checkF g n).2 = y) (he : y ≠ 0) :
    Calls Try.prog 17 #[.slice A n c, .slice A2 n2 c2] w fun e w' => e = .returned (.tuple #[.agg #[.int .u32 0, .int .i64 0, .slice none 0 0], .int .i64 (y : Int)]) ∧ Below w.heap.size w w' := by
  subst hy
  exact vrun_err A n c g A2 n2 c2 w hr he
theorem vrun_okL (A : Option Addr) (n c : Nat) (g : Nat → IV) (A2 : Option Addr) (c2 : Nat) (f : Nat → Nat) (w : World) (val : Nat) (sF : VS) (hr : Ins w w.heap.size A n c g) (he : (checkF g n).2 = 0)
    (hby : Byt w w.heap.size A2 64 c2 f) (hf : ∀ i, f i < 256) (hrun : runF g f n zst = some (val, sF)) :
    Calls Try.prog 17 #[.slice A n c, .slice A2 64 c2] w fun e w' => ∃ A' c', e = .returned (.tuple #[.agg #[.int .u32 val, .int .i64 sF.st, .slice A' sF.ld.length c'], .int .i64 0]) ∧ OwnC w' w.heap.size 3 1 A' sF.ld.length c' (lcell sF.ld) ∧ Below w.heap.size w w' :=
  vrun_ok A n c g A2 c2 f w val sF hr he hby hf hrun

/-- What is read of the end of a run. -/
def OutB (W : World) (blk val st n : Nat) (A : Option Addr) (c : Nat) : Prop := RowAt W blk #[.int .u32 val, .int .i64 st, .slice A n c] 42
theorem OutB.new (w : World) (val st n : Nat) (A : Option Addr) (c : Nat) : OutB (w.alloc (.cells #[.int .u32 val, .int .i64 st, .slice A n c] 42)) w.heap.size val st n A c := heap_alloc_last w _

set_option maxRecDepth 100000 in
set_option maxHeartbeats 8000000 in
theorem walk_FlowPrunes {w0 : World} (A : Option Addr) (n c : Nat) (g : Nat → IV) (hr : Ins w0 w0.heap.size A n c g) (f : Nat → Nat) (hf : ∀ i, i < 64 → f i < 256) :
    Calls Try.prog 5 #[.slice A n c, .agg (arrB 64 f)] w0 fun e w' => e = .returned (.bool true) ∧ Below w0.heap.size w0 w' := by
  have hmx := hr.1.le
  unfold maxLen at hmx
  obtain ⟨m1, m2⟩ := hmx
  obtain ⟨D, hD⟩ : ∃ D, arrB 64 f = D := ⟨_, rfl⟩
  have hb0 : Below w0.heap.size w0 (w0.alloc (.cells D 39)) := (Below.refl _ _).alloc (Nat.le_refl _) _
  have ha0 : ArB (w0.alloc (.cells D 39)) w0.heap.size 64 39 f := by rw [← hD]; exact heap_alloc_last w0 _
  have hby0 : Byt (w0.alloc (.cells D 39)) (w0.alloc (.cells D 39)).heap.size (some ⟨w0.heap.size, 0, none⟩) 64 64 (lim f) := byt_lim (ha0.byt (by decide) ha0.lt hf)
  have hin0 : Ins (w0.alloc (.cells D 39)) (w0.alloc (.cells D 39)).heap.size A n c g := (hr.below hb0).more hb0.size
  have hsl := sl_all
  rw [hD]
  by_cases h1 : 200 < n
  · have hbb := Lib.hid hb0
    clear hr hD ha0 hby0 hin0
    go_enter Try.func5, Try.ntmps5
    go_wp2
    go_ret
    exact ⟨rfl, hbb.out⟩
  · have HB0 := Lib.hid hb0
    have HY0 := Lib.hid hby0
    have HI0 := Lib.hid hin0
    have hs1 : w0.heap.size < (w0.alloc (.cells D 39)).heap.size := by simp
    clear hr hD ha0 hby0 hin0 hb0
    go_enter Try.func5, Try.ntmps5
    go_wp2_with fail
    generalize w0.alloc (.cells D 39) = W1 at *
    refine (all7_any A n c g _ (by omega) HI0.out).mono ?_
    rintro e w2 ⟨A2, c2, rfl, hown2, hB2⟩
    have hi2 : Ins w2 w2.heap.size A2 n c2 g := ⟨hown2.cel, HI0.out.2⟩
    have HI2 := Lib.hid hi2
    have HB2 := Lib.hid (HB0.out.trans (hB2.mono HB0.out.size))
    have HY2 := Lib.hid ((HY0.out.below hB2).more hB2.size)
    have hs2 := hB2.size
    clear hown2 hB2 hi2
    by_cases hce : (checkF g n).2 = 0
    · obtain ⟨c1, c2', c3, c4⟩ := checkF_facts hce
      obtain ⟨val, sF, hrun⟩ := run_total (lim f) g n c3 c4 n zst c1 (by show n - 0 ≤ n; omega)
      obtain ⟨b1, b2, b3, b4⟩ := run_bounds (lim f) g n c3 c4 n zst val sF c1 hrun (Nat.le_refl _) (fun k hk => by cases hk)
      obtain ⟨sG, hrun2, hst, hld⟩ := prn_run hce (lim f) hrun
      obtain ⟨P, N, hP, hN, hN0, hNn, hc2, hok2, hway, hcN, hpN, hlng⟩ := prn_facts hce HI0.out.2
      rw [hP, hN] at hrun2
      have HRUN := Lib.hid hrun
      have HRUN2 := Lib.hid hrun2
      have HCE := Lib.hid hce
      have HC2 := Lib.hid hc2
      have HST := Lib.hid hst
      have HLD := Lib.hid (congrArg List.length hld)
      have HP := Lib.hid (And.intro hP hN)
      have HOK2 := Lib.hid hok2
      have HCN := Lib.hid hcN
      have HPN := Lib.hid hpN
      have HLNG := Lib.hid hlng
      have b3' : sF.st ≤ n := by have : zst.st = 0 := rfl; omega
      clear hrun hce b4 c3 c4 b2 b3 hrun2 hst hld hP hN hc2 hok2 hway hcN hpN hlng
      go_wp2_with fail
      refine (vrun_okL _ n _ g _ 64 (lim f) _ val sF HI2.out HCE.out HY2.out (lim_lt f hf) HRUN.out).mono ?_
      rintro e w3 ⟨A3, c3, rfl, hown3, hB3⟩
      generalize hL1 : sF.ld.length = L1 at *
      generalize hS1 : sF.st = S1 at *
      have ho3 := OutB.new w3 val S1 L1 A3 c3
      have hb3 : Below w0.heap.size w0 (w3.alloc (.cells #[.int .u32 val, .int .i64 S1, .slice A3 L1 c3] 42)) := (HB2.out.trans (hB3.mono HB2.out.size)).alloc (by have := HB2.out.size; have := hB3.size; omega) _
      have hi3 : Ins (w3.alloc (.cells #[.int .u32 val, .int .i64 S1, .slice A3 L1 c3] 42)) (w3.alloc (.cells #[.int .u32 val, .int .i64 S1, .slice A3 L1 c3] 42)).heap.size A2 n c2 g := (HI2.out.below (hB3.alloc hB3.size _)).more (by have := hB3.size; simp; omega)
      have hy3 : Byt (w3.alloc (.cells #[.int .u32 val, .int .i64 S1, .slice A3 L1 c3] 42)) (w3.alloc (.cells #[.int .u32 val, .int .i64 S1, .slice A3 L1 c3] 42)).heap.size (some ⟨w0.heap.size, 0, none⟩) 64 64 (lim f) := (HY2.out.below (hB3.alloc hB3.size _)).more (by have := hB3.size; simp; omega)
      have HO3 := Lib.hid ho3
      have HB3 := Lib.hid hb3
      have HI3 := Lib.hid hi3
      have HY3 := Lib.hid hy3
      clear ho3 hb3 hi3 hy3 hown3 hB3
      go_wp2_with fail
      generalize (w3.alloc (.cells #[.int .u32 val, .int .i64 S1, .slice A3 L1 c3] 42)) = W3 at *
      generalize w3.heap.size = B3 at *
      refine (prune_ok _ n _ g _ HI3.out HCE.out).mono ?_
      rw [HP.out.1, HP.out.2]
      rintro e w4 ⟨A4, c4, rfl, hown4, hB4⟩
      have HI4 : Hid (Ins w4 w4.heap.size A4 N c4 P) := Lib.hid ⟨hown4.cel, HOK2.out⟩
      have HIx4 := Lib.hid ((HI3.out.below hB4).more hB4.size)
      have HO4 := Lib.hid (show OutB w4 B3 val S1 L1 A3 c3 from (RowAt.below HO3.out hB4 (RowAt.lt HO3.out)))
      have HB4 := Lib.hid (HB3.out.trans (hB4.mono HB3.out.size))
      have HY4 := Lib.hid ((HY3.out.below hB4).more hB4.size)
      clear hown4 hB4
      go_wp2_with fail
      refine (vrun_okL _ N _ P _ 64 (lim f) _ val sG HI4.out HC2.out HY4.out (lim_lt f hf) HRUN2.out).mono ?_
      rw [HLD.out, HST.out]
      rintro e w5 ⟨A5, c5, rfl, hown5, hB5⟩
      have hz5 := hB5.size
      have hb5 : Below w0.heap.size w0 (w5.alloc (.cells #[.int .u32 val, .int .i64 S1, .slice A5 L1 c5] 42)) := (HB4.out.trans (hB5.mono HB4.out.size)).alloc (by have := HB4.out.size; omega) _
      have hi5 : Ins (w5.alloc (.cells #[.int .u32 val, .int .i64 S1, .slice A5 L1 c5] 42)) (w5.alloc (.cells #[.int .u32 val, .int .i64 S1, .slice A5 L1 c5] 42)).heap.size A4 N c4 P := (HI4.out.below (hB5.alloc hB5.size _)).more (by simp; omega)
      have hix5 : Ins (w5.alloc (.cells #[.int .u32 val, .int .i64 S1, .slice A5 L1 c5] 42)) (w5.alloc (.cells #[.int .u32 val, .int .i64 S1, .slice A5 L1 c5] 42)).heap.size A2 n c2 g := (HIx4.out.below (hB5.alloc hB5.size _)).more (by simp; omega)
      have ho5 : OutB (w5.alloc (.cells #[.int .u32 val, .int .i64 S1, .slice A5 L1 c5] 42)) B3 val S1 L1 A3 c3 := RowAt.below HO4.out (hB5.alloc hB5.size _) (RowAt.lt HO4.out)
      have hp5 := OutB.new w5 val S1 L1 A5 c5
      have HB5 := Lib.hid hb5
      have HI5 := Lib.hid hi5
      have HIx5 := Lib.hid hix5
      have x0 := RowAt.cell ho5 0 _ rfl
      have x1 := RowAt.cell ho5 1 _ rfl
      have x2 := RowAt.cell ho5 2 _ rfl
      have y0 := RowAt.cell hp5 0 _ rfl
      have y1 := RowAt.cell hp5 1 _ rfl
      have y2 := RowAt.cell hp5 2 _ rfl
      have t1 : ((val : Int) != (val : Int)) = false := by simp
      have t2 : ((S1 : Int) != (S1 : Int)) = false := by simp
      have t3 : ((L1 : Int) != (L1 : Int)) = false := by simp
      have t4 : decide ((N : Int) > (n : Int)) = false := decide_eq_false (by omega)
      have t5 : decide (n < N) = false := decide_eq_false (by omega)
      clear hb5 hi5 hix5 ho5 hp5 hown5 hB5 hL1 hS1
      go_wp2_with fail
      generalize (w5.alloc (.cells #[.int .u32 val, .int .i64 S1, .slice A5 L1 c5] 42)) = W5 at *
      generalize w5.heap.size = B5 at *
      clear x0 x1 x2 y0 y1 y2 t1 t2 t3 t4 t5 hz5
      refine (prune_ok _ N _ P _ HI5.out HC2.out).mono ?_
      rw [HCN.out]
      rintro e w6 ⟨A6, c6, rfl, hown6, hB6⟩
      have HI6 : Hid (Ins w6 w6.heap.size A6 N c6 P) := Lib.hid ⟨(hown6.congr fun i hi => by unfold icell; rw [HPN.out _ (by omega)]).cel, HOK2.out⟩
      have HIp6 := Lib.hid ((HI5.out.below hB6).more hB6.size)
      have HIx6 := Lib.hid ((HIx5.out.below hB6).more hB6.size)
      have HB6 := Lib.hid (HB5.out.trans (hB6.mono HB5.out.size))
      clear hown6 hB6
      go_wp2
      go_loopw [12] (fun i wr => ∃ k : Nat, k ≤ N ∧ i = .int .i64 k ∧ Below w6.heap.size w6 wr) (fun i _ => N - (intOf i).toNat)
      case atStart => exact ⟨0, Nat.zero_le _, rfl, Below.refl _ _⟩
      case round =>
        obtain ⟨k, hk, rfl, hBr⟩ := hrel
        by_cases hlt : k < N
        · obtain ⟨b1', off1, rfl, hbl1, hc1⟩ := (HI6.out.below hBr).at_ (by omega)
          obtain ⟨b2', off2, rfl, hbl2, hc2⟩ := (HIp6.out.below hBr).at_ (by omega)
          obtain ⟨p0, p1, p2, p3⟩ := hc1 k hlt
          obtain ⟨q0, q1, q2, q3⟩ := hc2 k hlt
          have i1 : (0 : Int) ≤ (k : Int) := by omega
          have i2 : (k : Int) < (N : Int) := by omega
          have HBr := Lib.hid hBr
          clear hc1 hc2 hBr
          generalize P k = v at *
          go_wp2
          go_quiet (fail)
          go_wp2
          exact ⟨⟨k + 1, by omega, by go_num, bdn HBr.out _⟩, by simp [intOf]; omega⟩
        · obtain rfl : k = N := by omega
          go_wp2_with fail
          refine (longest_ok _ k _ P _ ((HIp6.out.below hBr).more hBr.size) HC2.out).mono ?_
          rw [HLNG.out]
          rintro e w7 ⟨rfl, hB7⟩
          go_wp2_with fail
          refine (longest_ok _ n _ g _ ((((HIx6.out.below hBr).more hBr.size).below hB7).more hB7.size) HCE.out).mono ?_
          rintro e w8 ⟨rfl, hB8⟩
          have HBB := Lib.hid (((HB6.out.trans (hBr.mono HB6.out.size)).trans (hB7.mono (Nat.le_trans HB6.out.size hBr.size))).trans (hB8.mono (Nat.le_trans HB6.out.size (Nat.le_trans hBr.size hB7.size))))
          generalize lng g n = L2 at *
          clear hB8 hB7 hBr
          go_wp2_with (go_at_call 14; refine (awake7_any _).mono ?_; rintro e w9 ⟨rfl, hB9⟩)
          go_ret
          exact ⟨rfl, HBB.out.trans (hB9.mono HBB.out.size)⟩
    · obtain ⟨y, hy⟩ : ∃ y, (checkF g n).2 = y := ⟨_, rfl⟩
      rw [hy] at hce
      have hyz : ((y : Int) != 0) = true := by simp; omega
      have HV := Lib.hid fun (W : World) (h : Ins W W.heap.size A2 n c2 g) => vrun_errL A2 n c2 g (some ⟨w0.heap.size, 0, none⟩) 64 64 W y h hy hce
      clear hy hce
      go_wp2_with fail
      refine (HV.out _ HI2.out).mono ?_
      rintro e w3 ⟨rfl, hB3⟩
      have HB3 := Lib.hid ((HB2.out.trans (hB3.mono HB2.out.size)).alloc (by have := HB2.out.size; have := hB3.size; omega) (.cells #[.int .u32 0, .int .i64 0, .slice none 0 0] 42))
      clear hB3
      go_wp2_with (go_at_call 14; refine (awake7_any _).mono ?_; rintro e w9 ⟨rfl, hB9⟩)
      go_ret
      exact ⟨rfl, HB3.out.trans (hB9.mono HB3.out.size)⟩

namespace flowPrunesRow
open Go.ChangeShapes Go.WideShapes Go.ChangeAt Go.RowKit Go.Joins
open Go.ChangeMaps (open_string shut_string)
set_option linter.unusedVariables false
theorem own : ownKnob Try.prog.godebug = none := by kernel_rfl
theorem laidOut : laidOutB Try.prog = true := by kernel_rfl
set_option maxRecDepth 100000 in
theorem lifted (os : Os) (started : os.Started) (H : Type) (enc : TypeId × Value → H) :
    ReturnsInHanded {} Try.checked os 5 .any (Rows.flowPrunesSpec.pre6 enc Try.prog Try.f5 Rows.flowPrunesRow.domain false) (Rows.flowPrunesSpec.post enc Try.prog Try.f5 false true false false) := by
  refine returnsInHanded_of_change (C := Try.checked) own started (by kernel_rfl) Try.func5
    (ChangeSpec.witness6 (enc := enc) (C := Try.checked) false ⟨#[], #[.slice none 0 0, .agg #[.int .u8 0, .int .u8 0, .int .u8 0, .int .u8 0, .int .u8 0, .int .u8 0, .int .u8 0, .int .u8 0, .int .u8 0, .int .u8 0, .int .u8 0, .int .u8 0, .int .u8 0, .int .u8 0, .int .u8 0, .int .u8 0, .int .u8 0, .int .u8 0, .int .u8 0, .int .u8 0, .int .u8 0, .int .u8 0, .int .u8 0, .int .u8 0, .int .u8 0, .int .u8 0, .int .u8 0, .int .u8 0, .int .u8 0, .int .u8 0, .int .u8 0, .int .u8 0, .int .u8 0, .int .u8 0, .int .u8 0, .int .u8 0, .int .u8 0, .int .u8 0, .int .u8 0, .int .u8 0, .int .u8 0, .int .u8 0, .int .u8 0, .int .u8 0, .int .u8 0, .int .u8 0, .int .u8 0, .int .u8 0, .int .u8 0, .int .u8 0, .int .u8 0, .int .u8 0, .int .u8 0, .int .u8 0, .int .u8 0, .int .u8 0, .int .u8 0, .int .u8 0, .int .u8 0, .int .u8 0, .int .u8 0, .int .u8 0, .int .u8 0, .int .u8 0]], []⟩ 8 (by kernel_rfl) (by kernel_rfl) (by kernel_rfl) (by kernel_rfl)) ?_
  intro W base args ds gs before hval0 hW hcnd _
  have hval : ∀ (j : Nat) t v, Try.f5.params[j]? = some t → args[j]? = some v → Value.okWide Try.prog W .any base t v := hval0
  have hW' := hW
  obtain ⟨p, q, hA0, hV, rfl, hfz, hnd⟩ := hW
  have hA : DataW.TrodAll enc Try.prog W 0 (fun _ => true) true Try.f5.params.toList args.toList ds p := hA0
  rw [Try.params5] at hA hval
  obtain ⟨v0, vs0, d0, ds0, p0, q0, hargs, rfl, rfl, h0, r0⟩ := trodAll_cons hA
  obtain ⟨v1, vs1, d1, ds1, p1, q1, rfl, rfl, rfl, h1, r1⟩ := trodAll_cons r0
  obtain ⟨rfl, rfl, rfl⟩ := trodAll_nil r1
  obtain rfl : args = #[v0, v1] := by cases args; simp_all
  obtain ⟨rfl, rfl⟩ := trodVars_none hV
  have k0 := h0
  have lt0 : ∀ x ∈ p0, x.block < W.heap.size := by obtain ⟨m, hm⟩ := k0; exact DataW.trod_lt m _ _ _ hm
  have k1 := h1
  have lt1 : ∀ x ∈ p1, x.block < W.heap.size := by obtain ⟨m, hm⟩ := k1; exact DataW.trod_lt m _ _ _ hm
  obtain ⟨a0, len0, cap0, rfl⟩ := okWide_slice Try.underlying33 (hval 0 33 v0 rfl rfl)
  obtain ⟨g0, w0⟩ := open_ins h0
  obtain ⟨f1, rfl, w1⟩ := open_arrB (hval 1 39 v1 rfl rfl) h1
  clear hA0 hval0
  refine (walk_FlowPrunes (w0 := W) a0 len0 cap0 g0 w0 f1 w1).mono fun e W' ⟨he, bel⟩ => ?_
  subst he
  exact ⟨_, rfl, _, _, _, [], _, [], hW', trodAll_mk1 (shut_bool Try.underlying4 _), (trodAll_cons_mk (Below.trod laidOut (by kernel_rfl) (of_decide_eq_true (by kernel_rfl)) k0 bel lt0) (trodAll_cons_mk (Below.trod laidOut (by kernel_rfl) (of_decide_eq_true (by kernel_rfl)) k1 bel lt1) trodAll_mk0)), rfl, bel.frame _, fun h => by cases h⟩

theorem over : Rows.flowPrunesRow.holds Try.pinned (OpenSpec.ofChange Rows.flowPrunesSpec) :=
  OpenClaim.holds_of_wide 5 Try.f5 rfl rfl rfl rfl rfl rfl rfl ⟨rfl, rfl, rfl, rfl, rfl⟩ rfl rfl rfl rfl rfl (by kernel_rfl) Try.func5 (by kernel_rfl)
    (of_decide_eq_true (by kernel_rfl)) (by unfold Func.isWrapper; first | (rw [if_pos (by decide +kernel)]; kernel_rfl) | (rw [if_neg (by decide +kernel)]; exact ⟨rfl, rfl⟩))
    (fun os started H enc _ => lifted os started H enc)
end flowPrunesRow

theorem flowPrunes_proved : Rows.FlowPrunesSaid := flowPrunesRow.over
#print axioms flowPrunes_proved
end Go.Proofs.Ytjblkkffdhaiiab
