/-
  The law ActBack holds for every input: there and back an action is the same, by its code and by its text; no two have one code, or one text. No condition.
-/
import Derived.Test.YtjblkkffdhaiiaaDoorRows
import Derived.Test.YtjblkkffdhaiiaaDoorCards
import Derived.Test.YtjblkkffdhaiiaaDoorTie
import Derived.Test.YtjblkkffdhaiiaaDoorBf
import Derived.Test.YtjblkkffdhaiiaaDoorBg
import Derived.WalkKit
import Derived.ProofKit
import Derived.OpenShut
import Derived.ShutString
import Derived.ChangeOld
import Derived.Below
import Derived.Lib.SmallJoins
import Derived.SevenTiedAt
import Derived.Deep.Cut
import Derived.Deep.CutRange
import Derived.Deep.RegionHeld3
import Derived.LaidMore
import Derived.Stop.Joined
namespace Go.Proofs.YtjblkkffdhaiiaaDoor
open Go.RowKit

theorem RowC.drew {w : World} {b : Nat} {cs : Array Value} {T : TypeId} (h : RowC w b cs T) : RowC w.drew b cs T := h
set_option maxRecDepth 100000 in
set_option maxHeartbeats 16000000 in
theorem walk_ActBack {w0 : World} (k1 n1 : Int) (_hk1 : (Lit.int .i64 k1).wf = true) (_hn1 : (Lit.int .i64 n1).wf = true) (k2 n2 : Int) (_hk2 : (Lit.int .i64 k2).wf = true) (_hn2 : (Lit.int .i64 n2).wf = true) (ht : TabP w0) :
    Calls Tryd.prog 5 #[.agg #[.int .i64 k1, .int .i64 n1], .agg #[.int .i64 k2, .int .i64 n2]] w0 fun e w' => e = .returned (.bool true) ∧ Below w0.heap.size w0 w' := by
  have HT := Lib.hid ht
  have c1 : RowC ((w0.alloc (.cells #[.int .i64 k1, .int .i64 n1] 23)).alloc (.cells #[.int .i64 k2, .int .i64 n2] 23)) w0.heap.size #[.int .i64 k1, .int .i64 n1] 23 := (RowC.new _ _ _ _ rfl).alloc _
  have c2 : RowC ((w0.alloc (.cells #[.int .i64 k1, .int .i64 n1] 23)).alloc (.cells #[.int .i64 k2, .int .i64 n2] 23)) (w0.heap.size + 1) #[.int .i64 k2, .int .i64 n2] 23 := RowC.new _ _ _ _ (by simp)
  have hb0 : Below w0.heap.size w0 ((w0.alloc (.cells #[.int .i64 k1, .int .i64 n1] 23)).alloc (.cells #[.int .i64 k2, .int .i64 n2] 23)) := ((Below.refl _ _).alloc (Nat.le_refl _) _).alloc (by simp) _
  have hz : ((w0.alloc (.cells #[.int .i64 k1, .int .i64 n1] 23)).alloc (.cells #[.int .i64 k2, .int .i64 n2] 23)).heap.size = w0.heap.size + 1 + 1 := by simp
  clear ht
  go_enter Tryd.func5, Tryd.ntmps5
  go_upto_region 1 with fail
  generalize (w0.alloc (.cells #[.int .i64 k1, .int .i64 n1] 23)).alloc (.cells #[.int .i64 k2, .int .i64 n2] 23) = W1 at *
  have hS : Hid (∀ W, Below W1.heap.size W1 W → W.cell? ⟨w0.heap.size, 0, none⟩ = some (.int .i64 k1) ∧ W.cell? ⟨w0.heap.size, 1, none⟩ = some (.int .i64 n1) ∧ W.cell? ⟨w0.heap.size + 1, 0, none⟩ = some (.int .i64 k2) ∧ W.cell? ⟨w0.heap.size + 1, 1, none⟩ = some (.int .i64 n2)) := Lib.hid (by
    intro W hW
    have d1 := c1.below hW (by omega)
    have d2 := c2.below hW (by omega)
    exact ⟨d1.cell 0 _ rfl, d1.cell 1 _ rfl, d2.cell 0 _ rfl, d2.cell 1 _ rfl⟩)
  have hk0 : Below W1.heap.size W1 W1.drew := (Below.refl _ W1).drew
  have HB0 := Lib.hid hb0
  have HZ := Lib.hid hz
  clear c1 c2 hb0 hz
  go_cut [5, 6] from 13 to 16 (fun s5 s6 wx => ∃ X Y, s5 = .pointer (some ⟨X, 0, none⟩) ∧ s6 = .pointer (some ⟨Y, 0, none⟩) ∧ RowC wx X #[.int .i64 k1, .int .i64 n1] 25 ∧ RowC wx Y #[.int .i64 k2, .int .i64 n2] 25 ∧ Below w0.heap.size w0 wx)
  case first =>
    go_region_held3 (fun w' => w'.cell? ⟨w0.heap.size, 0, none⟩ = some (.int .i64 k1) ∧ w'.cell? ⟨w0.heap.size, 1, none⟩ = some (.int .i64 n1) ∧ w'.cell? ⟨w0.heap.size + 1, 0, none⟩ = some (.int .i64 k2) ∧ w'.cell? ⟨w0.heap.size + 1, 1, none⟩ = some (.int .i64 n2))
      (first
        | (refine hS.out _ ?_; repeat (first | exact Below.refl _ _ | refine Below.drew ?_ | refine Below.alloc ?_ (by first | exact Nat.le_refl _ | (simp; done) | (simp; omega)) _))
        | assumption
        | go_keep)
      (first
        | (go_at_call 7
           (with_reducible refine (of_exact _ _ _).mono ?_)
           rintro e w2 ⟨rfl, rfl⟩))
    all_goals
      go_wp2_with fail
      go_meet
      refine ⟨_, _, rfl, rfl, ?_, ?_, ?_⟩
      · refine RowC.drew ?_
        repeat (first | (refine RowC.new _ _ _ _ ?_; simp; done) | refine RowC.alloc ?_ _)
      · refine RowC.drew ?_
        repeat (first | (refine RowC.new _ _ _ _ ?_; simp; done) | refine RowC.alloc ?_ _)
      · refine HB0.out.trans (Below.mono ?_ HB0.out.size)
        repeat (first | exact Below.refl _ _ | refine Below.drew ?_ | refine Below.alloc ?_ (by first | exact Nat.le_refl _ | (simp; done) | (simp; omega)) _)
  case rest =>
    obtain ⟨X, Y, rfl, rfl, rX, rY, hbw⟩ := hcut
    have x0 := rX.cell 0 (.int .i64 k1) rfl
    have x1 := rX.cell 1 (.int .i64 n1) rfl
    have y0 := rY.cell 0 (.int .i64 k2) rfl
    have y1 := rY.cell 1 (.int .i64 n2) rfl
    have RX := Lib.hid rX
    have RY := Lib.hid rY
    have HBW := Lib.hid hbw
    clear rX rY hbw hS hk0 HB0 HZ
    rcases right_or k1 n1 with ⟨i, hi, ek1, hm⟩ | hno
    · subst ek1
      have HR1 := Lib.hid fun W => right_ok i hi n1 hm W
      have lX := RX.out.lt
      have lY := RY.out.lt
      have X0 := Lib.hid x0
      have X1 := Lib.hid x1
      have Y0 := Lib.hid y0
      have Y1 := Lib.hid y1
      rcases right_or k2 n2 with ⟨j, hj, ek2, hm2⟩ | hno
      · subst ek2
        have HR2 := Lib.hid fun W => right_ok j hj n2 hm2 W
        go_wp2_with fail
        refine (HR1.out _).mono ?_
        rintro e w2 ⟨rfl, hB2⟩
        have y0 := (hB2.cell (p := ⟨Y, 0, none⟩) lY).trans Y0.out
        have y1 := (hB2.cell (p := ⟨Y, 1, none⟩) lY).trans Y1.out
        have x0 := (hB2.cell (p := ⟨X, 0, none⟩) lX).trans X0.out
        have x1 := (hB2.cell (p := ⟨X, 1, none⟩) lX).trans X1.out
        have HB2 := Lib.hid (HBW.out.trans (hB2.mono HBW.out.size))
        have HX2 := Lib.hid (RX.out.below hB2 lX)
        have HY2 := Lib.hid (RY.out.below hB2 lY)
        clear hB2 X0 X1 Y0 Y1
        go_wp2_with fail
        refine (HR2.out _).mono ?_
        rintro e w3 ⟨rfl, hB3⟩
        have HX3 := Lib.hid (HX2.out.below hB3 HX2.out.lt)
        have HY3 := Lib.hid (HY2.out.below hB3 HY2.out.lt)
        have HB3 := Lib.hid (HB2.out.trans (hB3.mono HB2.out.size))
        clear hB3 HB2 HX2 HY2 x0 x1 y0 y1 lX lY RX RY HBW
        have x0 := HX3.out.cell 0 (.int .i64 ((i : Int) + 1)) rfl
        have x1 := HX3.out.cell 1 (.int .i64 n1) rfl
        have HY3b := HY3
        clear HR1 HR2
        go_wp2_with fail
        refine (code_ok i hi n1 hm _).mono ?_
        rintro e w4 ⟨rfl, hB4⟩
        have HX4 := Lib.hid (HX3.out.below hB4 HX3.out.lt)
        have HY4 := Lib.hid (HY3.out.below hB4 HY3.out.lt)
        have HB4 := Lib.hid (HB3.out.trans (hB4.mono HB3.out.size))
        clear hB4 HB3 HX3 HY3 HY3b x0 x1
        have y0 := HY4.out.cell 0 (.int .i64 ((j : Int) + 1)) rfl
        have y1 := HY4.out.cell 1 (.int .i64 n2) rfl
        go_wp2_with fail
        refine (code_ok j hj n2 hm2 _).mono ?_
        rintro e w5 ⟨rfl, hB5⟩
        have HX5 := Lib.hid (HX4.out.below hB5 HX4.out.lt)
        have HY5 := Lib.hid (HY4.out.below hB5 HY4.out.lt)
        have HB5 := Lib.hid (HB4.out.trans (hB5.mono HB4.out.size))
        clear hB5 HB4 HX4 HY4 y0 y1
        go_wp2_with fail
        refine (from_ok i hi n1 hm _).mono ?_
        rintro e w6 ⟨rfl, hB6⟩
        have HX6 := Lib.hid ((HX5.out.below hB6 HX5.out.lt).alloc (.cells #[.int .i64 ((i : Int) + 1), .int .i64 n1] 25))
        have HY6 := Lib.hid ((HY5.out.below hB6 HY5.out.lt).alloc (.cells #[.int .i64 ((i : Int) + 1), .int .i64 n1] 25))
        have HB6 := Lib.hid ((HB5.out.trans (hB6.mono HB5.out.size)).alloc (by have := HB5.out.size; have := hB6.size; omega) (.cells #[.int .i64 ((i : Int) + 1), .int .i64 n1] 25))
        have HZ6 := Lib.hid (RowC.new w6 #[.int .i64 ((i : Int) + 1), .int .i64 n1] 25 _ rfl)
        clear hB6 HB5 HX5 HY5
        go_wp2_with fail
        generalize hW7 : w6.alloc (.cells #[.int .i64 ((i : Int) + 1), .int .i64 n1] 25) = W7 at *
        have hlt6 : w6.heap.size < W7.heap.size := by rw [← hW7]; simp
        generalize w6.heap.size = Z at *
        have hS7 : Hid (∀ W, Below W7.heap.size W7 W → W.cell? ⟨X, 0, none⟩ = some (.int .i64 ((i : Int) + 1)) ∧ W.cell? ⟨X, 1, none⟩ = some (.int .i64 n1) ∧ W.cell? ⟨Y, 0, none⟩ = some (.int .i64 ((j : Int) + 1)) ∧ W.cell? ⟨Y, 1, none⟩ = some (.int .i64 n2) ∧ W.cell? ⟨Z, 0, none⟩ = some (.int .i64 ((i : Int) + 1)) ∧ W.cell? ⟨Z, 1, none⟩ = some (.int .i64 n1)) := Lib.hid (by
          intro W hW
          have d1 := HX6.out.below hW HX6.out.lt
          have d2 := HY6.out.below hW HY6.out.lt
          have d3 := HZ6.out.below hW HZ6.out.lt
          exact ⟨d1.cell 0 _ rfl, d1.cell 1 _ rfl, d2.cell 0 _ rfl, d2.cell 1 _ rfl, d3.cell 0 _ rfl, d3.cell 1 _ rfl⟩)
        have hk0 : Below W7.heap.size W7 W7.drew := (Below.refl _ W7).drew
        obtain ⟨B, hB⟩ : ∃ B, decide (i = j ∧ n1 = n2) = B := ⟨_, rfl⟩
        have e1 : ((kcA i : Int) + n1 == (kcA j : Int) + n2) = B := by rw [← hB, Bool.eq_iff_iff, beq_iff_eq, decide_eq_true_eq]; exact code_apart hi hj hm hm2
        have e2 : ((txtA i n1).toList == (txtA j n2).toList) = B := by
          rw [← hB, Bool.eq_iff_iff, beq_iff_eq, decide_eq_true_eq, ByteArray.toList_eq, ByteArray.toList_eq]
          exact ⟨fun h => (text_apart hi hj hm hm2).1 (WideShapes.bytes_inj h), fun h => by rw [(text_apart hi hj hm hm2).2 h]⟩
        have e3 : ∀ W, (binOp .eql 25 (.agg #[.int .i64 ((i : Int) + 1), .int .i64 n1]) (.agg #[.int .i64 ((j : Int) + 1), .int .i64 n2])).run Tryd.prog W = .ok (.bool B) W := by
          intro W
          have hij : ((i : Int) + 1 = (j : Int) + 1) ↔ i = j := by omega
          go_simp
          by_cases a : i = j
          · by_cases b : n1 = n2
            · simp [a, b, ← hB]
            · simp [a, b, ← hB]
          · skip
            simp [a, ← hB]
        have e4 : ∀ W, (binOp .eql 25 (.agg #[.int .i64 ((i : Int) + 1), .int .i64 n1]) (.agg #[.int .i64 ((i : Int) + 1), .int .i64 n1])).run Tryd.prog W = .ok (.bool true) W := by
          intro W
          go_simp
        have HTX : Hid (∀ W, Below W7.heap.size W7 W → Calls Tryd.prog 13 #[.agg #[.int .i64 ((i : Int) + 1), .int .i64 n1]] W fun e w' => e = .returned (.string (txtA i n1)) ∧ Below W.heap.size W w') := Lib.hid fun W hW => text_ok i hi n1 hm W (tab_on HT.out (HB6.out.trans (hW.mono HB6.out.size)) (Nat.le_refl _))
        have HTY : Hid (∀ W, Below W7.heap.size W7 W → Calls Tryd.prog 13 #[.agg #[.int .i64 ((j : Int) + 1), .int .i64 n2]] W fun e w' => e = .returned (.string (txtA j n2)) ∧ Below W.heap.size W w') := Lib.hid fun W hW => text_ok j hj n2 hm2 W (tab_on HT.out (HB6.out.trans (hW.mono HB6.out.size)) (Nat.le_refl _))
        clear hlt6 hW7 hB HX6 HY6 HZ6 hm hm2 hi hj
        generalize (i : Int) + 1 = P1 at *
        generalize (j : Int) + 1 = P2 at *
        generalize (kcA i : Int) + n1 = C1 at *
        generalize (kcA j : Int) + n2 = C2 at *
        generalize txtA i n1 = T1 at *
        generalize txtA j n2 = T2 at *
        go_region_held3 (fun w' => w'.cell? ⟨X, 0, none⟩ = some (.int .i64 P1) ∧ w'.cell? ⟨X, 1, none⟩ = some (.int .i64 n1) ∧ w'.cell? ⟨Y, 0, none⟩ = some (.int .i64 P2) ∧ w'.cell? ⟨Y, 1, none⟩ = some (.int .i64 n2) ∧ w'.cell? ⟨Z, 0, none⟩ = some (.int .i64 P1) ∧ w'.cell? ⟨Z, 1, none⟩ = some (.int .i64 n1))
          (first
            | exact hS7.out _ hk3
            | exact hS7.out _ hk2
            | exact hS7.out _ hk1
            | exact hS7.out _ hk0
            | assumption
            | go_keep)
          (first
            | (go_at_call 13
               (with_reducible refine (HTX.out _ hk0).mono ?_)
               rintro e w8 ⟨rfl, hB8⟩
               have hk1 := hk0.trans (hB8.mono hk0.size))
            | (go_at_call 13
               (with_reducible refine (HTY.out _ hk1).mono ?_)
               rintro e w9 ⟨rfl, hB9⟩
               have hk2 := hk1.trans (hB9.mono hk1.size))
            | (go_at_call 14
               refine (awake9_any _).mono ?_
               rintro e w10 ⟨rfl, hB10⟩
               have hk3 := hk2.trans (hB10.mono hk2.size)))
        all_goals go_wp2
        all_goals go_ret
        all_goals exact ⟨rfl, HB6.out.trans (hk3.mono HB6.out.size)⟩
      · have HR2 := Lib.hid fun W => right_no k2 n2 hno W
        go_wp2_with fail
        refine (HR1.out _).mono ?_
        rintro e w2 ⟨rfl, hB2⟩
        have y0 := (hB2.cell (p := ⟨Y, 0, none⟩) lY).trans Y0.out
        have y1 := (hB2.cell (p := ⟨Y, 1, none⟩) lY).trans Y1.out
        have HB2 := Lib.hid (HBW.out.trans (hB2.mono HBW.out.size))
        clear hB2
        go_wp2_with fail
        refine (HR2.out _).mono ?_
        rintro e w3 ⟨rfl, hB3⟩
        have HB3 := Lib.hid (HB2.out.trans (hB3.mono HB2.out.size))
        clear hB3
        go_wp2_with (go_at_call 14; refine (awake9_any _).mono ?_; rintro e w4 ⟨rfl, hB4⟩)
        go_ret
        exact ⟨rfl, HB3.out.trans (hB4.mono HB3.out.size)⟩
    · have HR1 := Lib.hid fun W => right_no k1 n1 hno W
      clear hno
      go_wp2_with fail
      refine (HR1.out _).mono ?_
      rintro e w2 ⟨rfl, hB2⟩
      have HB2 := Lib.hid (HBW.out.trans (hB2.mono HBW.out.size))
      clear hB2
      go_wp2_with (go_at_call 14; refine (awake9_any _).mono ?_; rintro e w4 ⟨rfl, hB4⟩)
      go_ret
      exact ⟨rfl, HB2.out.trans (hB4.mono HB2.out.size)⟩


theorem of_laid {W : World} (h : laidMetH Tryd.prog Rows.actBackRow.laid W) : TabP W := by
  rw [MakeChecks.laidMetH_plain _ _ _ (by kernel_rfl)] at h
  exact tab_of_third h

namespace actBackRow
open Go.ChangeShapes Go.WideShapes Go.ChangeAt Go.RowKit Go.Joins
open Go.ChangeMaps (open_string shut_string)
set_option linter.unusedVariables false
theorem own : ownKnob Tryd.prog.godebug = none := by kernel_rfl
theorem laidOut : laidOutB Tryd.prog = true := by kernel_rfl
set_option maxRecDepth 100000 in
theorem lifted (os : Os) (started : os.Started) (H : Type) (enc : TypeId × Value → H) :
    ReturnsInHanded {} Tryd.checked os 5 .any (fun w args => (Rows.actBackSpec.pre enc Tryd.prog Tryd.f5 [] false w args ∧ laidMetH Tryd.prog Rows.actBackRow.laid w) ∧ sizedMet enc Tryd.prog Tryd.f5 (OpenSpec.ofChange Rows.actBackSpec) false w args) (Rows.actBackSpec.post enc Tryd.prog Tryd.f5 false true false false) := by
  refine returnsInHanded_of_change_and (C := Tryd.checked) (X := fun w _ => laidMetH Tryd.prog Rows.actBackRow.laid w) (fun _ _ _ hh h => h.of_heap hh) own started (by kernel_rfl) Tryd.func5
    (ChangeSpec.witness_shaped (enc := enc) (C := Tryd.checked) (os := os) (X := fun w _ => laidMetH Tryd.prog Rows.actBackRow.laid w) false (World.laidAll Tryd.prog os Rows.actBackRow.laid) #[.agg #[.int .i64 0, .int .i64 0], .agg #[.int .i64 0, .int .i64 0]] 8 (World.laidAll_os _ _ _) (World.shaped_of_ZipB (by kernel_rfl) (by kernel_rfl)) (by kernel_rfl) (by kernel_rfl) (by kernel_rfl) (by rw [MakeChecks.laidMetH_plain _ _ _ (by kernel_rfl)]; exact laidMet_laidAll _ (by kernel_rfl) (by kernel_rfl))) ?_
  intro W base args ds gs before hval0 hW _ _ hL _
  have hval : ∀ (j : Nat) t v, Tryd.f5.params[j]? = some t → args[j]? = some v → Value.okWide Tryd.prog W .any base t v := hval0
  have hW' := hW
  obtain ⟨p, q, hA0, hV, rfl, hfz, hnd⟩ := hW
  have hA : DataW.TrodAll enc Tryd.prog W 0 (fun _ => true) true Tryd.f5.params.toList args.toList ds p := hA0
  rw [Tryd.params5] at hA hval
  obtain ⟨v0, vs0, d0, ds0, p0, q0, hargs, rfl, rfl, h0, r0⟩ := trodAll_cons hA
  obtain ⟨v1, vs1, d1, ds1, p1, q1, rfl, rfl, rfl, h1, r1⟩ := trodAll_cons r0
  obtain ⟨rfl, rfl, rfl⟩ := trodAll_nil r1
  obtain rfl : args = #[v0, v1] := by cases args; simp_all
  obtain ⟨rfl, rfl⟩ := trodVars_none hV
  have k0 := h0
  have lt0 : ∀ x ∈ p0, x.block < W.heap.size := by obtain ⟨m, hm⟩ := k0; exact DataW.trod_lt m _ _ _ hm
  have k1 := h1
  have lt1 : ∀ x ∈ p1, x.block < W.heap.size := by obtain ⟨m, hm⟩ := k1; exact DataW.trod_lt m _ _ _ hm
  obtain ⟨cc00, cc01, yy00, yy01, mm0, rfl, _, _, hyy00, hyy01⟩ := open_agg2 Tryd.underlying23 (by kernel_rfl) (show Tryd.prog.cellsOf 23 = 2 by kernel_rfl) (hval 0 23 v0 rfl rfl) h0
  obtain ⟨n00, ee00, _, u00⟩ := DataW.trod_int Tryd.underlying3 hyy00
  obtain ⟨n01, ee01, _, u01⟩ := DataW.trod_int Tryd.underlying3 hyy01
  simp only [List.cons.injEq, and_true] at ee00 ee01
  subst ee00 ee01
  obtain ⟨cc10, cc11, yy10, yy11, mm1, rfl, _, _, hyy10, hyy11⟩ := open_agg2 Tryd.underlying23 (by kernel_rfl) (show Tryd.prog.cellsOf 23 = 2 by kernel_rfl) (hval 1 23 v1 rfl rfl) h1
  obtain ⟨n10, ee10, _, u10⟩ := DataW.trod_int Tryd.underlying3 hyy10
  obtain ⟨n11, ee11, _, u11⟩ := DataW.trod_int Tryd.underlying3 hyy11
  simp only [List.cons.injEq, and_true] at ee10 ee11
  subst ee10 ee11
  clear hA0 hval0
  refine (walk_ActBack (w0 := W) n00 n01 u00 u01 n10 n11 u10 u11 (of_laid hL)).mono fun e W' ⟨he, bel⟩ => ?_
  subst he
  exact ⟨_, rfl, _, _, _, [], _, [], hW', trodAll_mk1 (shut_bool Tryd.underlying4 _), (trodAll_cons_mk (Below.trod laidOut (by kernel_rfl) (of_decide_eq_true (by kernel_rfl)) k0 bel lt0) (trodAll_cons_mk (Below.trod laidOut (by kernel_rfl) (of_decide_eq_true (by kernel_rfl)) k1 bel lt1) trodAll_mk0)), rfl, bel.frame _, fun h => by cases h⟩

theorem over : Rows.actBackRow.holds Tryd.pinned (OpenSpec.ofChange Rows.actBackSpec) :=
  OpenClaim.holds_of_wide 5 Tryd.f5 rfl rfl rfl rfl rfl rfl rfl ⟨rfl, rfl, rfl, rfl, rfl⟩ rfl rfl rfl rfl rfl (by kernel_rfl) Tryd.func5 (by kernel_rfl)
    (of_decide_eq_true (by kernel_rfl)) (by unfold Func.isWrapper; first | (rw [if_pos (by decide +kernel)]; kernel_rfl) | (rw [if_neg (by decide +kernel)]; exact ⟨rfl, rfl⟩))
    (fun os started H enc _ => lifted os started H enc)
end actBackRow

theorem actBack_proved : Rows.ActBackCardSaid :=
  Claim7.holds_tied_plain_at .later [] [.data, .data, .data] true Rows.actBackCard.stood.harness true
    actBackRow.over (fun _ h => by cases h) (by kernel_rfl) (fun _ h => by cases h) actBack_row_tie rfl ⟨rfl, rfl⟩ (by kernel_rfl) rfl
    (fun f fn hf hfn => by
      obtain rfl : f = 5 := Option.some.inj ((show Tryd.prog.funcNamed "strainer/strainerlaw09.ActBack" = some 5 by kernel_rfl).symm.trans hf) |>.symm
      obtain rfl : fn = Tryd.f5 := (Option.some.inj (Tryd.func5.symm.trans hfn)).symm
      exact ⟨by kernel_rfl, fun j t ht => by
        rw [Tryd.params5] at ht
        have hall : ∀ t ∈ [23, 23], Tryd.prog.wantsStandIn t = false := by
          intro t ht
          simp only [List.mem_cons, List.not_mem_nil, or_false] at ht
          rcases ht with rfl | rfl <;> kernel_rfl
        exact hall t (by simpa using Array.mem_of_getElem? ht)⟩)
    (by kernel_rfl)
#print axioms actBack_proved
end Go.Proofs.YtjblkkffdhaiiaaDoor
