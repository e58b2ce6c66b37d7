/-
  The law ActCodes holds for every input: whether any action may be, its code and its text; and the action of any code.
-/
import Derived.Test.YtjblkkffdhaiiaaDoorRows
import Derived.Test.YtjblkkffdhaiiaaDoorCards
import Derived.Test.YtjblkkffdhaiiaaDoorTie
import Derived.Test.YtjblkkffdhaiiaaDoorBf
import Derived.Test.YtjblkkffdhaiiaaDoorBg
import Derived.Test.YtjblkkffdhaiiaaDoorBk
import Derived.Test.YtjblkkffdhaiiaaDoorBl
import Derived.Test.YtjblkkffdhaiiaaDoorBn
import Derived.WalkKit
import Derived.ProofKit
import Derived.OpenShut
import Derived.ShutString
import Derived.ChangeOld
import Derived.Below
import Derived.Lib.SmallJoins
import Derived.SevenTiedAt
import Derived.LaidMore
import Derived.Stop.Joined
import Derived.Deep.Cut
import Derived.Deep.CutRange
import Derived.Deep.RegionHeld3
namespace Go.Proofs.YtjblkkffdhaiiaaDoor
open Go.RowKit

theorem from_then {c : Int} (h0 : 0 ≤ c) (h1 : c < 4294967296) {e : Ending} (h : FromR c e) :
    (∃ K N : Int, K ≠ 0 ∧ e = .returned (.tuple #[.agg #[.int .i64 K, .int .i64 N], .int .i64 0]) ∧ ∀ e', From9 c e' → e' = .returned (.agg #[.int .i64 K, .int .i64 N])) ∨
    (e = .returned (.tuple #[.agg #[.int .i64 0, .int .i64 0], .int .i64 5]) ∧ ∀ e', From9 c e' → e' = .returned (.agg #[.int .i64 0, .int .i64 0])) := by
  rcases h with ⟨j, hj, hp, hmin, rfl⟩ | ⟨hno, rfl⟩
  · refine .inl ⟨_, _, by omega, rfl, fun e' h' => ?_⟩
    rcases from_same h0 h1 (.inl ⟨j, hj, hp, hmin, rfl⟩) h' with ⟨k, n, _, he, he'⟩ | ⟨he, _⟩
    · rw [he']
      simp at he
      rw [he.1, he.2]
    · simp at he
  · refine .inr ⟨rfl, fun e' h' => ?_⟩
    rcases from_same h0 h1 (.inr ⟨hno, rfl⟩) h' with ⟨k, n, hk, he, _⟩ | ⟨_, he'⟩
    · simp at he
    · exact he'

set_option maxRecDepth 100000 in
set_option maxHeartbeats 16000000 in
theorem codes_at {w0 : World} (k n c cv ev : Int) (h0 : 0 ≤ c) (h1 : c < 4294967296) (HCODE : Hid (∀ W, Calls Tryd.prog 8 #[.agg #[.int .i64 k, .int .i64 n]] W fun e w' => e = .returned (.tuple #[.int .u32 cv, .int .i64 ev]) ∧ Below W.heap.size W w'))
    (hcase : (∃ j : Nat, j < 8 ∧ k = (j : Int) + 1 ∧ mayA j n = true ∧ cv = (kcA j : Int) + n ∧ ev = 0) ∨ ((∀ j : Nat, j < 8 → k = (j : Int) + 1 → mayA j n = false) ∧ cv = 0 ∧ ev = 16)) (ht : TabP w0) :
    Calls Tryd.prog 3 #[.agg #[.int .i64 k, .int .i64 n], .int .u32 c] w0 fun e w' => e = .returned (.bool true) ∧ Below w0.heap.size w0 w' := by
  have HT := Lib.hid ht
  have HCASE := Lib.hid hcase
  have R0 := Lib.hid (RowC.new w0 #[.int .i64 k, .int .i64 n] 23 _ rfl)
  have hb0 : Below w0.heap.size w0 (w0.alloc (.cells #[.int .i64 k, .int .i64 n] 23)) := (Below.refl _ _).alloc (Nat.le_refl _) _
  have HB0 := Lib.hid hb0
  have v1 : IntKind.i64.wrap c = c := by rw [IntKind.wrap_i64]; omega
  clear ht hcase hb0
  go_enter Tryd.func3, Tryd.ntmps3
  go_wp2_with fail
  refine (of_any k n _).mono ?_
  rintro e w1 ⟨rfl, hB1⟩
  have RA1 := Lib.hid ((R0.out.below hB1 R0.out.lt).alloc (.cells #[.int .i64 k, .int .i64 n] 25))
  have RX1 := Lib.hid (RowC.new w1 #[.int .i64 k, .int .i64 n] 25 _ rfl)
  have HB1 := Lib.hid ((HB0.out.trans (hB1.mono HB0.out.size)).alloc (by have := HB0.out.size; have := hB1.size; omega) (.cells #[.int .i64 k, .int .i64 n] 25))
  clear hB1 R0 HB0
  go_wp2_with fail
  refine (HCODE.out _).mono ?_
  rintro e w2 ⟨rfl, hB2⟩
  have RA2 := Lib.hid (RA1.out.below hB2 RA1.out.lt)
  have RX2 := Lib.hid (RX1.out.below hB2 RX1.out.lt)
  have HB2 := Lib.hid (HB1.out.trans (hB2.mono HB1.out.size))
  generalize w1.heap.size = X at *
  clear hB2 RA1 RX1 HB1
  go_wp2_with fail
  refine (from_any c _).mono ?_
  rintro e w3 ⟨hF, hB3⟩
  have hsplit := from_then h0 h1 hF
  clear hF
  have RA3 := Lib.hid (RA2.out.below hB3 RA2.out.lt)
  have RX3 := Lib.hid (RX2.out.below hB3 RX2.out.lt)
  have HB3 := Lib.hid (HB2.out.trans (hB3.mono HB2.out.size))
  clear hB3 RA2 RX2 HB2
  rcases hsplit with ⟨K, N, hK, rfl, h9⟩ | ⟨rfl, h9⟩
  · have H9 := Lib.hid h9
    clear h9
    go_wp2_with fail
    refine (from9_any c h0 h1 _).mono ?_
    rintro e w4 ⟨h9, hB4⟩
    obtain rfl := H9.out e h9
    have RY3 : RowC (w3.alloc (.cells #[.int .i64 K, .int .i64 N] 25)) w3.heap.size #[.int .i64 K, .int .i64 N] 25 := RowC.new _ _ _ _ rfl
    have RY5 := Lib.hid ((RY3.below hB4 RY3.lt).alloc (.cells #[.int .i64 K, .int .i64 N] 23))
    have RZ5 := Lib.hid (RowC.new w4 #[.int .i64 K, .int .i64 N] 23 _ rfl)
    have RA3' := RA3.out.alloc (.cells #[.int .i64 K, .int .i64 N] 25)
    have RX3' := RX3.out.alloc (.cells #[.int .i64 K, .int .i64 N] 25)
    have HB3' := HB3.out.alloc HB3.out.size (.cells #[.int .i64 K, .int .i64 N] 25)
    have RA5 := Lib.hid ((RA3'.below hB4 RA3'.lt).alloc (.cells #[.int .i64 K, .int .i64 N] 23))
    have RX5 := Lib.hid ((RX3'.below hB4 RX3'.lt).alloc (.cells #[.int .i64 K, .int .i64 N] 23))
    have HB5' := HB3'.trans (hB4.mono HB3'.size)
    have HB5 := Lib.hid (HB5'.alloc HB5'.size (.cells #[.int .i64 K, .int .i64 N] 23))
    clear h9 H9 RY3 RA3' RX3' HB3' HB5' hB4 RA3 RX3 HB3
    go_upto_region 5 with fail
    generalize w4.alloc (.cells #[.int .i64 K, .int .i64 N] 23) = W5 at *
    generalize w3.heap.size = Y at *
    generalize w4.heap.size = Z at *
    have hk0 : Below W5.heap.size W5 W5.drew := (Below.refl _ W5).drew
    have hS : Hid (∀ W, Below W5.heap.size W5 W → W.cell? ⟨Y, 0, none⟩ = some (.int .i64 K) ∧ W.cell? ⟨Y, 1, none⟩ = some (.int .i64 N) ∧ W.cell? ⟨Z, 0, none⟩ = some (.int .i64 K) ∧ W.cell? ⟨Z, 1, none⟩ = some (.int .i64 N)) := Lib.hid fun W hW => ⟨(RY5.out.below hW RY5.out.lt).cell 0 _ rfl, (RY5.out.below hW RY5.out.lt).cell 1 _ rfl, (RZ5.out.below hW RZ5.out.lt).cell 0 _ rfl, (RZ5.out.below hW RZ5.out.lt).cell 1 _ rfl⟩
    have HOF := Lib.hid fun W => of_any K N W
    have e5 : ∀ W, (binOp .neq 25 (.agg #[.int .i64 K, .int .i64 N]) (.agg #[.int .i64 K, .int .i64 N])).run Tryd.prog W = .ok (.bool false) W := by
      intro W
      go_simp
    have k1 : (K == 0) = false := by simpa using hK
    have k2 : (K != 0) = true := by simp [bne, k1]
    clear RY5 RZ5
    go_cut [46] from 26 to 45 (fun s46 wx => s46 = .bool false ∧ RowC wx w0.heap.size #[.int .i64 k, .int .i64 n] 23 ∧ RowC wx X #[.int .i64 k, .int .i64 n] 25 ∧ Below w0.heap.size w0 wx)
    case first =>
      obtain ⟨p0, p1, p2, p3⟩ := hS.out W5 (Below.refl _ _)
      first
        | (go_region_with (go_at_call 7; refine (HOF.out _).mono ?_; rintro e w6 ⟨rfl, hB6⟩; have hk1 := hk0.trans (hB6.mono hk0.size); obtain ⟨q0, q1, q2, q3⟩ := hS.out _ hk1))
        | fail "no way"
      all_goals
        go_wp2_with fail
        go_meet
        exact ⟨rfl, RA5.out.below hk1 RA5.out.lt, RX5.out.below hk1 RX5.out.lt, HB5.out.trans (hk1.mono HB5.out.size)⟩
    case rest =>
      obtain ⟨rfl, ra, rx, hbw⟩ := hcut
      clear hS hk0 RA5 RX5 HB5 HOF e5
      rcases HCASE.out with ⟨j, hj, ek, hm, ecv, eev⟩ | ⟨hno, ecv, eev⟩
      · subst ek ecv eev
        have hbd := may_bd hm
        have HR9 := Lib.hid fun W => right9_ok j hj n hm W
        have a0 := ra.cell 0 (.int .i64 ((j : Int) + 1)) rfl
        have a1 := ra.cell 1 (.int .i64 n) rfl
        have RA := Lib.hid ra
        have RX := Lib.hid rx
        have HBW := Lib.hid hbw
        clear ra rx hbw
        go_wp2_with fail
        refine (HR9.out _).mono ?_
        rintro e w7 ⟨rfl, hB7⟩
        have RA7 := Lib.hid (RA.out.below hB7 RA.out.lt)
        have RX7 := Lib.hid (RX.out.below hB7 RX.out.lt)
        have HB7 := Lib.hid (HBW.out.trans (hB7.mono HBW.out.size))
        clear hB7 RA RX HBW a0 a1
        go_upto_region 9 with fail
        have hk0 : Below w7.heap.size w7 w7.drew := (Below.refl _ w7).drew
        have hS : Hid (∀ W, Below w7.heap.size w7 W → W.cell? ⟨w0.heap.size, 0, none⟩ = some (.int .i64 ((j : Int) + 1)) ∧ W.cell? ⟨w0.heap.size, 1, none⟩ = some (.int .i64 n) ∧ W.cell? ⟨X, 0, none⟩ = some (.int .i64 ((j : Int) + 1)) ∧ W.cell? ⟨X, 1, none⟩ = some (.int .i64 n)) := Lib.hid fun W hW => ⟨(RA7.out.below hW RA7.out.lt).cell 0 _ rfl, (RA7.out.below hW RA7.out.lt).cell 1 _ rfl, (RX7.out.below hW RX7.out.lt).cell 0 _ rfl, (RX7.out.below hW RX7.out.lt).cell 1 _ rfl⟩
        have HR := Lib.hid fun W => right_ok j hj n hm W
        have HC9 := Lib.hid fun W => code9_at j hj n hbd.1 hbd.2 W
        have HTX : Hid (∀ W, Below w7.heap.size w7 W → Calls Tryd.prog 13 #[.agg #[.int .i64 ((j : Int) + 1), .int .i64 n]] W fun e w' => e = .returned (.string (txtA j n)) ∧ Below W.heap.size W w') := Lib.hid fun W hW => text_ok j hj n hm W (tab_on HT.out (HB7.out.trans (hW.mono HB7.out.size)) (Nat.le_refl _))
        have HT9 := Lib.hid fun W => text9_ok j hj n hm W
        have hcl := code_lt hm
        have v2 : IntKind.i64.wrap ((kcA j : Int) + n) = (kcA j : Int) + n := by rw [IntKind.wrap_i64]; omega
        clear RA7 RX7 HCODE HCASE HT hcl hbd hm hj HR9
        generalize (j : Int) + 1 = P1 at *
        generalize (kcA j : Int) + n = C1 at *
        generalize txtA j n = T1 at *
        go_region_held3 (fun w' => w'.cell? ⟨w0.heap.size, 0, none⟩ = some (.int .i64 P1) ∧ w'.cell? ⟨w0.heap.size, 1, none⟩ = some (.int .i64 n) ∧ w'.cell? ⟨X, 0, none⟩ = some (.int .i64 P1) ∧ w'.cell? ⟨X, 1, none⟩ = some (.int .i64 n))
          (first | exact hS.out _ hk5 | exact hS.out _ hk4 | exact hS.out _ hk3 | exact hS.out _ hk2 | exact hS.out _ hk1 | exact hS.out _ hk0 | assumption | go_keep)
          (first
            | (go_at_call 12
               (with_reducible refine (HR.out _).mono ?_)
               rintro e w8 ⟨rfl, hB8⟩
               have hk1 := hk0.trans (hB8.mono hk0.size))
            | (go_at_call 15
               (with_reducible refine (HC9.out _).mono ?_)
               rintro e w9 ⟨rfl, hB9⟩
               have hk2 := hk1.trans (hB9.mono hk1.size))
            | (go_at_call 13
               (with_reducible refine (HTX.out _ hk2).mono ?_)
               rintro e w10 ⟨rfl, hB10⟩
               have hk3 := hk2.trans (hB10.mono hk2.size))
            | (go_at_call 16
               (with_reducible refine (HT9.out _).mono ?_)
               rintro e w11 ⟨rfl, hB11⟩
               have hk4 := hk3.trans (hB11.mono hk3.size))
            | (go_at_call 14
               refine (awake9_any _).mono ?_
               rintro e w12 ⟨rfl, hB12⟩
               have hk5 := hk4.trans (hB12.mono hk4.size)))
        all_goals go_wp2
        all_goals go_ret
        all_goals exact ⟨rfl, HB7.out.trans (hk5.mono HB7.out.size)⟩
      · subst ecv eev
        have HR9 := Lib.hid fun W => right9_no k n hno W
        have HRN := Lib.hid fun W => right_no k n hno W
        have HTN := Lib.hid fun W => text_no k n hno W
        have a0 := ra.cell 0 (.int .i64 k) rfl
        have a1 := ra.cell 1 (.int .i64 n) rfl
        have RX := Lib.hid rx
        have HBW := Lib.hid hbw
        clear ra rx hbw hno HCODE HCASE HT
        go_wp2_with fail
        refine (HR9.out _).mono ?_
        rintro e w7 ⟨rfl, hB7⟩
        have RX7 := Lib.hid (RX.out.below hB7 RX.out.lt)
        have HB7 := Lib.hid (HBW.out.trans (hB7.mono HBW.out.size))
        clear hB7 RX HBW a0 a1
        have x0 := RX7.out.cell 0 (.int .i64 k) rfl
        have x1 := RX7.out.cell 1 (.int .i64 n) rfl
        go_wp2_with fail
        refine (HRN.out _).mono ?_
        rintro e w8 ⟨rfl, hB8⟩
        have RX8 := Lib.hid (RX7.out.below hB8 RX7.out.lt)
        have HB8 := Lib.hid (HB7.out.trans (hB8.mono HB7.out.size))
        clear hB8 HB7 RX7 x0 x1
        have x0 := RX8.out.cell 0 (.int .i64 k) rfl
        have x1 := RX8.out.cell 1 (.int .i64 n) rfl
        go_wp2_with fail
        refine (HTN.out _).mono ?_
        rintro e w9 ⟨rfl, hB9⟩
        have HB9 := Lib.hid (HB8.out.trans (hB9.mono HB8.out.size))
        clear hB9 HB8 RX8 x0 x1
        go_wp2_with fail
        refine (awake9_any _).mono ?_
        rintro e w10 ⟨rfl, hB10⟩
        have HBX := Lib.hid (HB9.out.trans (hB10.mono HB9.out.size))
        clear hB10
        go_wp2
        go_ret
        exact ⟨rfl, HBX.out⟩
  · have H9 := Lib.hid h9
    clear h9
    go_wp2_with fail
    refine (from9_any c h0 h1 _).mono ?_
    rintro e w4 ⟨h9, hB4⟩
    obtain rfl := H9.out e h9
    have RY3 : RowC (w3.alloc (.cells #[.int .i64 0, .int .i64 0] 25)) w3.heap.size #[.int .i64 0, .int .i64 0] 25 := RowC.new _ _ _ _ rfl
    have RY5 := Lib.hid ((RY3.below hB4 RY3.lt).alloc (.cells #[.int .i64 0, .int .i64 0] 23))
    have RZ5 := Lib.hid (RowC.new w4 #[.int .i64 0, .int .i64 0] 23 _ rfl)
    have RA3' := RA3.out.alloc (.cells #[.int .i64 0, .int .i64 0] 25)
    have RX3' := RX3.out.alloc (.cells #[.int .i64 0, .int .i64 0] 25)
    have HB3' := HB3.out.alloc HB3.out.size (.cells #[.int .i64 0, .int .i64 0] 25)
    have RA5 := Lib.hid ((RA3'.below hB4 RA3'.lt).alloc (.cells #[.int .i64 0, .int .i64 0] 23))
    have RX5 := Lib.hid ((RX3'.below hB4 RX3'.lt).alloc (.cells #[.int .i64 0, .int .i64 0] 23))
    have HB5' := HB3'.trans (hB4.mono HB3'.size)
    have HB5 := Lib.hid (HB5'.alloc HB5'.size (.cells #[.int .i64 0, .int .i64 0] 23))
    clear h9 H9 RY3 RA3' RX3' HB3' HB5' hB4 RA3 RX3 HB3
    go_upto_region 5 with fail
    generalize w4.alloc (.cells #[.int .i64 0, .int .i64 0] 23) = W5 at *
    generalize w3.heap.size = Y at *
    generalize w4.heap.size = Z at *
    have hk0 : Below W5.heap.size W5 W5.drew := (Below.refl _ W5).drew
    have hS : Hid (∀ W, Below W5.heap.size W5 W → W.cell? ⟨Y, 0, none⟩ = some (.int .i64 0) ∧ W.cell? ⟨Y, 1, none⟩ = some (.int .i64 0) ∧ W.cell? ⟨Z, 0, none⟩ = some (.int .i64 0) ∧ W.cell? ⟨Z, 1, none⟩ = some (.int .i64 0)) := Lib.hid fun W hW => ⟨(RY5.out.below hW RY5.out.lt).cell 0 _ rfl, (RY5.out.below hW RY5.out.lt).cell 1 _ rfl, (RZ5.out.below hW RZ5.out.lt).cell 0 _ rfl, (RZ5.out.below hW RZ5.out.lt).cell 1 _ rfl⟩
    have HOF := Lib.hid fun W => of_any 0 0 W
    have e5 : ∀ W, (binOp .neq 25 (.agg #[.int .i64 0, .int .i64 0]) (.agg #[.int .i64 0, .int .i64 0])).run Tryd.prog W = .ok (.bool false) W := by
      intro W
      go_simp
    clear RY5 RZ5
    go_cut [46] from 26 to 45 (fun s46 wx => s46 = .bool false ∧ RowC wx w0.heap.size #[.int .i64 k, .int .i64 n] 23 ∧ RowC wx X #[.int .i64 k, .int .i64 n] 25 ∧ Below w0.heap.size w0 wx)
    case first =>
      go_region_held3 (fun w' => w'.cell? ⟨Y, 0, none⟩ = some (.int .i64 0) ∧ w'.cell? ⟨Y, 1, none⟩ = some (.int .i64 0) ∧ w'.cell? ⟨Z, 0, none⟩ = some (.int .i64 0) ∧ w'.cell? ⟨Z, 1, none⟩ = some (.int .i64 0))
        (first | exact hS.out _ hk1 | exact hS.out _ hk0 | assumption | go_keep)
        (first
          | (go_at_call 7
             (with_reducible refine (HOF.out _).mono ?_)
             rintro e w6 ⟨rfl, hB6⟩
             have hk1 := hk0.trans (hB6.mono hk0.size)))
      all_goals
        go_wp2_with fail
        go_meet
        exact ⟨rfl, RA5.out.below hk1 RA5.out.lt, RX5.out.below hk1 RX5.out.lt, HB5.out.trans (hk1.mono HB5.out.size)⟩
    case rest =>
      obtain ⟨rfl, ra, rx, hbw⟩ := hcut
      clear hS hk0 RA5 RX5 HB5 HOF e5
      rcases HCASE.out with ⟨j, hj, ek, hm, ecv, eev⟩ | ⟨hno, ecv, eev⟩
      · subst ek ecv eev
        have hbd := may_bd hm
        have HR9 := Lib.hid fun W => right9_ok j hj n hm W
        have a0 := ra.cell 0 (.int .i64 ((j : Int) + 1)) rfl
        have a1 := ra.cell 1 (.int .i64 n) rfl
        have RA := Lib.hid ra
        have RX := Lib.hid rx
        have HBW := Lib.hid hbw
        clear ra rx hbw
        go_wp2_with fail
        refine (HR9.out _).mono ?_
        rintro e w7 ⟨rfl, hB7⟩
        have RA7 := Lib.hid (RA.out.below hB7 RA.out.lt)
        have RX7 := Lib.hid (RX.out.below hB7 RX.out.lt)
        have HB7 := Lib.hid (HBW.out.trans (hB7.mono HBW.out.size))
        clear hB7 RA RX HBW a0 a1
        go_upto_region 9 with fail
        have hk0 : Below w7.heap.size w7 w7.drew := (Below.refl _ w7).drew
        have hS : Hid (∀ W, Below w7.heap.size w7 W → W.cell? ⟨w0.heap.size, 0, none⟩ = some (.int .i64 ((j : Int) + 1)) ∧ W.cell? ⟨w0.heap.size, 1, none⟩ = some (.int .i64 n) ∧ W.cell? ⟨X, 0, none⟩ = some (.int .i64 ((j : Int) + 1)) ∧ W.cell? ⟨X, 1, none⟩ = some (.int .i64 n)) := Lib.hid fun W hW => ⟨(RA7.out.below hW RA7.out.lt).cell 0 _ rfl, (RA7.out.below hW RA7.out.lt).cell 1 _ rfl, (RX7.out.below hW RX7.out.lt).cell 0 _ rfl, (RX7.out.below hW RX7.out.lt).cell 1 _ rfl⟩
        have HR := Lib.hid fun W => right_ok j hj n hm W
        have HC9 := Lib.hid fun W => code9_at j hj n hbd.1 hbd.2 W
        have HTX : Hid (∀ W, Below w7.heap.size w7 W → Calls Tryd.prog 13 #[.agg #[.int .i64 ((j : Int) + 1), .int .i64 n]] W fun e w' => e = .returned (.string (txtA j n)) ∧ Below W.heap.size W w') := Lib.hid fun W hW => text_ok j hj n hm W (tab_on HT.out (HB7.out.trans (hW.mono HB7.out.size)) (Nat.le_refl _))
        have HT9 := Lib.hid fun W => text9_ok j hj n hm W
        have hcl := code_lt hm
        have v2 : IntKind.i64.wrap ((kcA j : Int) + n) = (kcA j : Int) + n := by rw [IntKind.wrap_i64]; omega
        clear RA7 RX7 HCODE HCASE HT hcl hbd hm hj HR9
        generalize (j : Int) + 1 = P1 at *
        generalize (kcA j : Int) + n = C1 at *
        generalize txtA j n = T1 at *
        go_region_held3 (fun w' => w'.cell? ⟨w0.heap.size, 0, none⟩ = some (.int .i64 P1) ∧ w'.cell? ⟨w0.heap.size, 1, none⟩ = some (.int .i64 n) ∧ w'.cell? ⟨X, 0, none⟩ = some (.int .i64 P1) ∧ w'.cell? ⟨X, 1, none⟩ = some (.int .i64 n))
          (first | exact hS.out _ hk5 | exact hS.out _ hk4 | exact hS.out _ hk3 | exact hS.out _ hk2 | exact hS.out _ hk1 | exact hS.out _ hk0 | assumption | go_keep)
          (first
            | (go_at_call 12
               (with_reducible refine (HR.out _).mono ?_)
               rintro e w8 ⟨rfl, hB8⟩
               have hk1 := hk0.trans (hB8.mono hk0.size))
            | (go_at_call 15
               (with_reducible refine (HC9.out _).mono ?_)
               rintro e w9 ⟨rfl, hB9⟩
               have hk2 := hk1.trans (hB9.mono hk1.size))
            | (go_at_call 13
               (with_reducible refine (HTX.out _ hk2).mono ?_)
               rintro e w10 ⟨rfl, hB10⟩
               have hk3 := hk2.trans (hB10.mono hk2.size))
            | (go_at_call 16
               (with_reducible refine (HT9.out _).mono ?_)
               rintro e w11 ⟨rfl, hB11⟩
               have hk4 := hk3.trans (hB11.mono hk3.size))
            | (go_at_call 14
               refine (awake9_any _).mono ?_
               rintro e w12 ⟨rfl, hB12⟩
               have hk5 := hk4.trans (hB12.mono hk4.size)))
        all_goals go_wp2
        all_goals go_ret
        all_goals exact ⟨rfl, HB7.out.trans (hk5.mono HB7.out.size)⟩
      · subst ecv eev
        have HR9 := Lib.hid fun W => right9_no k n hno W
        have HRN := Lib.hid fun W => right_no k n hno W
        have HTN := Lib.hid fun W => text_no k n hno W
        have a0 := ra.cell 0 (.int .i64 k) rfl
        have a1 := ra.cell 1 (.int .i64 n) rfl
        have RX := Lib.hid rx
        have HBW := Lib.hid hbw
        clear ra rx hbw hno HCODE HCASE HT
        go_wp2_with fail
        refine (HR9.out _).mono ?_
        rintro e w7 ⟨rfl, hB7⟩
        have RX7 := Lib.hid (RX.out.below hB7 RX.out.lt)
        have HB7 := Lib.hid (HBW.out.trans (hB7.mono HBW.out.size))
        clear hB7 RX HBW a0 a1
        have x0 := RX7.out.cell 0 (.int .i64 k) rfl
        have x1 := RX7.out.cell 1 (.int .i64 n) rfl
        go_wp2_with fail
        refine (HRN.out _).mono ?_
        rintro e w8 ⟨rfl, hB8⟩
        have RX8 := Lib.hid (RX7.out.below hB8 RX7.out.lt)
        have HB8 := Lib.hid (HB7.out.trans (hB8.mono HB7.out.size))
        clear hB8 HB7 RX7 x0 x1
        have x0 := RX8.out.cell 0 (.int .i64 k) rfl
        have x1 := RX8.out.cell 1 (.int .i64 n) rfl
        go_wp2_with fail
        refine (HTN.out _).mono ?_
        rintro e w9 ⟨rfl, hB9⟩
        have HB9 := Lib.hid (HB8.out.trans (hB9.mono HB8.out.size))
        clear hB9 HB8 RX8 x0 x1
        go_wp2_with fail
        refine (awake9_any _).mono ?_
        rintro e w10 ⟨rfl, hB10⟩
        have HBX := Lib.hid (HB9.out.trans (hB10.mono HB9.out.size))
        clear hB10
        go_wp2
        go_ret
        exact ⟨rfl, HBX.out⟩

theorem walk_ActCodes {w0 : World} (k n : Int) (_hk : (Lit.int .i64 k).wf = true) (_hn : (Lit.int .i64 n).wf = true) (c : Int) (hc : (Lit.int .u32 c).wf = true) (ht : TabP w0) :
    Calls Tryd.prog 3 #[.agg #[.int .i64 k, .int .i64 n], .int .u32 c] w0 fun e w' => e = .returned (.bool true) ∧ Below w0.heap.size w0 w' := by
  simp [Lit.wf, IntKind.min, IntKind.max, IntKind.signed, IntKind.bits] at hc
  rcases right_or k n with ⟨j, hj, rfl, hm⟩ | hno
  · exact codes_at _ n c _ _ hc.1 (by omega) (Lib.hid fun W => code_ok j hj n hm W) (.inl ⟨j, hj, rfl, hm, rfl, rfl⟩) ht
  · exact codes_at k n c _ _ hc.1 (by omega) (Lib.hid fun W => code_no k n hno W) (.inr ⟨hno, rfl, rfl⟩) ht

theorem of_laid {W : World} (h : laidMetH Tryd.prog Rows.actCodesRow.laid W) : TabP W := by
  rw [MakeChecks.laidMetH_plain _ _ _ (by kernel_rfl)] at h
  exact tab_of_third h

namespace actCodesRow
open Go.ChangeShapes Go.WideShapes Go.ChangeAt Go.RowKit Go.Joins
open Go.ChangeMaps (open_string shut_string)
set_option linter.unusedVariables false
theorem own : ownKnob Tryd.prog.godebug = none := by kernel_rfl
theorem laidOut : laidOutB Tryd.prog = true := by kernel_rfl
set_option maxRecDepth 100000 in
theorem lifted (os : Os) (started : os.Started) (H : Type) (enc : TypeId × Value → H) :
    ReturnsInHanded {} Tryd.checked os 3 .any (fun w args => (Rows.actCodesSpec.pre enc Tryd.prog Tryd.f3 [] false w args ∧ laidMetH Tryd.prog Rows.actCodesRow.laid w) ∧ sizedMet enc Tryd.prog Tryd.f3 (OpenSpec.ofChange Rows.actCodesSpec) false w args) (Rows.actCodesSpec.post enc Tryd.prog Tryd.f3 false true false false) := by
  refine returnsInHanded_of_change_and (C := Tryd.checked) (X := fun w _ => laidMetH Tryd.prog Rows.actCodesRow.laid w) (fun _ _ _ hh h => h.of_heap hh) own started (by kernel_rfl) Tryd.func3
    (ChangeSpec.witness_shaped (enc := enc) (C := Tryd.checked) (os := os) (X := fun w _ => laidMetH Tryd.prog Rows.actCodesRow.laid w) false (World.laidAll Tryd.prog os Rows.actCodesRow.laid) #[.agg #[.int .i64 0, .int .i64 0], .int .u32 0] 8 (World.laidAll_os _ _ _) (World.shaped_of_ZipB (by kernel_rfl) (by kernel_rfl)) (by kernel_rfl) (by kernel_rfl) (by kernel_rfl) (by rw [MakeChecks.laidMetH_plain _ _ _ (by kernel_rfl)]; exact laidMet_laidAll _ (by kernel_rfl) (by kernel_rfl))) ?_
  intro W base args ds gs before hval0 hW _ _ hL _
  have hval : ∀ (j : Nat) t v, Tryd.f3.params[j]? = some t → args[j]? = some v → Value.okWide Tryd.prog W .any base t v := hval0
  have hW' := hW
  obtain ⟨p, q, hA0, hV, rfl, hfz, hnd⟩ := hW
  have hA : DataW.TrodAll enc Tryd.prog W 0 (fun _ => true) true Tryd.f3.params.toList args.toList ds p := hA0
  rw [Tryd.params3] at hA hval
  obtain ⟨v0, vs0, d0, ds0, p0, q0, hargs, rfl, rfl, h0, r0⟩ := trodAll_cons hA
  obtain ⟨v1, vs1, d1, ds1, p1, q1, rfl, rfl, rfl, h1, r1⟩ := trodAll_cons r0
  obtain ⟨rfl, rfl, rfl⟩ := trodAll_nil r1
  obtain rfl : args = #[v0, v1] := by cases args; simp_all
  obtain ⟨rfl, rfl⟩ := trodVars_none hV
  have k0 := h0
  have lt0 : ∀ x ∈ p0, x.block < W.heap.size := by obtain ⟨m, hm⟩ := k0; exact DataW.trod_lt m _ _ _ hm
  have k1 := h1
  have lt1 : ∀ x ∈ p1, x.block < W.heap.size := by obtain ⟨m, hm⟩ := k1; exact DataW.trod_lt m _ _ _ hm
  obtain ⟨cc00, cc01, yy00, yy01, mm0, rfl, _, _, hyy00, hyy01⟩ := open_agg2 Tryd.underlying23 (by kernel_rfl) (show Tryd.prog.cellsOf 23 = 2 by kernel_rfl) (hval 0 23 v0 rfl rfl) h0
  obtain ⟨n00, ee00, _, u00⟩ := DataW.trod_int Tryd.underlying3 hyy00
  obtain ⟨n01, ee01, _, u01⟩ := DataW.trod_int Tryd.underlying3 hyy01
  simp only [List.cons.injEq, and_true] at ee00 ee01
  subst ee00 ee01
  obtain ⟨a1, rfl, rfl, rfl, w1⟩ := open_int Tryd.underlying24 (hval 1 24 v1 rfl rfl) h1
  clear hA0 hval0
  refine (walk_ActCodes (w0 := W) n00 n01 u00 u01 a1 w1 (of_laid hL)).mono fun e W' ⟨he, bel⟩ => ?_
  subst he
  exact ⟨_, rfl, _, _, _, [], _, [], hW', trodAll_mk1 (shut_bool Tryd.underlying4 _), (trodAll_cons_mk (Below.trod laidOut (by kernel_rfl) (of_decide_eq_true (by kernel_rfl)) k0 bel lt0) (trodAll_cons_mk (Below.trod laidOut (by kernel_rfl) (of_decide_eq_true (by kernel_rfl)) k1 bel lt1) trodAll_mk0)), rfl, bel.frame _, fun h => by cases h⟩

theorem over : Rows.actCodesRow.holds Tryd.pinned (OpenSpec.ofChange Rows.actCodesSpec) :=
  OpenClaim.holds_of_wide 3 Tryd.f3 rfl rfl rfl rfl rfl rfl rfl ⟨rfl, rfl, rfl, rfl, rfl⟩ rfl rfl rfl rfl rfl (by kernel_rfl) Tryd.func3 (by kernel_rfl)
    (of_decide_eq_true (by kernel_rfl)) (by unfold Func.isWrapper; first | (rw [if_pos (by decide +kernel)]; kernel_rfl) | (rw [if_neg (by decide +kernel)]; exact ⟨rfl, rfl⟩))
    (fun os started H enc _ => lifted os started H enc)
end actCodesRow

theorem actCodes_proved : Rows.ActCodesCardSaid :=
  Claim7.holds_tied_plain_at .later [] [.data, .data, .data] true Rows.actCodesCard.stood.harness true
    actCodesRow.over (fun _ h => by cases h) (by kernel_rfl) (fun _ h => by cases h) actCodes_row_tie rfl ⟨rfl, rfl⟩ (by kernel_rfl) rfl
    (fun f fn hf hfn => by
      obtain rfl : f = 3 := Option.some.inj ((show Tryd.prog.funcNamed "strainer/strainerlaw09.ActCodes" = some 3 by kernel_rfl).symm.trans hf) |>.symm
      obtain rfl : fn = Tryd.f3 := (Option.some.inj (Tryd.func3.symm.trans hfn)).symm
      exact ⟨by kernel_rfl, fun j t ht => by
        rw [Tryd.params3] at ht
        have hall : ∀ t ∈ [23, 24], Tryd.prog.wantsStandIn t = false := by
          intro t ht
          simp only [List.mem_cons, List.not_mem_nil, or_false] at ht
          rcases ht with rfl | rfl <;> kernel_rfl
        exact hall t (by simpa using Array.mem_of_getElem? ht)⟩)
    (by kernel_rfl)
#print axioms actCodes_proved
end Go.Proofs.YtjblkkffdhaiiaaDoor
