/-
  The built-in table is the chapter's, row by row, and may be; each call makes it anew.
-/
import Derived.Test.YtlninlempefjcaaDoorRows
import Derived.Test.YtlninlempefjcaaDoorCards
import Derived.Test.YtlninlempefjcaaDoorTie
import Derived.Test.YtlninlempefjcaaDoorUe
import Derived.Test.YtlninlempefjcaaDoorSi
import Derived.Test.YtlninlempefjcaaDoorSm
import Derived.Test.YtlninlempefjcaaDoorSn
import Derived.Test.YtlninlempefjcaaDoorSr
import Derived.Test.YtlninlempefjcaaDoorUh
import Derived.WalkKit
import Derived.ProofKit
import Derived.OpenShut
import Derived.ShutString
import Derived.ChangeOld
import Derived.Below
import Derived.Lib.SmallJoins
import Derived.SevenTiedAt
import Derived.LaidMore
import Derived.MakeChecks
import Derived.Lay
import Derived.Stop.Joined
import Derived.Deep.Cut
import Derived.RegionTactic
import Derived.BigQuiet
import Derived.Deep.QuietTactic
import Derived.Deep.RegionHeld3
import Derived.Deep.CutRange
namespace Go.Proofs.YtlninlempefjcaaDoor
open Go.RowKit
set_option linter.unusedVariables false

set_option maxRecDepth 100000 in
theorem eqA5 (a0 a1 a2 a3 a4 : Int) (w : World) : (Op.equalIn 9999 34 (.agg #[.int .i64 a0, .int .i64 a1, .int .i64 a2, .int .i64 a3, .int .i64 a4]) (.agg #[.int .i64 a0, .int .i64 a1, .int .i64 a2, .int .i64 a3, .int .i64 a4])).run Tryd.prog w = .ok true w := by
  have u3 := Tryd.underlying3
  rw [show (9999 : Nat) = 9998 + 1 from rfl, Op.equalIn]
  simp only [Sem.run_bind, run_underlying Tryd.underlying34, Result.andThen_ok]
  simp only [Std.Legacy.Range.forIn_eq_forIn_range', Std.Legacy.Range.size, Nat.sub_zero, Nat.add_sub_cancel, Nat.div_one, List.range'_succ, List.range'_zero, List.forIn_cons, List.forIn_nil]
  go_simp
theorem neqRow (nm : ByteArray) (a0 a1 a2 a3 a4 a5 a6 : Int) (W : World) : (binOp .neq 36 (.agg #[.string nm, .int .i64 a0, .int .i64 a1, .int .i64 a2, .int .i64 a3, .int .i64 a4, .int .i64 a5, .int .i64 a6]) (.agg #[.string nm, .int .i64 a0, .int .i64 a1, .int .i64 a2, .int .i64 a3, .int .i64 a4, .int .i64 a5, .int .i64 a6])).run Tryd.prog W = .ok (.bool false) W := by
  have e5 := eqA5 a0 a1 a2 a3 a4
  go_simp

set_option maxHeartbeats 4000000 in
theorem builtin_own (w : World) : Calls Tryd.prog 14 #[] w fun e w' => ∃ A c, e = .returned (.slice A 83 c) ∧ OwnC w' w.heap.size 36 8 A 83 c (rcell tblT) ∧ Below w.heap.size w w' := by
  obtain ⟨W1, hW1⟩ : ∃ W, w.alloc (.cells upA 36) = W := ⟨_, rfl⟩
  obtain ⟨W2, hW2⟩ : ∃ W, W1.alloc (.cells frA 36) = W := ⟨_, rfl⟩
  obtain ⟨W3, hW3⟩ : ∃ W, W2.alloc (.cells #[.slice (some ⟨w.heap.size, 0, none⟩) 31 31, .slice (some ⟨W1.heap.size, 0, none⟩) 52 52] 27) = W := ⟨_, rfl⟩
  have s1 : W1.heap.size = w.heap.size + 1 := by rw [← hW1]; simp
  have s2 : W2.heap.size = w.heap.size + 2 := by rw [← hW2, ← hW1]; simp
  have s3 : W3.heap.size = w.heap.size + 3 := by rw [← hW3, ← hW2, ← hW1]; simp
  have b1 : Below w.heap.size w W1 := by rw [← hW1]; exact (Below.refl _ _).alloc (Nat.le_refl _) _
  have b12 : Below W1.heap.size W1 W3 := by rw [← hW3, ← hW2]; exact ((Below.refl _ _).alloc (Nat.le_refl _) _).alloc (by simp) _
  have b23 : Below W2.heap.size W2 W3 := by rw [← hW3]; exact (Below.refl _ _).alloc (Nat.le_refl _) _
  have b3 : Below w.heap.size w W3 := b1.trans (b12.mono b1.size)
  have c1 : Cel W3 W3.heap.size 8 (some ⟨w.heap.size, 0, none⟩) 31 31 upF := by
    have h : Cel W1 W1.heap.size 8 (some ⟨w.heap.size, 0, none⟩) 31 31 upF := by rw [← hW1]; exact cel_row w upA _ 31 _ _ rfl (by simp) up_size (by omega)
    exact (h.below b12).more (by omega)
  have c2 : Cel W3 W3.heap.size 8 (some ⟨W1.heap.size, 0, none⟩) 52 52 frF := by
    have h : Cel W2 W2.heap.size 8 (some ⟨W1.heap.size, 0, none⟩) 52 52 frF := by rw [← hW2]; exact cel_row W1 frA _ 52 _ _ rfl (by simp) fr_size (by omega)
    exact (h.below b23).more (by omega)
  have rr : RowC W3 W2.heap.size #[.slice (some ⟨w.heap.size, 0, none⟩) 31 31, .slice (some ⟨W1.heap.size, 0, none⟩) 52 52] 27 := by rw [← hW3]; exact RowC.new _ _ _ _ rfl
  have HC := Lib.hid (concat_any W2.heap.size _ 31 31 upF _ 52 52 frF (by omega) (by omega) W3 (rr.cell 0 _ rfl) (rr.cell 1 _ rfl) c1 c2 (fun i hi => getD_one up_one up_size i hi) (fun i hi => getD_one fr_one fr_size i hi))
  have HU := Lib.hid (upToL_any w)
  have HF := Lib.hid (fromM_any W1)
  have HW1 := Lib.hid hW1
  have HW2 := Lib.hid hW2
  have HW3 := Lib.hid hW3
  have HB3 := Lib.hid b3
  clear hW1 hW2 hW3 s1 s2 s3 b1 b12 b23 b3 c1 c2 rr
  go_enter Tryd.func14, Tryd.ntmps14
  go_wp2_with fail
  refine HU.out.mono ?_
  rintro e w1 ⟨rfl, rfl⟩
  rw [HW1.out]
  go_wp2_with fail
  refine HF.out.mono ?_
  rintro e w2 ⟨rfl, rfl⟩
  rw [HW2.out]
  go_wp2_with fail
  rw [HW3.out]
  refine HC.out.mono ?_
  rintro e w4 ⟨A', c', rfl, hown, hB4⟩
  have HOWN := Lib.hid hown
  have HB4 := Lib.hid (HB3.out.trans (hB4.mono HB3.out.size))
  clear hown hB4
  go_wp2
  go_ret
  refine ⟨A', c', rfl, (HOWN.out.lower HB3.out.size).congr fun q hq => ?_, HB4.out⟩
  have hr := tbl_at (q / 8) (by omega)
  have hm : q % 8 < 8 := Nat.mod_lt _ (by decide)
  have e : rcell tblT q = ((srow (tblT (q / 8))).toList).getD (q % 8) undef := by
    unfold rcell
    rw [Array.getD_eq_getD_getElem?, List.getD_eq_getElem?_getD, Array.getElem?_toList]
  rw [e, ← hr]
  have hc : q % 8 = 0 ∨ q % 8 = 1 ∨ q % 8 = 2 ∨ q % 8 = 3 ∨ q % 8 = 4 ∨ q % 8 = 5 ∨ q % 8 = 6 ∨ q % 8 = 7 := by omega
  have hq8 : q = q / 8 * 8 + q % 8 := by omega
  rcases hc with h | h | h | h | h | h | h | h <;> rw [h] at hq8 ⊢ <;> (conv => lhs; rw [hq8]) <;> rfl
theorem tbl_right : RightP tblT 83 0 0 := .inr (.inr ⟨by omega, fun j hj => tbl_AllOk j hj, rfl, rfl⟩)
theorem of_laid {W : World} (h : laidMetH Tryd.prog Rows.systabBuiltinRow.laid W) : True := trivial
set_option maxRecDepth 100000 in
set_option maxHeartbeats 16000000 in
theorem walk_SystabBuiltin {w0 : World} (a' : Int) (ha : (Lit.int .u8 a').wf = true) (_ : True) :
    Calls Tryd.prog 4 #[.int .u8 a'] w0 fun e w' => e = .returned (.bool true) ∧ Below w0.heap.size w0 w' := by
  simp [Lit.wf, IntKind.min, IntKind.max, IntKind.signed, IntKind.bits] at ha
  obtain ⟨a, rfl⟩ := Int.eq_ofNat_of_zero_le ha.1
  have HBO := Lib.hid fun W => builtin_own W
  have HRB := Lib.hid fun W => refBuiltin_any W
  have HAW := Lib.hid fun W => awake11_any W
  go_enter Tryd.func4, Tryd.ntmps4
  go_wp2_with fail
  refine (HBO.out _).mono ?_
  rintro e w1 ⟨A1, c1, rfl, hown, hB1⟩
  obtain ⟨b1, rfl, hb10, hb1l, hcl⟩ := own_atz hown (by decide)
  have hfz : ∀ i, w1.frozen? ⟨b1, i, none⟩ = false := fun i => by
    obtain ⟨_, h2⟩ := hown
    rcases h2 with ⟨e, h0⟩ | ⟨g, cap, cur, e, _, hh, _⟩
    · cases h0
    · injection e with e1 e2 e3
      injection e1 with e1
      injection e1 with e1
      subst e1
      have hh' : w1.heap[b1]? = some (.cells cur 36) := hh
      simp [World.frozen?, hh']
  have ht1 := own_tbl hown
  go_wp2_with fail
  refine (HRB.out _).mono ?_
  rintro e w2 ⟨rfl, hw2⟩
  have ht2 : Tb w2 w1.heap.size 0 83 tblT := by rw [hw2]; exact rb_Tb w1
  have hb2 : Below w1.heap.size w1 w2 := by rw [hw2]; exact (Below.refl _ _).alloc (Nat.le_refl _) _
  have HT1 := Lib.hid (ht1.below hb2 (Nat.le_refl _))
  have HT2 := Lib.hid ht2
  have HCL : Hid (∀ i, i < 83 * 8 → w2.cell? ⟨b1, i, none⟩ = some (rcell tblT i)) := Lib.hid fun i hi => (hb2.cell (p := ⟨b1, i, none⟩) hb1l).trans (hcl i hi)
  have HFZ : Hid (∀ W, Below w2.heap.size w2 W → ∀ i, W.frozen? ⟨b1, i, none⟩ = false) := Lib.hid fun W hW i => by
    rw [World.frozen?_of_block (a := ⟨b1, i, none⟩) ((hW.block b1 (Nat.lt_of_lt_of_le hb1l hb2.size)).trans (hb2.block b1 hb1l))]
    exact hfz i
  have HB2 := Lib.hid (hB1.trans (hb2.mono hB1.size))
  have HBL : Hid (w0.heap.size ≤ b1 ∧ b1 < w1.heap.size ∧ w1.heap.size < w2.heap.size) := Lib.hid ⟨hb10, hb1l, ht2.1⟩
  clear hown hcl hfz ht1 hw2 ht2 hb2 hB1 hb10 hb1l HRB
  generalize w1.heap.size = B2 at *
  go_wp2_with fail
  go_loopw [5] (fun s wr => ∃ i : Nat, i ≤ 83 ∧ s = .int .i64 i ∧ Below w2.heap.size w2 wr)
    (fun s _ => 83 - (intOf s).toNat)
  case atStart => exact ⟨0, by omega, rfl, Below.refl _ _⟩
  case round =>
    obtain ⟨i, hi, rfl, hB⟩ := hrel
    have HBW := Lib.hid hB
    by_cases hlt : i < 83
    · have HI := Lib.hid hlt
      obtain ⟨q0, q1, q2, q3, q4, q5, q6, q7⟩ := ((HT1.out.below hB (Nat.le_refl _)).tb hlt).2 i hlt
      obtain ⟨p0, p1, p2, p3, p4, p5, p6, p7⟩ := (HT2.out.below hB (Nat.le_refl _)).2 i hlt
      rw [Nat.zero_add] at q0 q1 q2 q3 q4 q5 q6 q7 p0 p1 p2 p3 p4 p5 p6 p7
      obtain ⟨r, hr⟩ : ∃ r, tblT i = r := ⟨_, rfl⟩
      rw [hr] at q0 q1 q2 q3 q4 q5 q6 q7 p0 p1 p2 p3 p4 p5 p6 p7
      have e33 := neqRow r.nm r.n0 r.n1 r.n2 r.n3 r.n4 r.mx r.sb
      have i1 : (0 : Int) ≤ (i : Int) := by omega
      have i2 : (i : Int) < 83 := by omega
      have HK0 : Hid (∀ N, Below wr.heap.size wr (wr.drewN N)) := Lib.hid fun N => bdn (Below.refl _ wr) N
      clear hB hr
      go_upto_region 7 with fail
      go_quiet (fail)
      go_wp2
      exact ⟨⟨i + 1, by have := HI.out; omega, by go_num, HBW.out.trans ((HK0.out _).mono HBW.out.size)⟩, by have := HI.out; simp [intOf]; omega⟩
    · obtain rfl : i = 83 := by omega
      clear hB
      obtain ⟨k, hk⟩ : ∃ k : Nat, a % 83 = k := ⟨_, rfl⟩
      have hkl : k < 83 := by omega
      have v1 : ((a : Int)).tmod 83 = ((k : Nat) : Int) := by rw [Int.tmod_eq_emod_of_nonneg (by omega)]; omega
      clear hk
      go_upto_region 10 with fail
      clear v1
      have HKL := Lib.hid hkl
      have HBW := Lib.hid HBW.out
      obtain ⟨nm, hnm⟩ : ∃ nm, (tblT k).nm = nm := ⟨_, rfl⟩
      have hrk : rcell tblT (k * 8) = .string nm := by
        rw [← hnm]
        unfold rcell
        rw [show k * 8 / 8 = k by omega, show k * 8 % 8 = 0 by omega]
        rfl
      have x0 : wr.cell? ⟨b1, k * 8, none⟩ = some (.string nm) := by
        have h1 := HBW.out.cell (p := ⟨b1, k * 8, none⟩) (show b1 < w2.heap.size by have := HBL.out; omega)
        rw [h1, HCL.out (k * 8) (by omega), hrk]
      have y0 : wr.frozen? ⟨b1, k * 8, none⟩ = false := HFZ.out _ HBW.out _
      have i1 : (0 : Int) ≤ (k : Int) := by omega
      have i2 : (k : Int) < 83 := by omega
      have hpS : (wr.setCell ⟨b1, k * 8, none⟩ (.string ⟨#[120]⟩)).cell? ⟨B2, k * 8, none⟩ = some (.string nm) := by
        have h := ((HT2.out.below HBW.out (Nat.le_refl _)).2 k hkl).1
        rw [Nat.zero_add, hnm] at h
        exact (World.cell?_setCell_far _ ⟨b1, k * 8, none⟩ ⟨B2, k * 8, none⟩ _ (show b1 ≠ B2 by have := HBL.out; omega)).trans h
      have hbS : Below w0.heap.size w0 (wr.setCell ⟨b1, k * 8, none⟩ (.string ⟨#[120]⟩)) := Below.setCell (HB2.out.trans (HBW.out.mono HB2.out.size)) HBL.out.1 _
      have hsS : B2 < (wr.setCell ⟨b1, k * 8, none⟩ (.string ⟨#[120]⟩)).heap.size := by
        have h1 := HBW.out.size
        have h2 := HBL.out.2.2
        simp only [World.size_setCell]
        omega
      have HPS := Lib.hid hpS
      have HBS := Lib.hid hbS
      have HSS := Lib.hid hsS
      have HRK := Lib.hid hrk
      clear hpS hbS hsS hrk hnm hkl
      go_wp2_with fail
      refine (HBO.out _).mono ?_
      rintro e w3 ⟨A3, c3, rfl, hown3, hB3⟩
      have HP3 : Hid (w3.cell? ⟨B2, k * 8, none⟩ = some (.string nm)) := Lib.hid ((hB3.cell (p := ⟨B2, k * 8, none⟩) HSS.out).trans HPS.out)
      have HB3 := Lib.hid (HBS.out.trans (hB3.mono HBS.out.size))
      have HS3 : Hid (B2 < w3.heap.size) := Lib.hid (Nat.lt_of_lt_of_le HSS.out hB3.size)
      have HT3 := Lib.hid (own_tbl hown3)
      have hrt : Calls Tryd.prog 10 #[.slice A3 83 c3] w3 fun e w' => e = .returned (.tuple #[.int .i64 0, .int .i64 0]) ∧ Below w3.heap.size w3 w' := by
        refine (Right_any A3 83 c3 tblT w3 HT3.out).mono ?_
        rintro e w' ⟨p, q, hP, rfl, hB⟩
        obtain ⟨rfl, rfl⟩ := RightP.uniq hP tbl_right
        exact ⟨rfl, hB⟩
      have HRT := Lib.hid hrt
      clear hB3 hown3 hrt HSS HPS HBS HT1 HT2 HCL HFZ HB2 HBL HBW x0 y0
      go_wp2_with fail
      refine HRT.out.mono ?_
      rintro e w4 ⟨rfl, hB4⟩
      have HP4 : Hid (w4.cell? ⟨B2, k * 8, none⟩ = some (.string nm)) := Lib.hid ((hB4.cell (p := ⟨B2, k * 8, none⟩) HS3.out).trans HP3.out)
      have HB4 := Lib.hid (HB3.out.trans (hB4.mono HB3.out.size))
      have HS4 : Hid (B2 < w4.heap.size) := Lib.hid (Nat.lt_of_lt_of_le HS3.out hB4.size)
      clear hB4 HRT HP3 HB3 HS3 HT3
      go_upto_region 12 with fail
      have hk0 : Below w4.heap.size w4 w4.drew := (Below.refl _ w4).drew
      have HS : Hid (∀ W, Below w4.heap.size w4 W → W.cell? ⟨B2, k * 8, none⟩ = some (.string nm)) := Lib.hid fun W hW => (hW.cell (p := ⟨B2, k * 8, none⟩) HS4.out).trans HP4.out
      have p4 := HP4.out
      go_region_with (first
            | (go_at_call 14
               refine (HBO.out _).mono ?_
               rintro e w6 ⟨A6, c6, rfl, hown6, hB6⟩
               have hk1 := hk0.trans (hB6.mono hk0.size)
               obtain ⟨b6, rfl, hb6, hb6l, hcl6⟩ := own_atz hown6 (by decide)
               have x6 : w6.cell? ⟨b6, k * 8, none⟩ = some (.string nm) := (hcl6 (k * 8) (by have := HKL.out; omega)).trans (by rw [HRK.out])
               have p6 := HS.out _ hk1
               clear hown6 hcl6 hB6)
            | (go_at_call 13
               refine (HAW.out _).mono ?_
               rintro e w9 ⟨rfl, hB9⟩
               have hk2 := hk1.trans (hB9.mono hk1.size)))
      all_goals go_wp2
      all_goals go_ret
      all_goals exact ⟨rfl, HB4.out.trans (hk2.mono HB4.out.size)⟩

namespace systabBuiltinRow
open Go.ChangeShapes Go.WideShapes Go.ChangeAt Go.RowKit Go.Joins
open Go.ChangeMaps (open_string shut_string)
set_option linter.unusedVariables false
theorem own : ownKnob Tryd.prog.godebug = none := by kernel_rfl
theorem laidOut : laidOutB Tryd.prog = true := by kernel_rfl
set_option maxRecDepth 100000 in
theorem lifted (os : Os) (started : os.Started) (H : Type) (enc : TypeId × Value → H) :
    ReturnsInHanded {} Tryd.checked os 4 .any (fun w args => (Rows.systabBuiltinSpec.pre enc Tryd.prog Tryd.f4 [] false w args ∧ laidMetH Tryd.prog Rows.systabBuiltinRow.laid w) ∧ sizedMet enc Tryd.prog Tryd.f4 (OpenSpec.ofChange Rows.systabBuiltinSpec) false w args) (Rows.systabBuiltinSpec.post enc Tryd.prog Tryd.f4 false true false false) := by
  refine returnsInHanded_of_change_and (C := Tryd.checked) (X := fun w _ => laidMetH Tryd.prog Rows.systabBuiltinRow.laid w) (fun _ _ _ hh h => h.of_heap hh) own started (by kernel_rfl) Tryd.func4
    (ChangeSpec.witness_shaped (enc := enc) (C := Tryd.checked) (os := os) (X := fun w _ => laidMetH Tryd.prog Rows.systabBuiltinRow.laid w) false (World.laidAll Tryd.prog os Rows.systabBuiltinRow.laid) #[.int .u8 0] 8 (World.laidAll_os _ _ _) (World.shaped_of_ZipB (by kernel_rfl) (by kernel_rfl)) (by kernel_rfl) (by kernel_rfl) (by kernel_rfl) (by rw [MakeChecks.laidMetH_plain _ _ _ (by kernel_rfl)]; exact laidMet_laidAll _ (by kernel_rfl) (by kernel_rfl))) ?_
  intro W base args ds gs before hval0 hW _ _ hL _
  have hval : ∀ (j : Nat) t v, Tryd.f4.params[j]? = some t → args[j]? = some v → Value.okWide Tryd.prog W .any base t v := hval0
  have hW' := hW
  obtain ⟨p, q, hA0, hV, rfl, hfz, hnd⟩ := hW
  have hA : DataW.TrodAll enc Tryd.prog W 0 (fun _ => true) true Tryd.f4.params.toList args.toList ds p := hA0
  rw [Tryd.params4] at hA hval
  obtain ⟨v0, vs0, d0, ds0, p0, q0, hargs, rfl, rfl, h0, r0⟩ := trodAll_cons hA
  obtain ⟨rfl, rfl, rfl⟩ := trodAll_nil r0
  obtain rfl : args = #[v0] := by cases args; simp_all
  obtain ⟨rfl, rfl⟩ := trodVars_none hV
  have k0 := h0
  have lt0 : ∀ x ∈ p0, x.block < W.heap.size := by obtain ⟨m, hm⟩ := k0; exact DataW.trod_lt m _ _ _ hm
  obtain ⟨a0, rfl, rfl, rfl, w0⟩ := open_int Tryd.underlying5 (hval 0 5 v0 rfl rfl) h0
  clear hA0 hval0
  refine (walk_SystabBuiltin (w0 := W) a0 w0 (of_laid hL)).mono fun e W' ⟨he, bel⟩ => ?_
  subst he
  exact ⟨_, rfl, _, _, _, [], _, [], hW', trodAll_mk1 (shut_bool Tryd.underlying4 _), (trodAll_cons_mk (Below.trod laidOut (by kernel_rfl) (of_decide_eq_true (by kernel_rfl)) k0 bel lt0) trodAll_mk0), rfl, bel.frame _, fun h => by cases h⟩

theorem over : Rows.systabBuiltinRow.holds Tryd.pinned (OpenSpec.ofChange Rows.systabBuiltinSpec) :=
  OpenClaim.holds_of_wide 4 Tryd.f4 rfl rfl rfl rfl rfl rfl rfl ⟨rfl, rfl, rfl, rfl, rfl⟩ rfl rfl rfl rfl rfl (by kernel_rfl) Tryd.func4 (by kernel_rfl)
    (of_decide_eq_true (by kernel_rfl)) (by unfold Func.isWrapper; first | (rw [if_pos (by decide +kernel)]; kernel_rfl) | (rw [if_neg (by decide +kernel)]; exact ⟨rfl, rfl⟩))
    (fun os started H enc _ => lifted os started H enc)
end systabBuiltinRow

theorem systabBuiltin_proved : Rows.SystabBuiltinCardSaid :=
  Claim7.holds_tied_plain_at .later [] [.data, .pinned] true Rows.systabBuiltinCard.stood.harness false
    systabBuiltinRow.over (fun _ h => by cases h) (by kernel_rfl) (fun _ h => by cases h) systabBuiltin_row_tie rfl ⟨rfl, rfl⟩ (by kernel_rfl) rfl
    (fun f fn hf hfn => by
      obtain rfl : f = 4 := Option.some.inj ((show Tryd.prog.funcNamed "strainer/strainerlaw11.SystabBuiltin" = some 4 by kernel_rfl).symm.trans hf) |>.symm
      obtain rfl : fn = Tryd.f4 := (Option.some.inj (Tryd.func4.symm.trans hfn)).symm
      exact ⟨by kernel_rfl, fun j t ht => by
        rw [Tryd.params4] at ht
        have hall : ∀ t ∈ [5], Tryd.prog.wantsStandIn t = false := by
          intro t ht
          simp only [List.mem_cons, List.not_mem_nil, or_false] at ht
          rcases ht with rfl <;> kernel_rfl
        exact hall t (by simpa using Array.mem_of_getElem? ht)⟩)
    (by kernel_rfl)
#print axioms systabBuiltin_proved
end Go.Proofs.YtlninlempefjcaaDoor
