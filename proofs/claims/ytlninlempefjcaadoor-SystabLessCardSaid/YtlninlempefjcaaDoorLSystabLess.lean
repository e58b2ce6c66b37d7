/-
  A table without one of its rows may be, too, and does not have that row's name (of 40 rows, names of 60 bytes).
-/
import Derived.Test.YtlninlempefjcaaDoorRows
import Derived.Test.YtlninlempefjcaaDoorCards
import Derived.Test.YtlninlempefjcaaDoorTie
import Derived.Test.YtlninlempefjcaaDoorUe
import Derived.Test.YtlninlempefjcaaDoorSi
import Derived.Test.YtlninlempefjcaaDoorSm
import Derived.Test.YtlninlempefjcaaDoorSn
import Derived.Test.YtlninlempefjcaaDoorSr
import Derived.Test.YtlninlempefjcaaDoorUf
import Derived.WalkKit
import Derived.ProofKit
import Derived.OpenShut
import Derived.ShutString
import Derived.ChangeOld
import Derived.Below
import Derived.Lib.SmallJoins
import Derived.SevenTiedAt
import Derived.LaidMore
import Derived.MakeChecks
import Derived.Lay
import Derived.Stop.Joined
import Derived.Deep.Cut
import Derived.RegionTactic
import Derived.BigQuiet
import Derived.Deep.QuietTactic
import Derived.Deep.RegionHeld3
import Derived.Deep.CutRange
namespace Go.Proofs.YtlninlempefjcaaDoor
open Go.RowKit
set_option linter.unusedVariables false

/-- The rows without one. -/
def lessT (T : Nat → SR) (k : Nat) (i : Nat) : SR := if i < k then T i else T (i + 1)
theorem lessT_eq (T : Nat → SR) (k i : Nat) : lessT T k i = T (if i < k then i else i + 1) := by unfold lessT; split <;> rfl
theorem less_ok {T : Nat → SR} {n k : Nat} (h : AllOk n T) (hk : k < n) : AllOk (n - 1) (lessT T k) := by
  intro i hi
  have hm : ∀ a b, a < b → (if a < k then a else a + 1) < (if b < k then b else b + 1) := fun a b hab => by split <;> split <;> omega
  have hif : (if i < k then i else i + 1) < n := by split <;> omega
  obtain ⟨r1, r2, r3, r4, r5, r6⟩ := row_ok (h _ hif)
  refine row0 (by rw [lessT_eq]; exact r1) ?_ (by rw [lessT_eq]; exact r3) (by rw [lessT_eq]; exact r4) (by rw [lessT_eq]; exact r5) ?_
  · intro h0
    rw [lessT_eq, lessT_eq]
    exact rise_lt h (hm (i - 1) i (by omega)) hif
  · rintro ⟨j, hj, hc⟩
    rw [lessT_eq, lessT_eq] at hc
    exact r6 ⟨_, hm j i hj, hc⟩
theorem less_no {T : Nat → SR} {n k : Nat} (h : AllOk n T) (hk : k < n) : ∀ i, i < n - 1 → isN (lessT T k) (T k).nm i = false := fun i hi => by
  cases hx : isN (lessT T k) (T k).nm i
  · rfl
  · have hif : (if i < k then i else i + 1) < n := by split <;> omega
    have e := eq_of_beq hx
    rw [lessT_eq] at e
    have := names_one h hif hk e
    split at this <;> omega
theorem less_cat (T : Nat → SR) (n k : Nat) (hk : k < n) : ∀ i, i < (n - 1) * 8 → catC (k * 8) (rcell T) (fun q => rcell T ((k + 1) * 8 + q)) i = rcell (lessT T k) i := fun i hi => by
  unfold catC rcell
  by_cases h : i < k * 8
  · rw [if_pos h, lessT, if_pos (by omega)]
  · rw [if_neg h, lessT, if_neg (by omega)]
    show (srow (T (((k + 1) * 8 + (i - k * 8)) / 8))).getD (((k + 1) * 8 + (i - k * 8)) % 8) undef = _
    rw [show ((k + 1) * 8 + (i - k * 8)) / 8 = i / 8 + 1 by omega, show ((k + 1) * 8 + (i - k * 8)) % 8 = i % 8 by omega]
theorem rcell_one (T : Nat → SR) (q : Nat) : (rcell T q).oneCell' = true := srow_one _ _ (by have := Nat.mod_lt q (show 0 < 8 by decide); omega)
theorem own_empty (w : World) (E : TypeId) (F : Nat → Value) : OwnC (w.alloc (.cells #[] E)) w.heap.size E 8 (some ⟨w.heap.size, 0, none⟩) 0 0 F :=
  ⟨by simp, .inr ⟨w.heap.size, 0, #[], rfl, Nat.le_refl _, RowC.new w _ _ _ rfl, Nat.le_refl _, Nat.zero_le _, rfl, by simp⟩⟩
/-- An owned row of rows as the slices that are cut out of it. -/
theorem own_cut {w : World} {base n c : Nat} {E : TypeId} {A : Option Addr} {T : Nat → SR} (h : OwnC w base E 8 A n c (rcell T)) (hn : 0 < n) : ∃ b, A = some ⟨b, 0, none⟩ ∧ b < w.heap.size ∧ n ≤ c ∧ c ≤ maxLen ∧ ∀ i, i < n * 8 → w.cell? ⟨b, i, none⟩ = some (rcell T i) := by
  obtain ⟨b, rfl, _, hlt, hcl⟩ := own_atz h hn
  obtain ⟨_, h2⟩ := h
  rcases h2 with ⟨e, h0⟩ | ⟨g, cap, cur, e, _, _, h3, h4, _⟩
  · omega
  · injection e with e1 e2 e3
    subst e3
    exact ⟨b, rfl, hlt, h3, h4, hcl⟩
theorem of_laid {W : World} (h : laidMetH Tryd.prog Rows.systabLessRow.laid W) : True := trivial
set_option maxRecDepth 100000 in
set_option maxHeartbeats 16000000 in
theorem walk_SystabLess {w0 : World} (A : Option Addr) (n cap : Nat) (T : Nat → SR) (ht : TbA w0 A n T) (a' : Int) (ha : (Lit.int .u8 a').wf = true) (_ : True) :
    Calls Tryd.prog 6 #[.slice A n cap, .int .u8 a'] w0 fun e w' => e = .returned (.bool true) ∧ Below w0.heap.size w0 w' := by
  simp [Lit.wf, IntKind.min, IntKind.max, IntKind.signed, IntKind.bits] at ha
  obtain ⟨a, rfl⟩ := Int.eq_ofNat_of_zero_le ha.1
  have v1 : ((a : Int)).tmod (n : Int) = ((a % n : Nat) : Int) := by rw [Int.tmod_eq_emod_of_nonneg (by omega)]; first | exact (Int.natCast_emod a n).symm | exact (Int.ofNat_emod a n).symm | simp
  have HT := Lib.hid ht
  have HLT := Lib.hid (light_any A n cap T w0 ht)
  clear ht
  go_enter Tryd.func6, Tryd.ntmps6
  go_wp2_with fail
  refine HLT.out.mono ?_
  rintro e w1 ⟨h, rfl⟩
  rcases h with ⟨hok, rfl⟩ | ⟨hok, rfl⟩
  case inr =>
    clear hok
    go_wp2
    go_ret
    exact ⟨rfl, Below.refl _ _⟩
  have h40 := hok.1
  by_cases hn0 : n = 0
  · subst hn0
    clear hok
    go_wp2
    go_ret
    exact ⟨rfl, Below.refl _ _⟩
  have f1 : ((n : Int) == 0) = false := beq_eq_false_iff_ne.2 (by omega)
  have f2 : (n == 0) = false := beq_eq_false_iff_ne.2 hn0
  have f3 : ¬ (n : Int) = 0 := by omega
  have HOF := Lib.hid (of11_any A n cap T w0 (by omega) HT.out)
  have HAW := Lib.hid fun W => awake11_any W
  clear hok HLT
  go_wp2_with fail
  refine HOF.out.mono ?_
  rintro e w3 ⟨A2, c2, rfl, hown, hB3⟩
  have HX3 := Lib.hid (own_tbl hown)
  have HOWN := Lib.hid hown
  have HRT := Lib.hid (Right_any A2 n c2 T w3 HX3.out)
  have HB3 := Lib.hid hB3
  clear hown hB3 HOF
  go_wp2_with fail
  refine HRT.out.mono ?_
  rintro e w4 ⟨p, q, hP, rfl, hB4⟩
  have HB4 := Lib.hid (HB3.out.trans (hB4.mono HB3.out.size))
  have HX4 := Lib.hid (HX3.out.below hB4 (Nat.le_refl _))
  have HOW4 := Lib.hid (HOWN.out.below hB4 (Nat.le_refl _))
  have hz := right_zero hP
  clear hB4 HRT HB3 HX3 hP HOWN
  by_cases hq : q = 0
  case neg =>
    have g1 : ((q : Int) != 0) = true := by simp [hq]
    have g2 : (q != 0) = true := by simp [hq]
    clear hz hq
    go_wp2_with (go_at_call 13; refine (HAW.out _).mono ?_; rintro e w9 ⟨rfl, hB9⟩)
    go_ret
    exact ⟨rfl, HB4.out.trans (hB9.mono HB4.out.size)⟩
  have HOK := Lib.hid (hz.1 hq).2
  subst hq
  clear hz
  have hkn : a % n < n := Nat.mod_lt _ (by omega)
  obtain ⟨k, hk⟩ : ∃ k : Nat, a % n = k := ⟨_, rfl⟩
  rw [hk] at v1 hkn
  obtain ⟨b, rfl, hbl, hnc, hcm, hcl⟩ := own_cut HOW4.out (by omega)
  have HCL := Lib.hid hcl
  have i1 : (0 : Int) ≤ (k : Int) := by omega
  have i2 : (k : Int) ≤ (n : Int) := by omega
  have i3 : (k : Int) < (n : Int) := by omega
  have i4 : (k : Int) ≤ (c2 : Int) := by omega
  have i5 : (k : Int) + 1 ≤ (n : Int) := by omega
  have i6 : (n : Int) ≤ (c2 : Int) := by omega
  have v2 : IntKind.i64.wrap ((k : Int) + 1) = (k : Int) + 1 := by rw [IntKind.wrap_i64]; omega
  have i7 : (0 : Int) ≤ (k : Int) + 1 := by omega
  have i8 : ((k : Int) + 1).toNat = k + 1 := by omega
  have i9 : (k : Int) + 1 ≤ (c2 : Int) := by omega
  have HKN := Lib.hid hkn
  have HBL := Lib.hid hbl
  have HNC := Lib.hid hnc
  have HCM := Lib.hid hcm
  clear hk hcl hkn hbl hnc hcm HOW4
  go_upto_region 8 with fail
  clear ha v1
  have HC1 : Hid (∀ W, Below w4.heap.size w4 W → Cel W w4.heap.size 8 (some ⟨b, 0, none⟩) k c2 (rcell T)) := Lib.hid fun W hW => Cel.mk_ HBL.out (by have := HKN.out; have := HNC.out; omega) HCM.out (fun i hi => by rw [Nat.zero_add]; exact (hW.cell (p := ⟨b, i, none⟩) HBL.out).trans (HCL.out i (by have := HKN.out; omega)))
  have HC2 : Hid (∀ W, Below w4.heap.size w4 W → Cel W w4.heap.size 8 (some ⟨b, (k + 1) * 8, none⟩) (n - (k + 1)) (c2 - (k + 1)) (fun q => rcell T ((k + 1) * 8 + q))) := Lib.hid fun W hW => Cel.mk_ HBL.out (by have := HKN.out; have := HNC.out; omega) (by have := HCM.out; omega) (fun i hi => (hW.cell (p := ⟨b, (k + 1) * 8 + i, none⟩) HBL.out).trans (HCL.out _ (by have := HKN.out; omega)))
  have hk0 : Below w4.heap.size w4 w4.drew := (Below.refl _ w4).drew
  go_cut [9] from 38 to 47 (fun s wx => ∃ A3 c3, s = .slice A3 (n - 1) c3 ∧ OwnC wx w4.heap.size 36 8 A3 (n - 1) c3 (rcell (lessT T k)) ∧ Below w4.heap.size w4 wx)
  case first =>
    by_cases hck : c2 = k + 1
    · have hnk : n = k + 1 := by have := HKN.out; have := HNC.out; omega
      have HNK := Lib.hid hnk
      clear hnk
      subst hck
      have j4 : (k : Int) ≤ (k : Int) + 1 := by omega
      have j5 : (n : Int) ≤ (k : Int) + 1 := by have := HNK.out; omega
      go_region_held3 (fun w' => True)
        (exact trivial)
        (first
          | (refine step_cells2 (by rfl) _ _ _ 36 (by rfl) Tryd.underlying27 infoT2 (by rfl) (by decide) (by rfl) (own_empty w4 36 (rcell T)).drew (by rfl) (HC1.out _ ((Below.refl _ w4).alloc (Nat.le_refl _) _).drew) (fun i _ => rcell_one T i) (by have := HKN.out; unfold maxLen; omega) (by have := HKN.out; omega) (by simp) k (by omega) (rcell T) (fun i hi => by unfold catC; rw [if_neg (by omega)]; simp) ?_
             rintro A5 c5 w5 hown5 hB5
             have hk5 : Below w4.heap.size w4 w5 := ((Below.refl _ w4).alloc (Nat.le_refl _) _).drew.trans hB5)
          | (refine step_cells2 (by rfl) _ _ _ 36 (by rfl) Tryd.underlying27 infoT2 (by rfl) (by decide) (by rfl) hown5 (by rfl) (Cel.mk_ (b := b) (off := 0) (B := w4.heap.size) HBL.out (by have := HNK.out; omega) (by have := HCM.out; omega) (fun i hi => by have := HNK.out; omega)) (fun i _ => rcell_one T _) (by have := HKN.out; unfold maxLen; omega) (by have := HKN.out; omega) hk5.size (n - 1) (by have := HKN.out; have := HNC.out; omega) (rcell (lessT T k)) (less_cat T n k HKN.out) ?_
             rintro A6 c6 w6 hown6 hB6
             have hk6 : Below w4.heap.size w4 w6 := hk5.trans hB6))
      all_goals go_wp2_with fail
      all_goals go_meet
      all_goals exact ⟨_, _, rfl, hown6, hk6⟩
    · go_region_held3 (fun w' => True)
        (exact trivial)
        (first
          | (refine step_cells2 (by rfl) _ _ _ 36 (by rfl) Tryd.underlying27 infoT2 (by rfl) (by decide) (by rfl) (own_empty w4 36 (rcell T)).drew (by rfl) (HC1.out _ ((Below.refl _ w4).alloc (Nat.le_refl _) _).drew) (fun i _ => rcell_one T i) (by have := HKN.out; unfold maxLen; omega) (by have := HKN.out; omega) (by simp) k (by omega) (rcell T) (fun i hi => by unfold catC; rw [if_neg (by omega)]; simp) ?_
             rintro A5 c5 w5 hown5 hB5
             have hk5 : Below w4.heap.size w4 w5 := ((Below.refl _ w4).alloc (Nat.le_refl _) _).drew.trans hB5)
          | (refine step_cells2 (by rfl) _ _ _ 36 (by rfl) Tryd.underlying27 infoT2 (by rfl) (by decide) (by rfl) hown5 (by rfl) (HC2.out _ hk5) (fun i _ => rcell_one T _) (by have := HKN.out; unfold maxLen; omega) (by have := HKN.out; omega) hk5.size (n - 1) (by have := HKN.out; omega) (rcell (lessT T k)) (less_cat T n k HKN.out) ?_
             rintro A6 c6 w6 hown6 hB6
             have hk6 : Below w4.heap.size w4 w6 := hk5.trans hB6))
      all_goals go_wp2_with fail
      all_goals go_meet
      all_goals exact ⟨_, _, rfl, hown6, hk6⟩
  case rest =>
    obtain ⟨A3, c3, rfl, hown, hB⟩ := hcut
    have HT3 := Lib.hid (own_tbl hown)
    have HBW := Lib.hid hB
    have hx := (HX4.out.below hB (Nat.le_refl _)).tb HKN.out
    have q0 := (hx.2 k HKN.out).1
    have hrt := Right_any A3 (n - 1) c3 (lessT T k) wc HT3.out
    have HRG : Hid (Calls Tryd.prog 10 #[.slice A3 (n - 1) c3] wc fun e w' => e = .returned (.tuple #[.int .i64 0, .int .i64 0]) ∧ Below wc.heap.size wc w') := Lib.hid (by
      refine hrt.mono ?_
      rintro e w' ⟨p, q, hP, rfl, hB⟩
      have h0 : RightP (lessT T k) (n - 1) 0 0 := .inr (.inr ⟨by omega, less_ok HOK.out HKN.out, rfl, rfl⟩)
      obtain ⟨rfl, rfl⟩ := RightP.uniq hP h0
      exact ⟨rfl, hB⟩)
    clear hown hB hx hrt q0 HC1 HC2 hk0
    go_wp2_with fail
    refine HRG.out.mono ?_
    rintro e w5 ⟨rfl, hB5⟩
    have HT5 := Lib.hid (HT3.out.below hB5 (Nat.le_refl _))
    have HB5 := Lib.hid (HBW.out.trans (hB5.mono HBW.out.size))
    have hx := (HX4.out.below HB5.out (Nat.le_refl _)).tb HKN.out
    have q0 := (hx.2 k HKN.out).1
    rw [Nat.zero_add] at q0
    have HFD : Hid (Calls Tryd.prog 19 #[.slice A3 (n - 1) c3, .string (T k).nm] w5 fun e w' => e = .returned (.tuple #[.agg sr0, .int .i64 0, .bool false]) ∧ Below w5.heap.size w5 w') := Lib.hid (by
      refine (Find_any A3 (n - 1) c3 (lessT T k) (T k).nm w5 (by omega) HT5.out).mono ?_
      rintro e w' ⟨⟨j, h1, h2, h3, rfl⟩ | ⟨h1, rfl⟩, hB⟩
      · rw [less_no HOK.out HKN.out j h1] at h2; cases h2
      · exact ⟨rfl, hB⟩)
    clear hB5 hx HT3 HBW HRG
    go_wp2_with fail
    refine HFD.out.mono ?_
    rintro e w6 ⟨rfl, hB6⟩
    have HB6 := Lib.hid (HB4.out.trans ((HB5.out.trans (hB6.mono HB5.out.size)).mono HB4.out.size))
    have HB7 := Lib.hid (HB6.out.alloc HB6.out.size (.cells sr0 36))
    clear hB6 q0 HT5 HFD
    go_wp2_with (go_at_call 13; refine (HAW.out _).mono ?_; rintro e w9 ⟨rfl, hB9⟩)
    go_ret
    exact ⟨rfl, HB7.out.trans (hB9.mono HB7.out.size)⟩

namespace systabLessRow
open Go.ChangeShapes Go.WideShapes Go.ChangeAt Go.RowKit Go.Joins
open Go.ChangeMaps (open_string shut_string)
set_option linter.unusedVariables false
theorem own : ownKnob Tryd.prog.godebug = none := by kernel_rfl
theorem laidOut : laidOutB Tryd.prog = true := by kernel_rfl
set_option maxRecDepth 100000 in
theorem lifted (os : Os) (started : os.Started) (H : Type) (enc : TypeId × Value → H) :
    ReturnsInHanded {} Tryd.checked os 6 .any (fun w args => (Rows.systabLessSpec.pre enc Tryd.prog Tryd.f6 [] false w args ∧ laidMetH Tryd.prog Rows.systabLessRow.laid w) ∧ sizedMet enc Tryd.prog Tryd.f6 (OpenSpec.ofChange Rows.systabLessSpec) false w args) (Rows.systabLessSpec.post enc Tryd.prog Tryd.f6 false true false false) := by
  refine returnsInHanded_of_change_and (C := Tryd.checked) (X := fun w _ => laidMetH Tryd.prog Rows.systabLessRow.laid w) (fun _ _ _ hh h => h.of_heap hh) own started (by kernel_rfl) Tryd.func6
    (ChangeSpec.witness_shaped (enc := enc) (C := Tryd.checked) (os := os) (X := fun w _ => laidMetH Tryd.prog Rows.systabLessRow.laid w) false (World.laidAll Tryd.prog os Rows.systabLessRow.laid) #[.slice none 0 0, .int .u8 0] 8 (World.laidAll_os _ _ _) (World.shaped_of_ZipB (by kernel_rfl) (by kernel_rfl)) (by kernel_rfl) (by kernel_rfl) (by kernel_rfl) (by rw [MakeChecks.laidMetH_plain _ _ _ (by kernel_rfl)]; exact laidMet_laidAll _ (by kernel_rfl) (by kernel_rfl))) ?_
  intro W base args ds gs before hval0 hW _ _ hL _
  have hval : ∀ (j : Nat) t v, Tryd.f6.params[j]? = some t → args[j]? = some v → Value.okWide Tryd.prog W .any base t v := hval0
  have hW' := hW
  obtain ⟨p, q, hA0, hV, rfl, hfz, hnd⟩ := hW
  have hA : DataW.TrodAll enc Tryd.prog W 0 (fun _ => true) true Tryd.f6.params.toList args.toList ds p := hA0
  rw [Tryd.params6] at hA hval
  obtain ⟨v0, vs0, d0, ds0, p0, q0, hargs, rfl, rfl, h0, r0⟩ := trodAll_cons hA
  obtain ⟨v1, vs1, d1, ds1, p1, q1, rfl, rfl, rfl, h1, r1⟩ := trodAll_cons r0
  obtain ⟨rfl, rfl, rfl⟩ := trodAll_nil r1
  obtain rfl : args = #[v0, v1] := by cases args; simp_all
  obtain ⟨rfl, rfl⟩ := trodVars_none hV
  have k0 := h0
  have lt0 : ∀ x ∈ p0, x.block < W.heap.size := by obtain ⟨m, hm⟩ := k0; exact DataW.trod_lt m _ _ _ hm
  have k1 := h1
  have lt1 : ∀ x ∈ p1, x.block < W.heap.size := by obtain ⟨m, hm⟩ := k1; exact DataW.trod_lt m _ _ _ hm
  obtain ⟨a0, len0, cap0, rfl⟩ := okWide_slice Tryd.underlying22 (hval 0 22 v0 rfl rfl)
  obtain ⟨g0, w0⟩ := open_rows h0
  obtain ⟨a1, rfl, rfl, rfl, w1⟩ := open_int Tryd.underlying5 (hval 1 5 v1 rfl rfl) h1
  clear hA0 hval0
  refine (walk_SystabLess (w0 := W) a0 len0 cap0 g0 w0 a1 w1 (of_laid hL)).mono fun e W' ⟨he, bel⟩ => ?_
  subst he
  exact ⟨_, rfl, _, _, _, [], _, [], hW', trodAll_mk1 (shut_bool Tryd.underlying4 _), (trodAll_cons_mk (Below.trod laidOut (by kernel_rfl) (of_decide_eq_true (by kernel_rfl)) k0 bel lt0) (trodAll_cons_mk (Below.trod laidOut (by kernel_rfl) (of_decide_eq_true (by kernel_rfl)) k1 bel lt1) trodAll_mk0)), rfl, bel.frame _, fun h => by cases h⟩

theorem over : Rows.systabLessRow.holds Tryd.pinned (OpenSpec.ofChange Rows.systabLessSpec) :=
  OpenClaim.holds_of_wide 6 Tryd.f6 rfl rfl rfl rfl rfl rfl rfl ⟨rfl, rfl, rfl, rfl, rfl⟩ rfl rfl rfl rfl rfl (by kernel_rfl) Tryd.func6 (by kernel_rfl)
    (of_decide_eq_true (by kernel_rfl)) (by unfold Func.isWrapper; first | (rw [if_pos (by decide +kernel)]; kernel_rfl) | (rw [if_neg (by decide +kernel)]; exact ⟨rfl, rfl⟩))
    (fun os started H enc _ => lifted os started H enc)
end systabLessRow

theorem systabLess_proved : Rows.SystabLessCardSaid :=
  Claim7.holds_tied_plain_at .later [] [.data, .pinned] true Rows.systabLessCard.stood.harness false
    systabLessRow.over (fun _ h => by cases h) (by kernel_rfl) (fun _ h => by cases h) systabLess_row_tie rfl ⟨rfl, rfl⟩ (by kernel_rfl) rfl
    (fun f fn hf hfn => by
      obtain rfl : f = 6 := Option.some.inj ((show Tryd.prog.funcNamed "strainer/strainerlaw11.SystabLess" = some 6 by kernel_rfl).symm.trans hf) |>.symm
      obtain rfl : fn = Tryd.f6 := (Option.some.inj (Tryd.func6.symm.trans hfn)).symm
      exact ⟨by kernel_rfl, fun j t ht => by
        rw [Tryd.params6] at ht
        have hall : ∀ t ∈ [22, 5], Tryd.prog.wantsStandIn t = false := by
          intro t ht
          simp only [List.mem_cons, List.not_mem_nil, or_false] at ht
          rcases ht with rfl | rfl <;> kernel_rfl
        exact hall t (by simpa using Array.mem_of_getElem? ht)⟩)
    (by kernel_rfl)
#print axioms systabLess_proved
end Go.Proofs.YtlninlempefjcaaDoor
