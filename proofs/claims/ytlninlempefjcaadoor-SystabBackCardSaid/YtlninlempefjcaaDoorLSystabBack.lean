/-
  Names and numbers there and back are the same, in each ABI, pseudo-numbers, too; and multiplexers' (of 40 rows, names of 60 bytes).
-/
import Derived.Test.YtlninlempefjcaaDoorRows
import Derived.Test.YtlninlempefjcaaDoorCards
import Derived.Test.YtlninlempefjcaaDoorTie
import Derived.Test.YtlninlempefjcaaDoorUe
import Derived.Test.YtlninlempefjcaaDoorSi
import Derived.Test.YtlninlempefjcaaDoorSm
import Derived.Test.YtlninlempefjcaaDoorSn
import Derived.Test.YtlninlempefjcaaDoorSr
import Derived.Test.YtlninlempefjcaaDoorUf
import Derived.WalkKit
import Derived.ProofKit
import Derived.OpenShut
import Derived.ShutString
import Derived.ChangeOld
import Derived.Below
import Derived.Lib.SmallJoins
import Derived.SevenTiedAt
import Derived.LaidMore
import Derived.MakeChecks
import Derived.Lay
import Derived.Stop.Joined
import Derived.Deep.Cut
import Derived.RegionTactic
import Derived.BigQuiet
import Derived.Deep.QuietTactic
import Derived.Deep.RegionHeld3
import Derived.Deep.CutRange
namespace Go.Proofs.YtlninlempefjcaaDoor
open Go.RowKit
set_option linter.unusedVariables false

theorem of_laid {W : World} (h : laidMetH Tryd.prog Rows.systabBackRow.laid W) : True := trivial
set_option maxRecDepth 100000 in
set_option maxHeartbeats 16000000 in
theorem walk_SystabBack {w0 : World} (A : Option Addr) (n cap : Nat) (T : Nat → SR) (ht : TbA w0 A n T) (a' : Int) (ha : (Lit.int .u8 a').wf = true) (_ : True) :
    Calls Tryd.prog 5 #[.slice A n cap, .int .u8 a'] w0 fun e w' => e = .returned (.bool true) ∧ Below w0.heap.size w0 w' := by
  simp [Lit.wf, IntKind.min, IntKind.max, IntKind.signed, IntKind.bits] at ha
  obtain ⟨a, rfl⟩ := Int.eq_ofNat_of_zero_le ha.1
  have v1 : ((a : Int)).tmod 5 = ((a % 5 : Nat) : Int) := by rw [Int.tmod_eq_emod_of_nonneg (by omega)]; omega
  have HT := Lib.hid ht
  have HLT := Lib.hid (light_any A n cap T w0 ht)
  clear ht
  go_enter Tryd.func5, Tryd.ntmps5
  go_wp2_with fail
  refine HLT.out.mono ?_
  rintro e w1 ⟨h, rfl⟩
  rcases h with ⟨hok, rfl⟩ | ⟨hok, rfl⟩
  case inr =>
    clear hok
    go_wp2
    go_ret
    exact ⟨rfl, Below.refl _ _⟩
  have h40 := hok.1
  have HOF := Lib.hid (of11_any A n cap T w0 (by omega) HT.out)
  have HAW := Lib.hid fun W => awake11_any W
  clear hok HLT
  go_wp2_with fail
  refine HOF.out.mono ?_
  rintro e w3 ⟨A2, c2, rfl, hown, hB3⟩
  have HX3 := Lib.hid (own_tbl hown)
  have HRT := Lib.hid (Right_any A2 n c2 T w3 HX3.out)
  have HB3 := Lib.hid hB3
  clear hown hB3 HOF
  go_wp2_with fail
  refine HRT.out.mono ?_
  rintro e w4 ⟨p, q, hP, rfl, hB4⟩
  have HB4 := Lib.hid (HB3.out.trans (hB4.mono HB3.out.size))
  have HX4 := Lib.hid (HX3.out.below hB4 (Nat.le_refl _))
  have hz := right_zero hP
  clear hB4 HRT HB3 HX3 hP
  by_cases hq : q = 0
  case neg =>
    have g1 : ((q : Int) != 0) = true := by simp [hq]
    have g2 : (q != 0) = true := by simp [hq]
    clear hz hq
    go_wp2_with (go_at_call 13; refine (HAW.out _).mono ?_; rintro e w9 ⟨rfl, hB9⟩)
    go_ret
    exact ⟨rfl, HB4.out.trans (hB9.mono HB4.out.size)⟩
  have HOK := Lib.hid (hz.1 hq).2
  subst hq
  clear hz
  go_upto_region 8 with fail
  obtain ⟨k, hk⟩ : ∃ k : Nat, (a : Int) % 5 = k := ⟨a % 5, by omega⟩
  have hk5 : k < 5 := by omega
  rw [hk]
  clear hk v1 ha
  go_wp2_with fail
  go_loopw [9] (fun s wr => ∃ i : Nat, i ≤ n ∧ s = .int .i64 i ∧ TbA wr A2 n T ∧ Below w0.heap.size w0 wr)
    (fun s _ => n - (intOf s).toNat)
  case atStart => exact ⟨0, by omega, rfl, HX4.out, HB4.out⟩
  case round =>
    clear HX4 HB4
    obtain ⟨i, hi, rfl, hx, hB⟩ := hrel
    have HXW := Lib.hid hx
    have HBW := Lib.hid hB
    clear hx hB
    by_cases hlt : i < n
    · have HI := Lib.hid hlt
      obtain ⟨b, o, rfl, hTb⟩ := HXW.out.at_ hlt
      have q0 := (hTb.2 i hlt).1
      have hf := isN_first HOK.out hlt
      have hnf := isNum_first HOK.out hk5 hlt
      have hnb := Number_ok (some ⟨b, o, none⟩) n c2 T (T i).nm k i hk5 hlt hf.1 hf.2 wr (by omega) HXW.out
      have hnm : ∀ W, TbA W (some ⟨b, o, none⟩) n T → Calls Tryd.prog 17 #[.slice (some ⟨b, o, none⟩) n c2, .int .i64 (k : Nat), .int .i64 (numAt (T i) i k)] W fun e w' => e = .returned (.tuple #[.string (T i).nm, .int .i64 0]) ∧ Below W.heap.size W w' := fun W hW => by
        refine (Name_any (some ⟨b, o, none⟩) n c2 T k hk5 (numAt (T i) i k) W (by omega) hW).mono ?_
        rintro e w' ⟨⟨j, h1, h2, h3, rfl⟩ | ⟨h1, rfl⟩, hB⟩
        · have : j = i := by
            rcases Nat.lt_trichotomy j i with h | h | h
            · rw [hnf.2 j h] at h2; cases h2
            · exact h
            · rw [h3 i h] at hnf; cases hnf.1
          subst this
          exact ⟨rfl, hB⟩
        · rw [h1 i hlt] at hnf; cases hnf.1
      have hmx := (row_ok (HOK.out i hlt)).2.2.2.1
      have hsb : ∀ W, TbA W (some ⟨b, o, none⟩) n T → Calls Tryd.prog 18 #[.slice (some ⟨b, o, none⟩) n c2, .int .i64 (T i).mx, .int .i64 (T i).sb] W fun e w' => (∃ nm is, (((T i).mx > 0 ∧ nm = (T i).nm ∧ is = true) ∨ (¬ (T i).mx > 0 ∧ is = false)) ∧ e = .returned (.tuple #[.string nm, .bool is])) ∧ Below W.heap.size W w' := fun W hW => by
        refine (Sub_any (some ⟨b, o, none⟩) n c2 T (T i).mx (T i).sb W (by omega) hW).mono ?_
        by_cases h0 : (T i).mx > 0
        · have hsf := isSub_first HOK.out hlt h0
          rintro e w' ⟨⟨j, h1, h2, h3, rfl⟩ | ⟨h1, rfl⟩, hB⟩
          · have : j = i := by
              rcases Nat.lt_trichotomy j i with h | h | h
              · rw [hsf.2 j h] at h2; cases h2
              · exact h
              · rw [h3 i h] at hsf; cases hsf.1
            subst this
            exact ⟨⟨_, _, .inl ⟨h0, rfl, rfl⟩, rfl⟩, hB⟩
          · rw [h1 i hlt] at hsf; cases hsf.1
        · have hm0 : (T i).mx = 0 := by rcases hmx with ⟨h, _⟩ | ⟨h | h, _⟩ <;> omega
          rintro e w' ⟨⟨j, h1, h2, h3, rfl⟩ | ⟨h1, rfl⟩, hB⟩
          · simp [isSub, hm0] at h2
          · exact ⟨⟨_, _, .inr ⟨h0, rfl⟩, rfl⟩, hB⟩
      have hneg : (numAt (T i) i k < 0) ↔ (numI (T i) k < 0) := by
        have := ((row_ok (HOK.out i hlt)).2.2.1 k hk5).1
        unfold numAt
        by_cases h1 : numI (T i) k = -1
        · rw [if_pos h1]; omega
        · rw [if_neg h1]
      have HNG := Lib.hid hneg
      have HNB := Lib.hid hnb
      have HNM := Lib.hid hnm
      have HSB := Lib.hid hsb
      have i1 : (0 : Int) ≤ (i : Int) := by omega
      have i2 : (i : Int) < (n : Int) := by omega
      have i3 : (0 : Int) ≤ (k : Int) := by omega
      have i4 : (k : Int) < 5 := by omega
      clear hTb hf hnf hnb hnm hsb hneg hmx
      go_wp2_with fail
      refine HNB.out.mono ?_
      rintro e w5 ⟨rfl, hB5⟩
      have HX5 := Lib.hid (HXW.out.below hB5 (Nat.le_refl _))
      have HB5 := Lib.hid (HBW.out.trans (hB5.mono HBW.out.size))
      clear hB5 HXW HBW HNB q0
      go_wp2_with fail
      refine (HNM.out _ HX5.out).mono ?_
      rintro e w6 ⟨rfl, hB6⟩
      have HX6 := Lib.hid (HX5.out.below hB6 (Nat.le_refl _))
      have HB6 := Lib.hid (HB5.out.trans (hB6.mono HB5.out.size))
      clear hB6 HX5 HB5 HNM
      have hT6 := HX6.out.tb HI.out
      have q0 := (hT6.2 i HI.out).1
      have c0 := hT6.num i HI.out k hk5
      obtain ⟨y, hy⟩ : ∃ y, numI (T i) k = y := ⟨_, rfl⟩
      obtain ⟨z, hz⟩ : ∃ z, numAt (T i) i k = z := ⟨_, rfl⟩
      rw [hy] at c0
      rw [hy, hz] at HNG
      rw [hz]
      clear hT6 hy hz
      obtain ⟨x, hx⟩ : ∃ x, decide (y < 0) = x := ⟨_, rfl⟩
      have hx2 : decide (z < 0) = x := by rw [← hx]; exact decide_eq_decide.2 HNG.out
      have hxx : (x != x) = false := by cases x <;> rfl
      clear HNG
      go_upto_region 15 with fail
      clear c0 hx hx2 hxx
      have hk0 : Below w6.heap.size w6 w6.drew := (Below.refl _ w6).drew
      have HS : Hid (∀ W, Below w6.heap.size w6 W → W.cell? ⟨b, o + i * 8 + 6, none⟩ = some (.int .i64 (T i).mx) ∧ W.cell? ⟨b, o + i * 8 + 7, none⟩ = some (.int .i64 (T i).sb)) := Lib.hid fun W hW => by
        obtain ⟨-, -, -, -, -, -, q6, q7⟩ := ((HX6.out.below hW (Nat.le_refl _)).tb HI.out).2 i HI.out
        exact ⟨q6, q7⟩
      have HSC := Lib.hid fun W (hW : Below w6.heap.size w6 W) => HSB.out W (HX6.out.below hW (Nat.le_refl _))
      clear q0
      go_region_held3 (fun w' => w'.cell? ⟨b, o + i * 8 + 6, none⟩ = some (.int .i64 (T i).mx) ∧ w'.cell? ⟨b, o + i * 8 + 7, none⟩ = some (.int .i64 (T i).sb))
        (first | exact HS.out _ hk0 | exact HS.out _ hk1)
        (first
          | (go_at_call 18
             (with_reducible refine (HSC.out _ hk0).mono ?_)
             rintro e w7 ⟨⟨nm, is, hnm, rfl⟩, hB7⟩
             have hk1 := hk0.trans (hB7.mono hk0.size)))
      all_goals
        have hT7 := (HX6.out.below hk1 (Nat.le_refl _)).tb HI.out
        have HX7 := Lib.hid (HX6.out.below hk1 (Nat.le_refl _))
        have HB7 := Lib.hid (HB6.out.trans (hk1.mono HB6.out.size))
        obtain ⟨q0, -, -, -, -, -, q6, -⟩ := hT7.2 i HI.out
        clear hT7 HX6 HB6 HS HSC HSB hB7 hk1 hk0 q6
        rcases hnm with ⟨h0, rfl, rfl⟩ | ⟨h0, rfl⟩
        · have g1 : decide ((T i).mx > 0) = true := decide_eq_true (by omega)
          clear h0
          go_wp2
          exact ⟨⟨i + 1, by have := HI.out; omega, by go_num, HX7.out, HB7.out⟩, by have := HI.out; simp [intOf]; omega⟩
        · have g1 : decide ((T i).mx > 0) = false := decide_eq_false (by omega)
          clear h0
          go_wp2
          exact ⟨⟨i + 1, by have := HI.out; omega, by go_num, HX7.out, HB7.out⟩, by have := HI.out; simp [intOf]; omega⟩
    · obtain rfl : i = n := by omega
      have i2 : ¬ (i : Int) < (i : Int) := by omega
      go_wp2_with (go_at_call 13; refine (HAW.out _).mono ?_; rintro e w9 ⟨rfl, hB9⟩)
      go_ret
      exact ⟨rfl, HBW.out.trans (hB9.mono HBW.out.size)⟩

namespace systabBackRow
open Go.ChangeShapes Go.WideShapes Go.ChangeAt Go.RowKit Go.Joins
open Go.ChangeMaps (open_string shut_string)
set_option linter.unusedVariables false
theorem own : ownKnob Tryd.prog.godebug = none := by kernel_rfl
theorem laidOut : laidOutB Tryd.prog = true := by kernel_rfl
set_option maxRecDepth 100000 in
theorem lifted (os : Os) (started : os.Started) (H : Type) (enc : TypeId × Value → H) :
    ReturnsInHanded {} Tryd.checked os 5 .any (fun w args => (Rows.systabBackSpec.pre enc Tryd.prog Tryd.f5 [] false w args ∧ laidMetH Tryd.prog Rows.systabBackRow.laid w) ∧ sizedMet enc Tryd.prog Tryd.f5 (OpenSpec.ofChange Rows.systabBackSpec) false w args) (Rows.systabBackSpec.post enc Tryd.prog Tryd.f5 false true false false) := by
  refine returnsInHanded_of_change_and (C := Tryd.checked) (X := fun w _ => laidMetH Tryd.prog Rows.systabBackRow.laid w) (fun _ _ _ hh h => h.of_heap hh) own started (by kernel_rfl) Tryd.func5
    (ChangeSpec.witness_shaped (enc := enc) (C := Tryd.checked) (os := os) (X := fun w _ => laidMetH Tryd.prog Rows.systabBackRow.laid w) false (World.laidAll Tryd.prog os Rows.systabBackRow.laid) #[.slice none 0 0, .int .u8 0] 8 (World.laidAll_os _ _ _) (World.shaped_of_ZipB (by kernel_rfl) (by kernel_rfl)) (by kernel_rfl) (by kernel_rfl) (by kernel_rfl) (by rw [MakeChecks.laidMetH_plain _ _ _ (by kernel_rfl)]; exact laidMet_laidAll _ (by kernel_rfl) (by kernel_rfl))) ?_
  intro W base args ds gs before hval0 hW _ _ hL _
  have hval : ∀ (j : Nat) t v, Tryd.f5.params[j]? = some t → args[j]? = some v → Value.okWide Tryd.prog W .any base t v := hval0
  have hW' := hW
  obtain ⟨p, q, hA0, hV, rfl, hfz, hnd⟩ := hW
  have hA : DataW.TrodAll enc Tryd.prog W 0 (fun _ => true) true Tryd.f5.params.toList args.toList ds p := hA0
  rw [Tryd.params5] at hA hval
  obtain ⟨v0, vs0, d0, ds0, p0, q0, hargs, rfl, rfl, h0, r0⟩ := trodAll_cons hA
  obtain ⟨v1, vs1, d1, ds1, p1, q1, rfl, rfl, rfl, h1, r1⟩ := trodAll_cons r0
  obtain ⟨rfl, rfl, rfl⟩ := trodAll_nil r1
  obtain rfl : args = #[v0, v1] := by cases args; simp_all
  obtain ⟨rfl, rfl⟩ := trodVars_none hV
  have k0 := h0
  have lt0 : ∀ x ∈ p0, x.block < W.heap.size := by obtain ⟨m, hm⟩ := k0; exact DataW.trod_lt m _ _ _ hm
  have k1 := h1
  have lt1 : ∀ x ∈ p1, x.block < W.heap.size := by obtain ⟨m, hm⟩ := k1; exact DataW.trod_lt m _ _ _ hm
  obtain ⟨a0, len0, cap0, rfl⟩ := okWide_slice Tryd.underlying22 (hval 0 22 v0 rfl rfl)
  obtain ⟨g0, w0⟩ := open_rows h0
  obtain ⟨a1, rfl, rfl, rfl, w1⟩ := open_int Tryd.underlying5 (hval 1 5 v1 rfl rfl) h1
  clear hA0 hval0
  refine (walk_SystabBack (w0 := W) a0 len0 cap0 g0 w0 a1 w1 (of_laid hL)).mono fun e W' ⟨he, bel⟩ => ?_
  subst he
  exact ⟨_, rfl, _, _, _, [], _, [], hW', trodAll_mk1 (shut_bool Tryd.underlying4 _), (trodAll_cons_mk (Below.trod laidOut (by kernel_rfl) (of_decide_eq_true (by kernel_rfl)) k0 bel lt0) (trodAll_cons_mk (Below.trod laidOut (by kernel_rfl) (of_decide_eq_true (by kernel_rfl)) k1 bel lt1) trodAll_mk0)), rfl, bel.frame _, fun h => by cases h⟩

theorem over : Rows.systabBackRow.holds Tryd.pinned (OpenSpec.ofChange Rows.systabBackSpec) :=
  OpenClaim.holds_of_wide 5 Tryd.f5 rfl rfl rfl rfl rfl rfl rfl ⟨rfl, rfl, rfl, rfl, rfl⟩ rfl rfl rfl rfl rfl (by kernel_rfl) Tryd.func5 (by kernel_rfl)
    (of_decide_eq_true (by kernel_rfl)) (by unfold Func.isWrapper; first | (rw [if_pos (by decide +kernel)]; kernel_rfl) | (rw [if_neg (by decide +kernel)]; exact ⟨rfl, rfl⟩))
    (fun os started H enc _ => lifted os started H enc)
end systabBackRow

theorem systabBack_proved : Rows.SystabBackCardSaid :=
  Claim7.holds_tied_plain_at .later [] [.data, .pinned] true Rows.systabBackCard.stood.harness false
    systabBackRow.over (fun _ h => by cases h) (by kernel_rfl) (fun _ h => by cases h) systabBack_row_tie rfl ⟨rfl, rfl⟩ (by kernel_rfl) rfl
    (fun f fn hf hfn => by
      obtain rfl : f = 5 := Option.some.inj ((show Tryd.prog.funcNamed "strainer/strainerlaw11.SystabBack" = some 5 by kernel_rfl).symm.trans hf) |>.symm
      obtain rfl : fn = Tryd.f5 := (Option.some.inj (Tryd.func5.symm.trans hfn)).symm
      exact ⟨by kernel_rfl, fun j t ht => by
        rw [Tryd.params5] at ht
        have hall : ∀ t ∈ [22, 5], Tryd.prog.wantsStandIn t = false := by
          intro t ht
          simp only [List.mem_cons, List.not_mem_nil, or_false] at ht
          rcases ht with rfl | rfl <;> kernel_rfl
        exact hall t (by simpa using Array.mem_of_getElem? ht)⟩)
    (by kernel_rfl)
#print axioms systabBack_proved
end Go.Proofs.YtlninlempefjcaaDoor
