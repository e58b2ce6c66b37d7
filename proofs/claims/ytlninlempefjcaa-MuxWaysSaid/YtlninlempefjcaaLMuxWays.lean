/-
  How i386 reaches any name of any table that may be (of 40 rows, a name of 60 bytes), and which multiplexer any number is.
-/
import Derived.Test.YtlninlempefjcaaRows
import Derived.Test.YtlninlempefjcaaMe
import Derived.Deep.RegionHeld3
import Derived.ProofKit
import Derived.OpenShut
import Derived.ShutString
import Derived.ChangeOld
import Derived.Below
import Derived.Lib.SmallJoins
namespace Go.Proofs.Ytlninlempefjcaa
open Go.RowKit
set_option linter.unusedVariables false

/-- What both say of a name. -/
theorem ways_both {T : Nat → SR} {n : Nat} {s : ByteArray} {d m : Bool} {p : Int} (hok : OkT n T) (h : WaysP T n s d m) (h' : AtP (isN T s) n p) :
    (∃ j, j < n ∧ p = (j : Nat) ∧ d = decide ((T j).n2 ≥ 0) ∧ m = decide ((T j).mx > 0)) ∨ (p = -1 ∧ d = false ∧ m = false) := by
  rcases h with ⟨j, h1, h2, h3, rfl, rfl⟩ | ⟨h1, rfl, rfl⟩ <;> rcases h' with ⟨k, k1, k2, k3, rfl⟩ | ⟨k1, rfl⟩
  · have : j = k := by
      rcases Nat.lt_trichotomy j k with h | h | h
      · rw [k3 j h] at h2; cases h2
      · exact h
      · rw [h3 k h] at k2; cases k2
    subst this
    refine .inl ⟨j, h1, rfl, rfl, ?_⟩
    rcases (row_ok (hok.2 j h1)).2.2.2.1 with ⟨a, _⟩ | ⟨a | a, _⟩ <;> rw [a] <;> rfl
  · rw [k1 j h1] at h2; cases h2
  · rw [h1 k k1] at k2; cases k2
  · exact .inr ⟨rfl, rfl, rfl⟩

set_option maxRecDepth 100000 in
set_option maxHeartbeats 16000000 in
theorem walk_MuxWays {w0 : World} (A : Option Addr) (n cap : Nat) (T : Nat → SR) (ht : TbA w0 A n T) (s : ByteArray) (hs : s.size ≤ maxLen) (num' : Int) (hnum : (Lit.int .u32 num').wf = true) :
    Calls Try.prog 5 #[.slice A n cap, .string s, .int .u32 num'] w0 fun e w' => e = .returned (.bool true) ∧ Below w0.heap.size w0 w' := by
  simp [Lit.wf, IntKind.min, IntKind.max, IntKind.signed, IntKind.bits] at hnum
  obtain ⟨num, rfl⟩ := Int.eq_ofNat_of_zero_le hnum.1
  have HT := Lib.hid ht
  have HLT := Lib.hid (light12_any A n cap T w0 HT.out)
  clear ht
  go_enter Try.func5, Try.ntmps5
  go_wp2_with fail
  refine HLT.out.mono ?_
  rintro e w1 ⟨h, hB1⟩
  have HT1 := Lib.hid (HT.out.below hB1 (Nat.le_refl _))
  have HB1 := Lib.hid hB1
  clear hB1 HT HLT
  rcases h with ⟨hok, rfl⟩ | ⟨hok, rfl⟩
  case inr =>
    clear hok
    go_wp2
    go_ret
    exact ⟨rfl, HB1.out⟩
  have HOK := Lib.hid hok
  have h40 := hok.1
  clear hok
  by_cases h60 : s.size > 60
  · have f0 : (s.size : Int) > 60 := by omega
    have f1 : decide ((s.size : Int) > 60) = true := decide_eq_true f0
    clear h60
    go_wp2
    go_ret
    exact ⟨rfl, HB1.out⟩
  have f0 : ¬ (s.size : Int) > 60 := by omega
  have f1 : decide ((s.size : Int) > 60) = false := decide_eq_false f0
  have HOF := Lib.hid (of12_any A n cap T w1 (by omega) HT1.out)
  go_wp2_with fail
  refine HOF.out.mono ?_
  rintro e w2 ⟨A2, c2, rfl, hown, hB2⟩
  have HWY := Lib.hid (ways_any A2 n c2 T s w2 (by omega) (own_TbA hown))
  have HT2 := Lib.hid (HT1.out.below hB2 (Nat.le_refl _))
  have HB2 := Lib.hid (HB1.out.trans (hB2.mono HB1.out.size))
  clear hown hB2 HT1 HB1 HOF
  go_wp2_with fail
  refine HWY.out.mono ?_
  rintro e w3 ⟨d, m, hW, rfl, hB3⟩
  have HT3 := Lib.hid (HT2.out.below hB3 (Nat.le_refl _))
  have HB3 := Lib.hid (HB2.out.trans (hB3.mono HB2.out.size))
  have HFD := Lib.hid (refFind_at A n cap T s w3 (by omega) HT3.out)
  clear hB3 HT2 HB2 HWY
  go_wp2_with fail
  refine HFD.out.mono ?_
  rintro e w4 ⟨p, hP, rfl, rfl⟩
  have HBO := Lib.hid (ways_both HOK.out hW hP)
  clear hW hP HFD
  have HAW := Lib.hid fun W => awake12_any W
  have hkd := fun W => kind_any num W
  have hcs : (num = 102 ∧ kindF num = 1) ∨ (num = 117 ∧ kindF num = 2) ∨ (num ≠ 102 ∧ num ≠ 117 ∧ kindF num = 0) := by
    by_cases h1 : num = 102
    · exact .inl ⟨h1, by rw [h1]; rfl⟩
    · by_cases h2 : num = 117
      · exact .inr (.inl ⟨h2, by rw [h2]; rfl⟩)
      · exact .inr (.inr ⟨h1, h2, by rw [kindF, if_neg h1, if_neg h2]⟩)
  rcases hcs with ⟨hn, hk⟩ | ⟨hn, hk⟩ | ⟨hn1, hn2, hk⟩
  · rw [hk] at hkd
    have HKD := Lib.hid hkd
    subst hn
    clear hkd hk
    rcases HBO.out with ⟨j, hj, rfl, hd, hm⟩ | ⟨rfl, rfl, rfl⟩
    · obtain ⟨b, o, rfl, hTb⟩ := HT3.out.at_ hj
      obtain ⟨-, -, -, q3, -, -, q6, -⟩ := hTb.2 j hj
      have i1 : (j : Int) ≥ 0 := by omega
      have i2 : decide ((j : Int) ≥ 0) = true := decide_eq_true i1
      have i3 : (j : Int) < (n : Int) := by omega
      have i4 : (0 : Int) ≤ (j : Int) := by omega
      have hd' := hd.symm
      have hm' := hm.symm
      obtain ⟨y, hy⟩ : ∃ y, (T j).n2 = y := ⟨_, rfl⟩
      obtain ⟨z, hz⟩ : ∃ z, (T j).mx = z := ⟨_, rfl⟩
      rw [hy] at hd' q3
      rw [hz] at hm' q6
      clear hTb hd hm hy hz HBO
      cases d <;> cases m
      all_goals
        go_wp2_with (first
          | (go_at_call 27; refine (HKD.out _).mono ?_; rintro e w5 ⟨rfl, rfl⟩)
          | (go_at_call 25; refine (HAW.out _).mono ?_; rintro e w6 ⟨rfl, hB6⟩))
        go_ret
        exact ⟨rfl, HB3.out.trans (hB6.mono HB3.out.size)⟩
    · go_wp2_with (first
        | (go_at_call 27; refine (HKD.out _).mono ?_; rintro e w5 ⟨rfl, rfl⟩)
        | (go_at_call 25; refine (HAW.out _).mono ?_; rintro e w6 ⟨rfl, hB6⟩))
      go_ret
      exact ⟨rfl, HB3.out.trans (hB6.mono HB3.out.size)⟩
  · rw [hk] at hkd
    have HKD := Lib.hid hkd
    subst hn
    clear hkd hk
    rcases HBO.out with ⟨j, hj, rfl, hd, hm⟩ | ⟨rfl, rfl, rfl⟩
    · obtain ⟨b, o, rfl, hTb⟩ := HT3.out.at_ hj
      obtain ⟨-, -, -, q3, -, -, q6, -⟩ := hTb.2 j hj
      have i1 : (j : Int) ≥ 0 := by omega
      have i2 : decide ((j : Int) ≥ 0) = true := decide_eq_true i1
      have i3 : (j : Int) < (n : Int) := by omega
      have i4 : (0 : Int) ≤ (j : Int) := by omega
      have hd' := hd.symm
      have hm' := hm.symm
      obtain ⟨y, hy⟩ : ∃ y, (T j).n2 = y := ⟨_, rfl⟩
      obtain ⟨z, hz⟩ : ∃ z, (T j).mx = z := ⟨_, rfl⟩
      rw [hy] at hd' q3
      rw [hz] at hm' q6
      clear hTb hd hm hy hz HBO
      cases d <;> cases m
      all_goals
        go_wp2_with (first
          | (go_at_call 27; refine (HKD.out _).mono ?_; rintro e w5 ⟨rfl, rfl⟩)
          | (go_at_call 25; refine (HAW.out _).mono ?_; rintro e w6 ⟨rfl, hB6⟩))
        go_ret
        exact ⟨rfl, HB3.out.trans (hB6.mono HB3.out.size)⟩
    · go_wp2_with (first
        | (go_at_call 27; refine (HKD.out _).mono ?_; rintro e w5 ⟨rfl, rfl⟩)
        | (go_at_call 25; refine (HAW.out _).mono ?_; rintro e w6 ⟨rfl, hB6⟩))
      go_ret
      exact ⟨rfl, HB3.out.trans (hB6.mono HB3.out.size)⟩
  · rw [hk] at hkd
    have HKD := Lib.hid hkd
    have g1 : ((num : Int) == 102) = false := beq_eq_false_iff_ne.2 (by omega)
    have g2 : ((num : Int) == 117) = false := beq_eq_false_iff_ne.2 (by omega)
    clear hn1 hn2
    clear hkd hk
    rcases HBO.out with ⟨j, hj, rfl, hd, hm⟩ | ⟨rfl, rfl, rfl⟩
    · obtain ⟨b, o, rfl, hTb⟩ := HT3.out.at_ hj
      obtain ⟨-, -, -, q3, -, -, q6, -⟩ := hTb.2 j hj
      have i1 : (j : Int) ≥ 0 := by omega
      have i2 : decide ((j : Int) ≥ 0) = true := decide_eq_true i1
      have i3 : (j : Int) < (n : Int) := by omega
      have i4 : (0 : Int) ≤ (j : Int) := by omega
      have hd' := hd.symm
      have hm' := hm.symm
      obtain ⟨y, hy⟩ : ∃ y, (T j).n2 = y := ⟨_, rfl⟩
      obtain ⟨z, hz⟩ : ∃ z, (T j).mx = z := ⟨_, rfl⟩
      rw [hy] at hd' q3
      rw [hz] at hm' q6
      clear hTb hd hm hy hz HBO
      cases d <;> cases m
      all_goals
        go_wp2_with (first
          | (go_at_call 27; refine (HKD.out _).mono ?_; rintro e w5 ⟨rfl, rfl⟩)
          | (go_at_call 25; refine (HAW.out _).mono ?_; rintro e w6 ⟨rfl, hB6⟩))
        go_ret
        exact ⟨rfl, HB3.out.trans (hB6.mono HB3.out.size)⟩
    · go_wp2_with (first
        | (go_at_call 27; refine (HKD.out _).mono ?_; rintro e w5 ⟨rfl, rfl⟩)
        | (go_at_call 25; refine (HAW.out _).mono ?_; rintro e w6 ⟨rfl, hB6⟩))
      go_ret
      exact ⟨rfl, HB3.out.trans (hB6.mono HB3.out.size)⟩

namespace muxWaysRow
open Go.ChangeShapes Go.WideShapes Go.ChangeAt Go.RowKit Go.Joins
open Go.ChangeMaps (open_string shut_string)
set_option linter.unusedVariables false
theorem own : ownKnob Try.prog.godebug = none := by kernel_rfl
theorem laidOut : laidOutB Try.prog = true := by kernel_rfl
set_option maxRecDepth 100000 in
theorem lifted (os : Os) (started : os.Started) (H : Type) (enc : TypeId × Value → H) :
    ReturnsInHanded {} Try.checked os 5 .any (Rows.muxWaysSpec.pre6 enc Try.prog Try.f5 Rows.muxWaysRow.domain false) (Rows.muxWaysSpec.post enc Try.prog Try.f5 false true false false) := by
  refine returnsInHanded_of_change (C := Try.checked) own started (by kernel_rfl) Try.func5
    (ChangeSpec.witness6 (enc := enc) (C := Try.checked) false ⟨#[], #[.slice none 0 0, .string ⟨#[]⟩, .int .u32 0], []⟩ 8 (by kernel_rfl) (by kernel_rfl) (by kernel_rfl) (by kernel_rfl)) ?_
  intro W base args ds gs before hval0 hW hcnd _
  have hval : ∀ (j : Nat) t v, Try.f5.params[j]? = some t → args[j]? = some v → Value.okWide Try.prog W .any base t v := hval0
  have hW' := hW
  obtain ⟨p, q, hA0, hV, rfl, hfz, hnd⟩ := hW
  have hA : DataW.TrodAll enc Try.prog W 0 (fun _ => true) true Try.f5.params.toList args.toList ds p := hA0
  rw [Try.params5] at hA hval
  obtain ⟨v0, vs0, d0, ds0, p0, q0, hargs, rfl, rfl, h0, r0⟩ := trodAll_cons hA
  obtain ⟨v1, vs1, d1, ds1, p1, q1, rfl, rfl, rfl, h1, r1⟩ := trodAll_cons r0
  obtain ⟨v2, vs2, d2, ds2, p2, q2, rfl, rfl, rfl, h2, r2⟩ := trodAll_cons r1
  obtain ⟨rfl, rfl, rfl⟩ := trodAll_nil r2
  obtain rfl : args = #[v0, v1, v2] := by cases args; simp_all
  obtain ⟨rfl, rfl⟩ := trodVars_none hV
  have k0 := h0
  have lt0 : ∀ x ∈ p0, x.block < W.heap.size := by obtain ⟨m, hm⟩ := k0; exact DataW.trod_lt m _ _ _ hm
  have k1 := h1
  have lt1 : ∀ x ∈ p1, x.block < W.heap.size := by obtain ⟨m, hm⟩ := k1; exact DataW.trod_lt m _ _ _ hm
  have k2 := h2
  have lt2 : ∀ x ∈ p2, x.block < W.heap.size := by obtain ⟨m, hm⟩ := k2; exact DataW.trod_lt m _ _ _ hm
  obtain ⟨a0, len0, cap0, rfl⟩ := okWide_slice Try.underlying22 (hval 0 22 v0 rfl rfl)
  obtain ⟨g0, w0⟩ := open_rows h0
  obtain ⟨s1, rfl, rfl, rfl, w1⟩ := open_string Try.underlying9 (hval 1 9 v1 rfl rfl) h1
  obtain ⟨a2, rfl, rfl, rfl, w2⟩ := open_int Try.underlying47 (hval 2 47 v2 rfl rfl) h2
  clear hA0 hval0
  refine (walk_MuxWays (w0 := W) a0 len0 cap0 g0 w0 s1 w1 a2 w2).mono fun e W' ⟨he, bel⟩ => ?_
  subst he
  exact ⟨_, rfl, _, _, _, [], _, [], hW', trodAll_mk1 (shut_bool Try.underlying4 _), (trodAll_cons_mk (Below.trod laidOut (by kernel_rfl) (of_decide_eq_true (by kernel_rfl)) k0 bel lt0) (trodAll_cons_mk (Below.trod laidOut (by kernel_rfl) (of_decide_eq_true (by kernel_rfl)) k1 bel lt1) (trodAll_cons_mk (Below.trod laidOut (by kernel_rfl) (of_decide_eq_true (by kernel_rfl)) k2 bel lt2) trodAll_mk0))), rfl, bel.frame _, fun h => by cases h⟩

theorem over : Rows.muxWaysRow.holds Try.pinned (OpenSpec.ofChange Rows.muxWaysSpec) :=
  OpenClaim.holds_of_wide 5 Try.f5 rfl rfl rfl rfl rfl rfl rfl ⟨rfl, rfl, rfl, rfl, rfl⟩ rfl rfl rfl rfl rfl (by kernel_rfl) Try.func5 (by kernel_rfl)
    (of_decide_eq_true (by kernel_rfl)) (by unfold Func.isWrapper; first | (rw [if_pos (by decide +kernel)]; kernel_rfl) | (rw [if_neg (by decide +kernel)]; exact ⟨rfl, rfl⟩))
    (fun os started H enc _ => lifted os started H enc)
end muxWaysRow

theorem muxWays_proved : Rows.MuxWaysSaid := muxWaysRow.over
#print axioms muxWays_proved
end Go.Proofs.Ytlninlempefjcaa
