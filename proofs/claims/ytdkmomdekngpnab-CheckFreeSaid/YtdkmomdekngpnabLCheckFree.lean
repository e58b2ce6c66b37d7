/-
  The law CheckFree holds for every input: whether a program may run hangs on no number of a return, and on none that is added, compared, or loaded. No condition (the law itself lets longer rows go).
-/
import Derived.Test.YtdkmomdekngpnabKt
import Derived.Test.YtdkmomdekngpnabKs
import Derived.Test.YtdkmomdekngpnabIf
import Derived.Test.YtdkmomdekngpnabRows
import Derived.Below
import Derived.ChangeOld
import Derived.ShutString
import Derived.Lib.SmallJoins
import Derived.OpenShut
import Derived.ProofKit
import Derived.WalkKit
namespace Go.Proofs.Ytdkmomdekngpnab
open Go.RowKit

set_option maxRecDepth 100000 in
set_option maxHeartbeats 8000000 in
theorem free_go {w0 : World} (A : Option Addr) (n c : Nat) (g : Nat → IV) (hr : Ins w0 w0.heap.size A n c g) (C : Option Addr) (m d : Nat) (N : Nat → Nat) (hs : U32a w0 C m d N) (hn : n ≤ 200) (hm : m ≤ 200) :
    Calls Try.prog 5 #[.slice A n c, .slice C m d] w0 fun e w' => e = .returned (.bool true) ∧ Below w0.heap.size w0 w' := by
  have HR := Lib.hid hr
  have HS := Lib.hid hs
  obtain ⟨⟨fp, fe⟩, hFR⟩ : ∃ z, checkF g n = z := ⟨_, rfl⟩
  have HF := Lib.hid hFR
  have hown : OwnC (w0.alloc (.cells #[] 40)) w0.heap.size 40 4 (some ⟨w0.heap.size, 0, none⟩) 0 0 (icell g) := by
    have := World.ownsRow_lit (base := w0.heap.size) (e := 40) (size := 4) w0 #[] 0 (Nat.le_refl _) (by decide) rfl
    unfold OwnC
    simpa using this
  have hl0 := hr.1.below ((Below.refl w0.heap.size w0).alloc (Nat.le_refl _) (.cells #[] 40))
  clear hr hs hFR
  go_enter Try.func5, Try.ntmps5
  go_wp2_with (at_builtin; go_must (refine app_cells _ rfl _ _ _ 40 rfl Try.underlying22 infoR rfl (by decide) rfl hown rfl hl0 (fun i _ => icell_one _ i) (by unfold maxLen; omega) (by omega) (by simp) n (by omega) (icell g) (fun i _ => by unfold catC; rw [if_neg (by omega)]; simp) ?_; rintro A1 c1 w1 hown1 hB1))
  have HN : Hid (icell (gk g N 0) = icell g) := Lib.hid (by
    have : gk g N 0 = g := funext fun i => by unfold gk; rw [if_neg (by omega)]
    rw [this])
  have ho1 : OwnC w1 w0.heap.size 40 4 A1 n c1 (icell (gk g N 0)) := by rw [HN.out]; exact hown1
  have hb1 : Below w0.heap.size w0 w1 := ((Below.refl _ _).alloc (Nat.le_refl _) _).trans hB1
  clear hown hown1 hl0 HN
  go_loopw [6] (fun i wr => ∃ j : Nat, j ≤ n ∧ j ≤ m ∧ i = .int .i64 j ∧ OwnC wr w0.heap.size 40 4 A1 n c1 (icell (gk g N j)) ∧ Below w0.heap.size w0 wr)
    (fun i _ => n - (intOf i).toNat)
  case atStart => exact ⟨0, by omega, by omega, rfl, ho1, hb1⟩
  case round =>
    clear ho1 hb1 hB1
    obtain ⟨j, hj, hjm', rfl, hown, hB⟩ := hrel
    have hs := hB.size
    have HO := Lib.hid hown
    have HOK : Hid (∀ i, i < n → (gk g N j i).ok) := Lib.hid fun i hi => gk_ok g N j i (HR.out.2 i hi) (fun h => HS.out.2 i (by omega))
    by_cases hjn : j < n
    · by_cases hjm : j < m
      · obtain ⟨bb, rfl, hge, hlt, hcs⟩ := hown.at_ (by omega)
        obtain ⟨p0, _⟩ := hcs (j * 4) (by omega)
        obtain ⟨b2, off2, rfl, hbb2, hc2⟩ := (HS.out.1.below hB).at_ (by omega)
        have q0 := hc2 j (by omega)
        have hgj : gk g N j j = g j := by unfold gk; rw [if_neg (by omega)]
        rw [icell0, hgj] at p0
        have HV := Lib.hid (HR.out.2 j hjn)
        have hNj := HS.out.2 j hjm
        clear hcs hc2 hgj hown
        obtain ⟨x, hx⟩ : ∃ x, N j = x := ⟨_, rfl⟩
        have HX := Lib.hid hx
        rw [hx] at q0
        clear hx
        cases hf : freeV (g j)
        · have HFV := Lib.hid hf
          clear hf
          go_wp2_with (go_at_call 17
                       refine (free_any (g j) HV.out _).mono ?_
                       rw [HFV.out]
                       rintro e w2 ⟨rfl, hB2⟩)
          refine ⟨⟨j + 1, by omega, by omega, by go_num, ?_, hB.trans (hB2.mono hs)⟩, by simp [intOf]; omega⟩
          rw [show gk g N (j + 1) = gk g N j from funext fun i => gk_skip g N j HFV.out i]
          exact HO.out.below hB2 (Nat.le_refl _)
        · have HFV := Lib.hid hf
          clear hf
          go_wp2_with (go_at_call 17
                       refine (free_any (g j) HV.out _).mono ?_
                       rw [HFV.out]
                       rintro e w2 ⟨rfl, hB2⟩
                       have ho2 := HO.out.below hB2 (Nat.le_refl _)
                       have q2 := (hB2.cell (p := ⟨b2, off2 + j, none⟩) (Nat.lt_of_lt_of_le hbb2 hs)).trans q0
                       obtain ⟨bb', eb, _, _, hcs⟩ := ho2.at_ (by omega)
                       obtain rfl : bb = bb' := by injection eb with eb; injection eb
                       obtain ⟨p3, f3⟩ := hcs (j * 4 + 3) (by omega)
                       have hb2 := hB.trans (hB2.mono hs)
                       clear hcs eb)
          exact ⟨⟨j + 1, by omega, by omega, by go_num, (ho2.set_ _).congr (fun i _ => by rw [← HX.out]; exact gk_step g N j HFV.out i), hb2.setCell (p := ⟨bb, j * 4 + 3, none⟩) hge _⟩, by simp [intOf]; omega⟩
      · clear hown
        go_wp2_with fail
        refine (all4_any A n c g _ (by omega) ((HR.out.below hB).more hB.size)).mono ?_
        rintro e w2 ⟨A2, c2, rfl, hown2, hB2⟩
        have HI2 : Hid (Ins w2 w2.heap.size A2 n c2 g) := Lib.hid ⟨hown2.cel, HR.out.2⟩
        have hb2 := hB.trans (hB2.mono hB.size)
        have HO2 := Lib.hid (HO.out.below hB2 (Nat.le_refl _))
        clear hown2
        go_wp2_with fail
        refine (check_any _ _ _ g _ HI2.out).mono ?_
        rw [HF.out]
        rintro e w3 ⟨rfl, hB3⟩
        have hb3 := hb2.trans (hB3.mono hb2.size)
        have HI3 : Hid (Ins w3 w3.heap.size A1 n c1 (gk g N j)) := Lib.hid ⟨(HO2.out.below hB3 (Nat.le_refl _)).cel, HOK.out⟩
        go_wp2_with fail
        refine (all4_any A1 n c1 (gk g N j) _ (by omega) HI3.out).mono ?_
        rintro e w4 ⟨A4, c4, rfl, hown4, hB4⟩
        have HI4 : Hid (Ins w4 w4.heap.size A4 n c4 (gk g N j)) := Lib.hid ⟨hown4.cel, HOK.out⟩
        have hb4 := hb3.trans (hB4.mono hb3.size)
        clear hown4
        go_wp2_with fail
        refine (check_any _ _ _ (gk g N j) _ HI4.out).mono ?_
        rw [gk_check, HF.out]
        rintro e w5 ⟨rfl, hB5⟩
        have hb5 := hb4.trans (hB5.mono hb4.size)
        clear hB2 hB3 hB4 hB5 hb2 hb3 hb4
        go_wp2_with fail
        refine (awake4_any _).mono ?_
        rintro e w6 ⟨rfl, hB6⟩
        have hb6 := hb5.trans (hB6.mono hb5.size)
        go_wp2
        go_ret
        exact ⟨rfl, hb6⟩
    · clear hown
      go_wp2_with fail
      refine (all4_any A n c g _ (by omega) ((HR.out.below hB).more hB.size)).mono ?_
      rintro e w2 ⟨A2, c2, rfl, hown2, hB2⟩
      have HI2 : Hid (Ins w2 w2.heap.size A2 n c2 g) := Lib.hid ⟨hown2.cel, HR.out.2⟩
      have hb2 := hB.trans (hB2.mono hB.size)
      have HO2 := Lib.hid (HO.out.below hB2 (Nat.le_refl _))
      clear hown2
      go_wp2_with fail
      refine (check_any _ _ _ g _ HI2.out).mono ?_
      rw [HF.out]
      rintro e w3 ⟨rfl, hB3⟩
      have hb3 := hb2.trans (hB3.mono hb2.size)
      have HI3 : Hid (Ins w3 w3.heap.size A1 n c1 (gk g N j)) := Lib.hid ⟨(HO2.out.below hB3 (Nat.le_refl _)).cel, HOK.out⟩
      go_wp2_with fail
      refine (all4_any A1 n c1 (gk g N j) _ (by omega) HI3.out).mono ?_
      rintro e w4 ⟨A4, c4, rfl, hown4, hB4⟩
      have HI4 : Hid (Ins w4 w4.heap.size A4 n c4 (gk g N j)) := Lib.hid ⟨hown4.cel, HOK.out⟩
      have hb4 := hb3.trans (hB4.mono hb3.size)
      clear hown4
      go_wp2_with fail
      refine (check_any _ _ _ (gk g N j) _ HI4.out).mono ?_
      rw [gk_check, HF.out]
      rintro e w5 ⟨rfl, hB5⟩
      have hb5 := hb4.trans (hB5.mono hb4.size)
      clear hB2 hB3 hB4 hB5 hb2 hb3 hb4
      go_wp2_with fail
      refine (awake4_any _).mono ?_
      rintro e w6 ⟨rfl, hB6⟩
      have hb6 := hb5.trans (hB6.mono hb5.size)
      go_wp2
      go_ret
      exact ⟨rfl, hb6⟩

set_option maxHeartbeats 1000000 in
theorem walk_CheckFree {w0 : World} (A : Option Addr) (n c : Nat) (g : Nat → IV) (hr : Ins w0 w0.heap.size A n c g) (C : Option Addr) (m d : Nat) (N : Nat → Nat) (hs : U32a w0 C m d N) :
    Calls Try.prog 5 #[.slice A n c, .slice C m d] w0 fun e w' => e = .returned (.bool true) ∧ Below w0.heap.size w0 w' := by
  have hmx := hr.1.le
  have hmy := hs.1.le
  unfold maxLen at hmx hmy
  obtain ⟨m1, m2⟩ := hmx
  obtain ⟨m3, m4⟩ := hmy
  by_cases h1 : 200 < n
  · go_enter Try.func5, Try.ntmps5
    go_wp2
    go_ret
    exact ⟨rfl, Below.refl _ _⟩
  · by_cases h2 : 200 < m
    · go_enter Try.func5, Try.ntmps5
      go_wp2
      go_ret
      exact ⟨rfl, Below.refl _ _⟩
    · exact free_go A n c g hr C m d N hs (by omega) (by omega)

namespace checkFreeRow
open Go.ChangeShapes Go.WideShapes Go.ChangeAt Go.RowKit Go.Joins
open Go.ChangeMaps (open_string shut_string)
set_option linter.unusedVariables false
theorem own : ownKnob Try.prog.godebug = none := by kernel_rfl
theorem laidOut : laidOutB Try.prog = true := by kernel_rfl
set_option maxRecDepth 100000 in
theorem lifted (os : Os) (started : os.Started) (H : Type) (enc : TypeId × Value → H) :
    ReturnsInHanded {} Try.checked os 5 .any (Rows.checkFreeSpec.pre6 enc Try.prog Try.f5 Rows.checkFreeRow.domain false) (Rows.checkFreeSpec.post enc Try.prog Try.f5 false true false false) := by
  refine returnsInHanded_of_change (C := Try.checked) own started (by kernel_rfl) Try.func5
    (ChangeSpec.witness6 (enc := enc) (C := Try.checked) false ⟨#[], #[.slice none 0 0, .slice none 0 0], []⟩ 8 (by kernel_rfl) (by kernel_rfl) (by kernel_rfl) (by kernel_rfl)) ?_
  intro W base args ds gs before hval0 hW hcnd _
  have hval : ∀ (j : Nat) t v, Try.f5.params[j]? = some t → args[j]? = some v → Value.okWide Try.prog W .any base t v := hval0
  have hW' := hW
  obtain ⟨p, q, hA0, hV, rfl, hfz, hnd⟩ := hW
  have hA : DataW.TrodAll enc Try.prog W 0 (fun _ => true) true Try.f5.params.toList args.toList ds p := hA0
  rw [Try.params5] at hA hval
  obtain ⟨v0, vs0, d0, ds0, p0, q0, hargs, rfl, rfl, h0, r0⟩ := trodAll_cons hA
  obtain ⟨v1, vs1, d1, ds1, p1, q1, rfl, rfl, rfl, h1, r1⟩ := trodAll_cons r0
  obtain ⟨rfl, rfl, rfl⟩ := trodAll_nil r1
  obtain rfl : args = #[v0, v1] := by cases args; simp_all
  obtain ⟨rfl, rfl⟩ := trodVars_none hV
  have k0 := h0
  have lt0 : ∀ x ∈ p0, x.block < W.heap.size := by obtain ⟨m, hm⟩ := k0; exact DataW.trod_lt m _ _ _ hm
  have k1 := h1
  have lt1 : ∀ x ∈ p1, x.block < W.heap.size := by obtain ⟨m, hm⟩ := k1; exact DataW.trod_lt m _ _ _ hm
  obtain ⟨a0, len0, cap0, rfl⟩ := okWide_slice Try.underlying22 (hval 0 22 v0 rfl rfl)
  obtain ⟨g0, w0⟩ := open_ins h0
  obtain ⟨a1, len1, cap1, rfl⟩ := okWide_slice Try.underlying36 (hval 1 36 v1 rfl rfl)
  obtain ⟨f1, w1⟩ : ∃ f, U32a W a1 len1 cap1 f := by
    obtain ⟨fuel, hf⟩ := h1
    rcases open_ints Try.underlying36 Try.underlying38 (by kernel_rfl) hf with ⟨hcs, _⟩ | ⟨x, l, c, zs, hcs, _, hl, hm, hz, _, hcell, hwz⟩
    · simp [Value.cells] at hcs
      obtain ⟨rfl, rfl, rfl⟩ := hcs
      exact ⟨fun _ => 0, Cel.nil_, fun i h => by omega⟩
    · simp [Value.cells] at hcs
      obtain ⟨rfl, rfl, rfl⟩ := hcs
      exact ⟨_, u32_of_ints hl hm (by have : zs.length = cap1 := by simpa using hz
                                      omega) hcell hwz⟩
  clear hA0 hval0
  refine (walk_CheckFree (w0 := W) a0 len0 cap0 g0 w0 a1 len1 cap1 f1 w1).mono fun e W' ⟨he, bel⟩ => ?_
  subst he
  exact ⟨_, rfl, _, _, _, [], _, [], hW', trodAll_mk1 (shut_bool Try.underlying4 _), (trodAll_cons_mk (Below.trod laidOut (by kernel_rfl) (of_decide_eq_true (by kernel_rfl)) k0 bel lt0) (trodAll_cons_mk (Below.trod laidOut (by kernel_rfl) (of_decide_eq_true (by kernel_rfl)) k1 bel lt1) trodAll_mk0)), rfl, bel.frame _, fun h => by cases h⟩

theorem over : Rows.checkFreeRow.holds Try.pinned (OpenSpec.ofChange Rows.checkFreeSpec) :=
  OpenClaim.holds_of_wide 5 Try.f5 rfl rfl rfl rfl rfl rfl rfl ⟨rfl, rfl, rfl, rfl, rfl⟩ rfl rfl rfl rfl rfl (by kernel_rfl) Try.func5 (by kernel_rfl)
    (of_decide_eq_true (by kernel_rfl)) (by unfold Func.isWrapper; first | (rw [if_pos (by decide +kernel)]; kernel_rfl) | (rw [if_neg (by decide +kernel)]; exact ⟨rfl, rfl⟩))
    (fun os started H enc _ => lifted os started H enc)
end checkFreeRow

theorem checkFree_proved : Rows.CheckFreeSaid := checkFreeRow.over
#print axioms checkFree_proved
end Go.Proofs.Ytdkmomdekngpnab
