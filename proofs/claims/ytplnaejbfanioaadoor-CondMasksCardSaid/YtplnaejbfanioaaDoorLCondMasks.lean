/-
  The law CondMasks holds for every input: a mask of all bits asks whether it is equal, one of none whether the value is 0; a value with bits beside the mask is never met. No condition.
-/
import Derived.Test.YtplnaejbfanioaaDoorRows
import Derived.Test.YtplnaejbfanioaaDoorCards
import Derived.Test.YtplnaejbfanioaaDoorTie
import Derived.Test.YtplnaejbfanioaaDoorGk
import Derived.Test.YtplnaejbfanioaaDoorGl
import Derived.Test.YtplnaejbfanioaaDoorGm
import Derived.WalkKit
import Derived.ProofKit
import Derived.OpenShut
import Derived.ShutString
import Derived.ChangeOld
import Derived.Below
import Derived.Lib.SmallJoins
import Derived.SevenTiedAt
import Derived.LaidMore
import Derived.Stop.Joined
import Derived.Deep.Cut
import Derived.RegionTactic
import Derived.Laws.Bits64b
import Derived.Deep.CutRange
namespace Go.Proofs.YtplnaejbfanioaaDoor
open Go.RowKit
set_option linter.unusedVariables false

theorem holds7 (a : Nat) (ha : a < 6) (m v : Nat) (hm : m < 18446744073709551616) (f : Nat → Nat) (hf : ∀ i, i < 6 → f i < 18446744073709551616) (r : Bool) (hr : ((f a &&& m) == v) = r) (w : World) :
    Calls Tryd.prog 17 #[.agg #[.int .i64 a, .int .i64 7, .int .u64 m, .int .u64 v], .agg (argsA f)] w fun e w' => e = .returned (.bool r) ∧ Below w.heap.size w w' := by
  have := holds_ok a ha 7 m v 6 ⟨by omega, by omega, by omega, rfl, by simp [mkO]⟩ f hf hm w
  rw [show hoF 6 (f a) m v = r from hr] at this
  exact this
theorem and_full (n : Nat) (h : n < 18446744073709551616) : n &&& 18446744073709551615 = n := by
  rw [show (18446744073709551615 : Nat) = 2 ^ 64 - 1 by rfl, Nat.and_two_pow_sub_one_eq_mod]
  exact Nat.mod_eq_of_lt (by omega)
theorem andNot_zero (n m v : Nat) (hn : n < 18446744073709551616) (hm : m < 18446744073709551616) (h : n &&& m = v) : bits BinOp.andNot IntKind.u64 (v : Int) (m : Int) = 0 := by
  subst h
  show IntKind.u64.wrap ((BitVec.ofInt 64 ((n &&& m : Nat) : Int) &&& ~~~ BitVec.ofInt 64 (m : Int)).toNat : Int) = 0
  rw [BitVec.ofInt_natCast, BitVec.ofInt_natCast, BitVec.ofNat_and, BitVec.and_assoc, BitVec.and_not_self]
  simp
  rfl

set_option maxRecDepth 100000 in
set_option maxHeartbeats 8000000 in
theorem masks_at {w0 : World} (x m v : Nat) (f : Nat → Nat) (hx : x < 256) (hm : m < 18446744073709551616) (hv : v < 18446744073709551616) (hf : ∀ i, i < 6 → f i < 18446744073709551616) (ht : TabP w0) (a : Nat) (ha : a < 6) (ea : (x : Int) % 6 = (a : Int))
    (e z s : Bool) (he : (f a == v) = e) (hz : (v == 0) = z) (hs : ((f a &&& m) == v) = s) (B : Bool) (hB : (bits BinOp.andNot IntKind.u64 (v : Int) (m : Int) == 0) = B) (hBs : s = true → B = true) :
    Calls Tryd.prog 6 #[.agg #[.int .u8 x, .int .u64 m, .int .u64 v, .int .u64 (f 0), .int .u64 (f 1), .int .u64 (f 2), .int .u64 (f 3), .int .u64 (f 4), .int .u64 (f 5)]] w0 fun e w' => e = .returned (.bool true) ∧ Below w0.heap.size w0 w' := by
  have ea2 : Int.tmod (x : Int) 6 = (a : Int) := by rw [Int.tmod_eq_emod_of_nonneg (by omega)]; exact ea
  have h1 : ∀ X, Calls Tryd.prog 17 #[.agg #[.int .i64 a, .int .i64 7, .int .u64 18446744073709551615, .int .u64 v], .agg (argsA f)] X fun e' w' => e' = .returned (.bool e) ∧ Below X.heap.size X w' := fun X => holds7 a ha 18446744073709551615 v (by omega) f hf e (by rw [and_full _ (hf a ha)]; exact he) X
  have H1 := Lib.hid h1
  have h2 : ∀ X, Calls Tryd.prog 17 #[.agg #[.int .i64 a, .int .i64 7, .int .u64 0, .int .u64 v], .agg (argsA f)] X fun e' w' => e' = .returned (.bool z) ∧ Below X.heap.size X w' := fun X => holds7 a ha 0 v (by omega) f hf z (by rw [Nat.and_zero]; rw [← hz, Bool.eq_iff_iff]; simp; try omega) X
  have H2 := Lib.hid h2
  have H3 := Lib.hid fun X => holds7 a ha m v hm f hf s hs X
  have he2 : ((f a : Int) == (v : Int)) = e := by rw [← he, Bool.eq_iff_iff]; simp; try omega
  have hz2 : ((v : Int) == 0) = z := by rw [← hz, Bool.eq_iff_iff]; simp; try omega
  have HT := Lib.hid ht
  have i1 : (0 : Int) ≤ (a : Int) := by omega
  have i2 : (a : Int) < 6 := by omega
  have HQ := Lib.hid hBs
  clear ht he hz hs hBs h1 h2
  go_enter Tryd.func6, Tryd.ntmps6
  go_upto_region 1 with fail
  go_region
  all_goals go_upto_region 2 with fail
  have ra : RowC (((w0.alloc (.cells #[.int .u8 x, .int .u64 m, .int .u64 v, .int .u64 (f 0), .int .u64 (f 1), .int .u64 (f 2), .int .u64 (f 3), .int .u64 (f 4), .int .u64 (f 5)] 45)).alloc (.cells (argsA f) 37)).drew) (w0.heap.size + 1) (argsA f) 37 := RowC.new _ _ _ _ (by simp)
  have b := Lib.hid (show Below w0.heap.size w0 (((w0.alloc (.cells #[.int .u8 x, .int .u64 m, .int .u64 v, .int .u64 (f 0), .int .u64 (f 1), .int .u64 (f 2), .int .u64 (f 3), .int .u64 (f 4), .int .u64 (f 5)] 45)).alloc (.cells (argsA f) 37)).drew) from (((Below.refl _ _).alloc (Nat.le_refl _) _).alloc (by simp) _).drew)
  generalize (((w0.alloc (.cells #[.int .u8 x, .int .u64 m, .int .u64 v, .int .u64 (f 0), .int .u64 (f 1), .int .u64 (f 2), .int .u64 (f 3), .int .u64 (f 4), .int .u64 (f 5)] 45)).alloc (.cells (argsA f) 37)).drew) = W at *
  have c_0 := ra.cell 0 (.int .u64 (f 0)) rfl
  have c_1 := ra.cell 1 (.int .u64 (f 1)) rfl
  have c_2 := ra.cell 2 (.int .u64 (f 2)) rfl
  have c_3 := ra.cell 3 (.int .u64 (f 3)) rfl
  have c_4 := ra.cell 4 (.int .u64 (f 4)) rfl
  have c_5 := ra.cell 5 (.int .u64 (f 5)) rfl
  go_wp2_with fail
  refine (H1.out _).mono ?_
  rintro e w1 ⟨rfl, hB1⟩
  have ra1 := ra.below hB1 ra.lt
  have b1 := Lib.hid (b.out.trans (hB1.mono b.out.size))
  clear hB1
  have c1_0 := ra1.cell 0 (.int .u64 (f 0)) rfl
  have c1_1 := ra1.cell 1 (.int .u64 (f 1)) rfl
  have c1_2 := ra1.cell 2 (.int .u64 (f 2)) rfl
  have c1_3 := ra1.cell 3 (.int .u64 (f 3)) rfl
  have c1_4 := ra1.cell 4 (.int .u64 (f 4)) rfl
  have c1_5 := ra1.cell 5 (.int .u64 (f 5)) rfl
  go_wp2_with fail
  refine (H2.out _).mono ?_
  rintro e w2 ⟨rfl, hB2⟩
  have ra2 := ra1.below hB2 ra1.lt
  have b2 := Lib.hid (b1.out.trans (hB2.mono b1.out.size))
  clear hB2
  have c2_0 := ra2.cell 0 (.int .u64 (f 0)) rfl
  have c2_1 := ra2.cell 1 (.int .u64 (f 1)) rfl
  have c2_2 := ra2.cell 2 (.int .u64 (f 2)) rfl
  have c2_3 := ra2.cell 3 (.int .u64 (f 3)) rfl
  have c2_4 := ra2.cell 4 (.int .u64 (f 4)) rfl
  have c2_5 := ra2.cell 5 (.int .u64 (f 5)) rfl
  go_wp2_with fail
  refine (H3.out _).mono ?_
  rintro e w3 ⟨rfl, hB3⟩
  have ra3 := ra2.below hB3 ra2.lt
  have b3 := Lib.hid (b2.out.trans (hB3.mono b2.out.size))
  clear hB3
  have c3_0 := ra3.cell 0 (.int .u64 (f 0)) rfl
  have c3_1 := ra3.cell 1 (.int .u64 (f 1)) rfl
  have c3_2 := ra3.cell 2 (.int .u64 (f 2)) rfl
  have c3_3 := ra3.cell 3 (.int .u64 (f 3)) rfl
  have c3_4 := ra3.cell 4 (.int .u64 (f 4)) rfl
  have c3_5 := ra3.cell 5 (.int .u64 (f 5)) rfl
  have ex := ra3.cell a _ (argsA_at f a ha)
  clear ra ra1 ra2 ra3 H1 H2 H3
  have HA := Lib.hid (awake10_any w3 (tab_on HT.out b3.out (Nat.le_refl _)))
  cases s
  · cases e <;> cases z <;> cases B
    all_goals
      go_wp2_with (go_at_call 16; refine HA.out.mono ?_; rintro e w9 ⟨rfl, hB9⟩)
      go_ret
      exact ⟨rfl, b3.out.trans (hB9.mono b3.out.size)⟩
  · obtain rfl := HQ.out rfl
    cases e <;> cases z
    all_goals
      go_wp2_with (go_at_call 16; refine HA.out.mono ?_; rintro e w9 ⟨rfl, hB9⟩)
      go_ret
      exact ⟨rfl, b3.out.trans (hB9.mono b3.out.size)⟩

theorem walk_CondMasks {w0 : World} (x m v : Nat) (f : Nat → Nat) (hx : x < 256) (hm : m < 18446744073709551616) (hv : v < 18446744073709551616) (hf : ∀ i, i < 6 → f i < 18446744073709551616) (ht : TabP w0) :
    Calls Tryd.prog 6 #[.agg #[.int .u8 x, .int .u64 m, .int .u64 v, .int .u64 (f 0), .int .u64 (f 1), .int .u64 (f 2), .int .u64 (f 3), .int .u64 (f 4), .int .u64 (f 5)]] w0 fun e w' => e = .returned (.bool true) ∧ Below w0.heap.size w0 w' := by
  have ha : x % 6 < 6 := Nat.mod_lt _ (by omega)
  refine masks_at x m v f hx hm hv hf ht (x % 6) ha (by omega) _ _ _ rfl rfl rfl _ rfl fun h => ?_
  rw [andNot_zero (f (x % 6)) m v (hf _ ha) hm (by simpa using h)]
  rfl

theorem of_laid {W : World} (h : laidMetH Tryd.prog Rows.condMasksRow.laid W) : TabP W := by
  rw [MakeChecks.laidMetH_plain _ _ _ (by kernel_rfl)] at h
  exact tab_of_third h

namespace condMasksRow
open Go.ChangeShapes Go.WideShapes Go.ChangeAt Go.RowKit Go.Joins
open Go.ChangeMaps (open_string shut_string)
set_option linter.unusedVariables false
theorem own : ownKnob Tryd.prog.godebug = none := by kernel_rfl
theorem laidOut : laidOutB Tryd.prog = true := by kernel_rfl
set_option maxRecDepth 100000 in
theorem lifted (os : Os) (started : os.Started) (H : Type) (enc : TypeId × Value → H) :
    ReturnsInHanded {} Tryd.checked os 6 .any (fun w args => (Rows.condMasksSpec.pre enc Tryd.prog Tryd.f6 [] false w args ∧ laidMetH Tryd.prog Rows.condMasksRow.laid w) ∧ sizedMet enc Tryd.prog Tryd.f6 (OpenSpec.ofChange Rows.condMasksSpec) false w args) (Rows.condMasksSpec.post enc Tryd.prog Tryd.f6 false true false false) := by
  refine returnsInHanded_of_change_and (C := Tryd.checked) (X := fun w _ => laidMetH Tryd.prog Rows.condMasksRow.laid w) (fun _ _ _ hh h => h.of_heap hh) own started (by kernel_rfl) Tryd.func6
    (ChangeSpec.witness_shaped (enc := enc) (C := Tryd.checked) (os := os) (X := fun w _ => laidMetH Tryd.prog Rows.condMasksRow.laid w) false (World.laidAll Tryd.prog os Rows.condMasksRow.laid) #[.agg #[.int .u8 0, .int .u64 0, .int .u64 0, .int .u64 0, .int .u64 0, .int .u64 0, .int .u64 0, .int .u64 0, .int .u64 0]] 8 (World.laidAll_os _ _ _) (World.shaped_of_ZipB (by kernel_rfl) (by kernel_rfl)) (by kernel_rfl) (by kernel_rfl) (by kernel_rfl) (by rw [MakeChecks.laidMetH_plain _ _ _ (by kernel_rfl)]; exact laidMet_laidAll _ (by kernel_rfl) (by kernel_rfl))) ?_
  intro W base args ds gs before hval0 hW _ _ hL _
  have hval : ∀ (j : Nat) t v, Tryd.f6.params[j]? = some t → args[j]? = some v → Value.okWide Tryd.prog W .any base t v := hval0
  have hW' := hW
  obtain ⟨p, q, hA0, hV, rfl, hfz, hnd⟩ := hW
  have hA : DataW.TrodAll enc Tryd.prog W 0 (fun _ => true) true Tryd.f6.params.toList args.toList ds p := hA0
  rw [Tryd.params6] at hA hval
  obtain ⟨v0, vs0, d0, ds0, p0, q0, hargs, rfl, rfl, h0, r0⟩ := trodAll_cons hA
  obtain ⟨rfl, rfl, rfl⟩ := trodAll_nil r0
  obtain rfl : args = #[v0] := by cases args; simp_all
  obtain ⟨rfl, rfl⟩ := trodVars_none hV
  have k0 := h0
  have lt0 : ∀ x ∈ p0, x.block < W.heap.size := by obtain ⟨m, hm⟩ := k0; exact DataW.trod_lt m _ _ _ hm
  obtain ⟨x0, m0, y0, f0, rfl, hx0, hm0, hy0, g0⟩ := open_masks (hval 0 45 v0 rfl rfl) h0
  clear hA0 hval0
  refine (walk_CondMasks (w0 := W) x0 m0 y0 f0 hx0 hm0 hy0 g0 (of_laid hL)).mono fun e W' ⟨he, bel⟩ => ?_
  subst he
  exact ⟨_, rfl, _, _, _, [], _, [], hW', trodAll_mk1 (shut_bool Tryd.underlying4 _), (trodAll_cons_mk (Below.trod laidOut (by kernel_rfl) (of_decide_eq_true (by kernel_rfl)) k0 bel lt0) trodAll_mk0), rfl, bel.frame _, fun h => by cases h⟩

theorem over : Rows.condMasksRow.holds Tryd.pinned (OpenSpec.ofChange Rows.condMasksSpec) :=
  OpenClaim.holds_of_wide 6 Tryd.f6 rfl rfl rfl rfl rfl rfl rfl ⟨rfl, rfl, rfl, rfl, rfl⟩ rfl rfl rfl rfl rfl (by kernel_rfl) Tryd.func6 (by kernel_rfl)
    (of_decide_eq_true (by kernel_rfl)) (by unfold Func.isWrapper; first | (rw [if_pos (by decide +kernel)]; kernel_rfl) | (rw [if_neg (by decide +kernel)]; exact ⟨rfl, rfl⟩))
    (fun os started H enc _ => lifted os started H enc)
end condMasksRow

theorem condMasks_proved : Rows.CondMasksCardSaid :=
  Claim7.holds_tied_plain_at .later [] [.data, .data, .data, .data, .sentinel, .sentinel, .pinned] true Rows.condMasksCard.stood.harness true
    condMasksRow.over (fun _ h => by cases h) (by kernel_rfl) (fun _ h => by cases h) condMasks_row_tie rfl ⟨rfl, rfl⟩ (by kernel_rfl) rfl
    (fun f fn hf hfn => by
      obtain rfl : f = 6 := Option.some.inj ((show Tryd.prog.funcNamed "strainer/strainerlaw10.CondMasks" = some 6 by kernel_rfl).symm.trans hf) |>.symm
      obtain rfl : fn = Tryd.f6 := (Option.some.inj (Tryd.func6.symm.trans hfn)).symm
      exact ⟨by kernel_rfl, fun j t ht => by
        rw [Tryd.params6] at ht
        have hall : ∀ t ∈ [45], Tryd.prog.wantsStandIn t = false := by
          intro t ht
          simp only [List.mem_cons, List.not_mem_nil, or_false] at ht
          rcases ht with rfl <;> kernel_rfl
        exact hall t (by simpa using Array.mem_of_getElem? ht)⟩)
    (by kernel_rfl)
#print axioms condMasks_proved
end Go.Proofs.YtplnaejbfanioaaDoor
