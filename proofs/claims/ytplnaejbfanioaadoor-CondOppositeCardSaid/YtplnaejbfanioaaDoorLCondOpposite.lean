/-
  The law CondOpposite holds for every input: of an operator and its opposite just one holds; what is at most is below or equal. No condition.
-/
import Derived.Test.YtplnaejbfanioaaDoorRows
import Derived.Test.YtplnaejbfanioaaDoorCards
import Derived.Test.YtplnaejbfanioaaDoorTie
import Derived.Test.YtplnaejbfanioaaDoorGk
import Derived.Test.YtplnaejbfanioaaDoorGl
import Derived.WalkKit
import Derived.ProofKit
import Derived.OpenShut
import Derived.ShutString
import Derived.ChangeOld
import Derived.Below
import Derived.Lib.SmallJoins
import Derived.SevenTiedAt
import Derived.LaidMore
import Derived.Stop.Joined
import Derived.Deep.Cut
import Derived.RegionTactic
import Derived.Deep.CutRange
namespace Go.Proofs.YtplnaejbfanioaaDoor
open Go.RowKit
set_option linter.unusedVariables false

theorem holdsA (a : Nat) (ha : a < 6) (j : Nat) (hj : j < 6) (x : Nat) (f : Nat → Nat) (hf : ∀ i, i < 6 → f i < 18446744073709551616) (w : World) :
    Calls Tryd.prog 17 #[.agg #[.int .i64 a, .int .i64 ((j : Int) + 1), .int .u64 0, .int .u64 x], .agg (argsA f)] w fun e w' => e = .returned (.bool (hoF j (f a) 0 x)) ∧ Below w.heap.size w w' :=
  holds_ok a ha ((j : Int) + 1) 0 x j ⟨by omega, by omega, by omega, rfl, by simp⟩ f hf (by omega) w
/-- The row of answers behind k of the operators. -/
def isA (f : Nat → Bool) (k : Nat) : Array Value := #[.bool false, .bool (decide (1 < k) && f 0), .bool (decide (2 < k) && f 1), .bool (decide (3 < k) && f 2), .bool (decide (4 < k) && f 3), .bool (decide (5 < k) && f 4), .bool (decide (6 < k) && f 5), .bool false]
theorem isA_set (f : Nat → Bool) (k : Nat) (h1 : 1 ≤ k) (h6 : k ≤ 6) : (isA f k).setIfInBounds k (.bool (f (k - 1))) = isA f (k + 1) := by
  have h : k = 1 ∨ k = 2 ∨ k = 3 ∨ k = 4 ∨ k = 5 ∨ k = 6 := by omega
  rcases h with rfl | rfl | rfl | rfl | rfl | rfl <;> rfl
theorem isA_at (f : Nat → Bool) (k : Nat) (h1 : 1 ≤ k) (h6 : k ≤ 6) : (isA f k)[k]? = some (.bool false) := by
  have h : k = 1 ∨ k = 2 ∨ k = 3 ∨ k = 4 ∨ k = 5 ∨ k = 6 := by omega
  rcases h with rfl | rfl | rfl | rfl | rfl | rfl <;> rfl
set_option maxRecDepth 100000 in
set_option maxHeartbeats 8000000 in
theorem opp_at {w0 : World} (x v : Nat) (f : Nat → Nat) (hx : x < 256) (hf : ∀ i, i < 6 → f i < 18446744073709551616) (ht : TabP w0) (a : Nat) (ha : a < 6) (ea : (x : Int) % 6 = (a : Int)) (g : Nat → Bool) (hg : ∀ j, hoF j (f a) 0 v = g j) :
    Calls Tryd.prog 4 #[.int .u8 x, .int .u64 v, .agg (argsA f)] w0 fun e w' => e = .returned (.bool true) ∧ Below w0.heap.size w0 w' := by
  have ea2 : Int.tmod (x : Int) 6 = (a : Int) := by rw [Int.tmod_eq_emod_of_nonneg (by omega)]; exact ea
  have A0 : RowC ((w0.alloc (.cells (argsA f) 37)).alloc (.cells (isA g 1) 38)) w0.heap.size (argsA f) 37 := (RowC.new _ _ _ _ rfl).alloc _
  have I0 : RowC ((w0.alloc (.cells (argsA f) 37)).alloc (.cells (isA g 1) 38)) (w0.heap.size + 1) (isA g 1) 38 := RowC.new _ _ _ _ (by simp)
  have hb : Below w0.heap.size w0 ((w0.alloc (.cells (argsA f) 37)).alloc (.cells (isA g 1) 38)) := ((Below.refl _ _).alloc (Nat.le_refl _) _).alloc (by simp) _
  have HB := Lib.hid hb
  have HT := Lib.hid ht
  have HG := Lib.hid hg
  clear hb ht hg
  go_enter Tryd.func4, Tryd.ntmps4
  go_wp2_with fail
  go_loopw [9] (fun i wr => ∃ k : Nat, 1 ≤ k ∧ k ≤ 7 ∧ i = .int .i64 k ∧ RowC wr w0.heap.size (argsA f) 37 ∧ RowC wr (w0.heap.size + 1) (isA g k) 38 ∧ Below w0.heap.size w0 wr)
    (fun i _ => 7 - (intOf i).toNat)
  case atStart => exact ⟨1, by omega, by omega, rfl, A0, I0, HB.out⟩
  case round =>
    clear A0 I0
    obtain ⟨k, hk1, hk7, rfl, ra, ri, hb⟩ := hrel
    have b := Lib.hid hb
    clear hb
    have c_0 := ra.cell 0 (.int .u64 (f 0)) rfl
    have c_1 := ra.cell 1 (.int .u64 (f 1)) rfl
    have c_2 := ra.cell 2 (.int .u64 (f 2)) rfl
    have c_3 := ra.cell 3 (.int .u64 (f 3)) rfl
    have c_4 := ra.cell 4 (.int .u64 (f 4)) rfl
    have c_5 := ra.cell 5 (.int .u64 (f 5)) rfl
    by_cases hk : k ≤ 6
    · have hl : (k : Int) ≤ 6 := by omega
      have i1 : (0 : Int) ≤ (k : Int) := by omega
      have i2 : (k : Int) < 8 := by omega
      have h : ∀ X, Calls Tryd.prog 17 #[.agg #[.int .i64 a, .int .i64 k, .int .u64 0, .int .u64 v], .agg (argsA f)] X fun e' w' => e' = .returned (.bool (g (k - 1))) ∧ Below X.heap.size X w' := fun X => by
        have := holdsA a ha (k - 1) (by omega) v f hf X
        rw [HG.out, show (((k - 1 : Nat) : Int) + 1) = (k : Int) by omega] at this
        exact this
      have H1 := Lib.hid h
      clear h
      go_wp2_with fail
      refine (H1.out _).mono ?_
      rintro e w1 ⟨rfl, hB1⟩
      have ra1 := ra.below hB1 ra.lt
      have ri1 := ri.below hB1 ri.lt
      have b1 := Lib.hid (b.out.trans (hB1.mono b.out.size))
      clear hB1
      have ci := ri1.cell k _ (isA_at g k hk1 hk)
      have fi := ri1.frozen k
      have rs := ri1.set k (.bool (g (k - 1)))
      rw [isA_set g k hk1 hk] at rs
      go_wp2
      exact ⟨⟨k + 1, by omega, by omega, by go_num, ra1.setOther _ _ (by omega), rs, b1.out.setCell (Nat.le_succ _) _⟩, by simp [intOf]; omega⟩
    · obtain rfl : k = 7 := by omega
      have HA := Lib.hid (awake10_any wr (tab_on HT.out b.out (Nat.le_refl _)))
      have d1 := ri.cell 1 (.bool (g 0)) (by simp [isA])
      have d2 := ri.cell 2 (.bool (g 1)) (by simp [isA])
      have d3 := ri.cell 3 (.bool (g 2)) (by simp [isA])
      have d4 := ri.cell 4 (.bool (g 3)) (by simp [isA])
      have d5 := ri.cell 5 (.bool (g 4)) (by simp [isA])
      have d6 := ri.cell 6 (.bool (g 5)) (by simp [isA])
      clear ri ra
      have hA : (g 0 = true ∧ g 1 = false ∧ g 2 = false ∧ g 3 = true ∧ g 4 = false ∧ g 5 = true) ∨ (g 0 = false ∧ g 1 = true ∧ g 2 = true ∧ g 3 = true ∧ g 4 = false ∧ g 5 = false) ∨ (g 0 = false ∧ g 1 = true ∧ g 2 = false ∧ g 3 = false ∧ g 4 = true ∧ g 5 = true) := by
        simp only [← HG.out, hoF]
        rcases Nat.lt_trichotomy (f a) v with h | h | h
        · right; left
          refine ⟨?_, ?_, ?_, ?_, ?_, ?_⟩ <;> simp <;> omega
        · left
          refine ⟨?_, ?_, ?_, ?_, ?_, ?_⟩ <;> simp <;> omega
        · right; right
          refine ⟨?_, ?_, ?_, ?_, ?_, ?_⟩ <;> simp <;> omega
      rcases hA with ⟨g0, g1, g2, g3, g4, g5⟩ | ⟨g0, g1, g2, g3, g4, g5⟩ | ⟨g0, g1, g2, g3, g4, g5⟩
      all_goals
        rw [g0] at d1
        rw [g1] at d2
        rw [g2] at d3
        rw [g3] at d4
        rw [g4] at d5
        rw [g5] at d6
        clear g0 g1 g2 g3 g4 g5
        go_wp2_with (go_at_call 16; refine HA.out.mono ?_; rintro e w9 ⟨rfl, hB9⟩)
        go_ret
        exact ⟨rfl, b.out.trans (hB9.mono b.out.size)⟩

theorem walk_CondOpposite {w0 : World} (x : Int) (hx : (Lit.int .u8 x).wf = true) (v : Int) (hv : (Lit.int .u64 v).wf = true) (f : Nat → Nat) (hf : ∀ i, i < 6 → f i < 18446744073709551616) (ht : TabP w0) :
    Calls Tryd.prog 4 #[.int .u8 x, .int .u64 v, .agg #[.int .u64 (f 0), .int .u64 (f 1), .int .u64 (f 2), .int .u64 (f 3), .int .u64 (f 4), .int .u64 (f 5)]] w0 fun e w' => e = .returned (.bool true) ∧ Below w0.heap.size w0 w' := by
  simp [Lit.wf, IntKind.min, IntKind.max, IntKind.signed, IntKind.bits] at hx hv
  obtain ⟨y, rfl⟩ := Int.eq_ofNat_of_zero_le hx.1
  obtain ⟨z, rfl⟩ := Int.eq_ofNat_of_zero_le hv.1
  exact opp_at y z f (by omega) hf ht (y % 6) (Nat.mod_lt _ (by omega)) (by omega) (fun j => hoF j (f (y % 6)) 0 z) (fun _ => rfl)

theorem of_laid {W : World} (h : laidMetH Tryd.prog Rows.condOppositeRow.laid W) : TabP W := by
  rw [MakeChecks.laidMetH_plain _ _ _ (by kernel_rfl)] at h
  exact tab_of_third h

namespace condOppositeRow
open Go.ChangeShapes Go.WideShapes Go.ChangeAt Go.RowKit Go.Joins
open Go.ChangeMaps (open_string shut_string)
set_option linter.unusedVariables false
theorem own : ownKnob Tryd.prog.godebug = none := by kernel_rfl
theorem laidOut : laidOutB Tryd.prog = true := by kernel_rfl
set_option maxRecDepth 100000 in
theorem lifted (os : Os) (started : os.Started) (H : Type) (enc : TypeId × Value → H) :
    ReturnsInHanded {} Tryd.checked os 4 .any (fun w args => (Rows.condOppositeSpec.pre enc Tryd.prog Tryd.f4 [] false w args ∧ laidMetH Tryd.prog Rows.condOppositeRow.laid w) ∧ sizedMet enc Tryd.prog Tryd.f4 (OpenSpec.ofChange Rows.condOppositeSpec) false w args) (Rows.condOppositeSpec.post enc Tryd.prog Tryd.f4 false true false false) := by
  refine returnsInHanded_of_change_and (C := Tryd.checked) (X := fun w _ => laidMetH Tryd.prog Rows.condOppositeRow.laid w) (fun _ _ _ hh h => h.of_heap hh) own started (by kernel_rfl) Tryd.func4
    (ChangeSpec.witness_shaped (enc := enc) (C := Tryd.checked) (os := os) (X := fun w _ => laidMetH Tryd.prog Rows.condOppositeRow.laid w) false (World.laidAll Tryd.prog os Rows.condOppositeRow.laid) #[.int .u8 0, .int .u64 0, .agg #[.int .u64 0, .int .u64 0, .int .u64 0, .int .u64 0, .int .u64 0, .int .u64 0]] 8 (World.laidAll_os _ _ _) (World.shaped_of_ZipB (by kernel_rfl) (by kernel_rfl)) (by kernel_rfl) (by kernel_rfl) (by kernel_rfl) (by rw [MakeChecks.laidMetH_plain _ _ _ (by kernel_rfl)]; exact laidMet_laidAll _ (by kernel_rfl) (by kernel_rfl))) ?_
  intro W base args ds gs before hval0 hW _ _ hL _
  have hval : ∀ (j : Nat) t v, Tryd.f4.params[j]? = some t → args[j]? = some v → Value.okWide Tryd.prog W .any base t v := hval0
  have hW' := hW
  obtain ⟨p, q, hA0, hV, rfl, hfz, hnd⟩ := hW
  have hA : DataW.TrodAll enc Tryd.prog W 0 (fun _ => true) true Tryd.f4.params.toList args.toList ds p := hA0
  rw [Tryd.params4] at hA hval
  obtain ⟨v0, vs0, d0, ds0, p0, q0, hargs, rfl, rfl, h0, r0⟩ := trodAll_cons hA
  obtain ⟨v1, vs1, d1, ds1, p1, q1, rfl, rfl, rfl, h1, r1⟩ := trodAll_cons r0
  obtain ⟨v2, vs2, d2, ds2, p2, q2, rfl, rfl, rfl, h2, r2⟩ := trodAll_cons r1
  obtain ⟨rfl, rfl, rfl⟩ := trodAll_nil r2
  obtain rfl : args = #[v0, v1, v2] := by cases args; simp_all
  obtain ⟨rfl, rfl⟩ := trodVars_none hV
  have k0 := h0
  have lt0 : ∀ x ∈ p0, x.block < W.heap.size := by obtain ⟨m, hm⟩ := k0; exact DataW.trod_lt m _ _ _ hm
  have k1 := h1
  have lt1 : ∀ x ∈ p1, x.block < W.heap.size := by obtain ⟨m, hm⟩ := k1; exact DataW.trod_lt m _ _ _ hm
  have k2 := h2
  have lt2 : ∀ x ∈ p2, x.block < W.heap.size := by obtain ⟨m, hm⟩ := k2; exact DataW.trod_lt m _ _ _ hm
  obtain ⟨a0, rfl, rfl, rfl, w0⟩ := open_int Tryd.underlying5 (hval 0 5 v0 rfl rfl) h0
  obtain ⟨a1, rfl, rfl, rfl, w1⟩ := open_int Tryd.underlying23 (hval 1 23 v1 rfl rfl) h1
  obtain ⟨f2, rfl, g2⟩ := open_arr6 (hval 2 37 v2 rfl rfl) h2
  clear hA0 hval0
  refine (walk_CondOpposite (w0 := W) a0 w0 a1 w1 f2 g2 (of_laid hL)).mono fun e W' ⟨he, bel⟩ => ?_
  subst he
  exact ⟨_, rfl, _, _, _, [], _, [], hW', trodAll_mk1 (shut_bool Tryd.underlying4 _), (trodAll_cons_mk (Below.trod laidOut (by kernel_rfl) (of_decide_eq_true (by kernel_rfl)) k0 bel lt0) (trodAll_cons_mk (Below.trod laidOut (by kernel_rfl) (of_decide_eq_true (by kernel_rfl)) k1 bel lt1) (trodAll_cons_mk (Below.trod laidOut (by kernel_rfl) (of_decide_eq_true (by kernel_rfl)) k2 bel lt2) trodAll_mk0))), rfl, bel.frame _, fun h => by cases h⟩

theorem over : Rows.condOppositeRow.holds Tryd.pinned (OpenSpec.ofChange Rows.condOppositeSpec) :=
  OpenClaim.holds_of_wide 4 Tryd.f4 rfl rfl rfl rfl rfl rfl rfl ⟨rfl, rfl, rfl, rfl, rfl⟩ rfl rfl rfl rfl rfl (by kernel_rfl) Tryd.func4 (by kernel_rfl)
    (of_decide_eq_true (by kernel_rfl)) (by unfold Func.isWrapper; first | (rw [if_pos (by decide +kernel)]; kernel_rfl) | (rw [if_neg (by decide +kernel)]; exact ⟨rfl, rfl⟩))
    (fun os started H enc _ => lifted os started H enc)
end condOppositeRow

theorem condOpposite_proved : Rows.CondOppositeCardSaid :=
  Claim7.holds_tied_plain_at .later [] [.data, .data, .data, .data, .sentinel, .sentinel, .pinned] true Rows.condOppositeCard.stood.harness true
    condOppositeRow.over (fun _ h => by cases h) (by kernel_rfl) (fun _ h => by cases h) condOpposite_row_tie rfl ⟨rfl, rfl⟩ (by kernel_rfl) rfl
    (fun f fn hf hfn => by
      obtain rfl : f = 4 := Option.some.inj ((show Tryd.prog.funcNamed "strainer/strainerlaw10.CondOpposite" = some 4 by kernel_rfl).symm.trans hf) |>.symm
      obtain rfl : fn = Tryd.f4 := (Option.some.inj (Tryd.func4.symm.trans hfn)).symm
      exact ⟨by kernel_rfl, fun j t ht => by
        rw [Tryd.params4] at ht
        have hall : ∀ t ∈ [5, 23, 37], Tryd.prog.wantsStandIn t = false := by
          intro t ht
          simp only [List.mem_cons, List.not_mem_nil, or_false] at ht
          rcases ht with rfl | rfl | rfl <;> kernel_rfl
        exact hall t (by simpa using Array.mem_of_getElem? ht)⟩)
    (by kernel_rfl)
#print axioms condOpposite_proved
end Go.Proofs.YtplnaejbfanioaaDoor
