/-
  The law DataHalves holds for every input: at the places of an argument's low and high word its halves stand, both ways round; of no other argument there is a place. No condition.
-/
import Derived.Test.YtpjhcaabjgbkjaaDe
import Derived.Test.YtpjhcaabjgbkjaaId
import Derived.Test.YtpjhcaabjgbkjaaRows
import Derived.Below
import Derived.ChangeOld
import Derived.ShutString
import Derived.Lib.SmallJoins
import Derived.OpenShut
import Derived.ProofKit
import Derived.WalkKit
import Derived.Deep.RegionWith
namespace Go.Proofs.Ytpjhcaabjgbkjaa
open Go.RowKit

theorem half_low (r : RV) (big : Bool) (k : Nat) (_hk : k < 6) : num (fun i => recB r big (pln big (16 + 8 * k + (if big then 4 else 0)) 4 i)) 4 = r.q k % 4294967296 := by
  have e : ∀ i, i < 4 → recB r big (pln big (16 + 8 * k + (if big then 4 else 0)) 4 i) = r.q k / 256 ^ i % 256 := fun i hi => by
    have h1 : pln big (16 + 8 * k + (if big then 4 else 0)) 4 i = 16 + 8 * k + (if big then 7 - i else i) := by unfold pln; cases big <;> simp <;> omega
    rw [h1, recB_arg r big k _ (by omega) (by cases big <;> simp <;> omega), Nat.add_sub_cancel_left]
    unfold wb idx
    cases big
    · simp [Nat.pow_mul, show i < 8 from by omega]
    · simp [Nat.pow_mul, show 7 - i < 8 from by omega, show 7 - (7 - i) = i from by omega]
  rw [num_congr _ _ _ e, num_digits]
theorem half_high (r : RV) (big : Bool) (k : Nat) (_hk : k < 6) (hq : r.q k < 18446744073709551616) : num (fun i => recB r big (pln big (16 + 8 * k + (if (!big) then 4 else 0)) 4 i)) 4 = r.q k / 4294967296 := by
  have e : ∀ i, i < 4 → recB r big (pln big (16 + 8 * k + (if (!big) then 4 else 0)) 4 i) = (r.q k / 4294967296) / 256 ^ i % 256 := fun i hi => by
    have h1 : pln big (16 + 8 * k + (if (!big) then 4 else 0)) 4 i = 16 + 8 * k + (if big then 3 - i else 4 + i) := by unfold pln; cases big <;> simp <;> omega
    rw [h1, recB_arg r big k _ (by omega) (by cases big <;> simp <;> omega), Nat.add_sub_cancel_left, Nat.div_div_eq_div_mul, show (4294967296 : Nat) = 256 ^ 4 from rfl, ← Nat.pow_add]
    unfold wb idx
    cases big
    · simp [Nat.pow_mul, show 4 + i < 8 from by omega]
    · simp [Nat.pow_mul, show 3 - i < 8 from by omega, show 7 - (3 - i) = 4 + i from by omega]
  rw [num_congr _ _ _ e, num_digits]
  exact Nat.mod_eq_of_lt (by omega)

set_option maxRecDepth 100000 in
set_option maxHeartbeats 8000000 in
theorem walk_DataHalves {w0 : World} (r : RV) (hr : r.ok) (arg : Int) (_wk : (Lit.int .i64 arg).wf = true) (big : Bool) :
    Calls Try.prog 6 #[.agg (rcells r), .int .i64 arg, .bool big] w0 fun e w' => e = .returned (.bool true) ∧ Below w0.heap.size w0 w' := by
  have HR := Lib.hid hr
  clear hr
  by_cases hneg : arg < 0 ∨ 5 < arg
  · have e1 : ∀ b, halfF arg b = (0, 16) := fun b => by unfold halfF; rw [if_pos (by omega)]
    have E1 := Lib.hid e1
    have hb0 : Below w0.heap.size w0 (w0.alloc (.cells (rcells r) 26)) := (Below.refl _ _).alloc (Nat.le_refl _) _
    clear e1
    have ht : (decide (arg < 0) || decide (5 < arg)) = true := by simpa using hneg
    unfold rcells at hb0 ⊢
    by_cases h0 : arg < 0
    all_goals
      have t0 : decide (arg < 0) = decide (arg < 0) := rfl
      go_enter Try.func6, Try.ntmps6
      go_wp2_with (first
        | (go_at_call 21; refine (low_any _ _ _).mono ?_; rw [E1.out]; rintro e w1 ⟨rfl, rfl⟩)
        | (go_at_call 22; refine (high_any _ _ _).mono ?_; rw [E1.out]; rintro e w1 ⟨rfl, rfl⟩)
        | (go_at_call 19; refine (awake5_any _).mono ?_; rintro e w1 ⟨rfl, rfl⟩))
      go_ret
      exact ⟨rfl, hb0⟩
  · obtain ⟨k, rfl⟩ := Int.eq_ofNat_of_zero_le (show 0 ≤ arg by omega)
    have hk : k < 6 := by omega
    have i1 : ¬ 5 < (k : Int) := by omega
    have i2 : (k : Int) < 6 := by omega
    have hx := HR.out.2.2.2 k
    obtain ⟨l, hl⟩ : ∃ l, 16 + 8 * k + (if big then 4 else 0) = l := ⟨_, rfl⟩
    obtain ⟨h, hh⟩ : ∃ h, 16 + 8 * k + (if (!big) then 4 else 0) = h := ⟨_, rfl⟩
    have e1 : halfF k big = ((l : Int), 0) := by unfold halfF; rw [if_neg (by omega), ← hl]; cases big <;> simp
    have e2 : halfF k (!big) = ((h : Int), 0) := by unfold halfF; rw [if_neg (by omega), ← hh]; cases big <;> simp
    have hll : l + 4 ≤ 64 := by rw [← hl]; split <;> omega
    have hhl : h + 4 ≤ 64 := by rw [← hh]; split <;> omega
    have hl4 : ((l : Int) % 4 == 0) = true := by rw [beq_iff_eq, ← hl]; split <;> omega
    have hh4 : ((h : Int) % 4 == 0) = true := by rw [beq_iff_eq, ← hh]; split <;> omega
    have hlo := half_low r big k hk
    have hhi := half_high r big k hk hx
    rw [hl] at hlo
    rw [hh] at hhi
    obtain ⟨q, hq⟩ : ∃ q, r.q k = q := ⟨_, rfl⟩
    rw [hq] at hlo hhi hx
    have tl : (((q % 4294967296 : Nat) : Int) == (q : Int) % 4294967296) = true := by rw [beq_iff_eq]; omega
    have th : (((q / 4294967296 : Nat) : Int) == (q : Int) / 4294967296) = true := by rw [beq_iff_eq]; omega
    have E1 := Lib.hid e1
    have E2 := Lib.hid e2
    have LO := Lib.hid hlo
    have HI := Lib.hid hhi
    clear e1 e2 hlo hhi hl hh hneg
    have hrc0 : RcB (w0.alloc (.cells (rcells r) 26)) w0.heap.size 26 r := heap_alloc_last w0 _
    have HRC := Lib.hid hrc0
    clear hrc0
    have hsl := sl_all
    have hb0 : Below w0.heap.size w0 (w0.alloc (.cells (rcells r) 26)) := (Below.refl _ _).alloc (Nat.le_refl _) _
    obtain ⟨D, hD⟩ : ∃ D, arrB 64 (recB r big) = D := ⟨_, rfl⟩
    have hwr := write5_any r HR.out big
    have hs1 := size64 (recB r big)
    have hs3 := arrB_size 64 (recB r big)
    have h1c := arrB_one 64 (recB r big)
    rw [hD] at hwr hs1 hs3 h1c
    have HD := Lib.hid hD
    have HWR := Lib.hid hwr
    have S1 := Lib.hid hs1
    have S3 := Lib.hid hs3
    have H1C := Lib.hid h1c
    have HQ := Lib.hid hq
    clear hD hwr hs1 hs3 h1c hq
    unfold rcells at HRC hb0 ⊢
    go_enter Try.func6, Try.ntmps6
    go_wp2_with fail
    generalize w0.alloc (.cells #[.int .u32 r.n, .int .u32 r.a, .int .u64 r.p, .int .u64 (r.q 0), .int .u64 (r.q 1), .int .u64 (r.q 2), .int .u64 (r.q 3), .int .u64 (r.q 4), .int .u64 (r.q 5)] 26) = W1 at *
    have hlt1 := HRC.out.lt
    have p0 := HRC.out.cell 0 _ rfl
    have p1 := HRC.out.cell 1 _ rfl
    have p2 := HRC.out.cell 2 _ rfl
    have p3 := HRC.out.cell 3 _ rfl
    have p4 := HRC.out.cell 4 _ rfl
    have p5 := HRC.out.cell 5 _ rfl
    have p6 := HRC.out.cell 6 _ rfl
    have p7 := HRC.out.cell 7 _ rfl
    have p8 := HRC.out.cell 8 _ rfl
    simp only [rcells, List.getElem_toArray, List.getElem_cons_zero, List.getElem_cons_succ] at p0 p1 p2 p3 p4 p5 p6 p7 p8
    refine (low_any _ _ _).mono ?_
    rw [E1.out]
    rintro e w1 ⟨rfl, rfl⟩
    go_wp2_with fail
    refine (high_any _ _ _).mono ?_
    rw [E2.out]
    rintro e w1 ⟨rfl, rfl⟩
    go_wp2_with fail
    refine (of5_any r _).mono ?_
    rintro e w1 ⟨rfl, hB1⟩
    have hb1 := hb0.trans (hB1.mono hb0.size)
    have HRC1 := Lib.hid (HRC.out.below hB1 hlt1)
    clear p0 p1 p2 p3 p4 p5 p6 p7 p8
    go_wp2_with fail
    refine (HWR.out _).mono ?_
    rintro e w2 ⟨rfl, hB2⟩
    have hb2 := hb1.trans (hB2.mono hb1.size)
    have HRC2 := Lib.hid (HRC1.out.below hB2 HRC1.out.lt)
    clear hB1 hB2 hb1 HRC1
    go_wp2_with (refine wpList_store_row (by rfl) 27 _ _ (by rfl) w2.heap.size D (by rfl) (by rfl) _ _ (heap_alloc_last _ _) S1.out (by rw [S3.out]; rfl) H1C.out ?_; rw [World.setRow_alloc_new])
    have hb3 := hb2.alloc hb2.size (.cells D 27)
    have ha3 : ArB (w2.alloc (.cells D 27)) w2.heap.size 64 27 (recB r big) := by rw [← HD.out]; exact heap_alloc_last w2 _
    have HRC3 := Lib.hid (HRC2.out.below ((Below.refl w2.heap.size w2).alloc (Nat.le_refl _) (.cells D 27)) HRC2.out.lt)
    generalize hW3 : w2.alloc (.cells D 27) = W3 at *
    have HA3 := Lib.hid ha3
    clear hW3 ha3
    refine (get_ok big _ 64 64 l 4 (recB r big) _ (by decide) (by decide) hll (HA3.out.byt (by decide) HA3.out.lt (fun i _ => recB_lt r big i))).mono ?_
    rw [LO.out]
    rintro e w4 ⟨rfl, hB4⟩
    have hb4 := hb3.trans (hB4.mono hb3.size)
    have HA4 := Lib.hid (HA3.out.below hB4 HA3.out.lt)
    have HRC4 := Lib.hid (HRC3.out.below hB4 HRC3.out.lt)
    clear hB4 hb3
    go_wp2_with fail
    refine (get_ok big _ 64 64 h 4 (recB r big) _ (by decide) (by decide) hhl (HA4.out.byt (by decide) HA4.out.lt (fun i _ => recB_lt r big i))).mono ?_
    rw [HI.out]
    rintro e w5 ⟨rfl, hB5⟩
    have hb5 := hb4.trans (hB5.mono hb4.size)
    have hrc5 := HRC4.out.below hB5 HRC4.out.lt
    have pk := hrc5.cell (3 + k) _ (arg_cell r k hk)
    rw [HQ.out] at pk
    clear hB5 hb4 hrc5
    go_wp2_with (go_at_call 19; refine (awake5_any _).mono ?_; rintro e w1 ⟨rfl, rfl⟩)
    go_ret
    exact ⟨rfl, hb5⟩

namespace dataHalvesRow
open Go.ChangeShapes Go.WideShapes Go.ChangeAt Go.RowKit Go.Joins
open Go.ChangeMaps (open_string shut_string)
set_option linter.unusedVariables false
theorem own : ownKnob Try.prog.godebug = none := by kernel_rfl
theorem laidOut : laidOutB Try.prog = true := by kernel_rfl
set_option maxRecDepth 100000 in
theorem lifted (os : Os) (started : os.Started) (H : Type) (enc : TypeId × Value → H) :
    ReturnsInHanded {} Try.checked os 6 .any (Rows.dataHalvesSpec.pre6 enc Try.prog Try.f6 Rows.dataHalvesRow.domain false) (Rows.dataHalvesSpec.post enc Try.prog Try.f6 false true false false) := by
  refine returnsInHanded_of_change (C := Try.checked) own started (by kernel_rfl) Try.func6
    (ChangeSpec.witness6 (enc := enc) (C := Try.checked) false ⟨#[], #[.agg #[.int .u32 0, .int .u32 0, .int .u64 0, .int .u64 0, .int .u64 0, .int .u64 0, .int .u64 0, .int .u64 0, .int .u64 0], .int .i64 0, .bool false], []⟩ 8 (by kernel_rfl) (by kernel_rfl) (by kernel_rfl) (by kernel_rfl)) ?_
  intro W base args ds gs before hval0 hW hcnd _
  have hval : ∀ (j : Nat) t v, Try.f6.params[j]? = some t → args[j]? = some v → Value.okWide Try.prog W .any base t v := hval0
  have hW' := hW
  obtain ⟨p, q, hA0, hV, rfl, hfz, hnd⟩ := hW
  have hA : DataW.TrodAll enc Try.prog W 0 (fun _ => true) true Try.f6.params.toList args.toList ds p := hA0
  rw [Try.params6] at hA hval
  obtain ⟨v0, vs0, d0, ds0, p0, q0, hargs, rfl, rfl, h0, r0⟩ := trodAll_cons hA
  obtain ⟨v1, vs1, d1, ds1, p1, q1, rfl, rfl, rfl, h1, r1⟩ := trodAll_cons r0
  obtain ⟨v2, vs2, d2, ds2, p2, q2, rfl, rfl, rfl, h2, r2⟩ := trodAll_cons r1
  obtain ⟨rfl, rfl, rfl⟩ := trodAll_nil r2
  obtain rfl : args = #[v0, v1, v2] := by cases args; simp_all
  obtain ⟨rfl, rfl⟩ := trodVars_none hV
  have k0 := h0
  have lt0 : ∀ x ∈ p0, x.block < W.heap.size := by obtain ⟨m, hm⟩ := k0; exact DataW.trod_lt m _ _ _ hm
  have k1 := h1
  have lt1 : ∀ x ∈ p1, x.block < W.heap.size := by obtain ⟨m, hm⟩ := k1; exact DataW.trod_lt m _ _ _ hm
  have k2 := h2
  have lt2 : ∀ x ∈ p2, x.block < W.heap.size := by obtain ⟨m, hm⟩ := k2; exact DataW.trod_lt m _ _ _ hm
  obtain ⟨g0, rfl, w0⟩ := open_rec (hval 0 26 v0 rfl rfl) h0
  obtain ⟨a1, rfl, rfl, rfl, w1⟩ := open_int Try.underlying3 (hval 1 3 v1 rfl rfl) h1
  obtain ⟨a2, rfl, rfl, rfl⟩ := open_bool Try.underlying4 (hval 2 4 v2 rfl rfl) h2
  clear hA0 hval0
  refine (walk_DataHalves (w0 := W) g0 w0 a1 w1 a2).mono fun e W' ⟨he, bel⟩ => ?_
  subst he
  exact ⟨_, rfl, _, _, _, [], _, [], hW', trodAll_mk1 (shut_bool Try.underlying4 _), (trodAll_cons_mk (Below.trod laidOut (by kernel_rfl) (of_decide_eq_true (by kernel_rfl)) k0 bel lt0) (trodAll_cons_mk (Below.trod laidOut (by kernel_rfl) (of_decide_eq_true (by kernel_rfl)) k1 bel lt1) (trodAll_cons_mk (Below.trod laidOut (by kernel_rfl) (of_decide_eq_true (by kernel_rfl)) k2 bel lt2) trodAll_mk0))), rfl, bel.frame _, fun h => by cases h⟩

theorem over : Rows.dataHalvesRow.holds Try.pinned (OpenSpec.ofChange Rows.dataHalvesSpec) :=
  OpenClaim.holds_of_wide 6 Try.f6 rfl rfl rfl rfl rfl rfl rfl ⟨rfl, rfl, rfl, rfl, rfl⟩ rfl rfl rfl rfl rfl (by kernel_rfl) Try.func6 (by kernel_rfl)
    (of_decide_eq_true (by kernel_rfl)) (by unfold Func.isWrapper; first | (rw [if_pos (by decide +kernel)]; kernel_rfl) | (rw [if_neg (by decide +kernel)]; exact ⟨rfl, rfl⟩))
    (fun os started H enc _ => lifted os started H enc)
end dataHalvesRow

theorem dataHalves_proved : Rows.DataHalvesSaid := dataHalvesRow.over
#print axioms dataHalves_proved
end Go.Proofs.Ytpjhcaabjgbkjaa
