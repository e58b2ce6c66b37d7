/-
  The law DataBack holds for every input: what is written is read as it was. No condition.
-/
import Derived.Test.YtpjhcaabjgbkjaaDe
import Derived.Test.YtpjhcaabjgbkjaaId
import Derived.Test.YtpjhcaabjgbkjaaRows
import Derived.Below
import Derived.ChangeOld
import Derived.ShutString
import Derived.Lib.SmallJoins
import Derived.OpenShut
import Derived.ProofKit
import Derived.WalkKit
import Derived.Deep.RegionWith
namespace Go.Proofs.Ytpjhcaabjgbkjaa
open Go.RowKit

theorem num_wb (big : Bool) (wd x : Nat) (_hw : wd = 4 ∨ wd = 8) (hx : x < 2 ^ (8 * wd)) (p : Nat) (f : Nat → Nat) (hf : ∀ i, i < wd → f (p + i) = wb big wd x i) : num (fun i => f (pln big p wd i)) wd = x := by
  have e : ∀ i, i < wd → f (pln big p wd i) = x / 256 ^ i % 256 := fun i hi => by
    have h1 : pln big p wd i = p + (if big then wd - 1 - i else i) := by unfold pln; cases big <;> simp <;> omega
    rw [h1, hf _ (by cases big <;> simp <;> omega)]
    unfold wb idx
    cases big
    · simp [hi, Nat.pow_mul]
    · have h3 : wd - 1 - i < wd := by omega
      have h2 : 0 + wd - 1 - (wd - 1 - i) = i := by omega
      simp only [if_true, h3, h2, Nat.pow_mul]
  rw [num_congr _ _ _ e]
  have hn : ∀ k, num (fun i => x / 256 ^ i % 256) k = x % 256 ^ k := by
    intro k
    induction k with
    | zero => simp [num, Nat.mod_one]
    | succ k ih =>
      unfold num
      rw [ih, Nat.pow_succ, Nat.mod_mul, show (2 : Nat) ^ (8 * k) = 256 ^ k from by rw [Nat.pow_mul], Nat.mul_comm]
  rw [hn]
  apply Nat.mod_eq_of_lt
  rw [show (256 : Nat) ^ wd = 2 ^ (8 * wd) from by rw [Nat.pow_mul]]
  exact hx
/-- The bytes of a record say it. -/
theorem recR_recB (r : RV) (hr : r.ok) (big : Bool) : rcells (recR (recB r big) big) = rcells r := by
  obtain ⟨x0, x1, x2, x3⟩ := hr
  refine rcells_congr ?_ ?_ ?_ fun k hk => ?_
  · exact num_wb big 4 r.n (.inl rfl) x0 0 _ fun i hi => by unfold recB; rw [if_pos (by omega), Nat.zero_add]
  · exact num_wb big 4 r.a (.inl rfl) x1 4 _ fun i hi => by unfold recB; rw [if_neg (by omega), if_pos (by omega), Nat.add_sub_cancel_left]
  · exact num_wb big 8 r.p (.inr rfl) x2 8 _ fun i hi => by unfold recB; rw [if_neg (by omega), if_neg (by omega), if_pos (by omega), Nat.add_sub_cancel_left]
  · show (if k < 6 then _ else 0) = _
    rw [if_pos hk]
    exact num_wb big 8 (r.q k) (.inr rfl) (x3 k) (16 + 8 * k) _ fun i hi => by
      rw [recB_arg r big k _ (by omega) (by omega), Nat.add_sub_cancel_left]

set_option maxRecDepth 100000 in
set_option maxHeartbeats 8000000 in
theorem walk_DataBack {w0 : World} (r : RV) (hr : r.ok) (big : Bool) :
    Calls Try.prog 5 #[.agg (rcells r), .bool big] w0 fun e w' => e = .returned (.bool true) ∧ Below w0.heap.size w0 w' := by
  have HR := Lib.hid hr
  have HRR := Lib.hid (recR_recB r hr big)
  clear hr
  have hrc0 : RcB (w0.alloc (.cells (rcells r) 26)) w0.heap.size 26 r := heap_alloc_last w0 _
  have HRC := Lib.hid hrc0
  clear hrc0
  have hsl := sl_all
  have hb0 : Below w0.heap.size w0 (w0.alloc (.cells (rcells r) 26)) := (Below.refl _ _).alloc (Nat.le_refl _) _
  have hq : ∀ W b T, RcB W b T r → (W.cell? ⟨b, 0, none⟩ = some (.int .u32 r.n) ∧ W.cell? ⟨b, 1, none⟩ = some (.int .u32 r.a) ∧ W.cell? ⟨b, 2, none⟩ = some (.int .u64 r.p) ∧ W.cell? ⟨b, 3, none⟩ = some (.int .u64 (r.q 0)) ∧ W.cell? ⟨b, 4, none⟩ = some (.int .u64 (r.q 1)) ∧ W.cell? ⟨b, 5, none⟩ = some (.int .u64 (r.q 2)) ∧ W.cell? ⟨b, 6, none⟩ = some (.int .u64 (r.q 3)) ∧ W.cell? ⟨b, 7, none⟩ = some (.int .u64 (r.q 4)) ∧ W.cell? ⟨b, 8, none⟩ = some (.int .u64 (r.q 5))) := fun W b T h =>
    ⟨h.cell 0 _ rfl, h.cell 1 _ rfl, h.cell 2 _ rfl, h.cell 3 _ rfl, h.cell 4 _ rfl, h.cell 5 _ rfl, h.cell 6 _ rfl, h.cell 7 _ rfl, h.cell 8 _ rfl⟩
  have HQ := Lib.hid hq
  clear hq
  obtain ⟨D, hD⟩ : ∃ D, arrB 64 (recB r big) = D := ⟨_, rfl⟩
  have hwr := write5_any r HR.out big
  have hs1 := size64 (recB r big)
  have hs3 := arrB_size 64 (recB r big)
  have h1c := arrB_one 64 (recB r big)
  rw [hD] at hwr hs1 hs3 h1c
  have HD := Lib.hid hD
  have HWR := Lib.hid hwr
  have S1 := Lib.hid hs1
  have S3 := Lib.hid hs3
  have H1C := Lib.hid h1c
  clear hD hwr hs1 hs3 h1c
  unfold rcells at HRC hb0 ⊢
  go_enter Try.func5, Try.ntmps5
  go_wp2_with fail
  generalize w0.alloc (.cells #[.int .u32 r.n, .int .u32 r.a, .int .u64 r.p, .int .u64 (r.q 0), .int .u64 (r.q 1), .int .u64 (r.q 2), .int .u64 (r.q 3), .int .u64 (r.q 4), .int .u64 (r.q 5)] 26) = W1 at *
  have hlt1 := HRC.out.lt
  refine (of5_any r _).mono ?_
  rintro e w1 ⟨rfl, hB1⟩
  have hb1 := hb0.trans (hB1.mono hb0.size)
  have HRC1 := Lib.hid (HRC.out.below hB1 hlt1)
  go_wp2_with fail
  refine (HWR.out _).mono ?_
  rintro e w2 ⟨rfl, hB2⟩
  have hb2 := hb1.trans (hB2.mono hb1.size)
  have HRC2 := Lib.hid (HRC1.out.below hB2 HRC1.out.lt)
  clear hB1 hB2 hb1 HRC1
  go_wp2_with (refine wpList_store_row (by rfl) 27 _ _ (by rfl) w2.heap.size D (by rfl) (by rfl) _ _ (heap_alloc_last _ _) S1.out (by rw [S3.out]; rfl) H1C.out ?_; rw [World.setRow_alloc_new])
  have hb3 := hb2.alloc hb2.size (.cells D 27)
  have ha3 : ArB (w2.alloc (.cells D 27)) w2.heap.size 64 27 (recB r big) := by rw [← HD.out]; exact heap_alloc_last w2 _
  have HRC3 := Lib.hid (HRC2.out.below ((Below.refl w2.heap.size w2).alloc (Nat.le_refl _) (.cells D 27)) HRC2.out.lt)
  have hby3 := ha3.byt (B := (w2.alloc (.cells D 27)).heap.size) (by decide) ha3.lt (fun i _ => recB_lt r big i)
  generalize hW3 : w2.alloc (.cells D 27) = W3 at *
  clear hW3
  refine (read5_ok _ _ big (recB r big) _ hby3).mono ?_
  rw [HRR.out]
  rintro e w4 ⟨rfl, hB4⟩
  have hb4 := hb3.trans (hB4.mono hb3.size)
  have HRC4 := Lib.hid (HRC3.out.below hB4 HRC3.out.lt)
  clear ha3 hby3 hb2 HRC2 HRC3 hB4 hb3
  unfold rcells
  go_wp2_with fail
  have hrc5 : RcB (w4.alloc (.cells (rcells r) 29)) w4.heap.size 29 r := heap_alloc_last w4 _
  have hrc6 : RcB (w4.alloc (.cells (rcells r) 29)) w0.heap.size 26 r := HRC4.out.below ((Below.refl w4.heap.size w4).alloc (Nat.le_refl _) _) HRC4.out.lt
  have hb5 := hb4.alloc hb4.size (.cells (rcells r) 29)
  unfold rcells at hrc5 hrc6 hb5
  generalize w4.alloc (.cells #[.int .u32 r.n, .int .u32 r.a, .int .u64 r.p, .int .u64 (r.q 0), .int .u64 (r.q 1), .int .u64 (r.q 2), .int .u64 (r.q 3), .int .u64 (r.q 4), .int .u64 (r.q 5)] 29) = W5 at *
  obtain ⟨p0, p1, p2, p3, p4, p5, p6, p7, p8⟩ := HQ.out _ _ _ hrc5
  obtain ⟨q0, q1, q2, q3, q4, q5, q6, q7, q8⟩ := HQ.out _ _ _ hrc6
  have HRC5 := Lib.hid hrc5
  have hlt5 := hrc5.lt
  have he24 : ∀ W, (Op.equalIn 9999 24 (.agg #[.int .u64 (r.q 0), .int .u64 (r.q 1), .int .u64 (r.q 2), .int .u64 (r.q 3), .int .u64 (r.q 4), .int .u64 (r.q 5)]) (.agg #[.int .u64 (r.q 0), .int .u64 (r.q 1), .int .u64 (r.q 2), .int .u64 (r.q 3), .int .u64 (r.q 4), .int .u64 (r.q 5)])).run Try.prog W = .ok true W := fun W => by
    rw [eq24, beq_self_eq_true]
  clear hrc5 hrc6 hb4
  go_region_with (first
    | (go_at_call 17
       refine (of5_any r _).mono ?_
       rintro e w6 ⟨rfl, hB6⟩
       have hb6 := hb5.drew.trans (hB6.mono hb5.size)
       obtain ⟨u0, u1, u2, u3, u4, u5, u6, u7, u8⟩ := HQ.out _ _ _ ((show RcB W5.drew _ _ _ from HRC5.out).below hB6 hlt5)
       unfold rcells)
    | (go_at_call 19
       refine (awake5_any _).mono ?_
       rintro e w7 ⟨rfl, rfl⟩))
  all_goals go_wp2
  all_goals go_ret
  all_goals exact ⟨rfl, hb6⟩

namespace dataBackRow
open Go.ChangeShapes Go.WideShapes Go.ChangeAt Go.RowKit Go.Joins
open Go.ChangeMaps (open_string shut_string)
set_option linter.unusedVariables false
theorem own : ownKnob Try.prog.godebug = none := by kernel_rfl
theorem laidOut : laidOutB Try.prog = true := by kernel_rfl
set_option maxRecDepth 100000 in
theorem lifted (os : Os) (started : os.Started) (H : Type) (enc : TypeId × Value → H) :
    ReturnsInHanded {} Try.checked os 5 .any (Rows.dataBackSpec.pre6 enc Try.prog Try.f5 Rows.dataBackRow.domain false) (Rows.dataBackSpec.post enc Try.prog Try.f5 false true false false) := by
  refine returnsInHanded_of_change (C := Try.checked) own started (by kernel_rfl) Try.func5
    (ChangeSpec.witness6 (enc := enc) (C := Try.checked) false ⟨#[], #[.agg #[.int .u32 0, .int .u32 0, .int .u64 0, .int .u64 0, .int .u64 0, .int .u64 0, .int .u64 0, .int .u64 0, .int .u64 0], .bool false], []⟩ 8 (by kernel_rfl) (by kernel_rfl) (by kernel_rfl) (by kernel_rfl)) ?_
  intro W base args ds gs before hval0 hW hcnd _
  have hval : ∀ (j : Nat) t v, Try.f5.params[j]? = some t → args[j]? = some v → Value.okWide Try.prog W .any base t v := hval0
  have hW' := hW
  obtain ⟨p, q, hA0, hV, rfl, hfz, hnd⟩ := hW
  have hA : DataW.TrodAll enc Try.prog W 0 (fun _ => true) true Try.f5.params.toList args.toList ds p := hA0
  rw [Try.params5] at hA hval
  obtain ⟨v0, vs0, d0, ds0, p0, q0, hargs, rfl, rfl, h0, r0⟩ := trodAll_cons hA
  obtain ⟨v1, vs1, d1, ds1, p1, q1, rfl, rfl, rfl, h1, r1⟩ := trodAll_cons r0
  obtain ⟨rfl, rfl, rfl⟩ := trodAll_nil r1
  obtain rfl : args = #[v0, v1] := by cases args; simp_all
  obtain ⟨rfl, rfl⟩ := trodVars_none hV
  have k0 := h0
  have lt0 : ∀ x ∈ p0, x.block < W.heap.size := by obtain ⟨m, hm⟩ := k0; exact DataW.trod_lt m _ _ _ hm
  have k1 := h1
  have lt1 : ∀ x ∈ p1, x.block < W.heap.size := by obtain ⟨m, hm⟩ := k1; exact DataW.trod_lt m _ _ _ hm
  obtain ⟨g0, rfl, w0⟩ := open_rec (hval 0 26 v0 rfl rfl) h0
  obtain ⟨a1, rfl, rfl, rfl⟩ := open_bool Try.underlying4 (hval 1 4 v1 rfl rfl) h1
  clear hA0 hval0
  refine (walk_DataBack (w0 := W) g0 w0 a1).mono fun e W' ⟨he, bel⟩ => ?_
  subst he
  exact ⟨_, rfl, _, _, _, [], _, [], hW', trodAll_mk1 (shut_bool Try.underlying4 _), (trodAll_cons_mk (Below.trod laidOut (by kernel_rfl) (of_decide_eq_true (by kernel_rfl)) k0 bel lt0) (trodAll_cons_mk (Below.trod laidOut (by kernel_rfl) (of_decide_eq_true (by kernel_rfl)) k1 bel lt1) trodAll_mk0)), rfl, bel.frame _, fun h => by cases h⟩

theorem over : Rows.dataBackRow.holds Try.pinned (OpenSpec.ofChange Rows.dataBackSpec) :=
  OpenClaim.holds_of_wide 5 Try.f5 rfl rfl rfl rfl rfl rfl rfl ⟨rfl, rfl, rfl, rfl, rfl⟩ rfl rfl rfl rfl rfl (by kernel_rfl) Try.func5 (by kernel_rfl)
    (of_decide_eq_true (by kernel_rfl)) (by unfold Func.isWrapper; first | (rw [if_pos (by decide +kernel)]; kernel_rfl) | (rw [if_neg (by decide +kernel)]; exact ⟨rfl, rfl⟩))
    (fun os started H enc _ => lifted os started H enc)
end dataBackRow

theorem dataBack_proved : Rows.DataBackSaid := dataBackRow.over
#print axioms dataBack_proved
end Go.Proofs.Ytpjhcaabjgbkjaa
