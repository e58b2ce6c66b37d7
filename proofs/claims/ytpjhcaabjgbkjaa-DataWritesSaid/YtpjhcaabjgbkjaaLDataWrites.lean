/-
  The law DataWrites holds for every input: the bytes of any record, both ways round, are the document's. No condition.
-/
import Derived.Test.YtpjhcaabjgbkjaaDe
import Derived.Test.YtpjhcaabjgbkjaaId
import Derived.Test.YtpjhcaabjgbkjaaRows
import Derived.Below
import Derived.ChangeOld
import Derived.ShutString
import Derived.Lib.SmallJoins
import Derived.OpenShut
import Derived.ProofKit
import Derived.WalkKit
import Derived.Deep.RegionWith
namespace Go.Proofs.Ytpjhcaabjgbkjaa
open Go.RowKit

set_option maxRecDepth 100000 in
set_option maxHeartbeats 8000000 in
theorem walk_DataWrites {w0 : World} (r : RV) (hr : r.ok) (big : Bool) :
    Calls Try.prog 3 #[.agg (rcells r), .bool big] w0 fun e w' => e = .returned (.bool true) ∧ Below w0.heap.size w0 w' := by
  have HR := Lib.hid hr
  clear hr
  have hrc0 : RcB (w0.alloc (.cells (rcells r) 26)) w0.heap.size 26 r := heap_alloc_last w0 _
  have HRC := Lib.hid hrc0
  clear hrc0
  have hsl := sl_all
  have hb0 : Below w0.heap.size w0 (w0.alloc (.cells (rcells r) 26)) := (Below.refl _ _).alloc (Nat.le_refl _) _
  have hq : ∀ W, RcB W w0.heap.size 26 r → (W.cell? ⟨w0.heap.size, 0, none⟩ = some (.int .u32 r.n) ∧ W.cell? ⟨w0.heap.size, 1, none⟩ = some (.int .u32 r.a) ∧ W.cell? ⟨w0.heap.size, 2, none⟩ = some (.int .u64 r.p) ∧ W.cell? ⟨w0.heap.size, 3, none⟩ = some (.int .u64 (r.q 0)) ∧ W.cell? ⟨w0.heap.size, 4, none⟩ = some (.int .u64 (r.q 1)) ∧ W.cell? ⟨w0.heap.size, 5, none⟩ = some (.int .u64 (r.q 2)) ∧ W.cell? ⟨w0.heap.size, 6, none⟩ = some (.int .u64 (r.q 3)) ∧ W.cell? ⟨w0.heap.size, 7, none⟩ = some (.int .u64 (r.q 4)) ∧ W.cell? ⟨w0.heap.size, 8, none⟩ = some (.int .u64 (r.q 5))) := fun W h =>
    ⟨h.cell 0 _ rfl, h.cell 1 _ rfl, h.cell 2 _ rfl, h.cell 3 _ rfl, h.cell 4 _ rfl, h.cell 5 _ rfl, h.cell 6 _ rfl, h.cell 7 _ rfl, h.cell 8 _ rfl⟩
  have HQ := Lib.hid hq
  clear hq
  obtain ⟨D, hD⟩ : ∃ D, arrB 64 (recB r big) = D := ⟨_, rfl⟩
  have hwr := write5_any r HR.out big
  have hs1 := size64 (recB r big)
  have hs3 := arrB_size 64 (recB r big)
  have h1c := arrB_one 64 (recB r big)
  rw [hD] at hwr hs1 hs3 h1c
  have HD := Lib.hid hD
  have HWR := Lib.hid hwr
  have S1 := Lib.hid hs1
  have S3 := Lib.hid hs3
  have H1C := Lib.hid h1c
  clear hD hwr hs1 hs3 h1c
  obtain ⟨S, hS⟩ : ∃ S, sbytes 64 (recB r big) = S := ⟨_, rfl⟩
  have HS := Lib.hid hS
  clear hS
  unfold rcells at HRC hb0 ⊢
  go_enter Try.func3, Try.ntmps3
  go_wp2_with fail
  generalize w0.alloc (.cells #[.int .u32 r.n, .int .u32 r.a, .int .u64 r.p, .int .u64 (r.q 0), .int .u64 (r.q 1), .int .u64 (r.q 2), .int .u64 (r.q 3), .int .u64 (r.q 4), .int .u64 (r.q 5)] 26) = W1 at *
  have hlt1 := HRC.out.lt
  refine (of5_any r _).mono ?_
  rintro e w1 ⟨rfl, hB1⟩
  have hb1 := hb0.trans (hB1.mono hb0.size)
  have HRC1 := Lib.hid (HRC.out.below hB1 hlt1)
  go_wp2_with fail
  refine (HWR.out _).mono ?_
  rintro e w2 ⟨rfl, hB2⟩
  have hb2 := hb1.trans (hB2.mono hb1.size)
  have HRC2 := Lib.hid (HRC1.out.below hB2 HRC1.out.lt)
  clear hB1 hB2 hb1 HRC1
  go_wp2_with (refine wpList_store_row (by rfl) 27 _ _ (by rfl) w2.heap.size D (by rfl) (by rfl) _ _ (heap_alloc_last _ _) S1.out (by rw [S3.out]; rfl) H1C.out ?_; rw [World.setRow_alloc_new])
  have hb3 := hb2.alloc hb2.size (.cells D 27)
  have ha3 : ArB (w2.alloc (.cells D 27)) w2.heap.size 64 27 (recB r big) := by rw [← HD.out]; exact heap_alloc_last w2 _
  have HRC3 := Lib.hid (HRC2.out.below ((Below.refl w2.heap.size w2).alloc (Nat.le_refl _) (.cells D 27)) HRC2.out.lt)
  have hby3 := ha3.byt (B := (w2.alloc (.cells D 27)).heap.size) (by decide) ha3.lt (fun i _ => recB_lt r big i)
  generalize hW3 : w2.alloc (.cells D 27) = W3 at *
  have hlt3 : w2.heap.size < W3.heap.size := ha3.lt
  obtain ⟨q0, q1, q2, q3, q4, q5, q6, q7, q8⟩ := HQ.out _ HRC3.out
  have hstr := str_of_byt (P := Try.prog) Try.underlying31 Try.underlying5 Try.underlying9 hby3
  have hstrd := str_of_byt (P := Try.prog) Try.underlying31 Try.underlying5 Try.underlying9 (Byt_drew hby3)
  rw [HS.out] at hstr hstrd
  have HA3 := Lib.hid ha3
  clear hW3 ha3 hby3 hstr hb2
  go_region_with (first
    | (go_at_call 18
       refine (refWrite5_any r HR.out big _).mono ?_
       rintro e w4 ⟨A4, c4, rfl, hown4, hB4⟩
       have hb4 := hb3.drew.trans (hB4.mono hb3.size)
       have ha4 := (show ArB W3.drew _ _ _ _ from HA3.out).below hB4 hlt3
       have hstr4 := str_of_byt (P := Try.prog) Try.underlying31 Try.underlying5 Try.underlying9 hown4.byt
       have hstr5 := str_of_byt (P := Try.prog) Try.underlying31 Try.underlying5 Try.underlying9 (ha4.byt (B := w4.heap.size) (by decide) ha4.lt (fun i _ => recB_lt r big i))
       rw [HS.out] at hstr4 hstr5)
    | (go_at_call 19
       refine (awake5_any _).mono ?_
       rintro e w5 ⟨rfl, rfl⟩))
  all_goals go_wp2
  all_goals go_ret
  all_goals exact ⟨rfl, hb4⟩


namespace dataWritesRow
open Go.ChangeShapes Go.WideShapes Go.ChangeAt Go.RowKit Go.Joins
open Go.ChangeMaps (open_string shut_string)
set_option linter.unusedVariables false
theorem own : ownKnob Try.prog.godebug = none := by kernel_rfl
theorem laidOut : laidOutB Try.prog = true := by kernel_rfl
set_option maxRecDepth 100000 in
theorem lifted (os : Os) (started : os.Started) (H : Type) (enc : TypeId × Value → H) :
    ReturnsInHanded {} Try.checked os 3 .any (Rows.dataWritesSpec.pre6 enc Try.prog Try.f3 Rows.dataWritesRow.domain false) (Rows.dataWritesSpec.post enc Try.prog Try.f3 false true false false) := by
  refine returnsInHanded_of_change (C := Try.checked) own started (by kernel_rfl) Try.func3
    (ChangeSpec.witness6 (enc := enc) (C := Try.checked) false ⟨#[], #[.agg #[.int .u32 0, .int .u32 0, .int .u64 0, .int .u64 0, .int .u64 0, .int .u64 0, .int .u64 0, .int .u64 0, .int .u64 0], .bool false], []⟩ 8 (by kernel_rfl) (by kernel_rfl) (by kernel_rfl) (by kernel_rfl)) ?_
  intro W base args ds gs before hval0 hW hcnd _
  have hval : ∀ (j : Nat) t v, Try.f3.params[j]? = some t → args[j]? = some v → Value.okWide Try.prog W .any base t v := hval0
  have hW' := hW
  obtain ⟨p, q, hA0, hV, rfl, hfz, hnd⟩ := hW
  have hA : DataW.TrodAll enc Try.prog W 0 (fun _ => true) true Try.f3.params.toList args.toList ds p := hA0
  rw [Try.params3] at hA hval
  obtain ⟨v0, vs0, d0, ds0, p0, q0, hargs, rfl, rfl, h0, r0⟩ := trodAll_cons hA
  obtain ⟨v1, vs1, d1, ds1, p1, q1, rfl, rfl, rfl, h1, r1⟩ := trodAll_cons r0
  obtain ⟨rfl, rfl, rfl⟩ := trodAll_nil r1
  obtain rfl : args = #[v0, v1] := by cases args; simp_all
  obtain ⟨rfl, rfl⟩ := trodVars_none hV
  have k0 := h0
  have lt0 : ∀ x ∈ p0, x.block < W.heap.size := by obtain ⟨m, hm⟩ := k0; exact DataW.trod_lt m _ _ _ hm
  have k1 := h1
  have lt1 : ∀ x ∈ p1, x.block < W.heap.size := by obtain ⟨m, hm⟩ := k1; exact DataW.trod_lt m _ _ _ hm
  obtain ⟨g0, rfl, w0⟩ := open_rec (hval 0 26 v0 rfl rfl) h0
  obtain ⟨a1, rfl, rfl, rfl⟩ := open_bool Try.underlying4 (hval 1 4 v1 rfl rfl) h1
  clear hA0 hval0
  refine (walk_DataWrites (w0 := W) g0 w0 a1).mono fun e W' ⟨he, bel⟩ => ?_
  subst he
  exact ⟨_, rfl, _, _, _, [], _, [], hW', trodAll_mk1 (shut_bool Try.underlying4 _), (trodAll_cons_mk (Below.trod laidOut (by kernel_rfl) (of_decide_eq_true (by kernel_rfl)) k0 bel lt0) (trodAll_cons_mk (Below.trod laidOut (by kernel_rfl) (of_decide_eq_true (by kernel_rfl)) k1 bel lt1) trodAll_mk0)), rfl, bel.frame _, fun h => by cases h⟩

theorem over : Rows.dataWritesRow.holds Try.pinned (OpenSpec.ofChange Rows.dataWritesSpec) :=
  OpenClaim.holds_of_wide 3 Try.f3 rfl rfl rfl rfl rfl rfl rfl ⟨rfl, rfl, rfl, rfl, rfl⟩ rfl rfl rfl rfl rfl (by kernel_rfl) Try.func3 (by kernel_rfl)
    (of_decide_eq_true (by kernel_rfl)) (by unfold Func.isWrapper; first | (rw [if_pos (by decide +kernel)]; kernel_rfl) | (rw [if_neg (by decide +kernel)]; exact ⟨rfl, rfl⟩))
    (fun os started H enc _ => lifted os started H enc)
end dataWritesRow

theorem dataWrites_proved : Rows.DataWritesSaid := dataWritesRow.over
#print axioms dataWrites_proved
end Go.Proofs.Ytpjhcaabjgbkjaa
