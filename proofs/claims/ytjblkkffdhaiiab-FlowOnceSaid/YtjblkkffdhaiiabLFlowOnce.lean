/-
  The law FlowOnce holds for every input: the instructions that a pruned program has are all reached, and it may run. No condition.
-/
import Derived.Test.YtjblkkffdhaiiabFq
import Derived.Test.YtjblkkffdhaiiabFm
import Derived.Test.YtjblkkffdhaiiabIf
import Derived.Test.YtjblkkffdhaiiabRows
import Derived.Below
import Derived.ChangeOld
import Derived.ShutString
import Derived.Lib.SmallJoins
import Derived.OpenShut
import Derived.ProofKit
import Derived.WalkKit
namespace Go.Proofs.Ytjblkkffdhaiiab
open Go.RowKit Go.Shelf

section
attribute [local go_sem] Oper.semAt_some
set_option maxRecDepth 100000 in
set_option maxHeartbeats 2000000 in
theorem seen_nil (w : World) :
    Calls Try.prog 43 #[.slice none 0 0] w fun e w' => ∃ Mx, e = .returned (.func (.func 73) #[] #[.pointer (some ⟨w.heap.size, 0, none⟩), .pointer (some ⟨Mx, 0, none⟩)]) ∧
      RowAt w' w.heap.size #[.slice none 0 0] 78 ∧ w.heap.size < w'.heap.size ∧ Below w.heap.size w w' := by
  have HC := Lib.hid (reached_nil (w.alloc (.cells #[.slice none 0 0] 78)))
  go_enter Try.func43, Try.ntmps43
  go_wp2_with (go_at_call 39; refine HC.out.mono ?_; rintro e w1 ⟨rfl, hB1⟩)
  go_ret
  have hs := hB1.size
  simp at hs
  exact ⟨_, rfl, h_old _ _ _ _ ((show RowAt _ w.heap.size #[.slice none 0 0] 78 from heap_alloc_last w _).below hB1 (by simp)), by simp; omega, (((Below.refl _ _).alloc (Nat.le_refl _) _).trans (hB1.mono (by simp))).alloc (by omega) _⟩

set_option maxRecDepth 100000 in
set_option maxHeartbeats 4000000 in
theorem seen1_none (F : Fence) (N : Nat) (h8 : F.fn 73) (hro : F.round = none) (l Bx Mx : Nat) (J Jx : List (Fin 0) → World → Prop)
    (W : World) (h1 : W.cell? ⟨Bx, 0, none⟩ = some (.slice none 0 0)) (h0 : J [] W) :
    CallsIn F N Try.prog 73 #[.func (.yield l) #[] #[], .pointer (some ⟨Bx, 0, none⟩), .pointer (some ⟨Mx, 0, none⟩)] W fun e W' => (∃ v, e = .returned v) ∧
      ((∃ ys, ys = [] ∧ J ys W') ∨ (∃ pre, True ∧ Jx pre W')) := by
  refine callsIn_of_wp Try.func73 rfl h8 ?_ hro
  simp only [Try.ntmps73, List.size_toArray, List.length_cons, List.length_nil, Nat.reduceAdd, Nat.reduceSub, Array.replicate_succ, Array.replicate_zero, List.push_toArray, List.append_toArray, List.nil_append, List.cons_append]
  gi_wp2
  gi_loopw [8] (fun i wr => i = .int .i64 0 ∧ J [] wr) (fun _ _ => 0)
  case atStart => exact ⟨rfl, h0⟩
  case round =>
    obtain ⟨rfl, hJs⟩ := hrel
    gi_wp2
    go_end0
    exact ⟨⟨_, rfl⟩, .inl ⟨_, rfl, hJs⟩⟩
theorem seen_none_stops (F : Fence) (N : Nat) (h8 : F.fn 73) (hro : F.round = none) (Bx Mx : Nat) (w : World) (s1 : Bx < w.heap.size) (h1 : w.cell? ⟨Bx, 0, none⟩ = some (.slice none 0 0)) :
    SeqStopsK F N Try.prog 73 #[.pointer (some ⟨Bx, 0, none⟩), .pointer (some ⟨Mx, 0, none⟩)]
      (fun _ : Fin 0 => #[undef]) (fun _ _ => True) (fun ys => ys = []) (fun _ => True) 0 w := fun l J Jx W hW _ _ _ h0 =>
  seen1_none F N h8 hro l Bx Mx J Jx W ((hW.cell (p := ⟨Bx, 0, none⟩) s1).trans h1) h0

set_option maxRecDepth 100000 in
set_option maxHeartbeats 8000000 in
theorem prune_err (A : Option Addr) (n c : Nat) (g : Nat → IV) (w : World) (hr : Ins w w.heap.size A n c g) (he : (checkF g n).2 ≠ 0) :
    Calls Try.prog 13 #[.slice A n c] w fun e w' => ∃ A' c', e = .returned (.slice A' 0 c') ∧ Below w.heap.size w w' := by
  have HP := Lib.hid (places_err A n c g w hr he)
  have hmk : ∀ W : World, (Instr.makeSlice 40 (.int .i64 0) (.int .i64 0)).run Try.prog W = .ok (.slice (some ⟨W.heap.size, 0, none⟩) 0 0) (W.alloc (.cells (intRow 0 fun _ => 0) 3)) := mk_ints 0 (by decide)
  clear hr he
  refine (callsIn_wide (n := 8)).1 ?_
  have hro : (Fence.wide).round = none := rfl
  refine callsIn_of_wp_marks Try.func13 rfl trivial ?_ hro
  simp only [Try.ntmps13, List.size_toArray, List.length_cons, List.length_nil, Nat.reduceAdd, Nat.reduceSub, Array.replicate_succ, Array.replicate_zero, List.push_toArray, List.append_toArray, List.nil_append, List.cons_append]
  gi_wp2_with (first
    | (refine ⟨trivial, ?_⟩; gi_at_call 40; refine (callsIn_wide.2 HP.out).mono ?_; rintro e w1 ⟨rfl, hB1⟩; have HB1 := Lib.hid hB1; clear hB1)
    | (refine ⟨trivial, ?_⟩; gi_at_call 43; refine (callsIn_wide.2 (seen_nil _)).mono ?_; rintro e w2 ⟨Mx, rfl, hr1, hlt, hB2⟩))
  have hz1 := HB1.out.size
  have hz2 := hB2.size
  have hbw : Below w.heap.size w (((w2.alloc (.cells (intRow 0 fun _ => 0) 3)).alloc (.cells #[.slice (some ⟨w2.heap.size, 0, none⟩) 0 0] 40)).alloc (.cells #[.int .i64 0] 3)) := (((HB1.out.trans (hB2.mono hz1)).alloc (by omega) _).alloc (by simp; omega) _).alloc (by simp; omega) _
  have k2 : RowAt (((w2.alloc (.cells (intRow 0 fun _ => 0) 3)).alloc (.cells #[.slice (some ⟨w2.heap.size, 0, none⟩) 0 0] 40)).alloc (.cells #[.int .i64 0] 3)) (w2.heap.size + 1) #[.slice (some ⟨w2.heap.size, 0, none⟩) 0 0] 40 := h_old _ _ _ _ (h_last _ _ _ (by simp))
  have k3 : RowAt (((w2.alloc (.cells (intRow 0 fun _ => 0) 3)).alloc (.cells #[.slice (some ⟨w2.heap.size, 0, none⟩) 0 0] 40)).alloc (.cells #[.int .i64 0] 3)) (w2.heap.size + 1 + 1) #[.int .i64 0] 3 := h_last _ _ _ (by simp)
  have k4 : RowAt (((w2.alloc (.cells (intRow 0 fun _ => 0) 3)).alloc (.cells #[.slice (some ⟨w2.heap.size, 0, none⟩) 0 0] 40)).alloc (.cells #[.int .i64 0] 3)) w1.heap.size #[.slice none 0 0] 78 := h_old _ _ _ _ (h_old _ _ _ _ (h_old _ _ _ _ hr1))
  have hsz : (((w2.alloc (.cells (intRow 0 fun _ => 0) 3)).alloc (.cells #[.slice (some ⟨w2.heap.size, 0, none⟩) 0 0] 40)).alloc (.cells #[.int .i64 0] 3)).heap.size = w2.heap.size + 3 := by simp
  generalize (((w2.alloc (.cells (intRow 0 fun _ => 0) 3)).alloc (.cells #[.slice (some ⟨w2.heap.size, 0, none⟩) 0 0] 40)).alloc (.cells #[.int .i64 0] 3)) = w3 at *
  clear hmk hr1 hB2
  refine wpIn_rangeFunc_ownH hro (by decide) (gf := 73) (lb := #[.pointer (some ⟨w1.heap.size, 0, none⟩), .pointer (some ⟨Mx, 0, none⟩)]) rfl trivial (enters_of Try.func73 (by kernel_rfl) rfl)
    (seen_none_stops Fence.wide (8 - 1) trivial hro w1.heap.size Mx w3 (by omega) (k4.cell 0 _ rfl)) (fun _ _ => trivial) (fun _ _ _ _ _ _ _ _ => trivial) (Below.refl _ _) (fun _ => rfl)
    (fun _ W => (RowAt W (w2.heap.size + 1) #[.slice (some ⟨w2.heap.size, 0, none⟩) 0 0] 40 ∧ RowAt W (w2.heap.size + 1 + 1) #[.int .i64 0] 3 ∧ RowAt W w1.heap.size #[.slice none 0 0] 78) ∧ Below w.heap.size w W)
    (fun _ _ _ => False)
    (OwnFrom.and (Own.from (fun s A B row hs hg hr => ⟨row_kept hs.1 hg hr, row_kept hs.2.1 hg hr, row_kept hs.2.2 hg hr⟩) _) (ownFrom_below (Nat.le_refl _) (by omega)))
    (fun _ _ _ _ _ hs _ _ => hs)
    ⟨⟨k2, k3, k4⟩, hbw⟩
    (fun _ _ _ => False) (fun _ _ => Own.from (fun _ _ _ _ hs _ _ => hs) _) ?assign ?body ?done ?stop
  case assign =>
    rintro l pre x
    exact x.elim0
  case body =>
    rintro l pre x
    exact x.elim0
  case stop =>
    rintro D c pre W _ _ h _
    exact h.elim
  case done =>
    rintro D ys W hD rfl ⟨⟨q2, q3, q4⟩, hB⟩ hK
    have c3 := q3.cell 0 _ rfl
    obtain ⟨W5, hmk5, hown5, hB5, hz5⟩ := mk_ins0 0 (by decide) W
    have hmk5' : (Instr.makeSlice 23 (.int .i64 0) (.int .i64 0)).run Try.prog W = .ok (.slice (some ⟨W.heap.size, 0, none⟩) 0 0) W5 := hmk5
    clear hmk5
    gi_wp2
    have hw6 : Below W.heap.size W (W5.alloc (.cells #[.slice (some ⟨W.heap.size, 0, none⟩) 0 0] 23)) := hB5.alloc (by omega) _
    have t3 := q3.below hw6 q3.lt
    have t4 := q4.below hw6 q4.lt
    have hD6 : (W5.alloc (.cells #[.slice (some ⟨W.heap.size, 0, none⟩) 0 0] 23)).heap[D]? = some (.deferred (some [])) := (hw6.block D (Array.getElem?_eq_some_iff.1 hK).1).trans hK
    have hDl := (Array.getElem?_eq_some_iff.1 hK).1
    have r8 : RowAt (W5.alloc (.cells #[.slice (some ⟨W.heap.size, 0, none⟩) 0 0] 23)) (W.heap.size + 1) #[.slice (some ⟨W.heap.size, 0, none⟩) 0 0] 23 := h_last _ _ _ (by omega)
    have hb6 : Below w.heap.size w (W5.alloc (.cells #[.slice (some ⟨W.heap.size, 0, none⟩) 0 0] 23)) := hB.trans (hw6.mono hB.size)
    have hs6 : (W5.alloc (.cells #[.slice (some ⟨W.heap.size, 0, none⟩) 0 0] 23)).heap.size = W.heap.size + 2 := by simp; omega
    generalize (W5.alloc (.cells #[.slice (some ⟨W.heap.size, 0, none⟩) 0 0] 23)) = w6 at *
    have hws := hB.size
    clear hmk5' hown5 hB5 hw6
    refine wpIn_rangeFunc_ownH hro (by decide) (gf := 73) (lb := #[.pointer (some ⟨w1.heap.size, 0, none⟩), .pointer (some ⟨Mx, 0, none⟩)]) rfl trivial (enters_of Try.func73 (by kernel_rfl) rfl)
      (seen_none_stops Fence.wide (8 - 1) trivial hro w1.heap.size Mx w6 t4.lt (t4.cell 0 _ rfl)) (fun _ _ => trivial) (fun _ _ _ _ _ _ _ _ => trivial) (Below.refl _ _) (fun _ => rfl)
      (fun _ V => RowAt V (W.heap.size + 1) #[.slice (some ⟨W.heap.size, 0, none⟩) 0 0] 23 ∧ (V.heap[D]? = some (.deferred (some [])) ∧ Below w.heap.size w V))
      (fun _ _ _ => False)
      (OwnFrom.and (Own.from (fun s A B row hs hg hr => row_kept hs hg hr) _) (OwnFrom.and (fun s A B row hs hg hr => (hg.block D (Array.getElem?_eq_some_iff.1 hs).1 (fun e => by have := (hr D e.symm).1; omega)).trans hs) (ownFrom_below (Nat.le_refl _) (by omega))))
      (fun _ _ _ _ _ hs _ _ => hs)
      ⟨r8, hD6, hb6⟩
      (fun _ _ _ => False) (fun _ _ => Own.from (fun _ _ _ _ hs _ _ => hs) _) ?assign2 ?body2 ?done2 ?stop2
    case assign2 =>
      rintro l pre x
      exact x.elim0
    case body2 =>
      rintro l pre x
      exact x.elim0
    case stop2 =>
      rintro D c pre W _ _ h _
      exact h.elim
    case done2 =>
      rintro D2 ys V hD2 rfl ⟨qp, qD, hBV⟩ hK2
      have c8 := qp.cell 0 _ rfl
      gi_wp2
      have hne : D ≠ D2 := by omega
      have hD1 : (V.putObj D2 (.deferred none)).heap[D]? = some (.deferred (some [])) := (World.putObj_heap_other hne).trans qD
      refine ⟨by simp, .inl ⟨_, _, rfl, run_takeDeferred hK2, ⟨by simp, .inl ⟨_, _, rfl, run_takeDeferred hD1, ?_⟩⟩⟩⟩
      exact ⟨_, results_tmp rfl _ _ _, _, _, rfl, (hBV.trans (belowK_b (w := w) (Nat.le_refl _) V D2 _ _ (by omega) hK2 rfl rfl)).trans (belowK_b (w := w) (Nat.le_refl _) _ D _ _ (by omega) hD1 rfl rfl)⟩
end

set_option maxRecDepth 100000 in
set_option maxHeartbeats 8000000 in
theorem walk_FlowOnce {w0 : World} (A : Option Addr) (n c : Nat) (g : Nat → IV) (hr : Ins w0 w0.heap.size A n c g) :
    Calls Try.prog 4 #[.slice A n c] w0 fun e w' => e = .returned (.bool true) ∧ Below w0.heap.size w0 w' := by
  have hmx := hr.1.le
  unfold maxLen at hmx
  obtain ⟨m1, m2⟩ := hmx
  by_cases h1 : 200 < n
  · clear hr
    go_enter Try.func4, Try.ntmps4
    go_wp2
    go_ret
    exact ⟨rfl, Below.refl _ _⟩
  · have HI0 := Lib.hid hr
    clear hr
    go_enter Try.func4, Try.ntmps4
    go_wp2_with fail
    refine (all7_any A n c g _ (by omega) HI0.out).mono ?_
    rintro e w2 ⟨A2, c2, rfl, hown2, hB2⟩
    have HI2 : Hid (Ins w2 w2.heap.size A2 n c2 g) := Lib.hid ⟨hown2.cel, HI0.out.2⟩
    have HB2 := Lib.hid hB2
    clear hown2 hB2
    by_cases hce : (checkF g n).2 = 0
    · obtain ⟨P, N, hP, hN, hN0, hNn, hc2, hok2, hway, hcN, hpN, hlng⟩ := prn_facts hce HI0.out.2
      have HCE := Lib.hid hce
      have HC2 := Lib.hid hc2
      have HP := Lib.hid (And.intro hP hN)
      have HOK2 := Lib.hid hok2
      have HWAY := Lib.hid hway
      have hnz : ((N : Int) == 0) = false := by simp; omega
      clear hP hN hc2 hok2 hway hcN hpN hlng hce
      go_wp2_with fail
      refine (prune_ok _ n _ g _ HI2.out HCE.out).mono ?_
      rw [HP.out.1, HP.out.2]
      rintro e w4 ⟨A4, c4, rfl, hown4, hB4⟩
      have HI4 : Hid (Ins w4 w4.heap.size A4 N c4 P) := Lib.hid ⟨hown4.cel, HOK2.out⟩
      have HB4 := Lib.hid (HB2.out.trans (hB4.mono HB2.out.size))
      clear hown4 hB4
      go_wp2_with fail
      refine (reach_ok _ N _ P _ HI4.out HC2.out).mono ?_
      rintro e w5 ⟨b5, rfl, hb5, hrow, hB5⟩
      have HI5 := Lib.hid ((HI4.out.below hB5).more hB5.size)
      have HB5 := Lib.hid (HB4.out.trans (hB5.mono HB4.out.size))
      have HRW := Lib.hid hrow
      clear hrow hB5
      go_wp2
      go_loopw [5] (fun i W => ∃ j : Nat, j ≤ N ∧ i = .int .i64 j ∧ W = w5) (fun i _ => N - (intOf i).toNat)
      case atStart => exact ⟨0, Nat.zero_le _, rfl, rfl⟩
      case round =>
        obtain ⟨j, hj, rfl, rfl⟩ := hrel
        by_cases hlj : j < N
        · have p0 := HRW.out.cell j _ (boolRow_at _ _ _ hlj)
          rw [HWAY.out j hlj] at p0
          have i1 : (0 : Int) ≤ (j : Int) := by omega
          have i2 : (j : Int) < (N : Int) := by omega
          go_wp2
          exact ⟨⟨j + 1, by omega, by go_num, trivial⟩, by simp [intOf]; omega⟩
        · obtain rfl : j = N := by omega
          have hck := check_any _ j _ P _ HI5.out
          obtain ⟨x, hx⟩ : ∃ x, (checkF P j).1 = x := ⟨_, rfl⟩
          rw [HC2.out, hx] at hck
          have HCK := Lib.hid hck
          clear hck hx
          go_wp2_with fail
          refine HCK.out.mono ?_
          rintro e w6 ⟨rfl, hB6⟩
          have HB6 := Lib.hid (HB5.out.trans (hB6.mono HB5.out.size))
          clear hB6
          go_wp2_with (go_at_call 14; refine (awake7_any _).mono ?_; rintro e w9 ⟨rfl, hB9⟩)
          go_ret
          exact ⟨rfl, HB6.out.trans (hB9.mono HB6.out.size)⟩
    · have HCE := Lib.hid hce
      clear hce
      go_wp2_with fail
      refine (prune_err _ n _ g _ HI2.out HCE.out).mono ?_
      rintro e w4 ⟨A4, c4, rfl, hB4⟩
      have HB4 := Lib.hid (HB2.out.trans (hB4.mono HB2.out.size))
      clear hB4
      go_wp2_with (go_at_call 14; refine (awake7_any _).mono ?_; rintro e w9 ⟨rfl, hB9⟩)
      go_ret
      exact ⟨rfl, HB4.out.trans (hB9.mono HB4.out.size)⟩

namespace flowOnceRow
open Go.ChangeShapes Go.WideShapes Go.ChangeAt Go.RowKit Go.Joins
open Go.ChangeMaps (open_string shut_string)
set_option linter.unusedVariables false
theorem own : ownKnob Try.prog.godebug = none := by kernel_rfl
theorem laidOut : laidOutB Try.prog = true := by kernel_rfl
set_option maxRecDepth 100000 in
theorem lifted (os : Os) (started : os.Started) (H : Type) (enc : TypeId × Value → H) :
    ReturnsInHanded {} Try.checked os 4 .any (Rows.flowOnceSpec.pre6 enc Try.prog Try.f4 Rows.flowOnceRow.domain false) (Rows.flowOnceSpec.post enc Try.prog Try.f4 false true false false) := by
  refine returnsInHanded_of_change (C := Try.checked) own started (by kernel_rfl) Try.func4
    (ChangeSpec.witness6 (enc := enc) (C := Try.checked) false ⟨#[], #[.slice none 0 0], []⟩ 8 (by kernel_rfl) (by kernel_rfl) (by kernel_rfl) (by kernel_rfl)) ?_
  intro W base args ds gs before hval0 hW hcnd _
  have hval : ∀ (j : Nat) t v, Try.f4.params[j]? = some t → args[j]? = some v → Value.okWide Try.prog W .any base t v := hval0
  have hW' := hW
  obtain ⟨p, q, hA0, hV, rfl, hfz, hnd⟩ := hW
  have hA : DataW.TrodAll enc Try.prog W 0 (fun _ => true) true Try.f4.params.toList args.toList ds p := hA0
  rw [Try.params4] at hA hval
  obtain ⟨v0, vs0, d0, ds0, p0, q0, hargs, rfl, rfl, h0, r0⟩ := trodAll_cons hA
  obtain ⟨rfl, rfl, rfl⟩ := trodAll_nil r0
  obtain rfl : args = #[v0] := by cases args; simp_all
  obtain ⟨rfl, rfl⟩ := trodVars_none hV
  have k0 := h0
  have lt0 : ∀ x ∈ p0, x.block < W.heap.size := by obtain ⟨m, hm⟩ := k0; exact DataW.trod_lt m _ _ _ hm
  obtain ⟨a0, len0, cap0, rfl⟩ := okWide_slice Try.underlying33 (hval 0 33 v0 rfl rfl)
  obtain ⟨g0, w0⟩ := open_ins h0
  clear hA0 hval0
  refine (walk_FlowOnce (w0 := W) a0 len0 cap0 g0 w0).mono fun e W' ⟨he, bel⟩ => ?_
  subst he
  exact ⟨_, rfl, _, _, _, [], _, [], hW', trodAll_mk1 (shut_bool Try.underlying4 _), (trodAll_cons_mk (Below.trod laidOut (by kernel_rfl) (of_decide_eq_true (by kernel_rfl)) k0 bel lt0) trodAll_mk0), rfl, bel.frame _, fun h => by cases h⟩

theorem over : Rows.flowOnceRow.holds Try.pinned (OpenSpec.ofChange Rows.flowOnceSpec) :=
  OpenClaim.holds_of_wide 4 Try.f4 rfl rfl rfl rfl rfl rfl rfl ⟨rfl, rfl, rfl, rfl, rfl⟩ rfl rfl rfl rfl rfl (by kernel_rfl) Try.func4 (by kernel_rfl)
    (of_decide_eq_true (by kernel_rfl)) (by unfold Func.isWrapper; first | (rw [if_pos (by decide +kernel)]; kernel_rfl) | (rw [if_neg (by decide +kernel)]; exact ⟨rfl, rfl⟩))
    (fun os started H enc _ => lifted os started H enc)
end flowOnceRow

theorem flowOnce_proved : Rows.FlowOnceSaid := flowOnceRow.over
#print axioms flowOnce_proved
end Go.Proofs.Ytjblkkffdhaiiab
