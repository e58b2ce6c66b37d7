/-
  slices.Grow of a nil slice of rows, and slices.Concat of two.
-/
import Derived.Test.YtlninlempefjcaaDoorSd
import Derived.Test.YtlninlempefjcaaDoorMem
import Derived.Lib.AppendZeros
import Derived.Deep.Cut
namespace Go.Proofs.YtlninlempefjcaaDoor
open Go.RowKit
set_option linter.unusedVariables false

theorem infoT : (Tryd.prog.info? 36).map (fun i => (i.zero, i.size, i.bytes)) = some (some (.agg sr0), 8, 72) := by kernel_rfl
theorem app_run {P : Program} (w : World) {ops : Array Oper} {rest : List Oper} {o : Oper} {a : Act} {Q : Exit → Act → World → Prop} (hgd : o.guard = none) (s x : Operand) (t tn : TypeId)
    (ho : o.op = .call { callee := .builtin .append, args := #[s, x], argTypes := #[t, tn] }) {u v : Value} (hs : a.eval s = u) (hx : a.eval x = v) {r : Value} {w' : World}
    (hrun : (Builtin.append_ #[t, tn] o.type #[u, v]).run P w = .ok r w') (h : wpList P ops Q rest (a.put o.dst r) w') : wpList P ops Q (o :: rest) a w := by
  refine wpList_plain hgd fun _ hK => ?_
  unfold Oper.wp execOp
  simp only [ho, resolve, invoke, builtin, Sem.run_bind, Sem.run_pure, Result.andThen_ok, List.map_toArray, List.map_cons, List.map_nil, hs, hx, hrun]
  exact hK _ _ h
/-- A new row of n zeros and more, as an empty one with room. -/
theorem own_zeros (w : World) (n : Nat) (hn : n ≤ 1000) (F : Nat → Value) :
    OwnC (w.alloc (.cells (Builtin.zeroCells sr0 n ++ Builtin.zeroCells sr0 (grownCap w n 0 36 - n)) 36)) w.heap.size 36 8 (some ⟨w.heap.size, 0, none⟩) 0 (grownCap w n 0 36) F := by
  have h1 := grownCap_ge w n 0 36
  have h2 := grownCap_le_maxLen w n 0 36 (by unfold maxLen; omega)
  refine ⟨by simp, .inr ⟨w.heap.size, _, _, rfl, Nat.le_refl _, RowC.new w _ _ _ rfl, Nat.zero_le _, h2, ?_, by simp⟩⟩
  rw [Array.size_append, size_zeroCells, size_zeroCells]
  show n * 8 + (_ - n) * 8 = _
  omega
set_option maxRecDepth 100000 in
set_option maxHeartbeats 4000000 in
theorem grow_any (n : Nat) (h1 : 1 ≤ n) (hn : n ≤ 1000) (F : Nat → Value) (w : World) :
    Calls Tryd.prog 35 #[.slice none 0 0, .int .i64 n] w fun e w' => ∃ c, e = .returned (.slice (some ⟨w.heap.size, 0, none⟩) 0 c) ∧ OwnC w' w.heap.size 36 8 (some ⟨w.heap.size, 0, none⟩) 0 c F ∧ Below w.heap.size w w' := by
  obtain ⟨i0, hi, hz0, hz1, hz2⟩ := info_parts infoT
  have hrun := Lib.run_append_nil_zeros (P := Tryd.prog) w 27 3 27 36 i0 (.agg sr0) .i64 .i64 Tryd.underlying27 Tryd.underlying3 hi hz0 n (by omega) (by omega) (by omega) (by rw [hz2]; omega)
  have hg := grownCap_ge w n 0 36
  have hown := own_zeros w n hn F
  have hb : Below w.heap.size w (w.alloc (.cells (Builtin.zeroCells sr0 n ++ Builtin.zeroCells sr0 (grownCap w n 0 36 - n)) 36)) := (Below.refl _ _).alloc (Nat.le_refl _) _
  have hrun2 : (Builtin.append_ #[27, 3] 27 #[.slice none 0 0, .int .i64 n]).run Tryd.prog w = .ok (.slice (some ⟨w.heap.size, 0, none⟩) n (grownCap w n 0 36)) (w.drew.alloc (.cells (Builtin.zeroCells sr0 n ++ Builtin.zeroCells sr0 (grownCap w n 0 36 - n)) 36)) := hrun
  have HRUN := Lib.hid hrun2
  have HOWN := Lib.hid hown
  have HB := Lib.hid hb
  obtain ⟨c, hc⟩ : ∃ c, grownCap w n 0 36 = c := ⟨_, rfl⟩
  rw [hc] at HRUN HOWN HB hg
  have HC := Lib.hid hc
  generalize Builtin.zeroCells sr0 n ++ Builtin.zeroCells sr0 (c - n) = Z at HRUN HOWN HB
  have q0 : ¬ (n : Int) < 0 := by omega
  have q1 : decide ((n : Int) < 0) = false := decide_eq_false q0
  have q2 : (n : Int) > 0 := by omega
  have q3 : decide ((n : Int) > 0) = true := decide_eq_true q2
  have c0 : (0 : Int) ≤ (c : Int) := by omega
  have v1 : IntKind.i64.wrap (n : Int) = n := by rw [IntKind.wrap_i64]; omega
  clear hrun hrun2 hown hb hc hi hz0 hz1 hz2
  go_enter Tryd.func35, Tryd.ntmps35
  go_upto_region 5 with fail
  go_wp2_with (at_builtin; go_must (refine app_run _ rfl _ _ 27 3 rfl rfl rfl HRUN.out ?_))
  go_ret
  exact ⟨c, rfl, HOWN.out.drew, HB.out.drew⟩
end Go.Proofs.YtlninlempefjcaaDoor
