/-
  slices.Grow of a nil slice of rows, and slices.Concat of two.
-/
import Derived.Test.YtccklmleaffgiaaGreatDoorP9
import Derived.Test.YtccklmleaffgiaaGreatDoorP1
import Derived.Lib.AppendZeros
import Derived.Deep.Cut
import Derived.Test.YtccklmleaffgiaaGreatDoorP10
import Derived.Test.YtccklmleaffgiaaGreatDoorSbp
import Derived.Test.YtccklmleaffgiaaGreatDoorScp
namespace Go.Proofs.YtccklmleaffgiaaGreatDoor
open Go.RowKit
set_option linter.unusedVariables false

theorem infoT : (Tryz.prog.info? 73).map (fun i => (i.zero, i.size, i.bytes)) = some (some (.agg sr0), 8, 72) := by kernel_rfl
theorem app_run {P : Program} (w : World) {ops : Array Oper} {rest : List Oper} {o : Oper} {a : Act} {Q : Exit → Act → World → Prop} (hgd : o.guard = none) (s x : Operand) (t tn : TypeId)
    (ho : o.op = .call { callee := .builtin .append, args := #[s, x], argTypes := #[t, tn] }) {u v : Value} (hs : a.eval s = u) (hx : a.eval x = v) {r : Value} {w' : World}
    (hrun : (Builtin.append_ #[t, tn] o.type #[u, v]).run P w = .ok r w') (h : wpList P ops Q rest (a.put o.dst r) w') : wpList P ops Q (o :: rest) a w := by
  refine wpList_plain hgd fun _ hK => ?_
  unfold Oper.wp execOp
  simp only [ho, resolve, invoke, builtin, Sem.run_bind, Sem.run_pure, Result.andThen_ok, List.map_toArray, List.map_cons, List.map_nil, hs, hx, hrun]
  exact hK _ _ h
/-- A new row of n zeros and more, as an empty one with room. -/
theorem own_zeros (w : World) (n : Nat) (hn : n ≤ 1000) (F : Nat → Value) :
    OwnC (w.alloc (.cells (Builtin.zeroCells sr0 n ++ Builtin.zeroCells sr0 (grownCap w n 0 73 - n)) 73)) w.heap.size 73 8 (some ⟨w.heap.size, 0, none⟩) 0 (grownCap w n 0 73) F := by
  have h1 := grownCap_ge w n 0 73
  have h2 := grownCap_le_maxLen w n 0 73 (by unfold maxLen; omega)
  refine ⟨by simp, .inr ⟨w.heap.size, _, _, rfl, Nat.le_refl _, RowC.new w _ _ _ rfl, Nat.zero_le _, h2, ?_, by simp⟩⟩
  rw [Array.size_append, size_zeroCells, size_zeroCells]
  show n * 8 + (_ - n) * 8 = _
  omega
set_option maxRecDepth 100000 in
set_option maxHeartbeats 4000000 in
theorem grow_any (n : Nat) (h1 : 1 ≤ n) (hn : n ≤ 1000) (F : Nat → Value) (w : World) :
    Calls Tryz.prog 75 #[.slice none 0 0, .int .i64 n] w fun e w' => ∃ c, e = .returned (.slice (some ⟨w.heap.size, 0, none⟩) 0 c) ∧ OwnC w' w.heap.size 73 8 (some ⟨w.heap.size, 0, none⟩) 0 c F ∧ Below w.heap.size w w' := by
  obtain ⟨i0, hi, hz0, hz1, hz2⟩ := info_parts infoT
  have hrun := Lib.run_append_nil_zeros (P := Tryz.prog) w 46 3 46 73 i0 (.agg sr0) .i64 .i64 Tryz.underlying46 Tryz.underlying3 hi hz0 n (by omega) (by omega) (by omega) (by rw [hz2]; omega)
  have hg := grownCap_ge w n 0 73
  have hown := own_zeros w n hn F
  have hb : Below w.heap.size w (w.alloc (.cells (Builtin.zeroCells sr0 n ++ Builtin.zeroCells sr0 (grownCap w n 0 73 - n)) 73)) := (Below.refl _ _).alloc (Nat.le_refl _) _
  have hrun2 : (Builtin.append_ #[46, 3] 46 #[.slice none 0 0, .int .i64 n]).run Tryz.prog w = .ok (.slice (some ⟨w.heap.size, 0, none⟩) n (grownCap w n 0 73)) (w.drew.alloc (.cells (Builtin.zeroCells sr0 n ++ Builtin.zeroCells sr0 (grownCap w n 0 73 - n)) 73)) := hrun
  have HRUN := Lib.hid hrun2
  have HOWN := Lib.hid hown
  have HB := Lib.hid hb
  obtain ⟨c, hc⟩ : ∃ c, grownCap w n 0 73 = c := ⟨_, rfl⟩
  rw [hc] at HRUN HOWN HB hg
  have HC := Lib.hid hc
  generalize Builtin.zeroCells sr0 n ++ Builtin.zeroCells sr0 (c - n) = Z at HRUN HOWN HB
  have q0 : ¬ (n : Int) < 0 := by omega
  have q1 : decide ((n : Int) < 0) = false := decide_eq_false q0
  have q2 : (n : Int) > 0 := by omega
  have q3 : decide ((n : Int) > 0) = true := decide_eq_true q2
  have c0 : (0 : Int) ≤ (c : Int) := by omega
  have v1 : IntKind.i64.wrap (n : Int) = n := by rw [IntKind.wrap_i64]; omega
  clear hrun hrun2 hown hb hc hi hz0 hz1 hz2
  go_enter Tryz.func75, Tryz.ntmps75
  go_upto_region 5 with fail
  go_wp2_with (at_builtin; go_must (refine app_run _ rfl _ _ 46 3 rfl rfl rfl HRUN.out ?_))
  go_ret
  exact ⟨c, rfl, HOWN.out.drew, HB.out.drew⟩
end Go.Proofs.YtccklmleaffgiaaGreatDoor

/-
  slices.Concat of two slices of rows.
-/
namespace Go.Proofs.YtccklmleaffgiaaGreatDoor
open Go.RowKit
set_option linter.unusedVariables false

set_option maxRecDepth 100000 in
set_option maxHeartbeats 8000000 in
theorem concat_any (b : Nat) (A1 : Option Addr) (n1 c1 : Nat) (F1 : Nat → Value) (A2 : Option Addr) (n2 c2 : Nat) (F2 : Nat → Value) (h1n : 1 ≤ n1) (h12 : n1 + n2 ≤ 1000) (w : World)
    (k0 : w.cell? ⟨b, 0, none⟩ = some (.slice A1 n1 c1)) (k1 : w.cell? ⟨b, 1, none⟩ = some (.slice A2 n2 c2)) (r1 : Cel w w.heap.size 8 A1 n1 c1 F1) (r2 : Cel w w.heap.size 8 A2 n2 c2 F2) (o1 : ∀ i, i < n1 * 8 → (F1 i).oneCell' = true) (o2 : ∀ i, i < n2 * 8 → (F2 i).oneCell' = true) :
    Calls Tryz.prog 51 #[.slice (some ⟨b, 0, none⟩) 2 2] w fun e w' => ∃ A' c', e = .returned (.slice A' (n1 + n2) c') ∧ OwnC w' w.heap.size 73 8 A' (n1 + n2) c' (catC (n1 * 8) F1 F2) ∧ Below w.heap.size w w' := by
  have lb : b < w.heap.size := World.block_lt_of_cell? _ _ k0
  have K := Lib.hid (And.intro k0 (And.intro k1 lb))
  have HR1 := Lib.hid r1
  have HR2 := Lib.hid r2
  have HO1 := Lib.hid o1
  have HO2 := Lib.hid o2
  have HG := Lib.hid (grow_any (n1 + n2) (by omega) h12 (catC (n1 * 8) F1 F2) w)
  have e1 : ∀ i, i < n1 * 8 → catC (0 * 8) (catC (n1 * 8) F1 F2) F1 i = catC (n1 * 8) F1 F2 i := fun i hi => by
    show (if i < 0 * 8 then _ else F1 (i - 0 * 8)) = (if i < n1 * 8 then F1 i else _)
    rw [if_neg (by omega), if_pos hi]
    rfl
  have e2 : ∀ i, i < (n1 + n2) * 8 → catC (n1 * 8) (catC (n1 * 8) F1 F2) F2 i = catC (n1 * 8) F1 F2 i := fun i hi => by
    unfold catC
    by_cases h : i < n1 * 8
    · rw [if_pos h, if_pos h]
    · rw [if_neg h, if_neg h]
  have HE := Lib.hid (And.intro e1 e2)
  obtain ⟨F, hF⟩ : ∃ F, catC (n1 * 8) F1 F2 = F := ⟨_, rfl⟩
  rw [hF] at HG HE ⊢
  clear k0 k1 r1 r2 o1 o2 e1 e2 lb hF
  go_enter Tryz.func51, Tryz.ntmps51
  go_wp2_with fail
  go_loopw [3, 11] (fun sz i wr => ∃ k m : Nat, i = .int .i64 k ∧ sz = .int .i64 m ∧ ((k = 0 ∧ m = 0) ∨ (k = 1 ∧ m = n1) ∨ (k = 2 ∧ m = n1 + n2)) ∧ w = wr)
    (fun _ i _ => 2 - (intOf i).toNat)
  case atStart => exact ⟨0, 0, rfl, rfl, .inl ⟨rfl, rfl⟩, rfl⟩
  case round =>
    obtain ⟨k, m, rfl, rfl, hcase, rfl⟩ := hrel
    rcases hcase with ⟨rfl, rfl⟩ | ⟨rfl, rfl⟩ | ⟨rfl, rfl⟩
    · have k0 := K.out.1
      have v1 : IntKind.i64.wrap (n1 : Int) = n1 := by rw [IntKind.wrap_i64]; omega
      have q0 : ¬ (n1 : Int) < 0 := by omega
      have q1 : decide ((n1 : Int) < 0) = false := decide_eq_false q0
      go_wp2
      exact ⟨⟨1, n1, rfl, by first | rfl | simp, .inr (.inl ⟨rfl, rfl⟩), trivial⟩, by simp [intOf]⟩
    · have k1 := K.out.2.1
      have v1 : IntKind.i64.wrap ((m : Int) + (n2 : Int)) = (m : Int) + (n2 : Int) := by rw [IntKind.wrap_i64]; omega
      have q0 : ¬ (m : Int) + (n2 : Int) < 0 := by omega
      have q1 : decide ((m : Int) + (n2 : Int) < 0) = false := decide_eq_false q0
      go_wp2
      exact ⟨⟨2, m + n2, rfl, by first | rfl | simp, .inr (.inr ⟨rfl, rfl⟩), trivial⟩, by simp [intOf]⟩
    · go_wp2_with fail
      refine HG.out.mono ?_
      rintro e w1 ⟨c, rfl, hown, hB⟩
      have HOWN := Lib.hid hown
      have HB := Lib.hid hB
      clear hown hB HG
      go_wp2_with fail
      go_loopw [6, 27] (fun s i wr => ∃ (k q : Nat) (A' : Option Addr) (c' : Nat), i = .int .i64 k ∧ s = .slice A' q c' ∧ ((k = 0 ∧ q = 0) ∨ (k = 1 ∧ q = n1) ∨ (k = 2 ∧ q = n1 + n2)) ∧ OwnC wr w.heap.size 73 8 A' q c' F ∧ Below w.heap.size w wr)
        (fun _ i _ => 2 - (intOf i).toNat)
      case atStart => exact ⟨0, 0, _, c, rfl, rfl, .inl ⟨rfl, rfl⟩, HOWN.out, HB.out⟩
      case round =>
        clear HOWN HB
        obtain ⟨k, q, A', c', rfl, rfl, hcase, hown, hB⟩ := hrel
        have HOW := Lib.hid hown
        have HBW := Lib.hid hB
        have hs := hB.size
        have k0 := (hB.cell (p := ⟨b, 0, none⟩) K.out.2.2).trans K.out.1
        have k1 := (hB.cell (p := ⟨b, 1, none⟩) K.out.2.2).trans K.out.2.1
        clear hown hB
        rcases hcase with ⟨rfl, rfl⟩ | ⟨rfl, rfl⟩ | ⟨rfl, rfl⟩
        · go_upto_region 13 with fail
          go_wp2_with (at_builtin; go_must (refine app_cells _ rfl _ _ _ 73 rfl Tryz.underlying46 infoT rfl (by decide) rfl HOW.out rfl (HR1.out.below HBW.out) HO1.out (by unfold maxLen; omega) (by omega) hs n1 (by omega) F HE.out.1 ?_; rintro A3 c3 w5 ho2 hb5))
          exact ⟨⟨1, n1, A3, c3, rfl, rfl, .inr (.inl ⟨rfl, rfl⟩), ho2, HBW.out.trans hb5⟩, by simp [intOf]⟩
        · go_upto_region 13 with fail
          go_wp2_with (at_builtin; go_must (refine app_cells _ rfl _ _ _ 73 rfl Tryz.underlying46 infoT rfl (by decide) rfl HOW.out rfl (HR2.out.below HBW.out) HO2.out (by unfold maxLen; omega) (by omega) hs (q + n2) rfl F HE.out.2 ?_; rintro A3 c3 w5 ho2 hb5))
          exact ⟨⟨2, q + n2, A3, c3, rfl, rfl, .inr (.inr ⟨rfl, rfl⟩), ho2, HBW.out.trans hb5⟩, by simp [intOf]⟩
        · go_wp2
          go_ret
          exact ⟨A', c', rfl, HOW.out, HBW.out⟩
end Go.Proofs.YtccklmleaffgiaaGreatDoor

/-
  The built-in table: systab.Builtin; the chapter's example of layer 11.
-/
namespace Go.Proofs.YtccklmleaffgiaaGreatDoor
open Go.RowKit
set_option linter.unusedVariables false
set_option maxRecDepth 100000

def tbl : Array SR := #[
  ⟨⟨#[97, 99, 99, 101, 112, 116]⟩, 43, 43, -1, 202, 202, 1, 5⟩,
  ⟨⟨#[97, 99, 99, 101, 112, 116, 52]⟩, 288, 288, 364, 242, 242, 1, 18⟩,
  ⟨⟨#[98, 105, 110, 100]⟩, 49, 49, 361, 200, 200, 1, 2⟩,
  ⟨⟨#[98, 114, 107]⟩, 12, 12, 45, 214, 214, 0, 0⟩,
  ⟨⟨#[99, 108, 111, 110, 101]⟩, 56, 56, 120, 220, 220, 0, 0⟩,
  ⟨⟨#[99, 108, 111, 115, 101]⟩, 3, 3, 6, 57, 57, 0, 0⟩,
  ⟨⟨#[99, 111, 110, 110, 101, 99, 116]⟩, 42, 42, 362, 203, 203, 1, 3⟩,
  ⟨⟨#[100, 117, 112]⟩, 32, 32, 41, 23, 23, 0, 0⟩,
  ⟨⟨#[100, 117, 112, 50]⟩, 33, 33, 63, -1, -1, 0, 0⟩,
  ⟨⟨#[101, 112, 111, 108, 108, 95, 99, 114, 101, 97, 116, 101, 49]⟩, 291, 291, 329, 20, 20, 0, 0⟩,
  ⟨⟨#[101, 112, 111, 108, 108, 95, 99, 116, 108]⟩, 233, 233, 255, 21, 21, 0, 0⟩,
  ⟨⟨#[101, 112, 111, 108, 108, 95, 119, 97, 105, 116]⟩, 232, 232, 256, -1, -1, 0, 0⟩,
  ⟨⟨#[101, 120, 101, 99, 118, 101]⟩, 59, 520, 11, 221, 221, 0, 0⟩,
  ⟨⟨#[101, 120, 105, 116]⟩, 60, 60, 1, 93, 93, 0, 0⟩,
  ⟨⟨#[101, 120, 105, 116, 95, 103, 114, 111, 117, 112]⟩, 231, 231, 252, 94, 94, 0, 0⟩,
  ⟨⟨#[102, 99, 104, 100, 105, 114]⟩, 81, 81, 133, 50, 50, 0, 0⟩,
  ⟨⟨#[102, 99, 110, 116, 108]⟩, 72, 72, 55, 25, 25, 0, 0⟩,
  ⟨⟨#[102, 111, 114, 107]⟩, 57, 57, 2, -1, -1, 0, 0⟩,
  ⟨⟨#[102, 115, 116, 97, 116]⟩, 5, 5, 108, 80, 80, 0, 0⟩,
  ⟨⟨#[102, 117, 116, 101, 120]⟩, 202, 202, 240, 98, 98, 0, 0⟩,
  ⟨⟨#[103, 101, 116, 99, 119, 100]⟩, 79, 79, 183, 17, 17, 0, 0⟩,
  ⟨⟨#[103, 101, 116, 112, 101, 101, 114, 110, 97, 109, 101]⟩, 52, 52, 368, 205, 205, 1, 7⟩,
  ⟨⟨#[103, 101, 116, 112, 105, 100]⟩, 39, 39, 20, 172, 172, 0, 0⟩,
  ⟨⟨#[103, 101, 116, 114, 97, 110, 100, 111, 109]⟩, 318, 318, 355, 278, 278, 0, 0⟩,
  ⟨⟨#[103, 101, 116, 115, 111, 99, 107, 110, 97, 109, 101]⟩, 51, 51, 367, 204, 204, 1, 6⟩,
  ⟨⟨#[103, 101, 116, 115, 111, 99, 107, 111, 112, 116]⟩, 55, 542, 365, 209, 209, 1, 15⟩,
  ⟨⟨#[103, 101, 116, 117, 105, 100]⟩, 102, 102, 24, 174, 174, 0, 0⟩,
  ⟨⟨#[105, 111, 99, 116, 108]⟩, 16, 514, 54, 29, 29, 0, 0⟩,
  ⟨⟨#[107, 105, 108, 108]⟩, 62, 62, 37, 129, 129, 0, 0⟩,
  ⟨⟨#[108, 105, 115, 116, 101, 110]⟩, 50, 50, 363, 201, 201, 1, 4⟩,
  ⟨⟨#[108, 115, 101, 101, 107]⟩, 8, 8, 19, 62, 62, 0, 0⟩,
  ⟨⟨#[109, 107, 100, 105, 114]⟩, 83, 83, 39, -1, -1, 0, 0⟩,
  ⟨⟨#[109, 109, 97, 112]⟩, 9, 9, -1, 222, 222, 0, 0⟩,
  ⟨⟨#[109, 109, 97, 112, 50]⟩, -1, -1, 192, -1, -1, 0, 0⟩,
  ⟨⟨#[109, 112, 114, 111, 116, 101, 99, 116]⟩, 10, 10, 125, 226, 226, 0, 0⟩,
  ⟨⟨#[109, 115, 103, 99, 116, 108]⟩, 71, 71, 402, 187, 187, 2, 14⟩,
  ⟨⟨#[109, 115, 103, 103, 101, 116]⟩, 68, 68, 399, 186, 186, 2, 13⟩,
  ⟨⟨#[109, 115, 103, 114, 99, 118]⟩, 70, 70, 401, 188, 188, 2, 12⟩,
  ⟨⟨#[109, 115, 103, 115, 110, 100]⟩, 69, 69, 400, 189, 189, 2, 11⟩,
  ⟨⟨#[109, 117, 110, 109, 97, 112]⟩, 11, 11, 91, 215, 215, 0, 0⟩,
  ⟨⟨#[110, 97, 110, 111, 115, 108, 101, 101, 112]⟩, 35, 35, 162, 101, 101, 0, 0⟩,
  ⟨⟨#[111, 112, 101, 110]⟩, 2, 2, 5, -1, -1, 0, 0⟩,
  ⟨⟨#[111, 112, 101, 110, 97, 116]⟩, 257, 257, 295, 56, 56, 0, 0⟩,
  ⟨⟨#[112, 105, 112, 101]⟩, 22, 22, 42, -1, -1, 0, 0⟩,
  ⟨⟨#[112, 105, 112, 101, 50]⟩, 293, 293, 331, 59, 59, 0, 0⟩,
  ⟨⟨#[112, 111, 108, 108]⟩, 7, 7, 168, -1, -1, 0, 0⟩,
  ⟨⟨#[112, 114, 101, 97, 100, 54, 52]⟩, 17, 17, 180, 67, 67, 0, 0⟩,
  ⟨⟨#[112, 114, 108, 105, 109, 105, 116, 54, 52]⟩, 302, 302, 340, 261, 261, 0, 0⟩,
  ⟨⟨#[112, 116, 114, 97, 99, 101]⟩, 101, 521, 26, 117, 117, 0, 0⟩,
  ⟨⟨#[112, 119, 114, 105, 116, 101, 54, 52]⟩, 18, 18, 181, 68, 68, 0, 0⟩,
  ⟨⟨#[114, 101, 97, 100]⟩, 0, 0, 3, 63, 63, 0, 0⟩,
  ⟨⟨#[114, 101, 97, 100, 118]⟩, 19, 515, 145, 65, 65, 0, 0⟩,
  ⟨⟨#[114, 101, 99, 118]⟩, -1, -1, -1, -1, -1, 1, 10⟩,
  ⟨⟨#[114, 101, 99, 118, 102, 114, 111, 109]⟩, 45, 517, 371, 207, 207, 1, 12⟩,
  ⟨⟨#[114, 101, 99, 118, 109, 115, 103]⟩, 47, 519, 372, 212, 212, 1, 17⟩,
  ⟨⟨#[114, 101, 110, 97, 109, 101]⟩, 82, 82, 38, -1, -1, 0, 0⟩,
  ⟨⟨#[114, 105, 115, 99, 118, 95, 102, 108, 117, 115, 104, 95, 105, 99, 97, 99, 104, 101]⟩, -1, -1, -1, -1, 259, 0, 0⟩,
  ⟨⟨#[114, 116, 95, 115, 105, 103, 97, 99, 116, 105, 111, 110]⟩, 13, 512, 174, 134, 134, 0, 0⟩,
  ⟨⟨#[114, 116, 95, 115, 105, 103, 114, 101, 116, 117, 114, 110]⟩, 15, 513, 173, 139, 139, 0, 0⟩,
  ⟨⟨#[115, 101, 99, 99, 111, 109, 112]⟩, 317, 317, 354, 277, 277, 0, 0⟩,
  ⟨⟨#[115, 101, 108, 101, 99, 116]⟩, 23, 23, 82, -1, -1, 0, 0⟩,
  ⟨⟨#[115, 101, 109, 99, 116, 108]⟩, 66, 66, 394, 191, 191, 2, 3⟩,
  ⟨⟨#[115, 101, 109, 103, 101, 116]⟩, 64, 64, 393, 190, 190, 2, 2⟩,
  ⟨⟨#[115, 101, 109, 111, 112]⟩, 65, 65, -1, 193, 193, 2, 1⟩,
  ⟨⟨#[115, 101, 110, 100]⟩, -1, -1, -1, -1, -1, 1, 9⟩,
  ⟨⟨#[115, 101, 110, 100, 109, 115, 103]⟩, 46, 518, 370, 211, 211, 1, 16⟩,
  ⟨⟨#[115, 101, 110, 100, 116, 111]⟩, 44, 44, 369, 206, 206, 1, 11⟩,
  ⟨⟨#[115, 101, 116, 115, 111, 99, 107, 111, 112, 116]⟩, 54, 541, 366, 208, 208, 1, 14⟩,
  ⟨⟨#[115, 104, 109, 97, 116]⟩, 30, 30, 397, 196, 196, 2, 21⟩,
  ⟨⟨#[115, 104, 109, 99, 116, 108]⟩, 31, 31, 396, 195, 195, 2, 24⟩,
  ⟨⟨#[115, 104, 109, 100, 116]⟩, 67, 67, 398, 197, 197, 2, 22⟩,
  ⟨⟨#[115, 104, 109, 103, 101, 116]⟩, 29, 29, 395, 194, 194, 2, 23⟩,
  ⟨⟨#[115, 104, 117, 116, 100, 111, 119, 110]⟩, 48, 48, 373, 210, 210, 1, 13⟩,
  ⟨⟨#[115, 111, 99, 107, 101, 116]⟩, 41, 41, 359, 198, 198, 1, 1⟩,
  ⟨⟨#[115, 111, 99, 107, 101, 116, 112, 97, 105, 114]⟩, 53, 53, 360, 199, 199, 1, 8⟩,
  ⟨⟨#[115, 116, 97, 116]⟩, 4, 4, 106, -1, -1, 0, 0⟩,
  ⟨⟨#[116, 105, 109, 101]⟩, 201, 201, 13, -1, -1, 0, 0⟩,
  ⟨⟨#[117, 110, 97, 109, 101]⟩, 63, 63, 122, 160, 160, 0, 0⟩,
  ⟨⟨#[117, 110, 108, 105, 110, 107]⟩, 87, 87, 10, -1, -1, 0, 0⟩,
  ⟨⟨#[118, 102, 111, 114, 107]⟩, 58, 58, 190, -1, -1, 0, 0⟩,
  ⟨⟨#[119, 97, 105, 116, 112, 105, 100]⟩, -1, -1, 7, -1, -1, 0, 0⟩,
  ⟨⟨#[119, 114, 105, 116, 101]⟩, 1, 1, 4, 64, 64, 0, 0⟩,
  ⟨⟨#[119, 114, 105, 116, 101, 118]⟩, 20, 516, 146, 66, 66, 0, 0⟩]
def tblT (i : Nat) : SR := tbl.getD i ⟨⟨#[]⟩, 0, 0, 0, 0, 0, 0, 0⟩
def upF (i : Nat) : Value := upA.getD i undef
def frF (i : Nat) : Value := frA.getD i undef
def rowV (f : Nat → Value) (i : Nat) : List Value := [f (i * 8), f (i * 8 + 1), f (i * 8 + 2), f (i * 8 + 3), f (i * 8 + 4), f (i * 8 + 5), f (i * 8 + 6), f (i * 8 + 7)]
theorem tbl_all : (List.range 83).map (rowV (catC (31 * 8) upF frF)) = (List.range 83).map (fun i => (srow (tblT i)).toList) := by kernel_rfl
theorem tbl_at (i : Nat) (hi : i < 83) : rowV (catC (31 * 8) upF frF) i = (srow (tblT i)).toList := by
  have h := congrArg (fun l => l[i]?) tbl_all
  simpa [hi] using h
theorem up_one : upA.all (·.oneCell') = true := by kernel_rfl
theorem fr_one : frA.all (·.oneCell') = true := by kernel_rfl
theorem up_size : upA.size = 31 * 8 := by kernel_rfl
theorem fr_size : frA.size = 52 * 8 := by kernel_rfl
theorem getD_one {a : Array Value} {n : Nat} (h : a.all (·.oneCell') = true) (hs : a.size = n) (i : Nat) (hi : i < n) : (a.getD i undef).oneCell' = true := by
  have hi' : i < a.size := by omega
  rw [Array.getD_eq_getD_getElem?, Array.getElem?_eq_getElem hi']
  exact (Array.all_eq_true.1 h) i hi'
theorem cel_row (w : World) (D : Array Value) (E : TypeId) (n B k : Nat) (hk : k = w.heap.size) (hB : k < B) (hs : D.size = n * 8) (hm : n ≤ 1000) : Cel (w.alloc (.cells D E)) B 8 (some ⟨k, 0, none⟩) n n (fun i => D.getD i undef) :=
  Cel.mk_ hB (Nat.le_refl _) (by unfold maxLen; omega) fun i hi => by
    rw [Nat.zero_add]
    have hi' : i < D.size := by omega
    exact (RowC.new w D E k hk).cell i _ (by rw [Array.getD_eq_getD_getElem?, Array.getElem?_eq_getElem hi']; rfl)
set_option maxHeartbeats 4000000 in
theorem builtin_any (w : World) : Calls Tryz.prog 29 #[] w fun e w' => ∃ b c, e = .returned (.slice (some ⟨b, 0, none⟩) 83 c) ∧ Tb w' b 0 83 tblT ∧ Below w.heap.size w w' := by
  obtain ⟨W1, hW1⟩ : ∃ W, w.alloc (.cells upA 73) = W := ⟨_, rfl⟩
  obtain ⟨W2, hW2⟩ : ∃ W, W1.alloc (.cells frA 73) = W := ⟨_, rfl⟩
  obtain ⟨W3, hW3⟩ : ∃ W, W2.alloc (.cells #[.slice (some ⟨w.heap.size, 0, none⟩) 31 31, .slice (some ⟨W1.heap.size, 0, none⟩) 52 52] 46) = W := ⟨_, rfl⟩
  have s1 : W1.heap.size = w.heap.size + 1 := by rw [← hW1]; simp
  have s2 : W2.heap.size = w.heap.size + 2 := by rw [← hW2, ← hW1]; simp
  have s3 : W3.heap.size = w.heap.size + 3 := by rw [← hW3, ← hW2, ← hW1]; simp
  have b1 : Below w.heap.size w W1 := by rw [← hW1]; exact (Below.refl _ _).alloc (Nat.le_refl _) _
  have b12 : Below W1.heap.size W1 W3 := by rw [← hW3, ← hW2]; exact ((Below.refl _ _).alloc (Nat.le_refl _) _).alloc (by simp) _
  have b23 : Below W2.heap.size W2 W3 := by rw [← hW3]; exact (Below.refl _ _).alloc (Nat.le_refl _) _
  have b3 : Below w.heap.size w W3 := b1.trans (b12.mono b1.size)
  have c1 : Cel W3 W3.heap.size 8 (some ⟨w.heap.size, 0, none⟩) 31 31 upF := by
    have h : Cel W1 W1.heap.size 8 (some ⟨w.heap.size, 0, none⟩) 31 31 upF := by rw [← hW1]; exact cel_row w upA _ 31 _ _ rfl (by simp) up_size (by omega)
    exact (h.below b12).more (by omega)
  have c2 : Cel W3 W3.heap.size 8 (some ⟨W1.heap.size, 0, none⟩) 52 52 frF := by
    have h : Cel W2 W2.heap.size 8 (some ⟨W1.heap.size, 0, none⟩) 52 52 frF := by rw [← hW2]; exact cel_row W1 frA _ 52 _ _ rfl (by simp) fr_size (by omega)
    exact (h.below b23).more (by omega)
  have rr : RowC W3 W2.heap.size #[.slice (some ⟨w.heap.size, 0, none⟩) 31 31, .slice (some ⟨W1.heap.size, 0, none⟩) 52 52] 46 := by rw [← hW3]; exact RowC.new _ _ _ _ rfl
  have HC := Lib.hid (concat_any W2.heap.size _ 31 31 upF _ 52 52 frF (by omega) (by omega) W3 (rr.cell 0 _ rfl) (rr.cell 1 _ rfl) c1 c2 (fun i hi => getD_one up_one up_size i hi) (fun i hi => getD_one fr_one fr_size i hi))
  have HU := Lib.hid (upToL_any w)
  have HF := Lib.hid (fromM_any W1)
  have HW1 := Lib.hid hW1
  have HW2 := Lib.hid hW2
  have HW3 := Lib.hid hW3
  have HB3 := Lib.hid b3
  clear hW1 hW2 hW3 s1 s2 s3 b1 b12 b23 b3 c1 c2 rr
  go_enter Tryz.func29, Tryz.ntmps29
  go_wp2_with fail
  refine HU.out.mono ?_
  rintro e w1 ⟨rfl, rfl⟩
  rw [HW1.out]
  go_wp2_with fail
  refine HF.out.mono ?_
  rintro e w2 ⟨rfl, rfl⟩
  rw [HW2.out]
  go_wp2_with fail
  rw [HW3.out]
  refine HC.out.mono ?_
  rintro e w4 ⟨A', c', rfl, hown, hB4⟩
  have HOWN := Lib.hid hown
  have HB4 := Lib.hid (HB3.out.trans (hB4.mono HB3.out.size))
  clear hown hB4
  go_wp2
  go_ret
  obtain ⟨gg, rfl, hg, hl, hcl⟩ := own_atz HOWN.out (by omega)
  refine ⟨gg, _, rfl, ⟨hl, fun i hi => ?_⟩, HB4.out⟩
  have hr := tbl_at i hi
  have hc : ∀ c, c < 8 → w4.cell? ⟨gg, 0 + i * 8 + c, none⟩ = some (catC (31 * 8) upF frF (i * 8 + c)) := fun c hc => by
    rw [Nat.zero_add]
    exact hcl (i * 8 + c) (by omega)
  simp only [rowV, List.cons.injEq, and_true] at hr
  obtain ⟨t0, t1, t2, t3, t4, t5, t6, t7⟩ := hr
  exact ⟨(hc 0 (by omega)).trans (by rw [Nat.add_zero, t0]), (hc 1 (by omega)).trans (by rw [t1]), (hc 2 (by omega)).trans (by rw [t2]), (hc 3 (by omega)).trans (by rw [t3]), (hc 4 (by omega)).trans (by rw [t4]), (hc 5 (by omega)).trans (by rw [t5]), (hc 6 (by omega)).trans (by rw [t6]), (hc 7 (by omega)).trans (by rw [t7])⟩
end Go.Proofs.YtccklmleaffgiaaGreatDoor
