/-
  slices.Concat of two slices of rows.
-/
import Derived.Test.YtlninlempefjcaaDoorSg
namespace Go.Proofs.YtlninlempefjcaaDoor
open Go.RowKit
set_option linter.unusedVariables false

set_option maxRecDepth 100000 in
set_option maxHeartbeats 8000000 in
theorem concat_any (b : Nat) (A1 : Option Addr) (n1 c1 : Nat) (F1 : Nat → Value) (A2 : Option Addr) (n2 c2 : Nat) (F2 : Nat → Value) (h1n : 1 ≤ n1) (h12 : n1 + n2 ≤ 1000) (w : World)
    (k0 : w.cell? ⟨b, 0, none⟩ = some (.slice A1 n1 c1)) (k1 : w.cell? ⟨b, 1, none⟩ = some (.slice A2 n2 c2)) (r1 : Cel w w.heap.size 8 A1 n1 c1 F1) (r2 : Cel w w.heap.size 8 A2 n2 c2 F2) (o1 : ∀ i, i < n1 * 8 → (F1 i).oneCell' = true) (o2 : ∀ i, i < n2 * 8 → (F2 i).oneCell' = true) :
    Calls Tryd.prog 22 #[.slice (some ⟨b, 0, none⟩) 2 2] w fun e w' => ∃ A' c', e = .returned (.slice A' (n1 + n2) c') ∧ OwnC w' w.heap.size 36 8 A' (n1 + n2) c' (catC (n1 * 8) F1 F2) ∧ Below w.heap.size w w' := by
  have lb : b < w.heap.size := World.block_lt_of_cell? _ _ k0
  have K := Lib.hid (And.intro k0 (And.intro k1 lb))
  have HR1 := Lib.hid r1
  have HR2 := Lib.hid r2
  have HO1 := Lib.hid o1
  have HO2 := Lib.hid o2
  have HG := Lib.hid (grow_any (n1 + n2) (by omega) h12 (catC (n1 * 8) F1 F2) w)
  have e1 : ∀ i, i < n1 * 8 → catC (0 * 8) (catC (n1 * 8) F1 F2) F1 i = catC (n1 * 8) F1 F2 i := fun i hi => by
    show (if i < 0 * 8 then _ else F1 (i - 0 * 8)) = (if i < n1 * 8 then F1 i else _)
    rw [if_neg (by omega), if_pos hi]
    rfl
  have e2 : ∀ i, i < (n1 + n2) * 8 → catC (n1 * 8) (catC (n1 * 8) F1 F2) F2 i = catC (n1 * 8) F1 F2 i := fun i hi => by
    unfold catC
    by_cases h : i < n1 * 8
    · rw [if_pos h, if_pos h]
    · rw [if_neg h, if_neg h]
  have HE := Lib.hid (And.intro e1 e2)
  obtain ⟨F, hF⟩ : ∃ F, catC (n1 * 8) F1 F2 = F := ⟨_, rfl⟩
  rw [hF] at HG HE ⊢
  clear k0 k1 r1 r2 o1 o2 e1 e2 lb hF
  go_enter Tryd.func22, Tryd.ntmps22
  go_wp2_with fail
  go_loopw [3, 11] (fun sz i wr => ∃ k m : Nat, i = .int .i64 k ∧ sz = .int .i64 m ∧ ((k = 0 ∧ m = 0) ∨ (k = 1 ∧ m = n1) ∨ (k = 2 ∧ m = n1 + n2)) ∧ w = wr)
    (fun _ i _ => 2 - (intOf i).toNat)
  case atStart => exact ⟨0, 0, rfl, rfl, .inl ⟨rfl, rfl⟩, rfl⟩
  case round =>
    obtain ⟨k, m, rfl, rfl, hcase, rfl⟩ := hrel
    rcases hcase with ⟨rfl, rfl⟩ | ⟨rfl, rfl⟩ | ⟨rfl, rfl⟩
    · have k0 := K.out.1
      have v1 : IntKind.i64.wrap (n1 : Int) = n1 := by rw [IntKind.wrap_i64]; omega
      have q0 : ¬ (n1 : Int) < 0 := by omega
      have q1 : decide ((n1 : Int) < 0) = false := decide_eq_false q0
      go_wp2
      exact ⟨⟨1, n1, rfl, by first | rfl | simp, .inr (.inl ⟨rfl, rfl⟩), trivial⟩, by simp [intOf]⟩
    · have k1 := K.out.2.1
      have v1 : IntKind.i64.wrap ((m : Int) + (n2 : Int)) = (m : Int) + (n2 : Int) := by rw [IntKind.wrap_i64]; omega
      have q0 : ¬ (m : Int) + (n2 : Int) < 0 := by omega
      have q1 : decide ((m : Int) + (n2 : Int) < 0) = false := decide_eq_false q0
      go_wp2
      exact ⟨⟨2, m + n2, rfl, by first | rfl | simp, .inr (.inr ⟨rfl, rfl⟩), trivial⟩, by simp [intOf]⟩
    · go_wp2_with fail
      refine HG.out.mono ?_
      rintro e w1 ⟨c, rfl, hown, hB⟩
      have HOWN := Lib.hid hown
      have HB := Lib.hid hB
      clear hown hB HG
      go_wp2_with fail
      go_loopw [6, 27] (fun s i wr => ∃ (k q : Nat) (A' : Option Addr) (c' : Nat), i = .int .i64 k ∧ s = .slice A' q c' ∧ ((k = 0 ∧ q = 0) ∨ (k = 1 ∧ q = n1) ∨ (k = 2 ∧ q = n1 + n2)) ∧ OwnC wr w.heap.size 36 8 A' q c' F ∧ Below w.heap.size w wr)
        (fun _ i _ => 2 - (intOf i).toNat)
      case atStart => exact ⟨0, 0, _, c, rfl, rfl, .inl ⟨rfl, rfl⟩, HOWN.out, HB.out⟩
      case round =>
        clear HOWN HB
        obtain ⟨k, q, A', c', rfl, rfl, hcase, hown, hB⟩ := hrel
        have HOW := Lib.hid hown
        have HBW := Lib.hid hB
        have hs := hB.size
        have k0 := (hB.cell (p := ⟨b, 0, none⟩) K.out.2.2).trans K.out.1
        have k1 := (hB.cell (p := ⟨b, 1, none⟩) K.out.2.2).trans K.out.2.1
        clear hown hB
        rcases hcase with ⟨rfl, rfl⟩ | ⟨rfl, rfl⟩ | ⟨rfl, rfl⟩
        · go_upto_region 13 with fail
          go_wp2_with (at_builtin; go_must (refine app_cells _ rfl _ _ _ 36 rfl Tryd.underlying27 infoT rfl (by decide) rfl HOW.out rfl (HR1.out.below HBW.out) HO1.out (by unfold maxLen; omega) (by omega) hs n1 (by omega) F HE.out.1 ?_; rintro A3 c3 w5 ho2 hb5))
          exact ⟨⟨1, n1, A3, c3, rfl, rfl, .inr (.inl ⟨rfl, rfl⟩), ho2, HBW.out.trans hb5⟩, by simp [intOf]⟩
        · go_upto_region 13 with fail
          go_wp2_with (at_builtin; go_must (refine app_cells _ rfl _ _ _ 36 rfl Tryd.underlying27 infoT rfl (by decide) rfl HOW.out rfl (HR2.out.below HBW.out) HO2.out (by unfold maxLen; omega) (by omega) hs (q + n2) rfl F HE.out.2 ?_; rintro A3 c3 w5 ho2 hb5))
          exact ⟨⟨2, q + n2, A3, c3, rfl, rfl, .inr (.inr ⟨rfl, rfl⟩), ho2, HBW.out.trans hb5⟩, by simp [intOf]⟩
        · go_wp2
          go_ret
          exact ⟨A', c', rfl, HOW.out, HBW.out⟩
end Go.Proofs.YtlninlempefjcaaDoor
