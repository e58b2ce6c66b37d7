/-
  The document's own Right (of a wrong action), From and Text.
-/
import Derived.Test.YtjblkkffdhaiiaaDoorBh
import Derived.Test.YtjblkkffdhaiiaaDoorBi

namespace Go.Proofs.YtjblkkffdhaiiaaDoor
open Go.RowKit

def hit9 (c : Int) (j : Nat) : Bool := decide ((kcA j : Int) ≤ c) && decide (c ≤ (kcA j : Int) + mostA j)
/-- What the document's From gives. -/
def From9 (c : Int) (e : Ending) : Prop :=
  (∃ j, j < 8 ∧ hit9 c j = true ∧ (∀ i, i < j → hit9 c i = false) ∧ e = .returned (.agg #[.int .i64 ((j : Int) + 1), .int .i64 (c - (kcA j : Int))])) ∨
  ((∀ i, i < 8 → hit9 c i = false) ∧ e = .returned (.agg #[.int .i64 0, .int .i64 0]))
set_option maxRecDepth 100000 in
set_option maxHeartbeats 8000000 in
theorem from9_any (c : Int) (h0 : 0 ≤ c) (h1 : c < 4294967296) (w : World) : Calls Tryd.prog 10 #[.int .i64 c] w fun e w' => From9 c e ∧ Below w.heap.size w w' := by
  have hr : RowC (w.alloc (.cells #[.int .i64 0, .int .i64 0] 23)) w.heap.size #[.int .i64 0, .int .i64 0] 23 := RowC.new _ _ _ _ rfl
  have hb : Below w.heap.size w (w.alloc (.cells #[.int .i64 0, .int .i64 0] 23)) := (Below.refl _ _).alloc (Nat.le_refl _) _
  have R0 := Lib.hid hr
  have HB := Lib.hid hb
  clear hr hb
  go_enter Tryd.func10, Tryd.ntmps10
  go_wp2_with fail
  generalize w.alloc (.cells #[.int .i64 0, .int .i64 0] 23) = W1 at *
  go_loopw [3] (fun i wr => ∃ k : Nat, k ≤ 8 ∧ i = .int .i64 ((k : Int) + 1) ∧ (∀ i, i < k → hit9 c i = false) ∧ RowC wr w.heap.size #[.int .i64 0, .int .i64 0] 23 ∧ Below w.heap.size w wr)
    (fun i _ => 9 - (intOf i).toNat)
  case atStart => exact ⟨0, by omega, rfl, fun i h => by omega, R0.out, HB.out⟩
  case round =>
    obtain ⟨k, hk, rfl, hno, hr, hB⟩ := hrel
    have HNO := Lib.hid hno
    have HR := Lib.hid hr
    have HBR := Lib.hid hB
    clear hno hr hB
    by_cases hlt : k < 8
    · have l1 : (k : Int) + 1 ≤ 8 := by omega
      have HC := Lib.hid fun W => base_at k hlt W
      have HM := Lib.hid fun W => most_at k W
      have hc := kcA_lt k
      have hml : mostA k ≤ 65535 := most_le k
      have hmn : 0 ≤ mostA k := by unfold mostA; split <;> (try split) <;> omega
      have v1 : IntKind.i64.wrap ((kcA k : Int) + mostA k) = (kcA k : Int) + mostA k := by rw [IntKind.wrap_i64]; omega
      have v2 : IntKind.i64.wrap (c - (kcA k : Int)) = c - (kcA k : Int) := by rw [IntKind.wrap_i64]; omega
      have v3 : IntKind.i64.wrap ((k : Int) + 1 + 1) = (k : Int) + 1 + 1 := by rw [IntKind.wrap_i64]; omega
      by_cases c1 : (kcA k : Int) ≤ c
      · have g1 : decide ((kcA k : Int) ≤ c) = true := decide_eq_true c1
        by_cases c2 : c ≤ (kcA k : Int) + mostA k
        · have g2 : decide (c ≤ (kcA k : Int) + mostA k) = true := decide_eq_true c2
          have hh : Hid (hit9 c k = true) := Lib.hid (by unfold hit9; rw [g1, g2]; rfl)
          clear hc hml hmn
          go_wp2_with fail
          refine (HC.out _).mono ?_
          rintro e w2 ⟨rfl, hB2⟩
          have HR2 := Lib.hid (HR.out.below hB2 HR.out.lt)
          have HB2 := Lib.hid (HBR.out.trans (hB2.mono HBR.out.size))
          clear hB2
          go_wp2_with fail
          refine (HC.out _).mono ?_
          rintro e w3 ⟨rfl, hB3⟩
          have HR3 := Lib.hid (HR2.out.below hB3 HR2.out.lt)
          have HB3 := Lib.hid (HB2.out.trans (hB3.mono HB2.out.size))
          clear hB3
          go_wp2_with fail
          refine (HM.out _).mono ?_
          rintro e w4 ⟨rfl, rfl⟩
          go_wp2_with fail
          refine (HC.out _).mono ?_
          rintro e w5 ⟨rfl, hB5⟩
          have HR5 := Lib.hid (HR3.out.below hB5 HR3.out.lt)
          have HB5 := Lib.hid (HB3.out.trans (hB5.mono HB3.out.size))
          clear hB5
          have d0 := HR5.out.cell 0 (.int .i64 0) rfl
          have d1 := HR5.out.cell 1 (.int .i64 0) rfl
          have f0 := HR5.out.frozen 0
          have f1 := HR5.out.frozen 1
          go_wp2
          exact bodyPost_ret (results_cell_row Tryd.results10 _ _ w.heap.size _ #[.int .i64 ((k : Int) + 1), .int .i64 (c - (kcA k : Int))] (0, 0) _ (by rfl) ((HR5.out.set 0 (.int .i64 ((k : Int) + 1))).set 1 (.int .i64 (c - (kcA k : Int)))) Tryd.underlying23 (by rfl) (by kernel_rfl)) rfl
            ⟨.inl ⟨k, hlt, hh.out, HNO.out, rfl⟩, (HB5.out.setCell (Nat.le_refl _) _).setCell (Nat.le_refl _) _⟩
        · have g2 : decide (c ≤ (kcA k : Int) + mostA k) = false := decide_eq_false c2
          have hh : Hid (hit9 c k = false) := Lib.hid (by unfold hit9; rw [g1, g2]; rfl)
          clear hc hml hmn
          go_wp2_with fail
          refine (HC.out _).mono ?_
          rintro e w2 ⟨rfl, hB2⟩
          have HR2 := Lib.hid (HR.out.below hB2 HR.out.lt)
          have HB2 := Lib.hid (HBR.out.trans (hB2.mono HBR.out.size))
          clear hB2
          go_wp2_with fail
          refine (HC.out _).mono ?_
          rintro e w3 ⟨rfl, hB3⟩
          have HR3 := Lib.hid (HR2.out.below hB3 HR2.out.lt)
          have HB3 := Lib.hid (HB2.out.trans (hB3.mono HB2.out.size))
          clear hB3
          go_wp2_with fail
          refine (HM.out _).mono ?_
          rintro e w4 ⟨rfl, rfl⟩
          go_wp2
          exact ⟨⟨k + 1, by omega, by go_num, fun i hi => by
            by_cases h : i = k
            · subst h; exact hh.out
            · exact HNO.out i (by omega), HR3.out, HB3.out⟩, by simp [intOf]; omega⟩
      · have g1 : decide ((kcA k : Int) ≤ c) = false := decide_eq_false c1
        have hh : Hid (hit9 c k = false) := Lib.hid (by unfold hit9; rw [g1]; rfl)
        clear hc hml hmn
        go_wp2_with fail
        refine (HC.out _).mono ?_
        rintro e w2 ⟨rfl, hB2⟩
        have HR2 := Lib.hid (HR.out.below hB2 HR.out.lt)
        have HB2 := Lib.hid (HBR.out.trans (hB2.mono HBR.out.size))
        clear hB2
        go_wp2
        exact ⟨⟨k + 1, by omega, by go_num, fun i hi => by
          by_cases h : i = k
          · subst h; exact hh.out
          · exact HNO.out i (by omega), HR2.out, HB2.out⟩, by simp [intOf]; omega⟩
    · obtain rfl : k = 8 := by omega
      have d0 := HR.out.cell 0 (.int .i64 0) rfl
      have d1 := HR.out.cell 1 (.int .i64 0) rfl
      have f0 := HR.out.frozen 0
      have f1 := HR.out.frozen 1
      go_wp2
      exact bodyPost_ret (results_cell_row Tryd.results10 _ _ w.heap.size _ #[.int .i64 0, .int .i64 0] (0, 0) _ (by rfl) ((HR.out.set 0 (.int .i64 0)).set 1 (.int .i64 0)) Tryd.underlying23 (by rfl) (by kernel_rfl)) rfl
        ⟨.inr ⟨HNO.out, rfl⟩, (HBR.out.setCell (Nat.le_refl _) _).setCell (Nat.le_refl _) _⟩

end Go.Proofs.YtjblkkffdhaiiaaDoor
