/-
  The document's own Text of a right action.
-/
import Derived.Test.YtjblkkffdhaiiaaDoorBh
import Derived.Test.YtjblkkffdhaiiaaDoorBi
namespace Go.Proofs.YtjblkkffdhaiiaaDoor
open Go.RowKit

theorem ne46 {j : Nat} (h : knA j = false) : ¬ (j : Int) + 1 = 4 ∧ ¬ (j : Int) + 1 = 6 := by
  constructor
  · intro e
    obtain rfl : j = 3 := by omega
    cases h
  · intro e
    obtain rfl : j = 5 := by omega
    cases h
theorem eq46 {j : Nat} (h : knA j = true) : j = 3 ∨ j = 5 := by
  unfold knA at h
  simpa using h
set_option maxRecDepth 100000 in
set_option maxHeartbeats 4000000 in
theorem text9_ok (j : Nat) (hj : j < 8) (n : Int) (hm : mayA j n = true) (w : World) : Calls Tryd.prog 16 #[.agg #[.int .i64 ((j : Int) + 1), .int .i64 n]] w fun e w' => e = .returned (.string (txtA j n)) ∧ Below w.heap.size w w' := by
  have hr : RowC (w.alloc (.cells #[.int .i64 ((j : Int) + 1), .int .i64 n] 23)) w.heap.size #[.int .i64 ((j : Int) + 1), .int .i64 n] 23 := RowC.new _ _ _ _ rfl
  have hb : Below w.heap.size w (w.alloc (.cells #[.int .i64 ((j : Int) + 1), .int .i64 n] 23)) := (Below.refl _ _).alloc (Nat.le_refl _) _
  have HB := Lib.hid hb
  have HW := Lib.hid fun W => word_at j hj W
  have hbd := may_bd hm
  clear hb hm
  cases hk : knA j with
  | false =>
    have htx : Hid (txtA j n = kwA j) := Lib.hid (by unfold txtA; rw [hk]; simp)
    obtain ⟨b3, b5⟩ := ne46 hk
    have a3 : ((j : Int) + 1 == 4) = false := by simp; omega
    have a5 : ((j : Int) + 1 == 6) = false := by simp; omega
    rw [htx.out]
    clear hk hbd
    generalize (j : Int) + 1 = P1 at *
    go_enter Tryd.func16, Tryd.ntmps16
    go_wp2_with fail
    refine (HW.out _).mono ?_
    rintro e w2 ⟨rfl, hB2⟩
    have hz := HB.out.trans (hB2.mono HB.out.size)
    clear hB2
    go_wp2
    go_ret
    exact ⟨rfl, hz⟩
  | true =>
    have htx : Hid (txtA j n = (kwA j ++ ⟨#[32]⟩) ++ ⟨(Lib.itoa n).toArray⟩) := Lib.hid (by unfold txtA; rw [hk]; simp)
    obtain ⟨u, rfl⟩ := Int.eq_ofNat_of_zero_le hbd.1
    have his := itoa_size hbd.1 hbd.2
    have hks := kw_size j
    rw [htx.out]
    rw [Lib.itoa_nonneg] at his ⊢
    have s3 : ¬ 9223372036854775807 < (kwA j).size + 1 := by omega
    have s4 : ¬ 9223372036854775807 < (kwA j).size + 1 + (Lib.decDigits u).length := by omega
    have HD := Lib.hid fun W => digits_any u (by omega) W
    obtain ⟨K, hK⟩ : ∃ K, kwA j = K := ⟨_, rfl⟩
    rw [hK] at HW s3 s4 ⊢
    clear hbd his hks htx hK
    have tail : ∀ P1 : Int, (P1 = 4 ∨ P1 = 6) → Hid (∀ W, Calls Tryd.prog 25 #[.int .i64 P1] W fun e w' => e = .returned (.string K) ∧ Below W.heap.size W w') → RowC (w.alloc (.cells #[.int .i64 P1, .int .i64 u] 23)) w.heap.size #[.int .i64 P1, .int .i64 u] 23 → Hid (Below w.heap.size w (w.alloc (.cells #[.int .i64 P1, .int .i64 u] 23))) →
        Calls Tryd.prog 16 #[.agg #[.int .i64 P1, .int .i64 u]] w fun e w' => e = .returned (.string ((K ++ ⟨#[32]⟩) ++ ⟨(Lib.decDigits u).toArray⟩)) ∧ Below w.heap.size w w' := by
      intro P1 hP HW hr HB
      rcases hP with rfl | rfl
      · have l0 := hr.lt
        have x0 := hr.cell 0 _ rfl
        have x1 := hr.cell 1 _ rfl
        have HR := Lib.hid hr
        clear hr
        go_enter Tryd.func16, Tryd.ntmps16
        go_wp2_with fail
        have HX0 := Lib.hid x0
        have HX1 := Lib.hid x1
        generalize w.alloc (.cells #[.int .i64 4, .int .i64 u] 23) = W1 at *
        have hS0 : Hid (∀ W, Below W1.heap.size W1 W → W.cell? ⟨w.heap.size, 0, none⟩ = _ ∧ W.cell? ⟨w.heap.size, 1, none⟩ = _) := Lib.hid fun W hW => ⟨(hW.cell (p := ⟨w.heap.size, 0, none⟩) l0).trans HX0.out, (hW.cell (p := ⟨w.heap.size, 1, none⟩) l0).trans HX1.out⟩
        have hk0 : Below W1.heap.size W1 W1.drew := (Below.refl _ W1).drew
        clear HX0 HX1 x0 x1 l0
        go_region_held3 (fun w' => w'.cell? ⟨w.heap.size, 0, none⟩ = some (.int .i64 4) ∧ w'.cell? ⟨w.heap.size, 1, none⟩ = some (.int .i64 u))
          (first | exact hS0.out _ hk2 | exact hS0.out _ hk1 | exact hS0.out _ hk0 | assumption | go_keep)
          (first
            | (go_at_call 25
               (with_reducible refine (HW.out _).mono ?_)
               rintro e w2 ⟨rfl, hB2⟩
               have hk1 := hk0.trans (hB2.mono hk0.size))
            | (go_at_call 26
               (with_reducible refine (HD.out _).mono ?_)
               rintro e w3 ⟨rfl, hB3⟩
               have hk2 := hk1.trans (hB3.mono hk1.size)))
        all_goals go_wp2
        all_goals go_ret
        all_goals exact ⟨rfl, HB.out.trans (hk2.mono HB.out.size)⟩
      · have l0 := hr.lt
        have x0 := hr.cell 0 _ rfl
        have x1 := hr.cell 1 _ rfl
        have HR := Lib.hid hr
        clear hr
        go_enter Tryd.func16, Tryd.ntmps16
        go_wp2_with fail
        have HX0 := Lib.hid x0
        have HX1 := Lib.hid x1
        generalize w.alloc (.cells #[.int .i64 6, .int .i64 u] 23) = W1 at *
        have hS0 : Hid (∀ W, Below W1.heap.size W1 W → W.cell? ⟨w.heap.size, 0, none⟩ = _ ∧ W.cell? ⟨w.heap.size, 1, none⟩ = _) := Lib.hid fun W hW => ⟨(hW.cell (p := ⟨w.heap.size, 0, none⟩) l0).trans HX0.out, (hW.cell (p := ⟨w.heap.size, 1, none⟩) l0).trans HX1.out⟩
        have hk0 : Below W1.heap.size W1 W1.drew := (Below.refl _ W1).drew
        clear HX0 HX1 x0 x1 l0
        go_region_held3 (fun w' => w'.cell? ⟨w.heap.size, 0, none⟩ = some (.int .i64 6) ∧ w'.cell? ⟨w.heap.size, 1, none⟩ = some (.int .i64 u))
          (first | exact hS0.out _ hk2 | exact hS0.out _ hk1 | exact hS0.out _ hk0 | assumption | go_keep)
          (first
            | (go_at_call 25
               (with_reducible refine (HW.out _).mono ?_)
               rintro e w2 ⟨rfl, hB2⟩
               have hk1 := hk0.trans (hB2.mono hk0.size))
            | (go_at_call 26
               (with_reducible refine (HD.out _).mono ?_)
               rintro e w3 ⟨rfl, hB3⟩
               have hk2 := hk1.trans (hB3.mono hk1.size)))
        all_goals go_wp2
        all_goals go_ret
        all_goals exact ⟨rfl, HB.out.trans (hk2.mono HB.out.size)⟩
    rcases eq46 hk with rfl | rfl
    · exact tail 4 (.inl rfl) HW hr HB
    · exact tail 6 (.inr rfl) HW hr HB
end Go.Proofs.YtjblkkffdhaiiaaDoor
