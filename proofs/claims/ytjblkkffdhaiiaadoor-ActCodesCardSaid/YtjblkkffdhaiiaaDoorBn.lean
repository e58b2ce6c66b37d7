/-
  The text of a wrong action; the program's From and the document's agree.
-/
import Derived.Test.YtjblkkffdhaiiaaDoorBf
import Derived.Test.YtjblkkffdhaiiaaDoorBj
namespace Go.Proofs.YtjblkkffdhaiiaaDoor
open Go.RowKit

set_option maxRecDepth 100000 in
set_option maxHeartbeats 4000000 in
theorem text_no (kd nm : Int) (hno : ∀ j : Nat, j < 8 → kd = (j : Int) + 1 → mayA j nm = false) (w : World) :
    Calls Tryd.prog 13 #[.agg #[.int .i64 kd, .int .i64 nm]] w fun e w' => e = .returned (.string ⟨#[]⟩) ∧ Below w.heap.size w w' := by
  have HF := Lib.hid (kindOf_no kd nm hno (w.alloc (.cells #[.int .i64 kd, .int .i64 nm] 25)))
  have hb : Below w.heap.size w (w.alloc (.cells #[.int .i64 kd, .int .i64 nm] 25)) := (Below.refl _ _).alloc (Nat.le_refl _) _
  have HB := Lib.hid hb
  clear hb hno
  go_enter Tryd.func13, Tryd.ntmps13
  go_wp2_with fail
  refine HF.out.mono ?_
  rintro e w1 ⟨rfl, hB1⟩
  have hz := hB1.size
  have HBE := Lib.hid ((HB.out.trans (hB1.mono HB.out.size)).alloc (by have := HB.out.size; omega) (.cells kind0 50))
  clear hB1
  go_wp2
  go_ret
  exact ⟨rfl, HBE.out⟩

theorem hit_may {c : Int} (h0 : 0 ≤ c) (h1 : c < 4294967296) {j : Nat} (_hj : j < 8) : hit9 c j = mayA j (IntKind.u32.wrap (c - (kcA j : Int))) := by
  have hc : kcA j ≤ 2147483648 := by unfold kcA; split <;> decide
  have hm := most_le j
  have hn : 0 ≤ mostA j := by unfold mostA; split <;> (try split) <;> omega
  unfold hit9 mayA
  rw [IntKind.wrap_u32, Bool.eq_iff_iff]
  simp only [Bool.and_eq_true, decide_eq_true_eq]
  omega
theorem hit_in {c : Int} (h0 : 0 ≤ c) (h1 : c < 4294967296) {j : Nat} (h : hit9 c j = true) : IntKind.u32.wrap (c - (kcA j : Int)) = c - (kcA j : Int) := by
  unfold hit9 at h
  simp only [Bool.and_eq_true, decide_eq_true_eq] at h
  rw [IntKind.wrap_u32]
  omega
/-- Both give the same. -/
theorem from_same {c : Int} (h0 : 0 ≤ c) (h1 : c < 4294967296) {e e' : Ending} (h : FromR c e) (h' : From9 c e') :
    (∃ k n : Int, k ≠ 0 ∧ e = .returned (.tuple #[.agg #[.int .i64 k, .int .i64 n], .int .i64 0]) ∧ e' = .returned (.agg #[.int .i64 k, .int .i64 n])) ∨
    (e = .returned (.tuple #[.agg #[.int .i64 0, .int .i64 0], .int .i64 5]) ∧ e' = .returned (.agg #[.int .i64 0, .int .i64 0])) := by
  rcases h with ⟨j, hj, hp, hmin, rfl⟩ | ⟨hno, rfl⟩
  · rcases h' with ⟨i, hi, hq, hqmin, rfl⟩ | ⟨hno', rfl⟩
    · have e : i = j := by
        rcases Nat.lt_trichotomy i j with h | h | h
        · rw [hit_may h0 h1 hi, hmin i h] at hq; cases hq
        · exact h
        · have := hqmin j h
          rw [hit_may h0 h1 hj, hp] at this; cases this
      subst e
      refine .inl ⟨(i : Int) + 1, c - (kcA i : Int), by omega, ?_, rfl⟩
      rw [hit_in h0 h1 hq]
    · have := hno' j hj
      rw [hit_may h0 h1 hj, hp] at this; cases this
  · rcases h' with ⟨i, hi, hq, _, rfl⟩ | ⟨_, rfl⟩
    · rw [hit_may h0 h1 hi, hno i hi] at hq; cases hq
    · exact .inr ⟨rfl, rfl⟩
end Go.Proofs.YtjblkkffdhaiiaaDoor
