/-
  What a tied card's listed tables give the walk.
-/
import Derived.Test.YtjblkkffdhaiiaaDoorBe
import Derived.Test.YtjblkkffdhaiiaaDoorCards
import Derived.Lay
import Derived.MakeChecks
import Derived.Lib.LaidTab
import Derived.Stop.LaidErr
namespace Go.Proofs.YtjblkkffdhaiiaaDoor
open Go.RowKit
theorem pow_datum : (Rows.laid_internal_strconv_uint64pow10 : DataW Unit) = Lib.tabData .u64 Lib.pow10Tab := by kernel_rfl
theorem tab_of_third {x y : String × DataW Unit} {rest : List (String × DataW Unit)} {W : World} (h : laidMet Tryd.prog (x :: y :: ("internal/strconv.uint64pow10", Rows.laid_internal_strconv_uint64pow10) :: rest) W) : TabP W := by
  have h2 := h.tail.tail
  rw [pow_datum] at h2
  obtain ⟨g, hg⟩ := gPow
  have : g = 0 := (Option.some.inj ((show Tryd.prog.globalNamed "internal/strconv.uint64pow10" = some 0 by kernel_rfl).symm.trans hg)).symm
  subst this
  exact Lib.tabIs_of_head (t := 86) (e := 63) (n := 20) hg (by kernel_rfl) Tryd.underlying86 Tryd.underlying63 (by kernel_rfl) (by kernel_rfl) h2
theorem right_or (kd nm : Int) : (∃ j : Nat, j < 8 ∧ kd = (j : Int) + 1 ∧ mayA j nm = true) ∨ (∀ j : Nat, j < 8 → kd = (j : Int) + 1 → mayA j nm = false) := by
  by_cases h : ∃ j : Nat, j < 8 ∧ kd = (j : Int) + 1 ∧ mayA j nm = true
  · exact .inl h
  · refine .inr fun j hj he => ?_
    cases hm : mayA j nm with
    | false => rfl
    | true => exact absurd ⟨j, hj, he, hm⟩ h
set_option maxRecDepth 100000 in
set_option maxHeartbeats 4000000 in
theorem of_exact (kd nm : Int) (w : World) :
    Calls Tryd.prog 7 #[.agg #[.int .i64 kd, .int .i64 nm]] w fun e w' => e = .returned (.agg #[.int .i64 kd, .int .i64 nm]) ∧ w' = ((w.alloc (.cells #[.int .i64 kd, .int .i64 nm] 23)).alloc (.cells #[.int .i64 kd, .int .i64 nm] 25)) := by
  have r1 : RowC ((w.alloc (.cells #[.int .i64 kd, .int .i64 nm] 23)).alloc (.cells #[.int .i64 kd, .int .i64 nm] 25)) (w.heap.size + 1) #[.int .i64 kd, .int .i64 nm] 25 := RowC.new _ _ _ _ (by simp)
  have R1 := Lib.hid r1
  clear r1
  go_enter Tryd.func7, Tryd.ntmps7
  go_wp2
  exact bodyPost_ret (results_cell_row Tryd.results7 _ _ (w.heap.size + 1) _ #[.int .i64 kd, .int .i64 nm] (0, 0) _ (by rfl) R1.out Tryd.underlying25 (by rfl) (by kernel_rfl)) rfl ⟨rfl, rfl⟩
end Go.Proofs.YtjblkkffdhaiiaaDoor
