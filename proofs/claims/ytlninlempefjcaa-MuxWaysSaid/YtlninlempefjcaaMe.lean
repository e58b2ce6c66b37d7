/-
  How i386 reaches a name: layer 12's Ways.
-/
import Derived.Test.YtlninlempefjcaaMd
import Derived.BigQuiet
import Derived.Deep.QuietTactic
import Derived.Deep.CutRange
namespace Go.Proofs.Ytlninlempefjcaa
open Go.RowKit
set_option linter.unusedVariables false

/-- How a name is reached. -/
def WaysP (T : Nat → SR) (n : Nat) (s : ByteArray) (d m : Bool) : Prop :=
  (∃ j, j < n ∧ isN T s j = true ∧ (∀ i, i < j → isN T s i = false) ∧ d = decide ((T j).n2 ≥ 0) ∧ m = ((T j).mx != 0)) ∨ ((∀ i, i < n → isN T s i = false) ∧ d = false ∧ m = false)
set_option maxRecDepth 100000 in
set_option maxHeartbeats 8000000 in
theorem ways_any (A : Option Addr) (n cap : Nat) (T : Nat → SR) (s : ByteArray) (w : World) (hn : n ≤ 1000000) (ht : TbA w A n T) :
    Calls Try.prog 26 #[.slice A n cap, .string s] w fun e w' => ∃ d m, WaysP T n s d m ∧ e = .returned (.tuple #[.bool d, .bool m]) ∧ Below w.heap.size w w' := by
  have HF := Lib.hid (Find_any A n cap T s w hn ht)
  clear ht
  go_enter Try.func26, Try.ntmps26
  go_wp2_with fail
  refine HF.out.mono ?_
  rintro e w1 ⟨h, hB1⟩
  rcases h with ⟨j, hj, hp, hf, rfl⟩ | ⟨hno, rfl⟩
  · obtain ⟨r, hr⟩ : ∃ r, T j = r := ⟨_, rfl⟩
    have HW : Hid (∀ d m, d = decide (r.n2 ≥ 0) → m = (r.mx != 0) → WaysP T n s d m) := Lib.hid fun d m h1 h2 => .inl ⟨j, hj, hp, hf, by rw [hr]; exact h1, by rw [hr]; exact h2⟩
    rw [hr]
    obtain ⟨V, hV⟩ : ∃ V, w1.alloc (.cells #[.string r.nm, .int .i64 r.n0, .int .i64 r.n1, .int .i64 r.n2, .int .i64 r.n3, .int .i64 r.n4, .int .i64 r.mx, .int .i64 r.sb] 33) = V := ⟨_, rfl⟩
    have rv : RowC V w1.heap.size (srow r) 33 := by rw [← hV]; exact RowC.new _ _ _ _ rfl
    have hbv : Below w.heap.size w V := by rw [← hV]; exact hB1.alloc hB1.size _
    have HV := Lib.hid hV
    have HBV := Lib.hid hbv
    have d3 := rv.cell 3 (.int .i64 r.n2) rfl
    have d6 := rv.cell 6 (.int .i64 r.mx) rfl
    have hbd : ∀ N, Below w.heap.size w (V.drewN N) := fun N => bdn HBV.out N
    have HBD := Lib.hid hbd
    obtain ⟨x, hx⟩ : ∃ x, decide (r.n2 ≥ 0) = x := ⟨_, rfl⟩
    obtain ⟨y, hy⟩ : ∃ y, (r.mx != 0) = y := ⟨_, rfl⟩
    have HE := Lib.hid (HW.out x y hx.symm hy.symm)
    clear hV hbv rv hj hp hf hr hB1 hbd
    go_upto_region 2 with fail
    rw [HV.out]
    go_quiet (fail)
    go_wp2
    go_ret2
    exact ⟨x, y, HE.out, rfl, HBD.out _⟩
  · have HE : Hid (WaysP T n s false false) := Lib.hid (.inr ⟨hno, rfl, rfl⟩)
    obtain ⟨V, hV⟩ : ∃ V, w1.alloc (.cells sr0 33) = V := ⟨_, rfl⟩
    have rv : RowC V w1.heap.size sr0 33 := by rw [← hV]; exact RowC.new _ _ _ _ rfl
    have hbv : Below w.heap.size w V := by rw [← hV]; exact hB1.alloc hB1.size _
    have HV := Lib.hid hV
    have HBV := Lib.hid hbv
    have d3 := rv.cell 3 (.int .i64 0) rfl
    have d6 := rv.cell 6 (.int .i64 0) rfl
    have hbd : ∀ N, Below w.heap.size w (V.drewN N) := fun N => bdn HBV.out N
    have HBD := Lib.hid hbd
    clear hV hbv rv hno hB1 hbd
    go_upto_region 2 with fail
    rw [HV.out]
    go_quiet (fail)
    go_wp2
    go_ret2
    exact ⟨false, false, HE.out, rfl, HBD.out _⟩
end Go.Proofs.Ytlninlempefjcaa
