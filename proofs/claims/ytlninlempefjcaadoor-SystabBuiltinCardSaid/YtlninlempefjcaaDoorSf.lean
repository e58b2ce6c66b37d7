/-
  systab.Number of any table, at a name that it has.
-/
import Derived.Test.YtlninlempefjcaaDoorSe
import Derived.Deep.Cut
namespace Go.Proofs.YtlninlempefjcaaDoor
open Go.RowKit
set_option linter.unusedVariables false

set_option maxRecDepth 100000 in
set_option maxHeartbeats 8000000 in
theorem Number_ok (A : Option Addr) (n cap : Nat) (T : Nat → SR) (s : ByteArray) (a j : Nat) (ha : a < 5) (hj : j < n) (hjs : isN T s j = true) (hfst : ∀ i, i < j → isN T s i = false) (w : World) (hn : n ≤ 1000000) (ht : TbA w A n T) :
    Calls Tryd.prog 16 #[.slice A n cap, .int .i64 a, .string s] w fun e w' => e = .returned (.tuple #[.int .i64 (numAt (T j) j a), .int .i64 0]) ∧ Below w.heap.size w w' := by
  have hF : Calls Tryd.prog 19 #[.slice A n cap, .string s] w fun e w' => e = .returned (.tuple #[.agg (srow (T j)), .int .i64 j, .bool true]) ∧ Below w.heap.size w w' := by
    refine (Find_any A n cap T s w hn ht).mono ?_
    rintro e w' ⟨⟨i, hi, hp, hf, he⟩ | ⟨hno, he⟩, hB⟩
    · have : i = j := by
        rcases Nat.lt_trichotomy i j with h | h | h
        · rw [hfst i h] at hp; cases hp
        · exact h
        · rw [hf j h] at hjs; cases hjs
      subst this
      exact ⟨he, hB⟩
    · rw [hno j hj] at hjs; cases hjs
  obtain ⟨r, hr⟩ : ∃ r, T j = r := ⟨_, rfl⟩
  rw [hr] at hF ⊢
  have HF := Lib.hid hF
  have HA := Lib.hid fun W => isABI_ok a ha W
  have HN := Lib.hid fun W => numberOf_any r j a ha (by omega) W
  clear hF hjs hfst ht hr
  go_enter Tryd.func16, Tryd.ntmps16
  go_wp2_with fail
  refine (HA.out _).mono ?_
  rintro e w1 ⟨rfl, rfl⟩
  go_wp2_with fail
  refine HF.out.mono ?_
  rintro e w2 ⟨rfl, hB2⟩
  obtain ⟨U, hU⟩ : ∃ U, w2.alloc (.cells #[.string r.nm, .int .i64 r.n0, .int .i64 r.n1, .int .i64 r.n2, .int .i64 r.n3, .int .i64 r.n4, .int .i64 r.mx, .int .i64 r.sb] 36) = U := ⟨_, rfl⟩
  have ru : RowC U w2.heap.size #[.string r.nm, .int .i64 r.n0, .int .i64 r.n1, .int .i64 r.n2, .int .i64 r.n3, .int .i64 r.n4, .int .i64 r.mx, .int .i64 r.sb] 36 := by rw [← hU]; exact RowC.new _ _ _ _ rfl
  have hbU : Below w.heap.size w U := by rw [← hU]; exact hB2.alloc hB2.size _
  have HU := Lib.hid hU
  have HBU := Lib.hid hbU
  clear hU hbU hB2
  go_upto_region 4 with fail
  rw [HU.out]
  have d0 := ru.cell 0 (.string r.nm) rfl
  have d1 := ru.cell 1 (.int .i64 r.n0) rfl
  have d2 := ru.cell 2 (.int .i64 r.n1) rfl
  have d3 := ru.cell 3 (.int .i64 r.n2) rfl
  have d4 := ru.cell 4 (.int .i64 r.n3) rfl
  have d5 := ru.cell 5 (.int .i64 r.n4) rfl
  have d6 := ru.cell 6 (.int .i64 r.mx) rfl
  have d7 := ru.cell 7 (.int .i64 r.sb) rfl
  clear ru
  go_wp2_with fail
  refine (HN.out _).mono ?_
  rintro e w3 ⟨rfl, hB3⟩
  go_wp2
  go_ret2
  exact ⟨rfl, HBU.out.trans (hB3.mono HBU.out.size)⟩
end Go.Proofs.YtlninlempefjcaaDoor
