/-
  systab.Number and Name at an ABI that is none, and at a name that the table does not have.
-/
import Derived.Test.YtlninlempefjcaaDoorSf
import Derived.Test.YtlninlempefjcaaDoorSj
namespace Go.Proofs.YtlninlempefjcaaDoor
open Go.RowKit
set_option linter.unusedVariables false

set_option maxHeartbeats 1000000 in
theorem isABI_no (a : Int) (ha : a < 0 ∨ 5 ≤ a) (w : World) : Calls Tryd.prog 25 #[.int .i64 a] w fun e w' => e = .returned (.bool false) ∧ w = w' := by
  by_cases h : a < 0
  · have q1 : decide (a ≥ 0) = false := decide_eq_false (by omega)
    clear ha h
    go_enter Tryd.func25, Tryd.ntmps25
    go_wp2
    go_ret
    exact ⟨rfl, rfl⟩
  · have q1 : decide (a ≥ 0) = true := decide_eq_true (by omega)
    have q2 : decide (a < 5) = false := decide_eq_false (by omega)
    clear ha h
    go_enter Tryd.func25, Tryd.ntmps25
    go_wp2
    go_ret
    exact ⟨rfl, rfl⟩
set_option maxHeartbeats 1000000 in
theorem Number_bad (A : Option Addr) (n cap : Nat) (a : Int) (ha : a < 0 ∨ 5 ≤ a) (s : ByteArray) (w : World) : Calls Tryd.prog 16 #[.slice A n cap, .int .i64 a, .string s] w fun e w' => e = .returned (.tuple #[.int .i64 0, .int .i64 16]) ∧ Below w.heap.size w w' := by
  have HA := Lib.hid fun W => isABI_no a ha W
  clear ha
  go_enter Tryd.func16, Tryd.ntmps16
  go_wp2_with fail
  refine (HA.out _).mono ?_
  rintro e w1 ⟨rfl, rfl⟩
  go_wp2
  go_ret2
  exact ⟨rfl, Below.refl _ _⟩
set_option maxHeartbeats 1000000 in
theorem Name_bad (A : Option Addr) (n cap : Nat) (a : Int) (ha : a < 0 ∨ 5 ≤ a) (x : Int) (w : World) : Calls Tryd.prog 17 #[.slice A n cap, .int .i64 a, .int .i64 x] w fun e w' => e = .returned (.tuple #[.string ⟨#[]⟩, .int .i64 16]) ∧ Below w.heap.size w w' := by
  have HA := Lib.hid fun W => isABI_no a ha W
  have hb : Below w.heap.size w ((w.alloc (.cells #[.int .i64 a] 3)).alloc (.cells #[.int .i64 x] 3)) := ((Below.refl _ _).alloc (Nat.le_refl _) _).alloc (by simp) _
  have r0 : RowC ((w.alloc (.cells #[.int .i64 a] 3)).alloc (.cells #[.int .i64 x] 3)) w.heap.size #[.int .i64 a] 3 := (RowC.new _ _ _ _ rfl).alloc _
  have k0 := r0.cell 0 (.int .i64 a) rfl
  have HB := Lib.hid hb
  clear ha hb r0
  go_enter Tryd.func17, Tryd.ntmps17
  go_wp2_with fail
  refine (HA.out _).mono ?_
  rintro e w1 ⟨rfl, rfl⟩
  go_wp2
  go_ret2
  exact ⟨rfl, HB.out⟩
/-- What a look for a name's number gives. -/
def NumP (T : Nat → SR) (n a : Nat) (s : ByteArray) (v er : Int) : Prop :=
  (∃ j, j < n ∧ isN T s j = true ∧ (∀ i, i < j → isN T s i = false) ∧ v = numAt (T j) j a ∧ er = 0) ∨ ((∀ i, i < n → isN T s i = false) ∧ v = 0 ∧ er = 14)
set_option maxRecDepth 100000 in
set_option maxHeartbeats 4000000 in
theorem Number_any (A : Option Addr) (n cap : Nat) (T : Nat → SR) (s : ByteArray) (a : Nat) (ha : a < 5) (w : World) (hn : n ≤ 1000000) (ht : TbA w A n T) :
    Calls Tryd.prog 16 #[.slice A n cap, .int .i64 a, .string s] w fun e w' => ∃ v er : Int, NumP T n a s v er ∧ e = .returned (.tuple #[.int .i64 v, .int .i64 er]) ∧ Below w.heap.size w w' := by
  by_cases hex : ∃ j, j < n ∧ isN T s j = true ∧ ∀ i, i < j → isN T s i = false
  · obtain ⟨j, h1, h2, h3⟩ := hex
    refine (Number_ok A n cap T s a j ha h1 h2 h3 w hn ht).mono ?_
    rintro e w' ⟨rfl, hB⟩
    exact ⟨_, _, .inl ⟨j, h1, h2, h3, rfl, rfl⟩, rfl, hB⟩
  · have hF : Calls Tryd.prog 19 #[.slice A n cap, .string s] w fun e w' => (∀ i, i < n → isN T s i = false) ∧ e = .returned (.tuple #[.agg sr0, .int .i64 0, .bool false]) ∧ Below w.heap.size w w' := by
      refine (Find_any A n cap T s w hn ht).mono ?_
      rintro e w' ⟨⟨j, h1, h2, h3, _⟩ | ⟨hno, he⟩, hB⟩
      · exact absurd ⟨j, h1, h2, h3⟩ hex
      · exact ⟨hno, he, hB⟩
    have HF := Lib.hid hF
    have HA := Lib.hid fun W => isABI_ok a ha W
    clear hF hex ht
    go_enter Tryd.func16, Tryd.ntmps16
    go_wp2_with fail
    refine (HA.out _).mono ?_
    rintro e w1 ⟨rfl, rfl⟩
    go_wp2_with fail
    refine HF.out.mono ?_
    rintro e w2 ⟨hno, rfl, hB2⟩
    have HE : Hid (NumP T n a s 0 14) := Lib.hid (.inr ⟨hno, rfl, rfl⟩)
    have HB := Lib.hid (hB2.alloc hB2.size (.cells sr0 36))
    clear hno hB2
    go_wp2
    go_ret2
    exact ⟨_, _, HE.out, rfl, HB.out⟩
end Go.Proofs.YtlninlempefjcaaDoor
