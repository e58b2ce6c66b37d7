/-
  The contract of cond.Holds.
-/
import Derived.Test.YtcmdmnnkbliggaaGreatDoorMg
import Derived.RegionTactic
namespace Go.Proofs.YtcmdmnnkbliggaaGreatDoor
open Go.RowKit Go.Shelf
set_option linter.unusedVariables false

abbrev argsA (f : Nat → Nat) : Array Value := #[.int .u64 (f 0), .int .u64 (f 1), .int .u64 (f 2), .int .u64 (f 3), .int .u64 (f 4), .int .u64 (f 5)]
theorem argsA_at (f : Nat → Nat) (i : Nat) (hi : i < 6) : (argsA f)[i]? = some (.int .u64 (f i)) := by
  have h : i = 0 ∨ i = 1 ∨ i = 2 ∨ i = 3 ∨ i = 4 ∨ i = 5 := by omega
  rcases h with rfl | rfl | rfl | rfl | rfl | rfl <;> rfl
set_option maxRecDepth 20000 in
set_option maxHeartbeats 2000000 in
theorem holds_ok (a : Nat) (ha : a < 6) (o : Int) (m v j : Nat) (hr : RightO a o m j) (f : Nat → Nat) (hf : ∀ i, i < 6 → f i < 18446744073709551616) (hm : m < 18446744073709551616) (w : World) :
    Calls Tryz.prog 64 #[.agg (condA a o m v), .agg (argsA f)] w fun e w' => e = .returned (.bool (hoF j (f a) m v)) ∧ Below w.heap.size w w' := by
  have r0 : RowC ((w.alloc (.cells (condA a o m v) 61)).alloc (.cells (argsA f) 66)) w.heap.size (condA a o m v) 61 := (RowC.new _ _ _ _ rfl).alloc _
  have r1 : RowC ((w.alloc (.cells (condA a o m v) 61)).alloc (.cells (argsA f) 66)) (w.heap.size + 1) (argsA f) 66 := RowC.new _ _ _ _ (by simp)
  have hb : Below w.heap.size w ((w.alloc (.cells (condA a o m v) 61)).alloc (.cells (argsA f) 66)) := ((Below.refl _ _).alloc (Nat.le_refl _) _).alloc (by simp) _
  have k0 := r0.cell 0 (.int .i64 a) rfl
  have k1 := r0.cell 1 (.int .i64 o) rfl
  have k2 := r0.cell 2 (.int .u64 m) rfl
  have k3 := r0.cell 3 (.int .u64 v) rfl
  have HF := Lib.hid (operatorOf_ok a o m v j hr ((w.alloc (.cells (condA a o m v) 61)).alloc (.cells (argsA f) 66)))
  have hj := hr.2.2.1
  obtain ⟨F, hkm, hen⟩ := fnO_enter j hj
  have HO := Lib.hid fun W => ho_any j hj F hkm a o (f a) m v W (hf a ha) hm
  have HK := Lib.hid hkm
  have R0 := Lib.hid r0
  have R1 := Lib.hid r1
  have HB := Lib.hid hb
  have i1 : (0 : Int) ≤ (a : Int) := by omega
  have i2 : (a : Int) < 6 := by omega
  clear r0 r1 hb hkm hr
  go_enter Tryz.func64, Tryz.ntmps64
  go_wp2_with fail
  clear k0 k1 k2 k3
  refine HF.out.mono ?_
  rintro e w1 ⟨rfl, hB1⟩
  simp only [opA, HK.out]
  have hz := hB1.size
  have hr0 := (R0.out.below hB1 R0.out.lt).alloc (.cells #[.string (sgO j), .bool (mkO j), .func (.func F) #[] #[]] 188)
  have hr1 := (R1.out.below hB1 R1.out.lt).alloc (.cells #[.string (sgO j), .bool (mkO j), .func (.func F) #[] #[]] 188)
  have hr2 : RowC (w1.alloc (.cells #[.string (sgO j), .bool (mkO j), .func (.func F) #[] #[]] 188)) w1.heap.size #[.string (sgO j), .bool (mkO j), .func (.func F) #[] #[]] 188 := RowC.new _ _ _ _ rfl
  have hbe := (HB.out.trans (hB1.mono HB.out.size)).alloc (by have := HB.out.size; omega) (.cells #[.string (sgO j), .bool (mkO j), .func (.func F) #[] #[]] 188)
  have HBE := Lib.hid hbe
  have c0 := hr0.cell 0 (.int .i64 a) rfl
  have c1 := hr0.cell 1 (.int .i64 o) rfl
  have c2 := hr0.cell 2 (.int .u64 m) rfl
  have c3 := hr0.cell 3 (.int .u64 v) rfl
  have d2 := hr2.cell 2 (.func (.func F) #[] #[]) rfl
  have e2 := hr1.cell a _ (argsA_at f a ha)
  clear hr0 hr1 hr2 hbe hB1 hz
  go_wp2_with fail
  generalize w1.alloc (.cells #[.string (sgO j), .bool (mkO j), .func (.func F) #[] #[]] 188) = W3 at *
  first
  | (go_region_with (go_at_fn F; refine (HO.out _).mono ?_; rintro e w6 ⟨rfl, hB6⟩))
  | fail "holds"
  all_goals go_wp2
  all_goals go_ret
  all_goals exact ⟨rfl, HBE.out.drew.trans (hB6.mono (by have := HBE.out.size; simpa using this))⟩
end Go.Proofs.YtcmdmnnkbliggaaGreatDoor
