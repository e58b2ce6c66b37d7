/-
  Layer 16: SortFunc and Compact where there is nothing; norm.Rule at the chapter's example; the laws' own awake.
-/
import Derived.Test.YtcembcicpmhpkaaGreatDoorOb
namespace Go.Proofs.YtcembcicpmhpkaaGreatDoor
open Go.RowKit Go.Shelf
set_option linter.unusedVariables false

set_option maxRecDepth 100000 in
set_option maxHeartbeats 2000000 in
theorem len64_0 (w : World) : Calls Tryz.prog 111 #[.int .u64 0] w fun e w' => (∃ n : Int, e = .returned (.int .i64 n)) ∧ w' = w := by
  go_enter Tryz.func111, Tryz.ntmps111
  go_wp2
  go_ret
  exact ⟨⟨_, rfl⟩, rfl⟩
set_option maxRecDepth 100000 in
set_option maxHeartbeats 2000000 in
theorem len_0 (w : World) : Calls Tryz.prog 73 #[.int .u64 0] w fun e w' => (∃ n : Int, e = .returned (.int .i64 n)) ∧ w' = w := by
  go_enter Tryz.func73, Tryz.ntmps73
  go_wp2_with fail
  refine (len64_0 _).mono ?_
  rintro e w1 ⟨⟨n, rfl⟩, rfl⟩
  go_wp2
  go_ret
  exact ⟨⟨n, rfl⟩, rfl⟩
set_option maxRecDepth 100000 in
set_option maxHeartbeats 2000000 in
theorem insert_nil (F : Value) (w : World) : Calls Tryz.prog 102 #[.slice none 0 0, .int .i64 0, .int .i64 0, F] w fun e w' => e = .returned (.tuple #[]) ∧ w' = w := by
  go_enter Tryz.func102, Tryz.ntmps102
  go_wp2
  go_loopw [8] (fun i wr => i = .int .i64 1 ∧ wr = w) (fun _ _ => 0)
  case atStart => exact ⟨rfl, rfl⟩
  case round =>
    obtain ⟨rfl, rfl⟩ := hrel
    go_wp2
    go_end0
    exact ⟨rfl, rfl⟩
set_option maxRecDepth 100000 in
set_option maxHeartbeats 2000000 in
theorem pdq_nil (F : Value) (n : Int) (w : World) : Calls Tryz.prog 72 #[.slice none 0 0, .int .i64 0, .int .i64 0, .int .i64 n, F] w fun e w' => e = .returned (.tuple #[]) ∧ w' = w := by
  go_enter Tryz.func72, Tryz.ntmps72
  go_wp2
  go_loopw [1, 2, 3] (fun x y z wr => x = .int .i64 0 ∧ y = .int .i64 0 ∧ z = .int .i64 n ∧ wr = w) (fun _ _ _ _ => 0)
  case atStart => exact ⟨rfl, rfl, rfl, rfl⟩
  case round =>
    obtain ⟨rfl, rfl, rfl, rfl⟩ := hrel
    go_wp2_with fail
    refine (insert_nil F _).mono ?_
    rintro e w1 ⟨rfl, rfl⟩
    go_wp2
    (try simp only [Exit.inBlock, Exit.then])
    refine bodyPost_ret (results_none rfl _ _ _) rfl ?_
    exact ⟨rfl, rfl⟩
set_option maxRecDepth 100000 in
set_option maxHeartbeats 2000000 in
theorem sort_nil (F : Value) (w : World) : Calls Tryz.prog 43 #[.slice none 0 0, F] w fun e w' => e = .returned (.tuple #[]) ∧ w' = w := by
  go_enter Tryz.func43, Tryz.ntmps43
  go_wp2_with fail
  refine (len_0 _).mono ?_
  rintro e w1 ⟨⟨n, rfl⟩, rfl⟩
  go_wp2_with fail
  refine (pdq_nil F n _).mono ?_
  rintro e w2 ⟨rfl, rfl⟩
  go_wp2
  go_end0
  exact ⟨rfl, rfl⟩
set_option maxRecDepth 100000 in
set_option maxHeartbeats 2000000 in
theorem compact_nil (w : World) : Calls Tryz.prog 45 #[.slice none 0 0] w fun e w' => e = .returned (.slice none 0 0) ∧ w' = w := by
  go_enter Tryz.func45, Tryz.ntmps45
  go_wp2
  go_ret
  exact ⟨rfl, rfl⟩
abbrev rdN : ByteArray := ⟨#[114, 101, 97, 100]⟩
abbrev ruN (A : Option Addr) (n c : Nat) : Array Value := #[.string rdN, .int .i64 8, .int .i64 0, .slice A n c]
abbrev zRu : Array Value := #[.string ⟨#[]⟩, .int .i64 0, .int .i64 0, .slice none 0 0]
theorem infoRu : (Tryz.prog.info? 52).map (·.size) = some 4 := by kernel_rfl
set_option maxRecDepth 100000 in
set_option maxHeartbeats 8000000 in
theorem rule_awake (b : Nat) (w : World) (hb : b < w.heap.size) (c0 : w.cell? ⟨b, 0, none⟩ = some (.int .i64 0)) (c1 : w.cell? ⟨b, 1, none⟩ = some (.int .i64 6)) (c2 : w.cell? ⟨b, 2, none⟩ = some (.int .u64 0)) (c3 : w.cell? ⟨b, 3, none⟩ = some (.int .u64 0)) :
    Calls Tryz.prog 22 #[.agg (ruN (some ⟨b, 0, none⟩) 1 1)] w fun e w' => e = .returned (.tuple #[.agg (ruN none 0 0), .bool true]) ∧ Below w.heap.size w w' := by
  have HNC : Hid (∀ X, Calls Tryz.prog 42 #[.agg #[.int .i64 0, .int .i64 6, .int .u64 0, .int .u64 0]] X fun e w' => e = .returned (.tuple #[.agg zN, .int .i64 1]) ∧ Below X.heap.size X w') := Lib.hid fun X => normC_ok 0 6 0 0 5 ⟨by decide, by decide, by decide, by decide, by decide⟩ (by decide) (by decide) X
  obtain ⟨W0, hW0⟩ : ∃ W, (w.alloc (.cells (ruN (some ⟨b, 0, none⟩) 1 1) 52)).alloc (.cells zRu 52) = W := ⟨_, rfl⟩
  have HB0 := Lib.hid (show Below w.heap.size w W0 by rw [← hW0]; exact ((Below.refl _ _).alloc (Nat.le_refl _) _).alloc (by simp) _)
  have HP0 := Lib.hid (show RowC W0 w.heap.size (ruN (some ⟨b, 0, none⟩) 1 1) 52 by rw [← hW0]; exact (RowC.new _ _ _ _ rfl).alloc _)
  have HR0 := Lib.hid (show RowC W0 (w.heap.size + 1) zRu 52 by rw [← hW0]; exact RowC.new _ _ _ _ (by simp))
  have HW := Lib.hid hW0
  have HC := Lib.hid (And.intro c0 (And.intro c1 (And.intro c2 c3)))
  have hz0 : w.heap.size + 2 ≤ W0.heap.size := by rw [← hW0]; simp
  clear hW0 c0 c1 c2 c3
  have k3 := HP0.out.cell 3 (.slice (some ⟨b, 0, none⟩) 1 1) rfl
  go_enter Tryz.func22, Tryz.ntmps22
  go_upto_region 1 with fail
  rw [HW.out]
  clear HW
  go_wp2
  go_loopw [4, 12] (fun l i wr => ∃ q : Nat, q ≤ 1 ∧ l = .slice none 0 0 ∧ i = .int .i64 q ∧ Below W0.heap.size W0 wr) (fun _ i _ => 1 - (intOf i).toNat)
  case atStart => exact ⟨0, by omega, rfl, rfl, Below.refl _ _⟩
  case round =>
    obtain ⟨q, hq, rfl, rfl, hB⟩ := hrel
    have HBW := Lib.hid hB
    by_cases hq0 : q = 0
    · subst hq0
      obtain ⟨c0, c1, c2, c3⟩ := HC.out
      have hbw := HB0.out.trans (hB.mono HB0.out.size)
      have d0 := (hbw.cell (p := ⟨b, 0, none⟩) hb).trans c0
      have d1 := (hbw.cell (p := ⟨b, 1, none⟩) hb).trans c1
      have d2 := (hbw.cell (p := ⟨b, 2, none⟩) hb).trans c2
      have d3 := (hbw.cell (p := ⟨b, 3, none⟩) hb).trans c3
      have hs := HBW.out.size
      clear c0 c1 c2 c3 hbw hB
      go_wp2_with fail
      refine (HNC.out _).mono ?_
      rintro e w2 ⟨rfl, hB2⟩
      have HB2 := Lib.hid ((HBW.out.alloc hs _).trans (hB2.mono (by simp; omega)))
      have hs2 := HB2.out.size
      clear hB2
      go_wp2
      exact ⟨⟨1, by omega, rfl, rfl, HB2.out.alloc hs2 _⟩, by simp [intOf]⟩
    · obtain rfl : q = 1 := by omega
      have hP := HP0.out.below hB HP0.out.lt
      have hR := HR0.out.below hB HR0.out.lt
      have HBF := Lib.hid (HB0.out.trans (hB.mono HB0.out.size))
      have HR := Lib.hid hR
      have HP := Lib.hid (hP.set 3 (.slice none 0 0))
      have p0 := hP.cell 0 (.string rdN) rfl
      have p1 := hP.cell 1 (.int .i64 8) rfl
      have p2 := hP.cell 2 (.int .i64 0) rfl
      have p3 := hP.cell 3 (.slice (some ⟨b, 0, none⟩) 1 1) rfl
      have f3 := hP.frozen 3
      have z0 := hR.cell 0 (.string ⟨#[]⟩) rfl
      have z1 := hR.cell 1 (.int .i64 0) rfl
      have z2 := hR.cell 2 (.int .i64 0) rfl
      have z3 := hR.cell 3 (.slice none 0 0) rfl
      have y0 := hR.frozen 0
      have y1 := hR.frozen 1
      have y2 := hR.frozen 2
      have y3 := hR.frozen 3
      clear hP hR hB
      go_wp2_with fail
      refine (sort_nil _ _).mono ?_
      rintro e w2 ⟨rfl, rfl⟩
      go_wp2_with fail
      refine (compact_nil _).mono ?_
      rintro e w3 ⟨rfl, rfl⟩
      go_wp2
      exact bodyPost_ret (results_ctO Tryz.results22 _ _ (w.heap.size + 1) _ (ruN none 0 0) (0, 0) _ (.bool true) (by rfl) (by rfl) (show RowC _ (w.heap.size + 1) (ruN none 0 0) 52 from ((((HR.out.setOther 3 (.slice none 0 0) (by omega)).set 0 (.string rdN)).set 1 (.int .i64 8)).set 2 (.int .i64 0)).set 3 (.slice none 0 0)) Tryz.underlying52 (by rfl) infoRu) rfl
        ⟨rfl, ((((HBF.out.setCell (Nat.le_refl _) _).setCell (Nat.le_succ _) _).setCell (Nat.le_succ _) _).setCell (Nat.le_succ _) _).setCell (Nat.le_succ _) _⟩
set_option maxRecDepth 100000 in
set_option maxHeartbeats 8000000 in
theorem awake16_any (w : World) : Calls Tryz.prog 21 #[] w fun e w' => e = .returned (.bool true) ∧ Below w.heap.size w w' := by
  have HNC : Hid (∀ X, Calls Tryz.prog 42 #[.agg #[.int .i64 0, .int .i64 4, .int .u64 0, .int .u64 0]] X fun e w' => e = .returned (.tuple #[.agg (#[.int .i64 0, .int .i64 1, .int .u64 0, .int .u64 0]), .int .i64 0]) ∧ Below X.heap.size X w') := Lib.hid fun X => normC_ok 0 4 0 0 3 ⟨by decide, by decide, by decide, by decide, by decide⟩ (by decide) (by decide) X
  go_enter Tryz.func21, Tryz.ntmps21
  go_wp2_with fail
  refine (HNC.out _).mono ?_
  rintro e w1 ⟨rfl, hB1⟩
  obtain ⟨W1, hW1⟩ : ∃ X, w1.alloc (.cells (#[.int .i64 0, .int .i64 1, .int .u64 0, .int .u64 0]) 62) = X := ⟨_, rfl⟩
  have HB1 := Lib.hid (hB1.trans ((show Below w1.heap.size w1 W1 by rw [← hW1]; exact (Below.refl _ _).alloc (Nat.le_refl _) _).mono hB1.size))
  have HR1 := Lib.hid (show RowC W1 w1.heap.size (#[.int .i64 0, .int .i64 1, .int .u64 0, .int .u64 0]) 62 by rw [← hW1]; exact RowC.new _ _ _ _ rfl)
  have HW1 := Lib.hid hW1
  clear hB1 hW1
  go_upto_region 2 with fail
  rw [HW1.out]
  clear HW1
  obtain ⟨W2, hW2⟩ : ∃ X, W1.alloc (.cells #[.int .i64 0, .int .i64 6, .int .u64 0, .int .u64 0] 62) = X := ⟨_, rfl⟩
  have hb2 : Below W1.heap.size W1 W2 := by rw [← hW2]; exact (Below.refl _ _).alloc (Nat.le_refl _) _
  have r2 : RowC W2 W1.heap.size #[.int .i64 0, .int .i64 6, .int .u64 0, .int .u64 0] 62 := by rw [← hW2]; exact RowC.new _ _ _ _ rfl
  have HRU := Lib.hid (rule_awake W1.heap.size W2 r2.lt (r2.cell 0 _ rfl) (r2.cell 1 _ rfl) (r2.cell 2 _ rfl) (r2.cell 3 _ rfl))
  have HB2 := Lib.hid (HB1.out.trans (hb2.mono HB1.out.size))
  have HR2 := Lib.hid (HR1.out.below hb2 HR1.out.lt)
  have HW2 := Lib.hid hW2
  clear hb2 r2 hW2
  go_wp2_with fail
  rw [HW2.out]
  refine HRU.out.mono ?_
  rintro e w3 ⟨rfl, hB3⟩
  obtain ⟨W3, hW3⟩ : ∃ X, w3.alloc (.cells (ruN none 0 0) 52) = X := ⟨_, rfl⟩
  have hb3 : Below w3.heap.size w3 W3 := by rw [← hW3]; exact (Below.refl _ _).alloc (Nat.le_refl _) _
  have r3 : RowC W3 w3.heap.size (ruN none 0 0) 52 := by rw [← hW3]; exact RowC.new _ _ _ _ rfl
  have hb23 := hB3.trans (hb3.mono hB3.size)
  have r1 := HR2.out.below hb23 HR2.out.lt
  have HBF := Lib.hid (HB2.out.trans (hb23.mono HB2.out.size))
  have HW3 := Lib.hid hW3
  have k0 := r1.cell 0 (.int .i64 0) rfl
  have k1 := r1.cell 1 (.int .i64 1) rfl
  have k2 := r1.cell 2 (.int .u64 0) rfl
  have k3 := r1.cell 3 (.int .u64 0) rfl
  have l0 := r3.cell 0 (.string rdN) rfl
  have l3 := r3.cell 3 (.slice none 0 0) rfl
  clear hB3 hW3 hb3 r3 hb23 r1
  go_upto_region 3 with fail
  rw [HW3.out]
  go_wp2
  go_ret
  exact ⟨rfl, HBF.out⟩
end Go.Proofs.YtcembcicpmhpkaaGreatDoor
