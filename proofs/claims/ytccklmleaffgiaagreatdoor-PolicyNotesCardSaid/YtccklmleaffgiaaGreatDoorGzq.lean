/-
  cond.Read at the words of a right condition, at any place of any words (what it wants of memory is the table of powers alone).
-/
import Derived.Test.YtccklmleaffgiaaGreatDoorGiq
import Derived.RegionTactic
import Derived.Deep.Cut
namespace Go.Proofs.YtccklmleaffgiaaGreatDoor
open Go.Shelf Go.RowKit
set_option linter.unusedVariables false

/-- What Number says of a text. -/
def NumD (s : ByteArray) (v : Nat) : Prop := ∀ X, TabP X → Calls Tryz.prog 125 #[.string s] X fun e w' => e = .returned (.tuple #[.int .u64 v, .bool true]) ∧ Below X.heap.size X w'
set_option maxRecDepth 100000 in
set_option maxHeartbeats 8000000 in
theorem read1_d (n : Int) (len : Nat) (cap : Nat) (b o : Nat) (s : ByteArray) (CB k : Nat) (hk : k < 7) (hlen : 3 ≤ len) (w : World) (h1 : w.cell? ⟨CB, 0, none⟩ = some (.slice (some ⟨b, o, none⟩) len cap)) (h2 : w.cell? ⟨b, o + 1, none⟩ = some (.string s)) :
    Calls Tryz.prog 123 #[.int .i64 n, .agg (opA k), .pointer (some ⟨CB, 0, none⟩)] w fun e w' => e = .returned (.bool (isW len s k)) ∧ Below w.heap.size w w' := by
  obtain ⟨F, hkm⟩ := fnO_func k
  have HK := Lib.hid hkm
  simp only [opA, hkm]
  have hB : Below w.heap.size w (w.alloc (.cells #[.string (sgO k), .bool (mkO k), .func (.func F) #[] #[]] 137)) := (Below.refl _ _).alloc (Nat.le_refl _) _
  have l1 := World.block_lt_of_cell? _ _ h1
  have l2 := World.block_lt_of_cell? _ _ h2
  have r0 : RowC (w.alloc (.cells #[.string (sgO k), .bool (mkO k), .func (.func F) #[] #[]] 137)) w.heap.size #[.string (sgO k), .bool (mkO k), .func (.func F) #[] #[]] 137 := RowC.new _ _ _ _ rfl
  have k1 : (w.alloc (.cells #[.string (sgO k), .bool (mkO k), .func (.func F) #[] #[]] 137)).cell? ⟨CB, 0, none⟩ = some (.slice (some ⟨b, o, none⟩) len cap) := (hB.cell (p := ⟨CB, 0, none⟩) l1).trans h1
  have k2 : (w.alloc (.cells #[.string (sgO k), .bool (mkO k), .func (.func F) #[] #[]] 137)).cell? ⟨b, o + 1, none⟩ = some (.string s) := (hB.cell (p := ⟨b, o + 1, none⟩) l2).trans h2
  have l1' : CB < (w.alloc (.cells #[.string (sgO k), .bool (mkO k), .func (.func F) #[] #[]] 137)).heap.size := Nat.lt_of_lt_of_le l1 hB.size
  have l2' : b < (w.alloc (.cells #[.string (sgO k), .bool (mkO k), .func (.func F) #[] #[]] 137)).heap.size := Nat.lt_of_lt_of_le l2 hB.size
  have c0 := r0.cell 0 (.string (sgO k)) rfl
  have c1 := r0.cell 1 (.bool (mkO k)) rfl
  have c2 := r0.cell 2 (.func (.func F) #[] #[]) rfl
  have HB := Lib.hid hB
  have R0 := Lib.hid r0
  have HW := Lib.hid fun W => words_any (sgO k) (mkO k) F W
  have L := Lib.hid (And.intro l1' l2')
  have i1 : (1 : Int) < (len : Int) := by omega
  clear hB l1 l2 r0 l1' l2' hkm h1 h2
  cases ht : decide (wdO (mkO k) ≤ (len : Int))
  · have HR : Hid (isW len s k = false) := Lib.hid (by simp [isW, ht])
    have ht2 : decide ((len : Int) ≥ wdO (mkO k)) = false := ht
    have ht3 : ¬ wdO (mkO k) ≤ (len : Int) := by simpa using ht
    go_enter Tryz.func123, Tryz.ntmps123
    go_wp2_with fail
    generalize w.alloc (.cells #[.string (sgO k), .bool (mkO k), .func (.func F) #[] #[]] 137) = W at *
    first
    | (go_region_with (go_at_call 124; refine (HW.out _).mono ?_; rintro e w6 ⟨rfl, hB6⟩
                       have kk1 := (hB6.cell (p := ⟨CB, 0, none⟩) L.out.1).trans k1))
    | fail "one"
    all_goals go_wp2
    all_goals go_ret
    all_goals exact ⟨ret_bl HR.out.symm, HB.out.drew.trans (hB6.mono HB.out.size)⟩
  · have HR : Hid (isW len s k = (s.toList == (sgO k).toList)) := Lib.hid (by simp [isW, ht])
    have ht2 : decide ((len : Int) ≥ wdO (mkO k)) = true := ht
    have ht3 : wdO (mkO k) ≤ (len : Int) := by simpa using ht
    go_enter Tryz.func123, Tryz.ntmps123
    go_wp2_with fail
    generalize w.alloc (.cells #[.string (sgO k), .bool (mkO k), .func (.func F) #[] #[]] 137) = W at *
    first
    | (go_region_with (go_at_call 124; refine (HW.out _).mono ?_; rintro e w6 ⟨rfl, hB6⟩
                       have kk1 := (hB6.cell (p := ⟨CB, 0, none⟩) L.out.1).trans k1
                       have kk2 := (hB6.cell (p := ⟨b, o + 1, none⟩) L.out.2).trans k2
                       have cc0 := (RowC.below (w := W.drew) R0.out hB6 R0.out.lt).cell 0 (.string (sgO k)) rfl))
    | fail "two"
    all_goals go_wp2
    all_goals go_ret
    all_goals exact ⟨ret_bl HR.out.symm, HB.out.drew.trans (hB6.mono HB.out.size)⟩
/-- What a look for the operator of a second word gives. -/
theorem find_word_d (len cap b o j CB : Nat) (hj : j < 7) (hw : wdO (mkO j) ≤ (len : Int)) (hlen : 3 ≤ len) (w : World) (h1 : w.cell? ⟨CB, 0, none⟩ = some (.slice (some ⟨b, o, none⟩) len cap)) (h2 : w.cell? ⟨b, o + 1, none⟩ = some (.string (sgO j))) :
    Calls Tryz.prog 84 #[.func (.func 123) #[] #[.pointer (some ⟨CB, 0, none⟩)]] w fun e w' => e = .returned (.tuple #[.int .i64 ((j : Int) + 1), .agg (opA j), .bool true]) ∧ Below w.heap.size w w' := by
  have l1 := World.block_lt_of_cell? _ _ h1
  have l2 := World.block_lt_of_cell? _ _ h2
  refine (find_read CB (isW len (sgO j)) w fun wr hwr k hk => read1_d _ len cap b o (sgO j) CB k hk hlen wr ((hwr.cell (p := ⟨CB, 0, none⟩) l1).trans h1) ((hwr.cell (p := ⟨b, o + 1, none⟩) l2).trans h2)).mono ?_
  rintro e w' ⟨h | h, hB⟩
  · obtain ⟨i, hi7, hi, _, he⟩ := h
    rw [isW_is hj hw i hi7] at hi
    obtain rfl : i = j := by simpa using hi
    exact ⟨he, hB⟩
  · have := h.1 j hj
    rw [isW_is hj hw j hj] at this
    simp at this

set_option maxRecDepth 100000 in
set_option maxHeartbeats 8000000 in
theorem readD_3 (i : Nat) (hi : i < 6) (j : Nat) (hj : j < 6) (v : Nat) (s2 : ByteArray) (hn2 : NumD s2 v) (b o len cap : Nat) (hlen : 3 ≤ len) (w : World) (ht : TabP w) (c0 : w.cell? ⟨b, o, none⟩ = some (.string (argW i))) (c1 : w.cell? ⟨b, o + 1, none⟩ = some (.string (sgO j))) (c2 : w.cell? ⟨b, o + 2, none⟩ = some (.string s2)) :
    Calls Tryz.prog 95 #[.slice (some ⟨b, o, none⟩) len cap] w fun e w' => e = .returned (.tuple #[.agg (condA i ((j : Nat) + 1 : Int) 0 v), .int .i64 3, .int .i64 0]) ∧ Below w.heap.size w w' := by
  have lb := World.block_lt_of_cell? _ _ c0
  replace lb : b < w.heap.size := lb
  obtain ⟨W0, hW0⟩ : ∃ W, (w.alloc (.cells #[.slice (some ⟨b, o, none⟩) len cap] 83)).alloc (.cells zC 53) = W := ⟨_, rfl⟩
  have hb0 : Below w.heap.size w W0 := by rw [← hW0]; exact ((Below.refl _ _).alloc (Nat.le_refl _) _).alloc (by simp) _
  have rb : RowC W0 w.heap.size #[.slice (some ⟨b, o, none⟩) len cap] 83 := by rw [← hW0]; exact (RowC.new _ _ _ _ rfl).alloc _
  have r2 : RowC W0 (w.heap.size + 1) zC 53 := by rw [← hW0]; exact RowC.new _ _ _ _ (by simp)
  have kb := rb.cell 0 (.slice (some ⟨b, o, none⟩) len cap) rfl
  have k0 := (hb0.cell (p := ⟨b, o, none⟩) lb).trans c0
  have k1 := (hb0.cell (p := ⟨b, o + 1, none⟩) lb).trans c1
  have KB := Lib.hid kb
  have K1 := Lib.hid k1
  have K2 := Lib.hid ((hb0.cell (p := ⟨b, o + 2, none⟩) lb).trans c2)
  have HT := Lib.hid (tab_on ht hb0 (Nat.le_refl _))
  have HB0 := Lib.hid hb0
  have RB := Lib.hid rb
  have R2 := Lib.hid r2
  have HA := Lib.hid (argument_ok i hi W0)
  have LB := Lib.hid lb
  have i0 : (0 : Int) < (len : Int) := by omega
  have i1 : (1 : Int) < (len : Int) := by omega
  have i2 : (2 : Int) < (len : Int) := by omega
  have ie : ((len : Int) == 0) = false := by simp; omega
  have hlt := hb0.size
  clear kb k1 ht hb0 rb r2 c0 c1 c2
  have HW0 := Lib.hid hW0
  have hFW := Lib.hid fun (w1 : World) (hB1 : Below W0.heap.size W0 w1) => find_word_d len cap b o j w.heap.size (by omega) (by (rw [show mkO j = false by (simp [mkO]; omega)]; show (3 : Int) ≤ _; omega)) (by omega) w1 ((hB1.cell (p := ⟨w.heap.size, 0, none⟩) RB.out.lt).trans KB.out) ((hB1.cell (p := ⟨b, o + 1, none⟩) (Nat.lt_of_lt_of_le lb hlt)).trans K1.out)
  have lb0 := Lib.hid (Nat.lt_of_lt_of_le lb hlt)
  clear lb hlt
  have k0' := k0
  rw [← hW0] at k0'
  have kb' : ((w.alloc (.cells #[.slice (some ⟨b, o, none⟩) len cap] 83)).alloc (.cells zC 53)).cell? ⟨w.heap.size, 0, none⟩ = some (.slice (some ⟨b, o, none⟩) len cap) := by rw [hW0]; exact KB.out
  clear hW0 k0
  go_enter Tryz.func95, Tryz.ntmps95
  go_wp2_with fail
  rw [HW0.out]
  clear kb' k0'
  refine HA.out.mono ?_
  rintro e w1 ⟨rfl, hB1⟩
  have HB1 := Lib.hid hB1
  clear hB1
  go_wp2_with fail
  refine (hFW.out w1 HB1.out).mono ?_
  rintro e w2 ⟨rfl, hB2⟩
  obtain ⟨F, hkm⟩ := fnO_func j
  simp only [opA, hkm]
  rw [show mkO j = false by (simp [mkO]; omega)]
  have hs1 := HB1.out.size
  have hs2 := hB2.size
  have hB02 : Below W0.heap.size W0 w2 := HB1.out.trans (hB2.mono hs1)
  obtain ⟨V, hV⟩ : ∃ V, (w2.alloc (.cells #[.string (sgO j), .bool false, .func (.func F) #[] #[]] 137)).alloc (.cells #[.int .i64 i, .int .i64 (((j : Nat) : Int) + 1), .int .u64 0, .int .u64 0] 53) = V := ⟨_, rfl⟩
  have r8 : RowC V w2.heap.size #[.string (sgO j), .bool false, .func (.func F) #[] #[]] 137 := by rw [← hV]; exact (RowC.new _ _ _ _ rfl).alloc _
  have r10 : RowC V (w2.heap.size + 1) #[.int .i64 i, .int .i64 (((j : Nat) : Int) + 1), .int .u64 0, .int .u64 0] 53 := by rw [← hV]; exact RowC.new _ _ _ _ (by simp)
  have hBV : Below W0.heap.size W0 V := by rw [← hV]; exact (hB02.alloc (by omega) _).alloc (by simp; omega) _
  have l8 : w.heap.size + 1 < w2.heap.size := by have := R2.out.lt; omega
  have R8 := Lib.hid r8
  have R10 := Lib.hid r10
  have HBV := Lib.hid hBV
  have L8 := Lib.hid l8
  have m1 := r8.cell 1 (.bool false) rfl
  have m0 := r8.cell 0 (.string (sgO j)) rfl
  have m2 := r8.cell 2 (.func (.func F) #[] #[]) rfl
  have kb := (hBV.cell (p := ⟨w.heap.size, 0, none⟩) RB.out.lt).trans KB.out
  have HV := Lib.hid hV
  have HTV := Lib.hid (tab_on HT.out hBV (Nat.le_refl _))
  have m1' := m1
  rw [← hV] at m1'
  clear r8 r10 hBV l8 hs1 hs2 hB02 hV hB2 hkm
  have hW : ∀ W, Calls Tryz.prog 124 #[.agg #[.string (sgO j), .bool false, .func (.func F) #[] #[]]] W fun e w' => e = .returned (.int .i64 3) ∧ Below W.heap.size W w' := fun W => words_any (sgO j) false F W
  have HW := Lib.hid hW
  clear hW
  have HN := Lib.hid hn2
  have k2 := (HBV.out.cell (p := ⟨b, o + 2, none⟩) lb0.out).trans K2.out
  go_wp2_with fail
  rw [HV.out]
  clear m1'
  have v3 : IntKind.i64.wrap (3 - 1) = 2 := rfl
  have v4 : (3 : Int) - 1 < (len : Int) := by omega
  have v5 : (3 : Int) - 1 = 2 := rfl
  have v6 : (0 : Int) ≤ 2 := by omega
  have v7 : (0 : Int) ≤ 2 ∧ (2 : Int) < (len : Int) := ⟨v6, i2⟩
  have v8 : 2 < len := by omega
  first
  | (go_region_with (first
      | (go_at_call 124; refine (HW.out _).mono ?_; rintro e w6 ⟨rfl, hB6⟩
         have kkb := (hB6.cell (p := ⟨w.heap.size, 0, none⟩) (Nat.lt_of_lt_of_le RB.out.lt HBV.out.size)).trans kb
         have kk2 := (hB6.cell (p := ⟨b, o + 2, none⟩) (Nat.lt_of_lt_of_le lb0.out HBV.out.size)).trans k2
         have HT6 := Lib.hid (tab_on (tab_on HTV.out (Below.refl V.heap.size V).drew (Nat.le_refl _)) hB6 (Nat.le_refl _)))
      | (go_at_call 125; refine (HN.out _ HT6.out).mono ?_; rintro e w7 ⟨rfl, hB7⟩)))
  | fail "fifteen"
  all_goals
    have hs6 : V.heap.size ≤ w6.heap.size := hB6.size
    have hV7 : Below V.heap.size V w7 := ((Below.refl V.heap.size V).drew.trans hB6).trans (hB7.mono hs6)
    have r8 := R8.out.below hV7 R8.out.lt
    have r10 := R10.out.below hV7 R10.out.lt
    have r2 := R2.out.below (HBV.out.trans (hV7.mono HBV.out.size)) R2.out.lt
    have n1 : w.heap.size + 1 ≠ w2.heap.size + 1 := by have := L8.out; omega
    have n2 : w2.heap.size ≠ w2.heap.size + 1 := by omega
    have hb7 : Below w.heap.size w w7 := HB0.out.trans ((HBV.out.trans (hV7.mono HBV.out.size)).mono HB0.out.size)
    have lx := r10.lt
    have ly := r2.lt
    have st3 := r10.cell 3 (.int .u64 0) rfl
    have sf3 := r10.frozen 3
    have Q10 := Lib.hid (r10.set 3 (.int .u64 v))
    have Q8 := Lib.hid (r8.setOther (g := w2.heap.size + 1) 3 (.int .u64 v) n2)
    have Q2 := Lib.hid (r2.setOther (g := w2.heap.size + 1) 3 (.int .u64 v) n1)
    have HB8 := Lib.hid (hb7.setCell (p := ⟨w2.heap.size + 1, 3, none⟩) (by have := L8.out; show w.heap.size ≤ w2.heap.size + 1; omega) (.int .u64 v))
    clear kb k2 m0 m1 m2 hs6 hV7 r8 r10 r2 hb7 n1 n2 hB6 hB7
    go_wp2_with fail
    generalize w7.setCell ⟨w2.heap.size + 1, 3, none⟩ (.int .u64 v) = U at *
    have x0 := Q10.out.cell 0 (.int .i64 i) rfl
    have x1 := Q10.out.cell 1 (.int .i64 (((j : Nat) : Int) + 1)) rfl
    have x2 := Q10.out.cell 2 (.int .u64 0) rfl
    have x3 := Q10.out.cell 3 (.int .u64 v) rfl
    have y0 := Q8.out.cell 0 (.string (sgO j)) rfl
    have y1 := Q8.out.cell 1 (.bool false) rfl
    have y2 := Q8.out.cell 2 (.func (.func F) #[] #[]) rfl
    have z0 := Q2.out.cell 0 (.int .i64 0) rfl
    have z1 := Q2.out.cell 1 (.int .i64 0) rfl
    have z2 := Q2.out.cell 2 (.int .u64 0) rfl
    have z3 := Q2.out.cell 3 (.int .u64 0) rfl
    have g0 := Q2.out.frozen 0
    have g1 := Q2.out.frozen 1
    have g2 := Q2.out.frozen 2
    have g3 := Q2.out.frozen 3
    first
    | (go_region_with (go_at_call 124; refine (HW.out _).mono ?_; rintro e w9 ⟨rfl, hB9⟩
                       try
                        have q10 := RowC.below (w := U.drew) Q10.out hB9 Q10.out.lt
                        have q2 := RowC.below (w := U.drew) Q2.out hB9 Q2.out.lt
                        have xx0 := q10.cell 0 (.int .i64 i) rfl
                        have xx1 := q10.cell 1 (.int .i64 (((j : Nat) : Int) + 1)) rfl
                        have xx2 := q10.cell 2 (.int .u64 0) rfl
                        have xx3 := q10.cell 3 (.int .u64 v) rfl
                        have zz0 := q2.cell 0 (.int .i64 0) rfl
                        have zz1 := q2.cell 1 (.int .i64 0) rfl
                        have zz2 := q2.cell 2 (.int .u64 0) rfl
                        have zz3 := q2.cell 3 (.int .u64 0) rfl
                        have gg0 := q2.frozen 0
                        have gg1 := q2.frozen 1
                        have gg2 := q2.frozen 2
                        have gg3 := q2.frozen 3
                        clear q10 q2))
    | fail "nineteen"
    all_goals go_wp2
    all_goals first
    | (have qq2 := RowC.below (w := U.drew) Q2.out hB9 Q2.out.lt
       have hb9 := HB8.out.drew.trans (hB9.mono HB8.out.size)
       exact bodyPost_ret (results_ctt Tryz.results95 _ _ (w.heap.size + 1) _ _ (0, 0) _ (.int .i64 3) (.int .i64 0) (by rfl) (by rfl) (by rfl) (show RowC _ (w.heap.size + 1) #[.int .i64 i, .int .i64 (((j : Nat) : Int) + 1), .int .u64 0, .int .u64 v] 53 from (((qq2.set 0 (.int .i64 i)).set 1 (.int .i64 (((j : Nat) : Int) + 1))).set 2 (.int .u64 0)).set 3 (.int .u64 v)) Tryz.underlying53 (by rfl) (show _ = some 4 from infoC)) rfl
         ⟨rfl, (((hb9.setCell (Nat.le_succ _) _).setCell (Nat.le_succ _) _).setCell (Nat.le_succ _) _).setCell (Nat.le_succ _) _⟩)
    | (have q2 := (((RowC.set (w := U.drew) Q2.out 0 (.int .i64 i)).set 1 (.int .i64 (((j : Nat) : Int) + 1))).set 2 (.int .u64 0)).set 3 (.int .u64 v)
       have hb9 := (((HB8.out.drew.setCell (p := ⟨w.heap.size + 1, 0, none⟩) (Nat.le_succ _) (.int .i64 i)).setCell (p := ⟨w.heap.size + 1, 1, none⟩) (Nat.le_succ _) (.int .i64 (((j : Nat) : Int) + 1))).setCell (p := ⟨w.heap.size + 1, 2, none⟩) (Nat.le_succ _) (.int .u64 0)).setCell (p := ⟨w.heap.size + 1, 3, none⟩) (Nat.le_succ _) (.int .u64 v)
       exact bodyPost_ret (results_ctt Tryz.results95 _ _ (w.heap.size + 1) _ _ (0, 0) _ (.int .i64 3) (.int .i64 0) (by rfl) (by rfl) (by rfl) (show RowC _ (w.heap.size + 1) #[.int .i64 i, .int .i64 (((j : Nat) : Int) + 1), .int .u64 0, .int .u64 v] 53 from q2.below hB9 q2.lt) Tryz.underlying53 (by rfl) (show _ = some 4 from infoC)) rfl
         ⟨rfl, hb9.trans (hB9.mono hb9.size)⟩)
set_option maxRecDepth 100000 in
set_option maxHeartbeats 8000000 in
theorem readD_5 (i : Nat) (hi : i < 6) (m v : Nat) (s2 s4 : ByteArray) (hn2 : NumD s2 m) (hn4 : NumD s4 v) (b o len cap : Nat) (hlen : 5 ≤ len) (w : World) (ht : TabP w) (c0 : w.cell? ⟨b, o, none⟩ = some (.string (argW i))) (c1 : w.cell? ⟨b, o + 1, none⟩ = some (.string (sgO 6))) (c2 : w.cell? ⟨b, o + 2, none⟩ = some (.string s2)) (c3 : w.cell? ⟨b, o + 3, none⟩ = some (.string ⟨#[61, 61]⟩)) (c4 : w.cell? ⟨b, o + 4, none⟩ = some (.string s4)) :
    Calls Tryz.prog 95 #[.slice (some ⟨b, o, none⟩) len cap] w fun e w' => e = .returned (.tuple #[.agg (condA i 7 m v), .int .i64 5, .int .i64 0]) ∧ Below w.heap.size w w' := by
  have lb := World.block_lt_of_cell? _ _ c0
  replace lb : b < w.heap.size := lb
  obtain ⟨W0, hW0⟩ : ∃ W, (w.alloc (.cells #[.slice (some ⟨b, o, none⟩) len cap] 83)).alloc (.cells zC 53) = W := ⟨_, rfl⟩
  have hb0 : Below w.heap.size w W0 := by rw [← hW0]; exact ((Below.refl _ _).alloc (Nat.le_refl _) _).alloc (by simp) _
  have rb : RowC W0 w.heap.size #[.slice (some ⟨b, o, none⟩) len cap] 83 := by rw [← hW0]; exact (RowC.new _ _ _ _ rfl).alloc _
  have r2 : RowC W0 (w.heap.size + 1) zC 53 := by rw [← hW0]; exact RowC.new _ _ _ _ (by simp)
  have kb := rb.cell 0 (.slice (some ⟨b, o, none⟩) len cap) rfl
  have k0 := (hb0.cell (p := ⟨b, o, none⟩) lb).trans c0
  have k1 := (hb0.cell (p := ⟨b, o + 1, none⟩) lb).trans c1
  have KB := Lib.hid kb
  have K1 := Lib.hid k1
  have K2 := Lib.hid ((hb0.cell (p := ⟨b, o + 2, none⟩) lb).trans c2)
  have K3 := Lib.hid ((hb0.cell (p := ⟨b, o + 3, none⟩) lb).trans c3)
  have K4 := Lib.hid ((hb0.cell (p := ⟨b, o + 4, none⟩) lb).trans c4)
  have HT := Lib.hid (tab_on ht hb0 (Nat.le_refl _))
  have HB0 := Lib.hid hb0
  have RB := Lib.hid rb
  have R2 := Lib.hid r2
  have HA := Lib.hid (argument_ok i hi W0)
  have LB := Lib.hid lb
  have i0 : (0 : Int) < (len : Int) := by omega
  have i1 : (1 : Int) < (len : Int) := by omega
  have i2 : (2 : Int) < (len : Int) := by omega
  have i3 : (3 : Int) < (len : Int) := by omega
  have i4 : (4 : Int) < (len : Int) := by omega
  have ie : ((len : Int) == 0) = false := by simp; omega
  have hlt := hb0.size
  clear kb k1 ht hb0 rb r2 c0 c1 c2 c3 c4
  have HW0 := Lib.hid hW0
  have hFW := Lib.hid fun (w1 : World) (hB1 : Below W0.heap.size W0 w1) => find_word_d len cap b o 6 w.heap.size (by omega) (by (show (5 : Int) ≤ _; omega)) (by omega) w1 ((hB1.cell (p := ⟨w.heap.size, 0, none⟩) RB.out.lt).trans KB.out) ((hB1.cell (p := ⟨b, o + 1, none⟩) (Nat.lt_of_lt_of_le lb hlt)).trans K1.out)
  have lb0 := Lib.hid (Nat.lt_of_lt_of_le lb hlt)
  clear lb hlt
  have k0' := k0
  rw [← hW0] at k0'
  have kb' : ((w.alloc (.cells #[.slice (some ⟨b, o, none⟩) len cap] 83)).alloc (.cells zC 53)).cell? ⟨w.heap.size, 0, none⟩ = some (.slice (some ⟨b, o, none⟩) len cap) := by rw [hW0]; exact KB.out
  clear hW0 k0
  go_enter Tryz.func95, Tryz.ntmps95
  go_wp2_with fail
  rw [HW0.out]
  clear kb' k0'
  refine HA.out.mono ?_
  rintro e w1 ⟨rfl, hB1⟩
  have HB1 := Lib.hid hB1
  clear hB1
  go_wp2_with fail
  refine (hFW.out w1 HB1.out).mono ?_
  rintro e w2 ⟨rfl, hB2⟩
  obtain ⟨F, hkm⟩ := fnO_func 6
  simp only [opA, hkm]
  try rw [show mkO 6 = true by rfl]
  have hs1 := HB1.out.size
  have hs2 := hB2.size
  have hB02 : Below W0.heap.size W0 w2 := HB1.out.trans (hB2.mono hs1)
  obtain ⟨V, hV⟩ : ∃ V, (w2.alloc (.cells #[.string (sgO 6), .bool true, .func (.func F) #[] #[]] 137)).alloc (.cells #[.int .i64 i, .int .i64 7, .int .u64 0, .int .u64 0] 53) = V := ⟨_, rfl⟩
  have r8 : RowC V w2.heap.size #[.string (sgO 6), .bool true, .func (.func F) #[] #[]] 137 := by rw [← hV]; exact (RowC.new _ _ _ _ rfl).alloc _
  have r10 : RowC V (w2.heap.size + 1) #[.int .i64 i, .int .i64 7, .int .u64 0, .int .u64 0] 53 := by rw [← hV]; exact RowC.new _ _ _ _ (by simp)
  have hBV : Below W0.heap.size W0 V := by rw [← hV]; exact (hB02.alloc (by omega) _).alloc (by simp; omega) _
  have l8 : w.heap.size + 1 < w2.heap.size := by have := R2.out.lt; omega
  have R8 := Lib.hid r8
  have R10 := Lib.hid r10
  have HBV := Lib.hid hBV
  have L8 := Lib.hid l8
  have m1 := r8.cell 1 (.bool true) rfl
  have m0 := r8.cell 0 (.string (sgO 6)) rfl
  have m2 := r8.cell 2 (.func (.func F) #[] #[]) rfl
  have kb := (hBV.cell (p := ⟨w.heap.size, 0, none⟩) RB.out.lt).trans KB.out
  have HV := Lib.hid hV
  have HTV := Lib.hid (tab_on HT.out hBV (Nat.le_refl _))
  have m1' := m1
  rw [← hV] at m1'
  clear r8 r10 hBV l8 hs1 hs2 hB02 hV hB2 hkm
  have HN1 := Lib.hid (hn2 V HTV.out)
  have k2 := (HBV.out.cell (p := ⟨b, o + 2, none⟩) lb0.out).trans K2.out
  go_upto_region 11 with fail
  rw [HV.out]
  clear m1' m0 m1 m2
  go_wp2_with fail
  refine HN1.out.mono ?_
  rintro e w3 ⟨rfl, hB3⟩
  have p8 := R8.out.below hB3 R8.out.lt
  have p10 := R10.out.below hB3 R10.out.lt
  have hW3 : Below W0.heap.size W0 w3 := HBV.out.trans (hB3.mono HBV.out.size)
  have hT3 := tab_on HT.out hW3 (Nat.le_refl _)
  have kb3 := (hW3.cell (p := ⟨w.heap.size, 0, none⟩) RB.out.lt).trans KB.out
  have k3 := (hW3.cell (p := ⟨b, o + 3, none⟩) lb0.out).trans K3.out
  have s2 := p10.cell 2 (.int .u64 0) rfl
  have sf2 := p10.frozen 2
  have n2 : w2.heap.size ≠ w2.heap.size + 1 := by omega
  have l10 : W0.heap.size ≤ w2.heap.size + 1 := by
    have h1 : W0.heap.size = w.heap.size + 2 := by rw [← HW0.out]; simp
    have := L8.out
    omega
  obtain ⟨V2, hV2⟩ : ∃ V2, w3.setCell ⟨w2.heap.size + 1, 2, none⟩ (.int .u64 m) = V2 := ⟨_, rfl⟩
  have hBX : Below W0.heap.size W0 V2 := by rw [← hV2]; exact hW3.setCell (p := ⟨w2.heap.size + 1, 2, none⟩) l10 _
  have P8 : Hid (RowC V2 w2.heap.size #[.string (sgO 6), .bool true, .func (.func F) #[] #[]] 137) := Lib.hid (by rw [← hV2]; exact p8.setOther 2 _ n2)
  have P10 : Hid (RowC V2 (w2.heap.size + 1) #[.int .i64 i, .int .i64 7, .int .u64 m, .int .u64 0] 53) := Lib.hid (by rw [← hV2]; exact p10.set 2 (.int .u64 m))
  have HBW := Lib.hid hBX
  have HTW := Lib.hid (tab_on HT.out hBX (Nat.le_refl _))
  have HV2 := Lib.hid hV2
  clear kb k2 p8 p10 hW3 hT3 n2 l10 hBX hV2 hB3
  have hW : ∀ W, Calls Tryz.prog 124 #[.agg #[.string (sgO 6), .bool true, .func (.func F) #[] #[]]] W fun e w' => e = .returned (.int .i64 5) ∧ Below W.heap.size W w' := fun W => words_any (sgO 6) true F W
  have HW := Lib.hid hW
  clear hW
  have HN := Lib.hid hn4
  go_upto_region 15 with fail
  rw [HV2.out]
  clear kb3 k3 s2 sf2
  have kb := (HBW.out.cell (p := ⟨w.heap.size, 0, none⟩) RB.out.lt).trans KB.out
  have k2 := (HBW.out.cell (p := ⟨b, o + 4, none⟩) lb0.out).trans K4.out
  have m0 := P8.out.cell 0 (.string (sgO 6)) rfl
  have m1 := P8.out.cell 1 (.bool true) rfl
  have m2 := P8.out.cell 2 (.func (.func F) #[] #[]) rfl
  have v3 : IntKind.i64.wrap (5 - 1) = 4 := rfl
  have v4 : (5 : Int) - 1 < (len : Int) := by omega
  have v5 : (5 : Int) - 1 = 4 := rfl
  have v6 : (0 : Int) ≤ 4 := by omega
  have v7 : (0 : Int) ≤ 4 ∧ (4 : Int) < (len : Int) := ⟨v6, i4⟩
  have v8 : 4 < len := by omega
  first
  | (go_region_with (first
      | (go_at_call 124; refine (HW.out _).mono ?_; rintro e w6 ⟨rfl, hB6⟩
         have kkb := (hB6.cell (p := ⟨w.heap.size, 0, none⟩) (Nat.lt_of_lt_of_le RB.out.lt HBW.out.size)).trans kb
         have kk2 := (hB6.cell (p := ⟨b, o + 4, none⟩) (Nat.lt_of_lt_of_le lb0.out HBW.out.size)).trans k2
         have HT6 := Lib.hid (tab_on (tab_on HTW.out (Below.refl V2.heap.size V2).drew (Nat.le_refl _)) hB6 (Nat.le_refl _)))
      | (go_at_call 125; refine (HN.out _ HT6.out).mono ?_; rintro e w7 ⟨rfl, hB7⟩)))
  | fail "fifteen"
  all_goals
    have hs6 : V2.heap.size ≤ w6.heap.size := hB6.size
    have hV7 : Below V2.heap.size V2 w7 := ((Below.refl V2.heap.size V2).drew.trans hB6).trans (hB7.mono hs6)
    have r8 := P8.out.below hV7 P8.out.lt
    have r10 := P10.out.below hV7 P10.out.lt
    have r2 := R2.out.below (HBW.out.trans (hV7.mono HBW.out.size)) R2.out.lt
    have n1 : w.heap.size + 1 ≠ w2.heap.size + 1 := by have := L8.out; omega
    have n2 : w2.heap.size ≠ w2.heap.size + 1 := by omega
    have hb7 : Below w.heap.size w w7 := HB0.out.trans ((HBW.out.trans (hV7.mono HBW.out.size)).mono HB0.out.size)
    have lx := r10.lt
    have ly := r2.lt
    have st3 := r10.cell 3 (.int .u64 0) rfl
    have sf3 := r10.frozen 3
    have Q10 := Lib.hid (r10.set 3 (.int .u64 v))
    have Q8 := Lib.hid (r8.setOther (g := w2.heap.size + 1) 3 (.int .u64 v) n2)
    have Q2 := Lib.hid (r2.setOther (g := w2.heap.size + 1) 3 (.int .u64 v) n1)
    have HB8 := Lib.hid (hb7.setCell (p := ⟨w2.heap.size + 1, 3, none⟩) (by have := L8.out; show w.heap.size ≤ w2.heap.size + 1; omega) (.int .u64 v))
    clear kb k2 m0 m1 m2 hs6 hV7 r8 r10 r2 hb7 n1 n2 hB6 hB7
    go_wp2_with fail
    generalize w7.setCell ⟨w2.heap.size + 1, 3, none⟩ (.int .u64 v) = U at *
    have x0 := Q10.out.cell 0 (.int .i64 i) rfl
    have x1 := Q10.out.cell 1 (.int .i64 7) rfl
    have x2 := Q10.out.cell 2 (.int .u64 m) rfl
    have x3 := Q10.out.cell 3 (.int .u64 v) rfl
    have y0 := Q8.out.cell 0 (.string (sgO 6)) rfl
    have y1 := Q8.out.cell 1 (.bool true) rfl
    have y2 := Q8.out.cell 2 (.func (.func F) #[] #[]) rfl
    have z0 := Q2.out.cell 0 (.int .i64 0) rfl
    have z1 := Q2.out.cell 1 (.int .i64 0) rfl
    have z2 := Q2.out.cell 2 (.int .u64 0) rfl
    have z3 := Q2.out.cell 3 (.int .u64 0) rfl
    have g0 := Q2.out.frozen 0
    have g1 := Q2.out.frozen 1
    have g2 := Q2.out.frozen 2
    have g3 := Q2.out.frozen 3
    first
    | (go_region_with (go_at_call 124; refine (HW.out _).mono ?_; rintro e w9 ⟨rfl, hB9⟩
                       try
                        have q10 := RowC.below (w := U.drew) Q10.out hB9 Q10.out.lt
                        have q2 := RowC.below (w := U.drew) Q2.out hB9 Q2.out.lt
                        have xx0 := q10.cell 0 (.int .i64 i) rfl
                        have xx1 := q10.cell 1 (.int .i64 7) rfl
                        have xx2 := q10.cell 2 (.int .u64 m) rfl
                        have xx3 := q10.cell 3 (.int .u64 v) rfl
                        have zz0 := q2.cell 0 (.int .i64 0) rfl
                        have zz1 := q2.cell 1 (.int .i64 0) rfl
                        have zz2 := q2.cell 2 (.int .u64 0) rfl
                        have zz3 := q2.cell 3 (.int .u64 0) rfl
                        have gg0 := q2.frozen 0
                        have gg1 := q2.frozen 1
                        have gg2 := q2.frozen 2
                        have gg3 := q2.frozen 3
                        clear q10 q2))
    | fail "nineteen"
    all_goals go_wp2
    all_goals first
    | (have qq2 := RowC.below (w := U.drew) Q2.out hB9 Q2.out.lt
       have hb9 := HB8.out.drew.trans (hB9.mono HB8.out.size)
       exact bodyPost_ret (results_ctt Tryz.results95 _ _ (w.heap.size + 1) _ _ (0, 0) _ (.int .i64 5) (.int .i64 0) (by rfl) (by rfl) (by rfl) (show RowC _ (w.heap.size + 1) #[.int .i64 i, .int .i64 7, .int .u64 m, .int .u64 v] 53 from (((qq2.set 0 (.int .i64 i)).set 1 (.int .i64 7)).set 2 (.int .u64 m)).set 3 (.int .u64 v)) Tryz.underlying53 (by rfl) (show _ = some 4 from infoC)) rfl
         ⟨rfl, (((hb9.setCell (Nat.le_succ _) _).setCell (Nat.le_succ _) _).setCell (Nat.le_succ _) _).setCell (Nat.le_succ _) _⟩)
    | (have q2 := (((RowC.set (w := U.drew) Q2.out 0 (.int .i64 i)).set 1 (.int .i64 7)).set 2 (.int .u64 m)).set 3 (.int .u64 v)
       have hb9 := (((HB8.out.drew.setCell (p := ⟨w.heap.size + 1, 0, none⟩) (Nat.le_succ _) (.int .i64 i)).setCell (p := ⟨w.heap.size + 1, 1, none⟩) (Nat.le_succ _) (.int .i64 7)).setCell (p := ⟨w.heap.size + 1, 2, none⟩) (Nat.le_succ _) (.int .u64 m)).setCell (p := ⟨w.heap.size + 1, 3, none⟩) (Nat.le_succ _) (.int .u64 v)
       exact bodyPost_ret (results_ctt Tryz.results95 _ _ (w.heap.size + 1) _ _ (0, 0) _ (.int .i64 5) (.int .i64 0) (by rfl) (by rfl) (by rfl) (show RowC _ (w.heap.size + 1) #[.int .i64 i, .int .i64 7, .int .u64 m, .int .u64 v] 53 from q2.below hB9 q2.lt) Tryz.underlying53 (by rfl) (show _ = some 4 from infoC)) rfl
         ⟨rfl, hb9.trans (hB9.mono hb9.size)⟩)
end Go.Proofs.YtccklmleaffgiaaGreatDoor
