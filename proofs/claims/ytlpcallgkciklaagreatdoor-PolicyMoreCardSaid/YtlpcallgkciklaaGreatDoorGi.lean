/-
  The contract of cond.Read at a right condition's words.
-/
import Derived.Test.YtlpcallgkciklaaGreatDoorGh
import Derived.RegionTactic
namespace Go.Proofs.YtlpcallgkciklaaGreatDoor
open Go.Shelf Go.RowKit
set_option linter.unusedVariables false

theorem results_ctt {P : Program} {fn : Func} {p q r : Tmp} {ty : TypeId} (h : fn.results = #[.cell p ty, .tmp q, .tmp r]) (tmps : Array Value) (w : World) (g : Nat) (t : TypeId) (cs : Array Value) (fr : Nat × Nat) (d : TypeDesc) (u v : Value)
    (hp : tmps.getD p undef = .pointer (some ⟨g, 0, none⟩)) (hq : tmps.getD q undef = u) (hr : tmps.getD r undef = v) (hg : w.heap[g]? = some (.cells cs t fr))
    (hu : P.underlying ty = some d) (hd : (match d with | .struct _ | .array _ _ => true | _ => false) = true) (hi : (P.info? ty).map (·.size) = some cs.size) :
    (results fn tmps).run P w = .ok (.tuple #[.agg cs, u, v]) w := by
  have hp' : tmps[p]?.getD undef = .pointer (some ⟨g, 0, none⟩) := by simpa using hp
  have hq' : tmps[q]?.getD undef = u := by simpa using hq
  have hr' : tmps[r]?.getD undef = v := by simpa using hr
  simp [results, h, hp', hq', hr', asAddr, run_loadVar_row w g t ty cs fr d hg hu hd hi, Result.andThen]
theorem infoC : (Tryz.prog.info? 62).map (·.size) = some 4 := by kernel_rfl
abbrev zC : Array Value := #[.int .i64 0, .int .i64 0, .int .u64 0, .int .u64 0]
/-- What a look for the operator of a second word gives. -/
theorem find_word (len cap b j CB : Nat) (hj : j < 7) (hw : wdO (mkO j) ≤ (len : Int)) (hlen : 3 ≤ len) (w : World) (h1 : w.cell? ⟨CB, 0, none⟩ = some (.slice (some ⟨b, 0, none⟩) len cap)) (h2 : w.cell? ⟨b, 1, none⟩ = some (.string (sgO j))) :
    Calls Tryz.prog 106 #[.func (.func 144) #[] #[.pointer (some ⟨CB, 0, none⟩)]] w fun e w' => e = .returned (.tuple #[.int .i64 ((j : Int) + 1), .agg (opA j), .bool true]) ∧ Below w.heap.size w w' := by
  have l1 := World.block_lt_of_cell? _ _ h1
  have l2 := World.block_lt_of_cell? _ _ h2
  refine (find_read CB (isW len (sgO j)) w fun wr hwr k hk => read1_any _ len cap b (sgO j) CB k hk hlen wr ((hwr.cell (p := ⟨CB, 0, none⟩) l1).trans h1) ((hwr.cell (p := ⟨b, 1, none⟩) l2).trans h2)).mono ?_
  rintro e w' ⟨h | h, hB⟩
  · obtain ⟨i, hi7, hi, _, he⟩ := h
    rw [isW_is hj hw i hi7] at hi
    obtain rfl : i = j := by simpa using hi
    exact ⟨he, hB⟩
  · have := h.1 j hj
    rw [isW_is hj hw j hj] at this
    simp at this

set_option maxRecDepth 100000 in
set_option maxHeartbeats 8000000 in
theorem read3_ok (i : Nat) (hi : i < 6) (j : Nat) (hj : j < 6) (v : Nat) (hv : v < 18446744073709551616) (b len cap : Nat) (hlen : 3 ≤ len) (w : World) (ht : TabP w) (c0 : w.cell? ⟨b, 0, none⟩ = some (.string (argW i))) (c1 : w.cell? ⟨b, 1, none⟩ = some (.string (sgO j))) (c2 : w.cell? ⟨b, 2, none⟩ = some (.string (dec v))) :
    Calls Tryz.prog 114 #[.slice (some ⟨b, 0, none⟩) len cap] w fun e w' => e = .returned (.tuple #[.agg (condA i ((j : Nat) + 1 : Int) 0 v), .int .i64 3, .int .i64 0]) ∧ Below w.heap.size w w' := by
  have lb := World.block_lt_of_cell? _ _ c0
  replace lb : b < w.heap.size := lb
  obtain ⟨W0, hW0⟩ : ∃ W, (w.alloc (.cells #[.slice (some ⟨b, 0, none⟩) len cap] 95)).alloc (.cells zC 62) = W := ⟨_, rfl⟩
  have hb0 : Below w.heap.size w W0 := by rw [← hW0]; exact ((Below.refl _ _).alloc (Nat.le_refl _) _).alloc (by simp) _
  have rb : RowC W0 w.heap.size #[.slice (some ⟨b, 0, none⟩) len cap] 95 := by rw [← hW0]; exact (RowC.new _ _ _ _ rfl).alloc _
  have r2 : RowC W0 (w.heap.size + 1) zC 62 := by rw [← hW0]; exact RowC.new _ _ _ _ (by simp)
  have kb := rb.cell 0 (.slice (some ⟨b, 0, none⟩) len cap) rfl
  have k0 := (hb0.cell (p := ⟨b, 0, none⟩) lb).trans c0
  have k1 := (hb0.cell (p := ⟨b, 1, none⟩) lb).trans c1
  have KB := Lib.hid kb
  have K1 := Lib.hid k1
  have K2 := Lib.hid ((hb0.cell (p := ⟨b, 2, none⟩) lb).trans c2)
  have HT := Lib.hid (tab_on ht hb0 (Nat.le_refl _))
  have HB0 := Lib.hid hb0
  have RB := Lib.hid rb
  have R2 := Lib.hid r2
  have HA := Lib.hid (argument_ok i hi W0)
  have LB := Lib.hid lb
  have i0 : (0 : Int) < (len : Int) := by omega
  have i1 : (1 : Int) < (len : Int) := by omega
  have i2 : (2 : Int) < (len : Int) := by omega
  have ie : ((len : Int) == 0) = false := by simp; omega
  have hlt := hb0.size
  clear kb k1 ht hb0 rb r2 c0 c1 c2
  have HW0 := Lib.hid hW0
  have hFW := Lib.hid fun (w1 : World) (hB1 : Below W0.heap.size W0 w1) => find_word len cap b j w.heap.size (by omega) (by (rw [show mkO j = false by (simp [mkO]; omega)]; show (3 : Int) ≤ _; omega)) (by omega) w1 ((hB1.cell (p := ⟨w.heap.size, 0, none⟩) RB.out.lt).trans KB.out) ((hB1.cell (p := ⟨b, 1, none⟩) (Nat.lt_of_lt_of_le lb hlt)).trans K1.out)
  have lb0 := Lib.hid (Nat.lt_of_lt_of_le lb hlt)
  clear lb hlt
  have k0' := k0
  rw [← hW0] at k0'
  have kb' : ((w.alloc (.cells #[.slice (some ⟨b, 0, none⟩) len cap] 95)).alloc (.cells zC 62)).cell? ⟨w.heap.size, 0, none⟩ = some (.slice (some ⟨b, 0, none⟩) len cap) := by rw [hW0]; exact KB.out
  clear hW0 k0
  go_enter Tryz.func114, Tryz.ntmps114
  go_wp2_with fail
  rw [HW0.out]
  clear kb' k0'
  refine HA.out.mono ?_
  rintro e w1 ⟨rfl, hB1⟩
  have HB1 := Lib.hid hB1
  clear hB1
  go_wp2_with fail
  refine (hFW.out w1 HB1.out).mono ?_
  rintro e w2 ⟨rfl, hB2⟩
  obtain ⟨F, hkm⟩ := fnO_func j
  simp only [opA, hkm]
  rw [show mkO j = false by (simp [mkO]; omega)]
  have hs1 := HB1.out.size
  have hs2 := hB2.size
  have hB02 : Below W0.heap.size W0 w2 := HB1.out.trans (hB2.mono hs1)
  obtain ⟨V, hV⟩ : ∃ V, (w2.alloc (.cells #[.string (sgO j), .bool false, .func (.func F) #[] #[]] 165)).alloc (.cells #[.int .i64 i, .int .i64 (((j : Nat) : Int) + 1), .int .u64 0, .int .u64 0] 62) = V := ⟨_, rfl⟩
  have r8 : RowC V w2.heap.size #[.string (sgO j), .bool false, .func (.func F) #[] #[]] 165 := by rw [← hV]; exact (RowC.new _ _ _ _ rfl).alloc _
  have r10 : RowC V (w2.heap.size + 1) #[.int .i64 i, .int .i64 (((j : Nat) : Int) + 1), .int .u64 0, .int .u64 0] 62 := by rw [← hV]; exact RowC.new _ _ _ _ (by simp)
  have hBV : Below W0.heap.size W0 V := by rw [← hV]; exact (hB02.alloc (by omega) _).alloc (by simp; omega) _
  have l8 : w.heap.size + 1 < w2.heap.size := by have := R2.out.lt; omega
  have R8 := Lib.hid r8
  have R10 := Lib.hid r10
  have HBV := Lib.hid hBV
  have L8 := Lib.hid l8
  have m1 := r8.cell 1 (.bool false) rfl
  have m0 := r8.cell 0 (.string (sgO j)) rfl
  have m2 := r8.cell 2 (.func (.func F) #[] #[]) rfl
  have kb := (hBV.cell (p := ⟨w.heap.size, 0, none⟩) RB.out.lt).trans KB.out
  have HV := Lib.hid hV
  have HTV := Lib.hid (tab_on HT.out hBV (Nat.le_refl _))
  have m1' := m1
  rw [← hV] at m1'
  clear r8 r10 hBV l8 hs1 hs2 hB02 hV hB2 hkm
  have hW : ∀ W, Calls Tryz.prog 145 #[.agg #[.string (sgO j), .bool false, .func (.func F) #[] #[]]] W fun e w' => e = .returned (.int .i64 3) ∧ Below W.heap.size W w' := fun W => words_any (sgO j) false F W
  have HW := Lib.hid hW
  clear hW
  have HN := Lib.hid fun W hW => number_dec v hv W hW
  have k2 := (HBV.out.cell (p := ⟨b, 2, none⟩) lb0.out).trans K2.out
  go_wp2_with fail
  rw [HV.out]
  clear m1'
  have v3 : IntKind.i64.wrap (3 - 1) = 2 := rfl
  have v4 : (3 : Int) - 1 < (len : Int) := by omega
  have v5 : (3 : Int) - 1 = 2 := rfl
  have v6 : (0 : Int) ≤ 2 := by omega
  have v7 : (0 : Int) ≤ 2 ∧ (2 : Int) < (len : Int) := ⟨v6, i2⟩
  have v8 : 2 < len := by omega
  first
  | (go_region_with (first
      | (go_at_call 145; refine (HW.out _).mono ?_; rintro e w6 ⟨rfl, hB6⟩
         have kkb := (hB6.cell (p := ⟨w.heap.size, 0, none⟩) (Nat.lt_of_lt_of_le RB.out.lt HBV.out.size)).trans kb
         have kk2 := (hB6.cell (p := ⟨b, 2, none⟩) (Nat.lt_of_lt_of_le lb0.out HBV.out.size)).trans k2
         have HT6 := Lib.hid (tab_on (tab_on HTV.out (Below.refl V.heap.size V).drew (Nat.le_refl _)) hB6 (Nat.le_refl _)))
      | (go_at_call 146; refine (HN.out _ HT6.out).mono ?_; rintro e w7 ⟨rfl, hB7⟩)))
  | fail "fifteen"
  all_goals
    have hs6 : V.heap.size ≤ w6.heap.size := hB6.size
    have hV7 : Below V.heap.size V w7 := ((Below.refl V.heap.size V).drew.trans hB6).trans (hB7.mono hs6)
    have r8 := R8.out.below hV7 R8.out.lt
    have r10 := R10.out.below hV7 R10.out.lt
    have r2 := R2.out.below (HBV.out.trans (hV7.mono HBV.out.size)) R2.out.lt
    have n1 : w.heap.size + 1 ≠ w2.heap.size + 1 := by have := L8.out; omega
    have n2 : w2.heap.size ≠ w2.heap.size + 1 := by omega
    have hb7 : Below w.heap.size w w7 := HB0.out.trans ((HBV.out.trans (hV7.mono HBV.out.size)).mono HB0.out.size)
    have lx := r10.lt
    have ly := r2.lt
    have st3 := r10.cell 3 (.int .u64 0) rfl
    have sf3 := r10.frozen 3
    have Q10 := Lib.hid (r10.set 3 (.int .u64 v))
    have Q8 := Lib.hid (r8.setOther (g := w2.heap.size + 1) 3 (.int .u64 v) n2)
    have Q2 := Lib.hid (r2.setOther (g := w2.heap.size + 1) 3 (.int .u64 v) n1)
    have HB8 := Lib.hid (hb7.setCell (p := ⟨w2.heap.size + 1, 3, none⟩) (by have := L8.out; show w.heap.size ≤ w2.heap.size + 1; omega) (.int .u64 v))
    clear kb k2 m0 m1 m2 hs6 hV7 r8 r10 r2 hb7 n1 n2 hB6 hB7
    go_wp2_with fail
    generalize w7.setCell ⟨w2.heap.size + 1, 3, none⟩ (.int .u64 v) = U at *
    have x0 := Q10.out.cell 0 (.int .i64 i) rfl
    have x1 := Q10.out.cell 1 (.int .i64 (((j : Nat) : Int) + 1)) rfl
    have x2 := Q10.out.cell 2 (.int .u64 0) rfl
    have x3 := Q10.out.cell 3 (.int .u64 v) rfl
    have y0 := Q8.out.cell 0 (.string (sgO j)) rfl
    have y1 := Q8.out.cell 1 (.bool false) rfl
    have y2 := Q8.out.cell 2 (.func (.func F) #[] #[]) rfl
    have z0 := Q2.out.cell 0 (.int .i64 0) rfl
    have z1 := Q2.out.cell 1 (.int .i64 0) rfl
    have z2 := Q2.out.cell 2 (.int .u64 0) rfl
    have z3 := Q2.out.cell 3 (.int .u64 0) rfl
    have g0 := Q2.out.frozen 0
    have g1 := Q2.out.frozen 1
    have g2 := Q2.out.frozen 2
    have g3 := Q2.out.frozen 3
    first
    | (go_region_with (go_at_call 145; refine (HW.out _).mono ?_; rintro e w9 ⟨rfl, hB9⟩
                       try
                        have q10 := RowC.below (w := U.drew) Q10.out hB9 Q10.out.lt
                        have q2 := RowC.below (w := U.drew) Q2.out hB9 Q2.out.lt
                        have xx0 := q10.cell 0 (.int .i64 i) rfl
                        have xx1 := q10.cell 1 (.int .i64 (((j : Nat) : Int) + 1)) rfl
                        have xx2 := q10.cell 2 (.int .u64 0) rfl
                        have xx3 := q10.cell 3 (.int .u64 v) rfl
                        have zz0 := q2.cell 0 (.int .i64 0) rfl
                        have zz1 := q2.cell 1 (.int .i64 0) rfl
                        have zz2 := q2.cell 2 (.int .u64 0) rfl
                        have zz3 := q2.cell 3 (.int .u64 0) rfl
                        have gg0 := q2.frozen 0
                        have gg1 := q2.frozen 1
                        have gg2 := q2.frozen 2
                        have gg3 := q2.frozen 3
                        clear q10 q2))
    | fail "nineteen"
    all_goals go_wp2
    all_goals first
    | (have qq2 := RowC.below (w := U.drew) Q2.out hB9 Q2.out.lt
       have hb9 := HB8.out.drew.trans (hB9.mono HB8.out.size)
       exact bodyPost_ret (results_ctt Tryz.results114 _ _ (w.heap.size + 1) _ _ (0, 0) _ (.int .i64 3) (.int .i64 0) (by rfl) (by rfl) (by rfl) (show RowC _ (w.heap.size + 1) #[.int .i64 i, .int .i64 (((j : Nat) : Int) + 1), .int .u64 0, .int .u64 v] 62 from (((qq2.set 0 (.int .i64 i)).set 1 (.int .i64 (((j : Nat) : Int) + 1))).set 2 (.int .u64 0)).set 3 (.int .u64 v)) Tryz.underlying62 (by rfl) (show _ = some 4 from infoC)) rfl
         ⟨rfl, (((hb9.setCell (Nat.le_succ _) _).setCell (Nat.le_succ _) _).setCell (Nat.le_succ _) _).setCell (Nat.le_succ _) _⟩)
    | (have q2 := (((RowC.set (w := U.drew) Q2.out 0 (.int .i64 i)).set 1 (.int .i64 (((j : Nat) : Int) + 1))).set 2 (.int .u64 0)).set 3 (.int .u64 v)
       have hb9 := (((HB8.out.drew.setCell (p := ⟨w.heap.size + 1, 0, none⟩) (Nat.le_succ _) (.int .i64 i)).setCell (p := ⟨w.heap.size + 1, 1, none⟩) (Nat.le_succ _) (.int .i64 (((j : Nat) : Int) + 1))).setCell (p := ⟨w.heap.size + 1, 2, none⟩) (Nat.le_succ _) (.int .u64 0)).setCell (p := ⟨w.heap.size + 1, 3, none⟩) (Nat.le_succ _) (.int .u64 v)
       exact bodyPost_ret (results_ctt Tryz.results114 _ _ (w.heap.size + 1) _ _ (0, 0) _ (.int .i64 3) (.int .i64 0) (by rfl) (by rfl) (by rfl) (show RowC _ (w.heap.size + 1) #[.int .i64 i, .int .i64 (((j : Nat) : Int) + 1), .int .u64 0, .int .u64 v] 62 from q2.below hB9 q2.lt) Tryz.underlying62 (by rfl) (show _ = some 4 from infoC)) rfl
         ⟨rfl, hb9.trans (hB9.mono hb9.size)⟩)
end Go.Proofs.YtlpcallgkciklaaGreatDoor
