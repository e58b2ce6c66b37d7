/-
  systab.Name and Sub of any table.
-/
import Derived.Test.YtcmdmnnkbliggaaGreatDoorMs
import Derived.Deep.Cut
namespace Go.Proofs.YtcmdmnnkbliggaaGreatDoor
open Go.RowKit
set_option linter.unusedVariables false

set_option maxRecDepth 100000 in
set_option maxHeartbeats 8000000 in
theorem find_num (A : Option Addr) (n cap : Nat) (T : Nat → SR) (c0 c1 : Nat) (P : Nat → Bool) (w : World) (hn : n ≤ 1000000) (ht : TbA w A n T) (hcl : ∀ (wr : World), Below w.heap.size w wr → ∀ (k : Nat), k < n → Calls Tryz.prog 165 #[.int .i64 k, .agg (srow (T k)), .pointer (some ⟨c0, 0, none⟩), .pointer (some ⟨c1, 0, none⟩)] wr fun e w' => e = .returned (.bool (P k)) ∧ Below wr.heap.size wr w') :
    Calls Tryz.prog 124 #[.slice A n cap, .func (.func 165) #[] #[.pointer (some ⟨c0, 0, none⟩), .pointer (some ⟨c1, 0, none⟩)]] w (FindT P T n w) := by
  have HP := Lib.hid hcl
  have HT := Lib.hid ht
  have r0 : RowC (w.alloc (.cells sr0 114)) w.heap.size sr0 114 := RowC.new _ _ _ _ rfl
  have hb0 : Below w.heap.size w (w.alloc (.cells sr0 114)) := (Below.refl _ _).alloc (Nat.le_refl _) _
  have HB0 := Lib.hid hb0
  clear hcl ht hb0
  go_enter Tryz.func124, Tryz.ntmps124
  go_wp2_with fail
  go_loopw [11] (fun i wr => ∃ k : Nat, k ≤ n ∧ i = .int .i64 k ∧ (∀ i, i < k → P i = false) ∧ RowC wr w.heap.size sr0 114 ∧ Below w.heap.size w wr)
    (fun i _ => n - (intOf i).toNat)
  case atStart => exact ⟨0, by omega, rfl, fun i h => by omega, r0, HB0.out⟩
  case round =>
    clear r0
    obtain ⟨k, hk, rfl, hno, g0, hB⟩ := hrel
    have HNO := Lib.hid hno
    have HG0 := Lib.hid g0
    have HBW := Lib.hid hB
    have hs := hB.size
    clear hno
    by_cases hlt : k < n
    · obtain ⟨b, o, rfl, hTb⟩ := (HT.out.below hB (Nat.le_refl _)).at_ hlt
      obtain ⟨q0, q1, q2, q3, q4, q5, q6, q7⟩ := hTb.2 k hlt
      clear hTb
      have i1 : (0 : Int) ≤ (k : Int) := by omega
      have i2 : (k : Int) < (n : Int) := by omega
      have hBa : Below w.heap.size w (wr.alloc (.cells #[.string (T k).nm, .int .i64 (T k).n0, .int .i64 (T k).n1, .int .i64 (T k).n2, .int .i64 (T k).n3, .int .i64 (T k).n4, .int .i64 (T k).mx, .int .i64 (T k).sb] 114)) := hB.alloc hs _
      have HCL := Lib.hid (HP.out (wr.alloc (.cells #[.string (T k).nm, .int .i64 (T k).n0, .int .i64 (T k).n1, .int .i64 (T k).n2, .int .i64 (T k).n3, .int .i64 (T k).n4, .int .i64 (T k).mx, .int .i64 (T k).sb] 114)) hBa k hlt)
      have HBA := Lib.hid hBa
      have ha := RowC.new wr #[.string (T k).nm, .int .i64 (T k).n0, .int .i64 (T k).n1, .int .i64 (T k).n2, .int .i64 (T k).n3, .int .i64 (T k).n4, .int .i64 (T k).mx, .int .i64 (T k).sb] 114 _ rfl
      have HA := Lib.hid ha
      have HGA := Lib.hid (g0.alloc (.cells #[.string (T k).nm, .int .i64 (T k).n0, .int .i64 (T k).n1, .int .i64 (T k).n2, .int .i64 (T k).n3, .int .i64 (T k).n4, .int .i64 (T k).mx, .int .i64 (T k).sb] 114))
      clear hB hBa ha g0
      go_wp2_with fail
      refine HCL.out.mono ?_
      rintro e w5 ⟨rfl, hB5⟩
      cases hp : P k
      · have HPK := Lib.hid hp
        clear hp
        have hg5 := Lib.hid (HGA.out.below hB5 HGA.out.lt)
        have hb5 := Lib.hid (HBA.out.trans (hB5.mono HBA.out.size))
        clear hB5 HA HGA HCL
        go_wp2
        exact ⟨⟨k + 1, by omega, by go_num, fun i hi => by
          by_cases h : i = k
          · subst h; exact HPK.out
          · exact HNO.out i (by omega), hg5.out, hb5.out⟩, by simp [intOf]; omega⟩
      · have HPK := Lib.hid hp
        clear hp
        have r3 := HGA.out.below hB5 HGA.out.lt
        have r6 := HA.out.below hB5 HA.out.lt
        have HB6 := Lib.hid (HBA.out.trans (hB5.mono HBA.out.size))
        have R3 := Lib.hid r3
        have d0 := r6.cell 0 (.string (T k).nm) rfl
        have d1 := r6.cell 1 (.int .i64 (T k).n0) rfl
        have d2 := r6.cell 2 (.int .i64 (T k).n1) rfl
        have d3 := r6.cell 3 (.int .i64 (T k).n2) rfl
        have d4 := r6.cell 4 (.int .i64 (T k).n3) rfl
        have d5 := r6.cell 5 (.int .i64 (T k).n4) rfl
        have d6 := r6.cell 6 (.int .i64 (T k).mx) rfl
        have d7 := r6.cell 7 (.int .i64 (T k).sb) rfl
        clear hB5 r3 r6
        go_wp2_with (refine wpList_store_row (by rfl) 114 _ _ (by rfl) w.heap.size #[.string (T k).nm, .int .i64 (T k).n0, .int .i64 (T k).n1, .int .i64 (T k).n2, .int .i64 (T k).n3, .int .i64 (T k).n4, .int .i64 (T k).mx, .int .i64 (T k).sb] (by rfl) (by rfl) _ _ R3.out (show _ = some 8 from infoSR) (by rfl) (by simp [Value.oneCell']) ?_)
        refine bodyPost_ret (results_ctS Tryz.results124 _ _ w.heap.size _ #[.string (T k).nm, .int .i64 (T k).n0, .int .i64 (T k).n1, .int .i64 (T k).n2, .int .i64 (T k).n3, .int .i64 (T k).n4, .int .i64 (T k).mx, .int .i64 (T k).sb] (0, 0) _ (.int .i64 k) (.bool true) (by rfl) (by rfl) (by rfl) (setRow_heap _ _ _ _ _ _ R3.out) Tryz.underlying114 (by rfl) (show _ = some 8 from infoSR)) rfl ?_
        exact ⟨.inl ⟨k, hlt, HPK.out, HNO.out, rfl⟩, below_setRow HB6.out (Nat.le_refl _) _⟩
    · obtain rfl : k = n := by omega
      clear hB g0
      go_wp2_with (refine wpList_store_row (by rfl) 114 _ _ (by rfl) w.heap.size sr0 (by rfl) (by rfl) _ _ HG0.out (show _ = some sr0.size from infoSR) (by rfl) (by simp [Value.oneCell']) ?_)
      refine bodyPost_ret (results_ctS Tryz.results124 _ _ w.heap.size _ sr0 (0, 0) _ (.int .i64 0) (.bool false) (by rfl) (by rfl) (by rfl) (setRow_heap _ _ _ _ _ _ HG0.out) Tryz.underlying114 (by rfl) (show _ = some sr0.size from infoSR)) rfl ?_
      exact ⟨.inr ⟨HNO.out, rfl⟩, below_setRow HBW.out (Nat.le_refl _) _⟩

set_option maxRecDepth 100000 in
set_option maxHeartbeats 8000000 in
theorem find_sub (A : Option Addr) (n cap : Nat) (T : Nat → SR) (c0 c1 : Nat) (P : Nat → Bool) (w : World) (hn : n ≤ 1000000) (ht : TbA w A n T) (hcl : ∀ (wr : World), Below w.heap.size w wr → ∀ (k : Nat), k < n → Calls Tryz.prog 167 #[.int .i64 k, .agg (srow (T k)), .pointer (some ⟨c0, 0, none⟩), .pointer (some ⟨c1, 0, none⟩)] wr fun e w' => e = .returned (.bool (P k)) ∧ Below wr.heap.size wr w') :
    Calls Tryz.prog 124 #[.slice A n cap, .func (.func 167) #[] #[.pointer (some ⟨c0, 0, none⟩), .pointer (some ⟨c1, 0, none⟩)]] w (FindT P T n w) := by
  have HP := Lib.hid hcl
  have HT := Lib.hid ht
  have r0 : RowC (w.alloc (.cells sr0 114)) w.heap.size sr0 114 := RowC.new _ _ _ _ rfl
  have hb0 : Below w.heap.size w (w.alloc (.cells sr0 114)) := (Below.refl _ _).alloc (Nat.le_refl _) _
  have HB0 := Lib.hid hb0
  clear hcl ht hb0
  go_enter Tryz.func124, Tryz.ntmps124
  go_wp2_with fail
  go_loopw [11] (fun i wr => ∃ k : Nat, k ≤ n ∧ i = .int .i64 k ∧ (∀ i, i < k → P i = false) ∧ RowC wr w.heap.size sr0 114 ∧ Below w.heap.size w wr)
    (fun i _ => n - (intOf i).toNat)
  case atStart => exact ⟨0, by omega, rfl, fun i h => by omega, r0, HB0.out⟩
  case round =>
    clear r0
    obtain ⟨k, hk, rfl, hno, g0, hB⟩ := hrel
    have HNO := Lib.hid hno
    have HG0 := Lib.hid g0
    have HBW := Lib.hid hB
    have hs := hB.size
    clear hno
    by_cases hlt : k < n
    · obtain ⟨b, o, rfl, hTb⟩ := (HT.out.below hB (Nat.le_refl _)).at_ hlt
      obtain ⟨q0, q1, q2, q3, q4, q5, q6, q7⟩ := hTb.2 k hlt
      clear hTb
      have i1 : (0 : Int) ≤ (k : Int) := by omega
      have i2 : (k : Int) < (n : Int) := by omega
      have hBa : Below w.heap.size w (wr.alloc (.cells #[.string (T k).nm, .int .i64 (T k).n0, .int .i64 (T k).n1, .int .i64 (T k).n2, .int .i64 (T k).n3, .int .i64 (T k).n4, .int .i64 (T k).mx, .int .i64 (T k).sb] 114)) := hB.alloc hs _
      have HCL := Lib.hid (HP.out (wr.alloc (.cells #[.string (T k).nm, .int .i64 (T k).n0, .int .i64 (T k).n1, .int .i64 (T k).n2, .int .i64 (T k).n3, .int .i64 (T k).n4, .int .i64 (T k).mx, .int .i64 (T k).sb] 114)) hBa k hlt)
      have HBA := Lib.hid hBa
      have ha := RowC.new wr #[.string (T k).nm, .int .i64 (T k).n0, .int .i64 (T k).n1, .int .i64 (T k).n2, .int .i64 (T k).n3, .int .i64 (T k).n4, .int .i64 (T k).mx, .int .i64 (T k).sb] 114 _ rfl
      have HA := Lib.hid ha
      have HGA := Lib.hid (g0.alloc (.cells #[.string (T k).nm, .int .i64 (T k).n0, .int .i64 (T k).n1, .int .i64 (T k).n2, .int .i64 (T k).n3, .int .i64 (T k).n4, .int .i64 (T k).mx, .int .i64 (T k).sb] 114))
      clear hB hBa ha g0
      go_wp2_with fail
      refine HCL.out.mono ?_
      rintro e w5 ⟨rfl, hB5⟩
      cases hp : P k
      · have HPK := Lib.hid hp
        clear hp
        have hg5 := Lib.hid (HGA.out.below hB5 HGA.out.lt)
        have hb5 := Lib.hid (HBA.out.trans (hB5.mono HBA.out.size))
        clear hB5 HA HGA HCL
        go_wp2
        exact ⟨⟨k + 1, by omega, by go_num, fun i hi => by
          by_cases h : i = k
          · subst h; exact HPK.out
          · exact HNO.out i (by omega), hg5.out, hb5.out⟩, by simp [intOf]; omega⟩
      · have HPK := Lib.hid hp
        clear hp
        have r3 := HGA.out.below hB5 HGA.out.lt
        have r6 := HA.out.below hB5 HA.out.lt
        have HB6 := Lib.hid (HBA.out.trans (hB5.mono HBA.out.size))
        have R3 := Lib.hid r3
        have d0 := r6.cell 0 (.string (T k).nm) rfl
        have d1 := r6.cell 1 (.int .i64 (T k).n0) rfl
        have d2 := r6.cell 2 (.int .i64 (T k).n1) rfl
        have d3 := r6.cell 3 (.int .i64 (T k).n2) rfl
        have d4 := r6.cell 4 (.int .i64 (T k).n3) rfl
        have d5 := r6.cell 5 (.int .i64 (T k).n4) rfl
        have d6 := r6.cell 6 (.int .i64 (T k).mx) rfl
        have d7 := r6.cell 7 (.int .i64 (T k).sb) rfl
        clear hB5 r3 r6
        go_wp2_with (refine wpList_store_row (by rfl) 114 _ _ (by rfl) w.heap.size #[.string (T k).nm, .int .i64 (T k).n0, .int .i64 (T k).n1, .int .i64 (T k).n2, .int .i64 (T k).n3, .int .i64 (T k).n4, .int .i64 (T k).mx, .int .i64 (T k).sb] (by rfl) (by rfl) _ _ R3.out (show _ = some 8 from infoSR) (by rfl) (by simp [Value.oneCell']) ?_)
        refine bodyPost_ret (results_ctS Tryz.results124 _ _ w.heap.size _ #[.string (T k).nm, .int .i64 (T k).n0, .int .i64 (T k).n1, .int .i64 (T k).n2, .int .i64 (T k).n3, .int .i64 (T k).n4, .int .i64 (T k).mx, .int .i64 (T k).sb] (0, 0) _ (.int .i64 k) (.bool true) (by rfl) (by rfl) (by rfl) (setRow_heap _ _ _ _ _ _ R3.out) Tryz.underlying114 (by rfl) (show _ = some 8 from infoSR)) rfl ?_
        exact ⟨.inl ⟨k, hlt, HPK.out, HNO.out, rfl⟩, below_setRow HB6.out (Nat.le_refl _) _⟩
    · obtain rfl : k = n := by omega
      clear hB g0
      go_wp2_with (refine wpList_store_row (by rfl) 114 _ _ (by rfl) w.heap.size sr0 (by rfl) (by rfl) _ _ HG0.out (show _ = some sr0.size from infoSR) (by rfl) (by simp [Value.oneCell']) ?_)
      refine bodyPost_ret (results_ctS Tryz.results124 _ _ w.heap.size _ sr0 (0, 0) _ (.int .i64 0) (.bool false) (by rfl) (by rfl) (by rfl) (setRow_heap _ _ _ _ _ _ HG0.out) Tryz.underlying114 (by rfl) (show _ = some sr0.size from infoSR)) rfl ?_
      exact ⟨.inr ⟨HNO.out, rfl⟩, below_setRow HBW.out (Nat.le_refl _) _⟩

abbrev isNum (T : Nat → SR) (a : Nat) (x : Int) (k : Nat) : Bool := numAt (T k) k a == x
abbrev isSub (T : Nat → SR) (mx sb : Int) (k : Nat) : Bool := (mx != 0) && ((T k).mx == mx) && ((T k).sb == sb)
set_option maxRecDepth 100000 in
set_option maxHeartbeats 4000000 in
theorem name1_any (r : SR) (k a : Nat) (ha : a < 5) (hk : k ≤ 1000000) (x : Int) (c0 c1 : Nat) (w : World) (h0 : w.cell? ⟨c0, 0, none⟩ = some (.int .i64 a)) (h1 : w.cell? ⟨c1, 0, none⟩ = some (.int .i64 x)) :
    Calls Tryz.prog 165 #[.int .i64 k, .agg (srow r), .pointer (some ⟨c0, 0, none⟩), .pointer (some ⟨c1, 0, none⟩)] w fun e w' => e = .returned (.bool (numAt r k a == x)) ∧ Below w.heap.size w w' := by
  have hB : Below w.heap.size w (w.alloc (.cells #[.string r.nm, .int .i64 r.n0, .int .i64 r.n1, .int .i64 r.n2, .int .i64 r.n3, .int .i64 r.n4, .int .i64 r.mx, .int .i64 r.sb] 114)) := (Below.refl _ _).alloc (Nat.le_refl _) _
  have l0 := World.block_lt_of_cell? _ _ h0
  have l1 := World.block_lt_of_cell? _ _ h1
  have k0 := (hB.cell (p := ⟨c0, 0, none⟩) l0).trans h0
  have k1 := (hB.cell (p := ⟨c1, 0, none⟩) l1).trans h1
  have rr := RowC.new w #[.string r.nm, .int .i64 r.n0, .int .i64 r.n1, .int .i64 r.n2, .int .i64 r.n3, .int .i64 r.n4, .int .i64 r.mx, .int .i64 r.sb] 114 _ rfl
  have d0 := rr.cell 0 (.string r.nm) rfl
  have d1 := rr.cell 1 (.int .i64 r.n0) rfl
  have d2 := rr.cell 2 (.int .i64 r.n1) rfl
  have d3 := rr.cell 3 (.int .i64 r.n2) rfl
  have d4 := rr.cell 4 (.int .i64 r.n3) rfl
  have d5 := rr.cell 5 (.int .i64 r.n4) rfl
  have d6 := rr.cell 6 (.int .i64 r.mx) rfl
  have d7 := rr.cell 7 (.int .i64 r.sb) rfl
  have HN := Lib.hid fun W => numberOf_any r k a ha hk W
  have HB := Lib.hid hB
  have L := Lib.hid (And.intro (Nat.lt_of_lt_of_le l0 hB.size) (Nat.lt_of_lt_of_le l1 hB.size))
  clear hB l0 l1 h0 h1 rr
  go_enter Tryz.func165, Tryz.ntmps165
  go_upto_region 1 with fail
  generalize w.alloc (.cells #[.string r.nm, .int .i64 r.n0, .int .i64 r.n1, .int .i64 r.n2, .int .i64 r.n3, .int .i64 r.n4, .int .i64 r.mx, .int .i64 r.sb] 114) = W at *
  first
  | (go_region_with (go_at_call 166; refine (HN.out _).mono ?_; rintro e w6 ⟨rfl, hB6⟩
                     have kk0 := (hB6.cell (p := ⟨c0, 0, none⟩) L.out.1).trans k0
                     have kk1 := (hB6.cell (p := ⟨c1, 0, none⟩) L.out.2).trans k1))
  | fail "one"
  all_goals go_wp2
  all_goals go_ret
  all_goals exact ⟨rfl, HB.out.drew.trans (hB6.mono HB.out.size)⟩
set_option maxRecDepth 100000 in
set_option maxHeartbeats 4000000 in
theorem sub1_any (n : Int) (r : SR) (mx sb : Int) (c0 c1 : Nat) (w : World) (h0 : w.cell? ⟨c0, 0, none⟩ = some (.int .i64 mx)) (h1 : w.cell? ⟨c1, 0, none⟩ = some (.int .i64 sb)) :
    Calls Tryz.prog 167 #[.int .i64 n, .agg (srow r), .pointer (some ⟨c0, 0, none⟩), .pointer (some ⟨c1, 0, none⟩)] w fun e w' => e = .returned (.bool ((mx != 0) && (r.mx == mx) && (r.sb == sb))) ∧ Below w.heap.size w w' := by
  have hB : Below w.heap.size w (w.alloc (.cells #[.string r.nm, .int .i64 r.n0, .int .i64 r.n1, .int .i64 r.n2, .int .i64 r.n3, .int .i64 r.n4, .int .i64 r.mx, .int .i64 r.sb] 114)) := (Below.refl _ _).alloc (Nat.le_refl _) _
  have l0 := World.block_lt_of_cell? _ _ h0
  have l1 := World.block_lt_of_cell? _ _ h1
  have k0 := (hB.cell (p := ⟨c0, 0, none⟩) l0).trans h0
  have k1 := (hB.cell (p := ⟨c1, 0, none⟩) l1).trans h1
  have rr := RowC.new w #[.string r.nm, .int .i64 r.n0, .int .i64 r.n1, .int .i64 r.n2, .int .i64 r.n3, .int .i64 r.n4, .int .i64 r.mx, .int .i64 r.sb] 114 _ rfl
  have d6 := rr.cell 6 (.int .i64 r.mx) rfl
  have d7 := rr.cell 7 (.int .i64 r.sb) rfl
  have HB := Lib.hid hB
  clear hB l0 l1 h0 h1 rr
  cases q0 : (mx != 0)
  · go_enter Tryz.func167, Tryz.ntmps167
    go_wp2
    go_ret
    exact ⟨rfl, HB.out⟩
  · cases q1 : (r.mx == mx)
    · go_enter Tryz.func167, Tryz.ntmps167
      go_wp2
      go_ret
      exact ⟨rfl, HB.out⟩
    · go_enter Tryz.func167, Tryz.ntmps167
      go_wp2
      go_ret
      exact ⟨rfl, HB.out⟩
/-- How a look for a name ends. -/
def FindN (P : Nat → Bool) (T : Nat → SR) (n : Nat) (yes no : Value) (w : World) (e : Ending) (w' : World) : Prop :=
  ((∃ j, j < n ∧ P j = true ∧ (∀ i, i < j → P i = false) ∧ e = .returned (.tuple #[.string (T j).nm, yes])) ∨
   ((∀ i, i < n → P i = false) ∧ e = .returned (.tuple #[.string ⟨#[]⟩, no]))) ∧ Below w.heap.size w w'

set_option maxRecDepth 100000 in
set_option maxHeartbeats 8000000 in
theorem Name_any (A : Option Addr) (n cap : Nat) (T : Nat → SR) (a : Nat) (ha : a < 5) (x : Int) (w : World) (hn : n ≤ 1000000) (ht : TbA w A n T) :
    Calls Tryz.prog 129 #[.slice A n cap, .int .i64 (a : Int), .int .i64 x] w (FindN (isNum T a x) T n (.int .i64 0) (.int .i64 14) w) := by
  have r0 : RowC ((w.alloc (.cells #[.int .i64 (a : Int)] 3)).alloc (.cells #[.int .i64 x] 3)) w.heap.size #[.int .i64 (a : Int)] 3 := (RowC.new _ _ _ _ rfl).alloc _
  have r1 : RowC ((w.alloc (.cells #[.int .i64 (a : Int)] 3)).alloc (.cells #[.int .i64 x] 3)) (w.heap.size + 1) #[.int .i64 x] 3 := RowC.new _ _ _ _ (by simp)
  have hb : Below w.heap.size w ((w.alloc (.cells #[.int .i64 (a : Int)] 3)).alloc (.cells #[.int .i64 x] 3)) := ((Below.refl _ _).alloc (Nat.le_refl _) _).alloc (by simp) _
  have HF := Lib.hid (find_num A n cap T w.heap.size (w.heap.size + 1) (isNum T a x) _ hn (ht.below hb (Nat.le_refl _)) fun wr hwr k hk => name1_any (T k) k a ha (by omega) x w.heap.size (w.heap.size + 1) wr ((r0.below hwr r0.lt).cell 0 _ rfl) ((r1.below hwr r1.lt).cell 0 _ rfl))
  have HB := Lib.hid hb
  have k0 := r0.cell 0 (.int .i64 (a : Int)) rfl
  have HA := Lib.hid fun W => isABI_ok a ha W
  clear r0 r1 hb ht
  go_enter Tryz.func129, Tryz.ntmps129
  go_wp2_with fail
  refine (HA.out _).mono ?_
  rintro e w0 ⟨rfl, rfl⟩
  go_wp2_with fail
  refine HF.out.mono ?_
  rintro e w1 ⟨h, hB1⟩
  have hs := HB.out.size
  have HBE := Lib.hid (HB.out.trans (hB1.mono hs))
  clear hB1 hs
  rcases h with ⟨j, hj, hp, hf, rfl⟩ | ⟨hno, rfl⟩
  · obtain ⟨r, hr⟩ : ∃ r, T j = r := ⟨_, rfl⟩
    have HH := Lib.hid (And.intro hj (And.intro hp (And.intro hf hr)))
    rw [hr]
    clear hj hp hf hr
    have c0 := (RowC.new w1 #[.string r.nm, .int .i64 r.n0, .int .i64 r.n1, .int .i64 r.n2, .int .i64 r.n3, .int .i64 r.n4, .int .i64 r.mx, .int .i64 r.sb] 114 _ rfl).cell 0 (.string r.nm) rfl
    have HBX := Lib.hid (HBE.out.alloc HBE.out.size (.cells #[.string r.nm, .int .i64 r.n0, .int .i64 r.n1, .int .i64 r.n2, .int .i64 r.n3, .int .i64 r.n4, .int .i64 r.mx, .int .i64 r.sb] 114))
    go_wp2
    go_ret2
    exact ⟨.inl ⟨j, HH.out.1, HH.out.2.1, HH.out.2.2.1, by rw [HH.out.2.2.2]; rfl⟩, HBX.out⟩
  · have HH := Lib.hid hno
    have c0 := (RowC.new w1 sr0 114 _ rfl).cell 0 (.string ⟨#[]⟩) rfl
    have HBX := Lib.hid (HBE.out.alloc HBE.out.size (.cells sr0 114))
    clear hno
    go_wp2
    go_ret2
    exact ⟨.inr ⟨HH.out, rfl⟩, HBX.out⟩

set_option maxRecDepth 100000 in
set_option maxHeartbeats 8000000 in
theorem Sub_any (A : Option Addr) (n cap : Nat) (T : Nat → SR) (mx sb : Int) (w : World) (hn : n ≤ 1000000) (ht : TbA w A n T) :
    Calls Tryz.prog 132 #[.slice A n cap, .int .i64 mx, .int .i64 sb] w (FindN (isSub T mx sb) T n (.bool true) (.bool false) w) := by
  have r0 : RowC ((w.alloc (.cells #[.int .i64 mx] 3)).alloc (.cells #[.int .i64 sb] 3)) w.heap.size #[.int .i64 mx] 3 := (RowC.new _ _ _ _ rfl).alloc _
  have r1 : RowC ((w.alloc (.cells #[.int .i64 mx] 3)).alloc (.cells #[.int .i64 sb] 3)) (w.heap.size + 1) #[.int .i64 sb] 3 := RowC.new _ _ _ _ (by simp)
  have hb : Below w.heap.size w ((w.alloc (.cells #[.int .i64 mx] 3)).alloc (.cells #[.int .i64 sb] 3)) := ((Below.refl _ _).alloc (Nat.le_refl _) _).alloc (by simp) _
  have HF := Lib.hid (find_sub A n cap T w.heap.size (w.heap.size + 1) (isSub T mx sb) _ hn (ht.below hb (Nat.le_refl _)) fun wr hwr k hk => sub1_any k (T k) mx sb w.heap.size (w.heap.size + 1) wr ((r0.below hwr r0.lt).cell 0 _ rfl) ((r1.below hwr r1.lt).cell 0 _ rfl))
  have HB := Lib.hid hb
  clear r0 r1 hb ht
  go_enter Tryz.func132, Tryz.ntmps132
  go_wp2_with fail
  refine HF.out.mono ?_
  rintro e w1 ⟨h, hB1⟩
  have hs := HB.out.size
  have HBE := Lib.hid (HB.out.trans (hB1.mono hs))
  clear hB1 hs
  rcases h with ⟨j, hj, hp, hf, rfl⟩ | ⟨hno, rfl⟩
  · obtain ⟨r, hr⟩ : ∃ r, T j = r := ⟨_, rfl⟩
    have HH := Lib.hid (And.intro hj (And.intro hp (And.intro hf hr)))
    rw [hr]
    clear hj hp hf hr
    have c0 := (RowC.new w1 #[.string r.nm, .int .i64 r.n0, .int .i64 r.n1, .int .i64 r.n2, .int .i64 r.n3, .int .i64 r.n4, .int .i64 r.mx, .int .i64 r.sb] 114 _ rfl).cell 0 (.string r.nm) rfl
    have HBX := Lib.hid (HBE.out.alloc HBE.out.size (.cells #[.string r.nm, .int .i64 r.n0, .int .i64 r.n1, .int .i64 r.n2, .int .i64 r.n3, .int .i64 r.n4, .int .i64 r.mx, .int .i64 r.sb] 114))
    go_wp2
    go_ret2
    exact ⟨.inl ⟨j, HH.out.1, HH.out.2.1, HH.out.2.2.1, by rw [HH.out.2.2.2]; rfl⟩, HBX.out⟩
  · have HH := Lib.hid hno
    have c0 := (RowC.new w1 sr0 114 _ rfl).cell 0 (.string ⟨#[]⟩) rfl
    have HBX := Lib.hid (HBE.out.alloc HBE.out.size (.cells sr0 114))
    clear hno
    go_wp2
    go_ret2
    exact ⟨.inr ⟨HH.out, rfl⟩, HBX.out⟩
end Go.Proofs.YtcmdmnnkbliggaaGreatDoor
