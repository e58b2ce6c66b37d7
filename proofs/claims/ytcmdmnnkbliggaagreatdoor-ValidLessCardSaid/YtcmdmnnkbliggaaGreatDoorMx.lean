/-
  Layer 15: the document's own words: in (a condition among others), alike (two rows of the same ones).
-/
import Derived.Test.YtcmdmnnkbliggaaGreatDoorRhk
import Derived.RegionTactic
import Derived.Deep.RegionWith
import Derived.Deep.RegionHeld3
import Derived.Test.YtcmdmnnkbliggaaGreatDoorRkk
import Derived.Laws.BitsAllLaws
import Derived.Test.YtcmdmnnkbliggaaGreatDoorMs
import Derived.BigQuiet
import Derived.Deep.LoopGhost
import Derived.Test.YtcmdmnnkbliggaaGreatDoorChk
import Derived.Test.YtcmdmnnkbliggaaGreatDoorSqk
import Derived.Test.YtcmdmnnkbliggaaGreatDoorMr
namespace Go.Proofs.YtcmdmnnkbliggaaGreatDoor
open Go.RowKit Go.Shelf
set_option linter.unusedVariables false

set_option maxRecDepth 100000 in
set_option maxHeartbeats 8000000 in
theorem inD_any (A : Option Addr) (n c : Nat) (C : Nat → CD) (y : CD) (w : World) (hn : n ≤ 100000) (hA : ConA w A n C) :
    Calls Tryz.prog 105 #[.slice A n c, .agg #[.int .i64 y.a, .int .i64 y.o, .int .u64 y.m, .int .u64 y.v]] w fun e w' => e = .returned (.bool (decide (y ∈ (List.range n).map C))) ∧ Below w.heap.size w w' := by
  obtain ⟨B, hB⟩ : ∃ B, w.heap.size = B := ⟨_, rfl⟩
  obtain ⟨W0, hW0⟩ : ∃ W, w.alloc (.cells #[.int .i64 y.a, .int .i64 y.o, .int .u64 y.m, .int .u64 y.v] 109) = W := ⟨_, rfl⟩
  have hb0 : Below B w W0 := by rw [← hW0, ← hB]; exact (Below.refl _ _).alloc (Nat.le_refl _) _
  have hr0 : RowC W0 B #[.int .i64 y.a, .int .i64 y.o, .int .u64 y.m, .int .u64 y.v] 109 := by rw [← hW0, ← hB]; exact RowC.new _ _ _ _ rfl
  have HA := Lib.hid (hA.below hb0 (Nat.le_of_eq hB))
  have HB0 := Lib.hid hb0
  have HR0 := Lib.hid hr0
  have HW0 := Lib.hid hW0
  have HBS := Lib.hid hB
  have HS0 : Hid (B ≤ W0.heap.size) := Lib.hid (by have := hb0.size; omega)
  clear hA hb0 hr0
  go_enter Tryz.func105, Tryz.ntmps105
  go_upto_region 1 with fail
  (try rw [HW0.out])
  clear hW0
  go_wp2
  go_loopw [5] (fun i wr => ∃ q : Nat, q ≤ n ∧ i = .int .i64 q ∧ Hid (Below W0.heap.size W0 wr ∧ ∀ j, j < q → C j ≠ y)) (fun i _ => n - (intOf i).toNat)
  case atStart => exact ⟨0, Nat.zero_le _, rfl, Lib.hid ⟨Below.refl _ _, fun j hj => absurd hj (Nat.not_lt_zero _)⟩⟩
  case round =>
    obtain ⟨q, hq, rfl, HI⟩ := hrel
    by_cases hlt : q < n
    · obtain ⟨x, hx⟩ : ∃ x, C q = x := ⟨_, rfl⟩
      obtain ⟨b, o, rfl, c0, c1, c2, c3⟩ := (HA.out.below HI.out.1 (Nat.le_refl _)).four hlt hx
      have hr := HR0.out.below HI.out.1 HR0.out.lt
      have d0 := hr.cell 0 (.int .i64 y.a) rfl
      have d1 := hr.cell 1 (.int .i64 y.o) rfl
      have d2 := hr.cell 2 (.int .u64 y.m) rfl
      have d3 := hr.cell 3 (.int .u64 y.v) rfl
      have HX := Lib.hid hx
      clear hx hr
      have i1 : (0 : Int) ≤ (q : Int) := by omega
      have i2 : (q : Int) < (n : Int) := by omega
      by_cases he : x = y
      · have HE := Lib.hid he
        subst he
        obtain ⟨a1, o1, m1, v1⟩ := x
        simp only at c0 c1 c2 c3 d0 d1 d2 d3
        go_wp2_with fail
        go_quiet (fail)
        go_wp2
        go_ret
        refine ⟨?_, by rw [HBS.out]; exact HB0.out.trans ((bdn HI.out.1 nq).mono HS0.out)⟩
        rw [decide_eq_true (List.mem_map.2 ⟨q, List.mem_range.2 hlt, HX.out⟩)]
        rfl
      · have hcs := cd_cases x y
        have HNE := Lib.hid he
        rcases hcs with h | h | ⟨h', h⟩ | ⟨h', h'', h⟩ | ⟨h', h'', h''', h⟩
        · exact absurd h he
        all_goals
          obtain ⟨a1, o1, m1, v1⟩ := x
          obtain ⟨a2, o2, m2, v2⟩ := y
          simp only at c0 c1 c2 c3 d0 d1 d2 d3
          simp only at h
          (try simp only at h')
          (try simp only at h'')
          (try simp only at h''')
          (try subst h')
          (try subst h'')
          (try subst h''')
          clear he
          go_wp2_with fail
          go_quiet (fail)
          go_wp2
          exact ⟨⟨q + 1, by omega, by go_num, Lib.hid ⟨bdn HI.out.1 nq, fun j hj => by
            by_cases e : j = q
            · subst e; rw [HX.out]; exact HNE.out
            · exact HI.out.2 j (by omega)⟩⟩, by simp [intOf]; omega⟩
    · obtain rfl : q = n := by omega
      go_wp2
      go_ret
      refine ⟨?_, by rw [HBS.out]; exact HB0.out.trans (HI.out.1.mono HS0.out)⟩
      rw [decide_eq_false (fun h => by
        obtain ⟨j, hj, e⟩ := List.mem_map.1 h
        exact HI.out.2 j (List.mem_range.1 hj) e)]
      rfl
/-- Are two rows of conditions the same ones? -/
def alkF (l m : List CD) : Bool := l.all (fun x => decide (x ∈ m)) && m.all (fun x => decide (x ∈ l))
set_option maxRecDepth 100000 in
set_option maxHeartbeats 8000000 in
theorem alike_any (A A' : Option Addr) (n c m c' : Nat) (C C' : Nat → CD) (w : World) (hn : n ≤ 100000) (hm : m ≤ 100000) (hA : ConA w A n C) (hA' : ConA w A' m C') :
    Calls Tryz.prog 58 #[.slice A n c, .slice A' m c'] w fun e w' => e = .returned (.bool (alkF ((List.range n).map C) ((List.range m).map C'))) ∧ Below w.heap.size w w' := by
  have HA := Lib.hid hA
  have HA' := Lib.hid hA'
  obtain ⟨L, hL⟩ : ∃ L, (List.range n).map C = L := ⟨_, rfl⟩
  obtain ⟨L', hL'⟩ : ∃ L', (List.range m).map C' = L' := ⟨_, rfl⟩
  obtain ⟨rv, hrv⟩ : ∃ rv, alkF L L' = rv := ⟨_, rfl⟩
  have hin := fun (z : CD) (wr : World) (hb : Below w.heap.size w wr) => inD_any A n c C z wr hn (hA.below hb (Nat.le_refl _))
  have hin' := fun (z : CD) (wr : World) (hb : Below w.heap.size w wr) => inD_any A' m c' C' z wr hm (hA'.below hb (Nat.le_refl _))
  rw [hL] at hin
  rw [hL'] at hin'
  rw [hL, hL', hrv]
  have HIN := Lib.hid hin
  have HIN' := Lib.hid hin'
  have HL := Lib.hid hL
  have HL' := Lib.hid hL'
  have HRV := Lib.hid hrv
  clear hA hA' hin hin' hL hL' hrv
  go_enter Tryz.func58, Tryz.ntmps58
  go_wp2
  go_loopw [5] (fun i wr => ∃ q : Nat, q ≤ n ∧ i = .int .i64 q ∧ Hid (Below w.heap.size w wr ∧ ∀ j, j < q → C j ∈ L')) (fun i _ => n - (intOf i).toNat)
  case atStart => exact ⟨0, Nat.zero_le _, rfl, Lib.hid ⟨Below.refl _ _, fun j hj => absurd hj (Nat.not_lt_zero _)⟩⟩
  case round =>
    obtain ⟨q, hq, rfl, HI⟩ := hrel
    by_cases hlt : q < n
    · obtain ⟨x, hx⟩ : ∃ x, C q = x := ⟨_, rfl⟩
      obtain ⟨b, o, rfl, c0, c1, c2, c3⟩ := (HA.out.below HI.out.1 (Nat.le_refl _)).four hlt hx
      have HX := Lib.hid hx
      have KI := Lib.hid (HIN'.out x wr HI.out.1)
      have i1 : (0 : Int) ≤ (q : Int) := by omega
      have i2 : (q : Int) < (n : Int) := by omega
      clear hx
      go_wp2_with (go_at_call 105; refine KI.out.mono ?_; rintro e w2 ⟨rfl, hB2⟩; cases hd : decide (x ∈ L'))
      · have HBW : Hid (Below w.heap.size w w2) := Lib.hid (HI.out.1.trans (hB2.mono HI.out.1.size))
        have hf : rv = false := by
          rw [← HRV.out]
          unfold alkF
          rw [show L.all (fun x => decide (x ∈ L')) = false from List.all_eq_false.2 ⟨x, by rw [← HL.out]; exact List.mem_map.2 ⟨q, List.mem_range.2 hlt, HX.out⟩, by rw [hd]; simp⟩]
          rfl
        have HF := Lib.hid hf
        clear hf
        go_ret
        exact ⟨by rw [HF.out]; rfl, HBW.out⟩
      · exact ⟨⟨q + 1, by omega, by go_num, Lib.hid ⟨HI.out.1.trans (hB2.mono HI.out.1.size), fun j hj => by
          by_cases e : j = q
          · subst e; rw [HX.out]; exact of_decide_eq_true hd
          · exact HI.out.2 j (by omega)⟩⟩, by simp [intOf]; omega⟩
    · obtain rfl : q = n := by omega
      have HA1 := Lib.hid (show L.all (fun x => decide (x ∈ L')) = true from List.all_eq_true.2 fun z hz => by
        rw [← HL.out] at hz
        obtain ⟨j, hj, rfl⟩ := List.mem_map.1 hz
        exact decide_eq_true (HI.out.2 j (List.mem_range.1 hj)))
      go_wp2
      go_loopw [6] (fun i wq => ∃ q' : Nat, q' ≤ m ∧ i = .int .i64 q' ∧ Hid (Below w.heap.size w wq ∧ ∀ j, j < q' → C' j ∈ L)) (fun i _ => m - (intOf i).toNat)
      case atStart => exact ⟨0, Nat.zero_le _, rfl, Lib.hid ⟨HI.out.1, fun j hj => absurd hj (Nat.not_lt_zero _)⟩⟩
      case round =>
        obtain ⟨q', hq', rfl, HJ⟩ := hrel
        by_cases hlt' : q' < m
        · obtain ⟨x, hx⟩ : ∃ x, C' q' = x := ⟨_, rfl⟩
          obtain ⟨b, o, rfl, c0, c1, c2, c3⟩ := (HA'.out.below HJ.out.1 (Nat.le_refl _)).four hlt' hx
          have HX := Lib.hid hx
          have KI := Lib.hid (HIN.out x wr HJ.out.1)
          have i1 : (0 : Int) ≤ (q' : Int) := by omega
          have i2 : (q' : Int) < (m : Int) := by omega
          clear hx
          go_wp2_with (go_at_call 105; refine KI.out.mono ?_; rintro e w2 ⟨rfl, hB2⟩; cases hd : decide (x ∈ L))
          · have HBW : Hid (Below w.heap.size w w2) := Lib.hid (HJ.out.1.trans (hB2.mono HJ.out.1.size))
            have hf : rv = false := by
              rw [← HRV.out]
              unfold alkF
              rw [show L'.all (fun x => decide (x ∈ L)) = false from List.all_eq_false.2 ⟨x, by rw [← HL'.out]; exact List.mem_map.2 ⟨q', List.mem_range.2 hlt', HX.out⟩, by rw [hd]; simp⟩, Bool.and_false]
            have HF := Lib.hid hf
            clear hf
            go_ret
            exact ⟨by rw [HF.out]; rfl, HBW.out⟩
          · exact ⟨⟨q' + 1, by omega, by go_num, Lib.hid ⟨HJ.out.1.trans (hB2.mono HJ.out.1.size), fun j hj => by
              by_cases e : j = q'
              · subst e; rw [HX.out]; exact of_decide_eq_true hd
              · exact HJ.out.2 j (by omega)⟩⟩, by simp [intOf]; omega⟩
        · obtain rfl : q' = m := by omega
          have hf : rv = true := by
            rw [← HRV.out]
            unfold alkF
            rw [HA1.out, show L'.all (fun x => decide (x ∈ L)) = true from List.all_eq_true.2 fun z hz => by
              rw [← HL'.out] at hz
              obtain ⟨j, hj, rfl⟩ := List.mem_map.1 hz
              exact decide_eq_true (HJ.out.2 j (List.mem_range.1 hj))]
            rfl
          have HF := Lib.hid hf
          clear hf
          go_wp2
          go_ret
          exact ⟨by rw [HF.out]; rfl, HJ.out.1⟩
end Go.Proofs.YtcmdmnnkbliggaaGreatDoor

/-
  Layer 15: the document's Right of a condition; a value beside its mask in two ways (out of layer 16, without the document's Cond).
-/
namespace Go.Proofs.YtcmdmnnkbliggaaGreatDoor
open Go.RowKit Go.Shelf
set_option linter.unusedVariables false

theorem or_beside (v m : Nat) (hv : v ≤ 18446744073709551615) (hm : m ≤ 18446744073709551615) : v ||| m = m ↔ v &&& (18446744073709551615 - m) = 0 := by
  constructor
  · intro h
    apply Nat.eq_of_testBit_eq
    intro i
    have hi := congrArg (fun z => Nat.testBit z i) h
    simp only [Nat.testBit_or] at hi
    rw [show (18446744073709551615 : Nat) - m = 2 ^ 64 - (m + 1) by omega, Nat.testBit_and, Nat.testBit_two_pow_sub_succ (by omega), Nat.zero_testBit]
    revert hi
    cases v.testBit i <;> cases m.testBit i <;> simp
  · intro h
    apply Nat.eq_of_testBit_eq
    intro i
    have hi := congrArg (fun z => Nat.testBit z i) h
    rw [show (18446744073709551615 : Nat) - m = 2 ^ 64 - (m + 1) by omega] at hi
    simp only [Nat.testBit_and, Nat.zero_testBit] at hi
    rw [Nat.testBit_two_pow_sub_succ (by omega)] at hi
    rw [Nat.testBit_or]
    by_cases h6 : i < 64
    · rw [decide_eq_true h6] at hi
      revert hi
      cases v.testBit i <;> cases m.testBit i <;> simp
    · have hv0 : v.testBit i = false := Nat.testBit_lt_two_pow (Nat.lt_of_lt_of_le (show v < 2 ^ 64 by omega) (Nat.pow_le_pow_right (by decide) (by omega)))
      rw [hv0]; simp
def rightB (a o : Int) (m : Nat) : Bool := decide (a ≥ 0) && decide (a ≤ 5) && decide (o ≥ 1) && decide (o ≤ 7) && (((m : Int) == 0) || (o == 7))
set_option maxRecDepth 100000 in
set_option maxHeartbeats 8000000 in
theorem refCondR_any (a o : Int) (m v : Nat) (w : World) : Calls Tryz.prog 62 #[.agg (condA a o m v)] w fun e w' => e = .returned (.bool (rightB a o m)) ∧ Below w.heap.size w w' := by
  have HB := Lib.hid (show Below w.heap.size w (w.alloc (.cells (condA a o m v) 109)) from (Below.refl _ _).alloc (Nat.le_refl _) _)
  unfold rightB
  obtain ⟨b0, q0⟩ : ∃ b, decide (a ≥ 0) = b := ⟨_, rfl⟩
  obtain ⟨b1, q1⟩ : ∃ b, decide (a ≤ 5) = b := ⟨_, rfl⟩
  obtain ⟨b2, q2⟩ : ∃ b, decide (o ≥ 1) = b := ⟨_, rfl⟩
  obtain ⟨b3, q3⟩ : ∃ b, decide (o ≤ 7) = b := ⟨_, rfl⟩
  obtain ⟨b4, q4⟩ : ∃ b, ((m : Int) == 0) = b := ⟨_, rfl⟩
  obtain ⟨b5, q5⟩ : ∃ b, (o == 7) = b := ⟨_, rfl⟩
  rw [q0, q1, q2, q3, q4, q5]
  cases b0
  · go_enter Tryz.func62, Tryz.ntmps62
    go_wp2
    go_ret
    exact ⟨rfl, HB.out⟩
  cases b1
  · go_enter Tryz.func62, Tryz.ntmps62
    go_wp2
    go_ret
    exact ⟨rfl, HB.out⟩
  cases b2
  · go_enter Tryz.func62, Tryz.ntmps62
    go_wp2
    go_ret
    exact ⟨rfl, HB.out⟩
  cases b3
  · go_enter Tryz.func62, Tryz.ntmps62
    go_wp2
    go_ret
    exact ⟨rfl, HB.out⟩
  cases b4
  · cases b5
    · go_enter Tryz.func62, Tryz.ntmps62
      go_wp2
      go_ret
      exact ⟨rfl, HB.out⟩
    · go_enter Tryz.func62, Tryz.ntmps62
      go_wp2
      go_ret
      exact ⟨rfl, HB.out⟩
  · go_enter Tryz.func62, Tryz.ntmps62
    go_wp2
    go_ret
    exact ⟨by cases b5 <;> rfl, HB.out⟩
theorem rightB_ok {a o : Int} {m j : Nat} (hr : RightO a o m j) : rightB a o m = true := by
  obtain ⟨h1, h2, h3, rfl, h5⟩ := hr
  have h : m = 0 ∨ j = 6 := by
    rcases Bool.or_eq_true _ _ ▸ h5 with h | h
    · exact .inr (by simpa [mkO] using h)
    · exact .inl (by simpa using h)
  simp [rightB]
  omega
theorem rightB_no {a o : Int} {m : Nat} (hno : a < 0 ∨ 6 ≤ a ∨ ∀ j, j < 7 → isO o m j = false) : rightB a o m = false := by
  cases h : rightB a o m
  · rfl
  · exfalso
    simp [rightB] at h
    obtain ⟨⟨⟨⟨h0, h1⟩, h2⟩, h3⟩, h4⟩ := h
    rcases hno with hn | hn | hn
    · omega
    · omega
    · obtain ⟨j, rfl⟩ : ∃ j : Nat, o = (j : Int) + 1 := ⟨(o - 1).toNat, by omega⟩
      have := hn j (by omega)
      simp [isO, mkO] at this
      omega
end Go.Proofs.YtcmdmnnkbliggaaGreatDoor

/-
  The document's own Right of an action, of a name, of a policy (layers 9, 11, 14), as the program's.
-/
namespace Go.Proofs.YtcmdmnnkbliggaaGreatDoor
open Go.RowKit Go.Shelf
set_option linter.unusedVariables false

set_option maxRecDepth 100000 in
set_option maxHeartbeats 4000000 in
theorem most_at (j : Nat) (w : World) : Calls Tryz.prog 60 #[.int .i64 ((j : Int) + 1)] w fun e w' => e = .returned (.int .i64 (mostA j)) ∧ w = w' := by
  by_cases h3 : j = 3
  · subst h3
    show Calls Tryz.prog 60 #[.int .i64 4] w fun e w' => e = .returned (.int .i64 4095) ∧ w = w'
    go_enter Tryz.func60, Tryz.ntmps60
    go_wp2
    go_ret
    exact ⟨rfl, rfl⟩
  by_cases h5 : j = 5
  · subst h5
    show Calls Tryz.prog 60 #[.int .i64 6] w fun e w' => e = .returned (.int .i64 65535) ∧ w = w'
    go_enter Tryz.func60, Tryz.ntmps60
    go_wp2
    go_ret
    exact ⟨rfl, rfl⟩
  have e : mostA j = 0 := by unfold mostA; rw [if_neg h3, if_neg h5]
  rw [e]
  have a3 : ((j : Int) + 1 == 4) = false := by simp; omega
  have a5 : ((j : Int) + 1 == 6) = false := by simp; omega
  have b3 : ¬ (j : Int) + 1 = 4 := by omega
  have b5 : ¬ (j : Int) + 1 = 6 := by omega
  generalize (j : Int) + 1 = k at *
  clear e h3 h5
  go_enter Tryz.func60, Tryz.ntmps60
  go_wp2
  go_ret
  exact ⟨rfl, rfl⟩
set_option maxRecDepth 100000 in
set_option maxHeartbeats 4000000 in
theorem right9_ok (j : Nat) (hj : j < 8) (n : Int) (hm : mayA j n = true) (w : World) : Calls Tryz.prog 28 #[.agg #[.int .i64 ((j : Int) + 1), .int .i64 n]] w fun e w' => e = .returned (.bool true) ∧ Below w.heap.size w w' := by
  have hr : RowC (w.alloc (.cells #[.int .i64 ((j : Int) + 1), .int .i64 n] 36)) w.heap.size #[.int .i64 ((j : Int) + 1), .int .i64 n] 36 := RowC.new _ _ _ _ rfl
  have hb : Below w.heap.size w (w.alloc (.cells #[.int .i64 ((j : Int) + 1), .int .i64 n] 36)) := (Below.refl _ _).alloc (Nat.le_refl _) _
  unfold mayA at hm
  simp only [Bool.and_eq_true, decide_eq_true_eq] at hm
  have g1 : decide ((1 : Int) ≤ (j : Int) + 1) = true := decide_eq_true (by omega)
  have g2 : decide ((j : Int) + 1 ≤ 8) = true := decide_eq_true (by omega)
  have g3 : decide ((0 : Int) ≤ n) = true := decide_eq_true (by omega)
  have g4 : decide (n ≤ mostA j) = true := decide_eq_true (by omega)
  have g1' : (1 : Int) ≤ (j : Int) + 1 := by omega
  have g2' : (j : Int) + 1 ≤ 8 := by omega
  have g3' : (0 : Int) ≤ n := by omega
  have g4' : n ≤ mostA j := by omega
  have HC := Lib.hid fun W => most_at j W
  have HB := Lib.hid hb
  clear hj hb hm
  go_enter Tryz.func28, Tryz.ntmps28
  go_wp2_with fail
  generalize w.alloc (.cells #[.int .i64 ((j : Int) + 1), .int .i64 n] 36) = W1 at *
  have hS : Hid (W1.drew.cell? ⟨w.heap.size, 0, none⟩ = some (.int .i64 ((j : Int) + 1)) ∧ W1.drew.cell? ⟨w.heap.size, 1, none⟩ = some (.int .i64 n)) := Lib.hid ⟨hr.cell 0 _ rfl, hr.cell 1 _ rfl⟩
  generalize (j : Int) + 1 = P1 at *
  generalize mostA j = M at *
  clear hr
  go_region_held3 (fun w' => w'.cell? ⟨w.heap.size, 0, none⟩ = some (.int .i64 P1) ∧ w'.cell? ⟨w.heap.size, 1, none⟩ = some (.int .i64 n))
    (first | exact hS.out | assumption | go_keep)
    (first
      | (go_at_call 60
         (with_reducible refine (HC.out _).mono ?_)
         rintro e w2 ⟨rfl, rfl⟩))
  all_goals go_wp2
  all_goals go_ret
  all_goals exact ⟨rfl, HB.out.drew⟩
set_option maxRecDepth 100000 in
set_option maxHeartbeats 4000000 in
theorem right9_no (kd n : Int) (hno : ∀ j : Nat, j < 8 → kd = (j : Int) + 1 → mayA j n = false) (w : World) : Calls Tryz.prog 28 #[.agg #[.int .i64 kd, .int .i64 n]] w fun e w' => e = .returned (.bool false) ∧ Below w.heap.size w w' := by
  have hr : RowC (w.alloc (.cells #[.int .i64 kd, .int .i64 n] 36)) w.heap.size #[.int .i64 kd, .int .i64 n] 36 := RowC.new _ _ _ _ rfl
  have hb : Below w.heap.size w (w.alloc (.cells #[.int .i64 kd, .int .i64 n] 36)) := (Below.refl _ _).alloc (Nat.le_refl _) _
  have HB := Lib.hid hb
  have HNO := Lib.hid hno
  clear hb hno
  go_enter Tryz.func28, Tryz.ntmps28
  go_wp2_with fail
  generalize w.alloc (.cells #[.int .i64 kd, .int .i64 n] 36) = W1 at *
  have hS : Hid (W1.drew.cell? ⟨w.heap.size, 0, none⟩ = some (.int .i64 kd) ∧ W1.drew.cell? ⟨w.heap.size, 1, none⟩ = some (.int .i64 n)) := Lib.hid ⟨hr.cell 0 _ rfl, hr.cell 1 _ rfl⟩
  clear hr
  by_cases c1 : 1 ≤ kd
  · have g1 : decide ((1 : Int) ≤ kd) = true := decide_eq_true c1
    by_cases c2 : kd ≤ 8
    · have g2 : decide (kd ≤ 8) = true := decide_eq_true c2
      by_cases c3 : 0 ≤ n
      · have g3 : decide ((0 : Int) ≤ n) = true := decide_eq_true c3
        obtain ⟨j, hj⟩ : ∃ j : Nat, kd - 1 = j := Int.eq_ofNat_of_zero_le (by omega)
        have hk : kd = (j : Int) + 1 := by omega
        have hM := HNO.out j (by omega) hk
        unfold mayA at hM
        rw [decide_eq_true c3, Bool.true_and] at hM
        have c4 : ¬ n ≤ mostA j := by simpa using hM
        have HC := Lib.hid fun W => most_at j W
        rw [← hk] at HC
        generalize mostA j = M at *
        clear hk hj HNO
        go_region_held3 (fun w' => w'.cell? ⟨w.heap.size, 0, none⟩ = some (.int .i64 kd) ∧ w'.cell? ⟨w.heap.size, 1, none⟩ = some (.int .i64 n))
          (first | exact hS.out | assumption | go_keep)
          (first
            | (go_at_call 60
               (with_reducible refine (HC.out _).mono ?_)
               rintro e w2 ⟨rfl, rfl⟩))
        all_goals go_wp2
        all_goals go_ret
        all_goals exact ⟨rfl, HB.out.drew⟩
      · have g3 : decide ((0 : Int) ≤ n) = false := decide_eq_false c3
        have x0 : W1.cell? ⟨w.heap.size, 0, none⟩ = some (.int .i64 kd) := hS.out.1
        have x1 : W1.cell? ⟨w.heap.size, 1, none⟩ = some (.int .i64 n) := hS.out.2
        go_quiet (fail)
        all_goals go_wp2
        all_goals go_ret
        all_goals exact ⟨rfl, bdn HB.out _⟩
    · have g2 : decide (kd ≤ 8) = false := decide_eq_false c2
      have x0 : W1.cell? ⟨w.heap.size, 0, none⟩ = some (.int .i64 kd) := hS.out.1
      have x1 : W1.cell? ⟨w.heap.size, 1, none⟩ = some (.int .i64 n) := hS.out.2
      go_quiet (fail)
      all_goals go_wp2
      all_goals go_ret
      all_goals exact ⟨rfl, bdn HB.out _⟩
  · have g1 : decide ((1 : Int) ≤ kd) = false := decide_eq_false c1
    have x0 : W1.cell? ⟨w.heap.size, 0, none⟩ = some (.int .i64 kd) := hS.out.1
    have x1 : W1.cell? ⟨w.heap.size, 1, none⟩ = some (.int .i64 n) := hS.out.2
    go_quiet (fail)
    all_goals go_wp2
    all_goals go_ret
    all_goals exact ⟨rfl, bdn HB.out _⟩

theorem right9_any (k u : Int) (w : World) : Calls Tryz.prog 28 #[.agg #[.int .i64 k, .int .i64 u]] w fun e w' => e = .returned (.bool (actB k u)) ∧ Below w.heap.size w w' := by
  rcases ha : actB k u with _ | _
  · exact right9_no k u (actB_no ha) w
  · obtain ⟨j, hj, rfl, hm⟩ := actB_ok ha
    exact right9_ok j hj u hm w
theorem nameB_eq (nm : ByteArray) : (NmP nm ∧ nameB nm = true) ∨ (¬ NmP nm ∧ nameB nm = false) := by
  by_cases h : NmP nm
  · refine .inl ⟨h, decide_eq_true ?_⟩
    have hrng : RngP ((fun _ : Nat => nmRow nm) 0) := fun a ha => by
      match a, ha with
      | 0, _ => exact ⟨by show (-1 : Int) ≤ 0; decide, by show (0 : Int) ≤ 1073741823; decide⟩
      | 1, _ => exact ⟨by show (-1 : Int) ≤ 0; decide, by show (0 : Int) ≤ 1073741823; decide⟩
      | 2, _ => exact ⟨by show (-1 : Int) ≤ 0; decide, by show (0 : Int) ≤ 1073741823; decide⟩
      | 3, _ => exact ⟨by show (-1 : Int) ≤ 0; decide, by show (0 : Int) ≤ 1073741823; decide⟩
      | 4, _ => exact ⟨by show (-1 : Int) ≤ 0; decide, by show (0 : Int) ≤ 1073741823; decide⟩
    unfold rowF
    rw [if_pos (show NmP ((fun _ : Nat => nmRow nm) 0).nm from h), if_pos (show RiseP (fun _ : Nat => nmRow nm) 0 from fun h0 => absurd h0 (Nat.lt_irrefl 0)), if_pos ⟨hrng, .inl ⟨rfl, rfl⟩⟩, if_neg (by simp), if_neg (fun ⟨k, hk, _⟩ => absurd hk (Nat.not_lt_zero _))]
  · refine .inr ⟨h, decide_eq_false ?_⟩
    rw [row13 (T := fun _ : Nat => nmRow nm) (i := 0) h]
    decide
set_option maxRecDepth 100000 in
set_option maxHeartbeats 4000000 in
theorem name14_any (nm : ByteArray) (w : World) : Calls Tryz.prog 61 #[.string nm] w fun e w' => e = .returned (.bool (nameB nm)) ∧ Below w.heap.size w w' := by
  have HR := Lib.hid (refName_any nm w)
  have HE := Lib.hid (nameB_eq nm)
  obtain ⟨nb, hnb⟩ : ∃ nb, nameB nm = nb := ⟨_, rfl⟩
  rw [hnb] at HE ⊢
  clear hnb
  go_enter Tryz.func61, Tryz.ntmps61
  go_wp2_with fail
  refine HR.out.mono ?_
  rintro e w2 ⟨h, rfl⟩
  have hd : e = .returned (.bool nb) := by
    rcases h with ⟨h1, rfl⟩ | ⟨h1, rfl⟩
    · rcases HE.out with ⟨_, rfl⟩ | ⟨h2, _⟩
      · rfl
      · exact absurd h1 h2
    · rcases HE.out with ⟨h2, _⟩ | ⟨_, rfl⟩
      · exact absurd h2 h1
      · rfl
  subst hd
  go_wp2
  go_ret
  exact ⟨rfl, Below.refl _ _⟩
theorem refRight_dec (c : CD) (w : World) : Calls Tryz.prog 62 #[.agg (condA c.a c.o c.m c.v)] w fun e w' => e = .returned (.bool (decide (RiC c))) ∧ Below w.heap.size w w' := by
  by_cases h : RiC c
  · obtain ⟨j, hj⟩ := h.right
    rw [decide_eq_true h, ← rightB_ok hj]
    exact refCondR_any c.a c.o c.m c.v w
  · rw [decide_eq_false h, ← rightB_no (ric_not h)]
    exact refCondR_any c.a c.o c.m c.v w
end Go.Proofs.YtcmdmnnkbliggaaGreatDoor

/-
  Layer 14: the document's Right of a policy is the program's.
-/
namespace Go.Proofs.YtcmdmnnkbliggaaGreatDoor
open Go.RowKit Go.Shelf
set_option linter.unusedVariables false

theorem allR_snoc (R : Nat → RL) (q : Nat) : ((List.range (q + 1)).map fun i => (R i).val).all mayV = (((List.range q).map fun i => (R i).val).all mayV && mayV (R q).val) := by
  rw [List.range_succ, List.map_append, List.all_append]
  simp
theorem allR_no (R : Nat → RL) (q n : Nat) (hq : q < n) (h : mayV (R q).val = false) : ((List.range n).map fun i => (R i).val).all mayV = false := by
  rw [List.all_eq_false]
  exact ⟨(R q).val, List.mem_map.2 ⟨q, List.mem_range.2 hq, rfl⟩, by rw [h]; simp⟩
theorem mayV_val (r : RL) : mayV r.val = (nameB r.nm && (actB r.k r.u && (decide (r.n ≤ 6) && ((List.range r.n).map r.C).all fun c => decide (RiC c)))) := by
  unfold mayV RL.val; simp only [List.length_map, List.length_range]
set_option maxRecDepth 100000 in
set_option maxHeartbeats 16000000 in
theorem refPolRight_any (k u : Int) (x : Bool) (A : Option Addr) (n c : Nat) (R : Nat → RL) (w : World) (hn : n ≤ 500) (hR : RlA w A n R) :
    Calls Tryz.prog 30 #[.agg (polA k u x A n c)] w fun e w' => e = .returned (.bool (rightV k u ((List.range n).map fun i => (R i).val))) ∧ Below w.heap.size w w' := by
  obtain ⟨W0, hW0⟩ : ∃ W, w.alloc (.cells (polA k u x A n c) 39) = W := ⟨_, rfl⟩
  have hB0 : Below w.heap.size w W0 := by rw [← hW0]; exact (Below.refl _ _).alloc (Nat.le_refl _) _
  have hP0 : RowC W0 w.heap.size (polA k u x A n c) 39 := by rw [← hW0]; exact RowC.new _ _ _ _ rfl
  have hs0 : W0.heap.size = w.heap.size + 1 := by rw [← hW0]; simp
  have HV : Hid (rightV k u ((List.range n).map fun i => (R i).val) = (actB k u && ((List.range n).map fun i => (R i).val).all mayV)) := Lib.hid (by unfold rightV; rw [List.length_map, List.length_range, decide_eq_true hn]; simp)
  obtain ⟨rv, hrv⟩ : ∃ rv, rightV k u ((List.range n).map fun i => (R i).val) = rv := ⟨_, rfl⟩
  rw [hrv] at HV ⊢
  have HR := Lib.hid (hR.below hB0 (Nat.le_refl _))
  have HP0 := Lib.hid hP0
  have HB0 := Lib.hid hB0
  have HW := Lib.hid hW0
  have HS := Lib.hid hs0
  have p0 := hP0.cell 0 (.int .i64 k) rfl
  have p1 := hP0.cell 1 (.int .i64 u) rfl
  have HA := Lib.hid (right9_any k u W0)
  clear hW0 hB0 hP0 hrv hR hs0
  rcases ha : actB k u with _ | _
  · rw [ha] at HV HA
    go_enter Tryz.func30, Tryz.ntmps30
    go_upto_region 1 with fail
    rw [HW.out]
    go_wp2_with fail
    refine HA.out.mono ?_
    rintro e w1 ⟨rfl, hB1⟩
    go_wp2
    go_ret
    exact ⟨by rw [HV.out]; rfl, HB0.out.trans (hB1.mono HB0.out.size)⟩
  · rw [ha] at HV HA
    have g6 : ¬ (n : Int) > 500 := by omega
    have g7 : ¬ 500 < n := by omega
    go_enter Tryz.func30, Tryz.ntmps30
    go_upto_region 1 with fail
    rw [HW.out]
    go_wp2_with fail
    refine HA.out.mono ?_
    rintro e w1 ⟨rfl, hB1⟩
    have hP1 := HP0.out.below hB1 HP0.out.lt
    have a3 := hP1.cell 3 (.slice A n c) rfl
    have HB1 := Lib.hid hB1
    have HP1 := Lib.hid hP1
    clear hP1 hB1 p0 p1
    go_wp2
    go_loopw [3] (fun i wr => ∃ q : Nat, q ≤ n ∧ i = .int .i64 q ∧ Hid (Below W0.heap.size W0 wr ∧ ((List.range q).map fun i => (R i).val).all mayV = true)) (fun i _ => n - (intOf i).toNat)
    case atStart => exact ⟨0, Nat.zero_le _, rfl, Lib.hid ⟨HB1.out, rfl⟩⟩
    case round =>
      obtain ⟨q, hq, rfl, HI⟩ := hrel
      have hPr := HP0.out.below HI.out.1 HP0.out.lt
      have b3 := hPr.cell 3 (.slice A n c) rfl
      have HPr := Lib.hid hPr
      clear hPr a3
      by_cases hlt : q < n
      · have hLr := HR.out.below HI.out.1 (Nat.le_refl _)
        rcases hLr with h0 | ⟨bb, o, rfl, hbl, hcs⟩
        · omega
        obtain ⟨q0, q1, q2, q3, _, _, _, _, _, hru⟩ := hcs q hlt
        have HSN := Lib.hid (allR_snoc R q)
        have HNO := Lib.hid (allR_no R q n hlt)
        obtain ⟨r, hr⟩ : ∃ r, R q = r := ⟨_, rfl⟩
        rw [hr] at q0 q1 q2 q3 hru HSN HNO
        rw [Nat.add_zero] at q0
        rw [mayV_val] at HSN HNO
        obtain ⟨nm, k1, u1, A1, n1, c1, C1⟩ := r
        simp only at q0 q1 q2 q3 hru HSN HNO
        have HC := Lib.hid hru
        have i1 : (0 : Int) ≤ (q : Int) := by omega
        have i2 : (q : Int) < (n : Int) := by omega
        obtain ⟨X, hX⟩ : ∃ X, wr.alloc (.cells (rulA nm k1 u1 A1 n1 c1) 108) = X := ⟨_, rfl⟩
        obtain ⟨bx, hbx⟩ : ∃ bx, wr.heap.size = bx := ⟨_, rfl⟩
        have HXP := Lib.hid (show RowC X bx (rulA nm k1 u1 A1 n1 c1) 108 by rw [← hX, ← hbx]; exact RowC.new _ _ _ _ rfl)
        have HXB := Lib.hid (show Below bx wr X by rw [← hX, ← hbx]; exact (Below.refl _ _).alloc (Nat.le_refl _) _)
        have HXW := Lib.hid hX
        have HBX := Lib.hid hbx
        have HNM := Lib.hid (name14_any nm X)
        have HQB := Lib.hid (HI.out.1.trans (HXB.out.mono (by have := HI.out.1.size; omega)))
        have x0 := HXP.out.cell 0 (.string nm) rfl
        clear hcs hr hru hbl hX hbx
        rcases hb : nameB nm with _ | _
        · rw [hb] at HNM HNO
          go_upto_region 7 with fail
          rw [HXW.out, HBX.out]
          go_wp2_with fail
          refine HNM.out.mono ?_
          rintro e w3 ⟨rfl, hB3⟩
          go_wp2
          go_ret
          exact ⟨by rw [HV.out, HNO.out rfl]; rfl, HB0.out.trans ((HQB.out.trans (hB3.mono HQB.out.size)).mono HB0.out.size)⟩
        · rw [hb] at HNM HNO HSN
          rcases ha1 : actB k1 u1 with _ | _
          · rw [ha1] at HNO
            go_upto_region 7 with fail
            rw [HXW.out, HBX.out]
            go_wp2_with fail
            refine HNM.out.mono ?_
            rintro e w3 ⟨rfl, hB3⟩
            have HX3 := Lib.hid (HXP.out.below hB3 HXP.out.lt)
            have y1 := HX3.out.cell 1 (.int .i64 k1) rfl
            have y2 := HX3.out.cell 2 (.int .i64 u1) rfl
            have HA1 := Lib.hid (right9_any k1 u1 w3)
            rw [ha1] at HA1
            have HQ3 := Lib.hid (HQB.out.trans (hB3.mono HQB.out.size))
            clear hB3
            go_wp2_with fail
            refine HA1.out.mono ?_
            rintro e w4 ⟨rfl, hB4⟩
            go_wp2
            go_ret
            exact ⟨by rw [HV.out, HNO.out rfl]; rfl, HB0.out.trans ((HQ3.out.trans (hB4.mono HQ3.out.size)).mono HB0.out.size)⟩
          · rw [ha1] at HNO HSN
            go_upto_region 7 with fail
            rw [HXW.out, HBX.out]
            go_wp2_with fail
            refine HNM.out.mono ?_
            rintro e w3 ⟨rfl, hB3⟩
            have HX3 := Lib.hid (HXP.out.below hB3 HXP.out.lt)
            have y1 := HX3.out.cell 1 (.int .i64 k1) rfl
            have y2 := HX3.out.cell 2 (.int .i64 u1) rfl
            have HA1 := Lib.hid (right9_any k1 u1 w3)
            rw [ha1] at HA1
            have HQ3 := Lib.hid (HQB.out.trans (hB3.mono HQB.out.size))
            have HX3B := Lib.hid hB3
            clear hB3
            go_wp2_with fail
            refine HA1.out.mono ?_
            rintro e w4 ⟨rfl, hB4⟩
            have HX4 := Lib.hid (HX3.out.below hB4 HX3.out.lt)
            have y3 := HX4.out.cell 3 (.slice A1 n1 c1) rfl
            have HQ4 := Lib.hid (HQ3.out.trans (hB4.mono HQ3.out.size))
            have HC4 := Lib.hid (HC.out.below (HXB.out.trans ((HX3B.out.trans (hB4.mono HX3B.out.size)).mono (by have := HXB.out.size; rw [HBX.out] at this; exact this))) (by rw [HBX.out]; exact Nat.le_refl _))
            clear hB4 x0 y1 y2
            by_cases h6 : n1 ≤ 6
            · have h6' : ¬ (n1 : Int) > 6 := by omega
              have h6'' : ¬ 6 < n1 := by omega
              rw [decide_eq_true h6] at HSN HNO
              go_wp2
              go_loopw [5] (fun i2 wq => ∃ q2 : Nat, q2 ≤ n1 ∧ i2 = .int .i64 q2 ∧ Hid (Below W0.heap.size W0 wq ∧ RowC wq bx (rulA nm k1 u1 A1 n1 c1) 108 ∧ ConA wq A1 n1 C1 ∧ ((List.range q2).map C1).all (fun c => decide (RiC c)) = true)) (fun i2 _ => n1 - (intOf i2).toNat)
              case atStart => exact ⟨0, Nat.zero_le _, rfl, Lib.hid ⟨HQ4.out, HX4.out, HC4.out, rfl⟩⟩
              case round =>
                rename_i wr
                obtain ⟨q2, hq2, rfl, HJ⟩ := hrel
                have y3 := HJ.out.2.1.cell 3 (.slice A1 n1 c1) rfl
                by_cases hlt2 : q2 < n1
                · obtain ⟨x9, hx9⟩ : ∃ x9, C1 q2 = x9 := ⟨_, rfl⟩
                  obtain ⟨b9, o9, rfl, d0, d1, d2, d3⟩ := HJ.out.2.2.1.four hlt2 hx9
                  have HX9 := Lib.hid hx9
                  have HCR := Lib.hid fun X => refRight_dec x9 X
                  obtain ⟨cv, hcv⟩ : ∃ cv, decide (RiC x9) = cv := ⟨_, rfl⟩
                  rw [hcv] at HCR
                  have HCV := Lib.hid hcv
                  have j1 : (0 : Int) ≤ (q2 : Int) := by omega
                  have j2 : (q2 : Int) < (n1 : Int) := by omega
                  clear hx9 hcv
                  go_wp2_with fail
                  refine (HCR.out _).mono ?_
                  rintro e w5 ⟨rfl, hB5⟩
                  cases cv with
                  | true =>
                    go_wp2
                    exact ⟨⟨q2 + 1, by omega, by go_num, Lib.hid ⟨HJ.out.1.trans (hB5.mono HJ.out.1.size), HJ.out.2.1.below hB5 HJ.out.2.1.lt, HJ.out.2.2.1.below hB5 (Nat.le_refl _), by rw [List.range_succ, List.map_append, List.all_append, HJ.out.2.2.2]; simp [HX9.out, HCV.out]⟩⟩, by simp [intOf]; omega⟩
                  | false =>
                    go_wp2
                    go_ret
                    refine ⟨?_, HB0.out.trans ((HJ.out.1.trans (hB5.mono HJ.out.1.size)).mono HB0.out.size)⟩
                    have hf : ((List.range n1).map C1).all (fun c => decide (RiC c)) = false := by
                      rw [range_take C1 q2 n1 hlt2, List.all_append, List.all_append]
                      simp [HX9.out, HCV.out]
                    rw [HV.out, HNO.out (by rw [hf]; rfl)]
                    rfl
                · obtain rfl : q2 = n1 := by omega
                  go_wp2
                  exact ⟨⟨q + 1, by omega, by go_num, Lib.hid ⟨HJ.out.1, by rw [HSN.out, HI.out.2, HJ.out.2.2.2]; rfl⟩⟩, by simp [intOf]; omega⟩
            · have h6' : (n1 : Int) > 6 := by omega
              have h6'' : 6 < n1 := by omega
              rw [decide_eq_false h6] at HNO
              go_wp2
              go_ret
              exact ⟨by rw [HV.out, HNO.out rfl]; rfl, HB0.out.trans (HQ4.out.mono HB0.out.size)⟩
      · obtain rfl : q = n := by omega
        go_wp2
        go_ret
        exact ⟨by rw [HV.out, HI.out.2]; rfl, HB0.out.trans (HI.out.1.mono HB0.out.size)⟩
end Go.Proofs.YtcmdmnnkbliggaaGreatDoor

/-
  Layer 15: the document's Check.
-/
namespace Go.Proofs.YtcmdmnnkbliggaaGreatDoor
open Go.RowKit Go.Shelf Go.Lib Go.Sort
set_option linter.unusedVariables false

/-- Is a rule hidden by one ahead of it, in the document's words? -/
def hidD (a r : RV) : Bool := decide (a.nm = r.nm) && (a.L.isEmpty || alkF a.L r.L)
/-- The first rule that is wrong, in the document's words. -/
inductive VR (T : Nat → SR) (tn : Nat) (L : List RV) : Nat → Nat → Nat → Prop
  | nil (i : Nat) (h : L.length ≤ i) : VR T tn L i 0 0
  | name (i : Nat) (r : RV) (hr : L[i]? = some r) (h : (List.range tn).any (isN T r.nm) = false) : VR T tn L i i 14
  | bes (i : Nat) (r : RV) (hr : L[i]? = some r) (h : (List.range tn).any (isN T r.nm) = true) (h2 : r.L.any besF = true) : VR T tn L i i 16
  | twice (i : Nat) (r : RV) (hr : L[i]? = some r) (h : (List.range tn).any (isN T r.nm) = true) (h2 : r.L.any besF = false) (h3 : (L.take i).any (fun a => hidD a r) = true) : VR T tn L i i 15
  | go (i : Nat) (r : RV) (a f : Nat) (hr : L[i]? = some r) (h : (List.range tn).any (isN T r.nm) = true) (h2 : r.L.any besF = false) (h3 : (L.take i).any (fun a => hidD a r) = false) (h4 : VR T tn L (i + 1) a f) : VR T tn L i a f
/-- What the document's Check tells. -/
def ChkD (k u : Int) (L : List RV) (T : Nat → SR) (tn a f : Nat) : Prop :=
  (rightV k u L = false ∧ a = 0 ∧ f = 13) ∨ (rightV k u L = true ∧ (((∃ p q, RightP T tn p q ∧ q ≠ 0) ∧ a = 0 ∧ f = 18) ∨ (RightP T tn 0 0 ∧ VR T tn L 0 a f)))
theorem bes_or (c : CD) (hm : c.m ≤ 18446744073709551615) (hv : c.v ≤ 18446744073709551615) : besF c = ((c.o == 7) && ((c.v ||| c.m : Nat) != c.m)) := by
  unfold besF
  have h := or_beside c.v c.m hv hm
  by_cases h1 : c.v ||| c.m = c.m
  · rw [h1, h.1 h1]; simp
  · have h2 : ¬ (c.v &&& (18446744073709551615 - c.m) = 0) := fun e => h1 (h.2 e)
    rw [show ((c.v &&& (18446744073709551615 - c.m)) != 0) = true by simpa using h2, show ((c.v ||| c.m) != c.m) = true by simpa using h1]
/-! The two say the same. -/
theorem alk_srt {l m : List CD} (h : alkF l m = true) : srt l = srt m := by
  unfold alkF at h
  simp only [Bool.and_eq_true, List.all_eq_true, decide_eq_true_eq] at h
  exact srt_of_mem fun x => ⟨fun hx => h.1 x hx, fun hx => h.2 x hx⟩
theorem srt_alk {l m : List CD} (h : srt l = srt m) : alkF l m = true := by
  unfold alkF
  simp only [Bool.and_eq_true, List.all_eq_true, decide_eq_true_eq]
  exact ⟨fun x hx => by rw [← mem_srt, ← h, mem_srt]; exact hx, fun x hx => by rw [← mem_srt, h, mem_srt]; exact hx⟩
theorem reqA_inj {nm nm' : ByteArray} {g g' : Nat → CV} (h : Value.agg (reqA nm g) = .agg (reqA nm' g')) : nm = nm' ∧ ∀ j, j < 6 → g j = g' j := by
  have h1 : reqA nm g = reqA nm' g' := by injection h
  refine ⟨?_, fun j hj => ?_⟩
  · have h2 := congrArg (fun a : Array Value => a[0]?) h1
    have h3 : some (Value.string nm) = some (Value.string nm') := h2
    injection (Option.some.inj h3)
  · have hx : ∀ c, c < 4 → (encC (g j)).getD c undef = (encC (g' j)).getD c undef := fun c hc => by
      have h2 := congrArg (fun a : Array Value => a[1 + j * 4 + c]?) h1
      simp only [reqA_at nm g j c hj hc, reqA_at nm' g' j c hj hc] at h2
      exact Option.some.inj h2
    have e0 : Value.int .i64 (g j).1 = .int .i64 (g' j).1 := hx 0 (by decide)
    have e1 : Value.int .i64 (g j).2.1 = .int .i64 (g' j).2.1 := hx 1 (by decide)
    have e2 : Value.int .u64 (g j).2.2.1 = .int .u64 (g' j).2.2.1 := hx 2 (by decide)
    have e3 : Value.int .u64 (g j).2.2.2 = .int .u64 (g' j).2.2.2 := hx 3 (by decide)
    have f0 : (g j).1 = (g' j).1 := by injection e0
    have f1 : (g j).2.1 = (g' j).2.1 := by injection e1
    have f2 : (g j).2.2.1 = (g' j).2.2.1 := by injection e2
    have f3 : (g j).2.2.2 = (g' j).2.2.2 := by injection e3
    exact Prod.ext f0 (Prod.ext f1 (Prod.ext f2 f3))
theorem pad_inj {l m : List CD} (hl : l.length ≤ 6) (hm : m.length ≤ 6) (h1 : ∀ c ∈ l, c.o ≠ 0) (h2 : ∀ c ∈ m, c.o ≠ 0) (h : ∀ j, j < 6 → padC l j = padC m j) : l = m := by
  have hin : ∀ (l : List CD) (j : Nat) (hj : j < l.length), padC l j = cvOf l[j] := fun l j hj => by
    unfold padC
    rw [List.getD_eq_getElem?_getD, List.getElem?_eq_getElem (by rw [List.length_map]; exact hj), List.getElem_map]
    rfl
  have hout : ∀ (l : List CD) (j : Nat), l.length ≤ j → padC l j = (0, 0, 0, 0) := fun l j hj => by
    unfold padC
    rw [List.getD_eq_getElem?_getD, List.getElem?_eq_none (by rw [List.length_map]; exact hj)]
    rfl
  have hnz : ∀ c : CD, c.o ≠ 0 → cvOf c ≠ (0, 0, 0, 0) := fun c hc e => hc (congrArg (fun x : CV => x.2.1) e)
  have hlen : l.length = m.length := by
    rcases Nat.lt_trichotomy l.length m.length with hlt | he | hlt
    · have e := h l.length (by omega)
      rw [hout l _ (Nat.le_refl _), hin m _ hlt] at e
      exact absurd e.symm (hnz _ (h2 _ (List.getElem_mem _)))
    · exact he
    · have e := h m.length (by omega)
      rw [hout m _ (Nat.le_refl _), hin l _ hlt] at e
      exact absurd e (hnz _ (h1 _ (List.getElem_mem _)))
  apply List.ext_getElem hlen
  intro j a b
  have e := h j (by omega)
  rw [hin l j a, hin m j b] at e
  exact cvOf_inj e
/-- Rules whose conditions are few and right. -/
def FewR (r : RV) : Prop := r.L.length ≤ 6 ∧ ∀ c ∈ r.L, c.o ≠ 0
theorem hid_iff {a r : RV} (ha : FewR a) (hr : FewR r) : (reqK a = .agg (reqN r.nm) ∨ reqK a = reqK r) ↔ hidD a r = true := by
  have hsl : ∀ {r : RV}, FewR r → (srt r.L).length ≤ 6 ∧ ∀ c ∈ srt r.L, c.o ≠ 0 := fun {r} h => ⟨Nat.le_trans (srt_len _) h.1, fun c hc => h.2 c ((mem_srt c _).1 hc)⟩
  unfold hidD
  simp only [Bool.and_eq_true, Bool.or_eq_true, decide_eq_true_eq]
  constructor
  · rintro (h | h)
    · obtain ⟨h1, h2⟩ := reqA_inj (g' := padC []) h
      refine ⟨h1, .inl ?_⟩
      have h3 := pad_inj (hsl ha).1 (by decide) (hsl ha).2 (fun c hc => by cases hc) h2
      cases hL : a.L with
      | nil => rfl
      | cons c t =>
        have : c ∈ srt a.L := (mem_srt c _).2 (by rw [hL]; exact List.mem_cons_self ..)
        rw [h3] at this
        cases this
    · obtain ⟨h1, h2⟩ := reqA_inj h
      exact ⟨h1, .inr (srt_alk (pad_inj (hsl ha).1 (hsl hr).1 (hsl ha).2 (hsl hr).2 h2))⟩
  · rintro ⟨h1, h2 | h2⟩
    · left
      have h3 : a.L = [] := by simpa using h2
      unfold reqK
      rw [h1, h3]
      rfl
    · right
      unfold reqK
      rw [h1, alk_srt h2]
theorem chk_same {T : Nat → SR} {tn : Nat} {L : List RV} (hL : ∀ r ∈ L, FewR r) {S : List Value} {i : Nat} {M : List RV} {a f : Nat} (h : VC T tn S i M a f) : S = (L.take i).map reqK → M = L.drop i → VR T tn L i a f := by
  have hd : ∀ {i : Nat} {r : RV} {rs : List RV}, r :: rs = L.drop i → L[i]? = some r ∧ rs = L.drop (i + 1) := fun {i r rs} h => by
    have h1 : (L.drop i)[0]? = some r := by rw [← h]; rfl
    rw [List.getElem?_drop, Nat.add_zero] at h1
    refine ⟨h1, ?_⟩
    have h2 : (L.drop i).drop 1 = rs := by rw [← h]; rfl
    rw [List.drop_drop] at h2
    exact h2.symm
  have hh : ∀ {i : Nat} {r : RV}, L[i]? = some r → ((Value.agg (reqN r.nm) ∈ (L.take i).map reqK ∨ reqK r ∈ (L.take i).map reqK) ↔ (L.take i).any (fun a => hidD a r) = true) := fun {i r} hr => by
    have hrL : r ∈ L := List.mem_of_getElem? hr
    simp only [List.mem_map, List.any_eq_true]
    constructor
    · rintro (⟨a, ha, e⟩ | ⟨a, ha, e⟩)
      · exact ⟨a, ha, (hid_iff (hL a (List.mem_of_mem_take ha)) (hL r hrL)).1 (.inl e)⟩
      · exact ⟨a, ha, (hid_iff (hL a (List.mem_of_mem_take ha)) (hL r hrL)).1 (.inr e)⟩
    · rintro ⟨a, ha, e⟩
      rcases (hid_iff (hL a (List.mem_of_mem_take ha)) (hL r hrL)).2 e with e | e
      · exact .inl ⟨a, ha, e⟩
      · exact .inr ⟨a, ha, e⟩
  induction h with
  | nil S i => intro _ hM; exact VR.nil i (List.drop_eq_nil_iff.1 hM.symm)
  | name S i r rs h => intro _ hM; exact VR.name i r (hd hM).1 h
  | bes S i r rs h h2 => intro _ hM; exact VR.bes i r (hd hM).1 h h2
  | twice S i r rs h h2 h3 =>
    intro hS hM
    subst hS
    exact VR.twice i r (hd hM).1 h h2 ((hh (hd hM).1).1 h3)
  | go S i r rs a f h h2 h3 h4 ih =>
    intro hS hM
    subst hS
    obtain ⟨e1, e2⟩ := hd hM
    refine VR.go i r a f e1 h h2 ?_ (ih ?_ e2)
    · cases hb : (L.take i).any (fun a => hidD a r) with
      | false => rfl
      | true => exact absurd ((hh e1).2 hb) (fun h => h.elim h3.1 h3.2)
    · rw [List.take_add_one, e1, List.map_append]
      rfl
end Go.Proofs.YtcmdmnnkbliggaaGreatDoor

/-
  Layer 15: the program's Check and the document's answer alike.
-/
namespace Go.Proofs.YtcmdmnnkbliggaaGreatDoor
open Go.RowKit Go.Shelf Go.Lib Go.Sort
set_option linter.unusedVariables false

theorem VR.uniq {T : Nat → SR} {tn : Nat} {L : List RV} {i a f : Nat} (h : VR T tn L i a f) : ∀ {a' f' : Nat}, VR T tn L i a' f' → a = a' ∧ f = f' := by
  induction h with
  | nil i h =>
    intro a' f' h'
    have hn : L[i]? = none := List.getElem?_eq_none h
    cases h' with
    | nil _ _ => exact ⟨rfl, rfl⟩
    | name _ r hr => rw [hn] at hr; cases hr
    | bes _ r hr => rw [hn] at hr; cases hr
    | twice _ r hr => rw [hn] at hr; cases hr
    | go _ r _ _ hr => rw [hn] at hr; cases hr
  | name i r hr h =>
    intro a' f' h'
    cases h' with
    | nil _ hl => rw [List.getElem?_eq_none hl] at hr; cases hr
    | name _ r2 hr2 h2 => exact ⟨rfl, rfl⟩
    | bes _ r2 hr2 h2 => rw [hr] at hr2; cases hr2; rw [h] at h2; cases h2
    | twice _ r2 hr2 h2 => rw [hr] at hr2; cases hr2; rw [h] at h2; cases h2
    | go _ r2 _ _ hr2 h2 => rw [hr] at hr2; cases hr2; rw [h] at h2; cases h2
  | bes i r hr h h3 =>
    intro a' f' h'
    cases h' with
    | nil _ hl => rw [List.getElem?_eq_none hl] at hr; cases hr
    | name _ r2 hr2 h2 => rw [hr] at hr2; cases hr2; rw [h] at h2; cases h2
    | bes _ r2 hr2 h2 => exact ⟨rfl, rfl⟩
    | twice _ r2 hr2 h2 h4 => rw [hr] at hr2; cases hr2; rw [h3] at h4; cases h4
    | go _ r2 _ _ hr2 h2 h4 => rw [hr] at hr2; cases hr2; rw [h3] at h4; cases h4
  | twice i r hr h h3 h5 =>
    intro a' f' h'
    cases h' with
    | nil _ hl => rw [List.getElem?_eq_none hl] at hr; cases hr
    | name _ r2 hr2 h2 => rw [hr] at hr2; cases hr2; rw [h] at h2; cases h2
    | bes _ r2 hr2 h2 h4 => rw [hr] at hr2; cases hr2; rw [h3] at h4; cases h4
    | twice _ r2 hr2 h2 h4 => exact ⟨rfl, rfl⟩
    | go _ r2 _ _ hr2 h2 h4 h6 => rw [hr] at hr2; cases hr2; rw [h5] at h6; cases h6
  | go i r a f hr h h3 h5 h7 ih =>
    intro a' f' h'
    cases h' with
    | nil _ hl => rw [List.getElem?_eq_none hl] at hr; cases hr
    | name _ r2 hr2 h2 => rw [hr] at hr2; cases hr2; rw [h] at h2; cases h2
    | bes _ r2 hr2 h2 h4 => rw [hr] at hr2; cases hr2; rw [h3] at h4; cases h4
    | twice _ r2 hr2 h2 h4 h6 => rw [hr] at hr2; cases hr2; rw [h5] at h6; cases h6
    | go _ r2 _ _ hr2 h2 h4 h6 h8 => exact ih h8
theorem few_of {k u : Int} {L : List RV} (h : rightV k u L = true) : ∀ r ∈ L, FewR r := fun r hr => by
  unfold rightV at h
  simp only [Bool.and_eq_true, decide_eq_true_eq, List.all_eq_true] at h
  have h2 := h.2.2 r hr
  unfold mayV at h2
  simp only [Bool.and_eq_true, decide_eq_true_eq, List.all_eq_true] at h2
  obtain ⟨_, _, h3, h4⟩ := h2
  refine ⟨h3, fun c hc e => ?_⟩
  have h5 := (h4 c hc).2.2.1
  omega
theorem ChkP.doc {k u : Int} {L : List RV} {T : Nat → SR} {tn a f : Nat} (h : ChkP k u L T tn a f) : ChkD k u L T tn a f := by
  rcases h with h | ⟨h1, h | ⟨h2, h3⟩⟩
  · exact .inl h
  · exact .inr ⟨h1, .inl h⟩
  · exact .inr ⟨h1, .inr ⟨h2, chk_same (few_of h1) h3 rfl rfl⟩⟩
theorem ChkD.uniq {k u : Int} {L : List RV} {T : Nat → SR} {tn a f a' f' : Nat} (h : ChkD k u L T tn a f) (h' : ChkD k u L T tn a' f') : a = a' ∧ f = f' := by
  rcases h with ⟨h0, rfl, rfl⟩ | ⟨h1, ⟨⟨p, q, hp, hq⟩, rfl, rfl⟩ | ⟨h2, h3⟩⟩ <;> rcases h' with ⟨g0, rfl, rfl⟩ | ⟨g1, ⟨⟨p', q', gp, gq⟩, rfl, rfl⟩ | ⟨g2, g3⟩⟩
  · exact ⟨rfl, rfl⟩
  · rw [h0] at g1; cases g1
  · rw [h0] at g1; cases g1
  · rw [h1] at g0; cases g0
  · exact ⟨rfl, rfl⟩
  · exact absurd (hp.uniq g2).2 hq
  · rw [h1] at g0; cases g0
  · exact absurd (gp.uniq h2).2 gq
  · exact h3.uniq g3
/-- The two Checks answer alike. -/
theorem chk_alike {k u : Int} {L : List RV} {T : Nat → SR} {tn a f a' f' : Nat} (h : ChkP k u L T tn a f) (h' : ChkD k u L T tn a' f') : a = a' ∧ f = f' := h.doc.uniq h'
end Go.Proofs.YtcmdmnnkbliggaaGreatDoor
