/-
  Layer 14: policy.demand and policy.actionOf where nothing is wrong; what act.Read answers is a hypothesis here.
-/
import Derived.Test.YtccklmleaffgiaaGreatDoorQ30
import Derived.Test.YtccklmleaffgiaaGreatDoorQ12
import Derived.BigQuiet
import Derived.Deep.QuietTactic
import Derived.Test.YtccklmleaffgiaaGreatDoorQ1
import Derived.ProofKit
namespace Go.Proofs.YtccklmleaffgiaaGreatDoor
open Go.RowKit Go.Shelf
set_option linter.unusedVariables false

set_option maxRecDepth 100000 in
theorem demand_ok (w : World) : Calls Tryz.prog 94 #[.int .i64 0] w fun e w' => e = .returned (.tuple #[]) ∧ w' = w := by
  go_enter Tryz.func94, Tryz.ntmps94
  go_wp2
  go_end0
  exact ⟨rfl, rfl⟩
/-- act.Read answers so, wherever the words still stand. -/
def ReadsA (A : Option Addr) (n c : Nat) (k u : Int) (m : Nat) (w : World) : Prop := ∀ W, Below w.heap.size w W → Calls Tryz.prog 93 #[.slice A n c] W fun e w' => e = .returned (.tuple #[.agg #[.int .i64 k, .int .i64 u], .int .i64 m, .int .i64 0]) ∧ Below W.heap.size W w'
theorem infoA28 : (Tryz.prog.info? 23).map (·.size) = some 2 := by kernel_rfl
set_option maxRecDepth 100000 in
set_option maxHeartbeats 8000000 in
theorem actionOf_ok (A : Option Addr) (n c m : Nat) (k u : Int) (w : World) (hm : m ≤ n) (hnc : n ≤ c) (hc : c ≤ 9223372036854775807) (hr : ReadsA A n c k u m w) :
    Calls Tryz.prog 77 #[.slice A n c] w fun e w' => e = .returned (.tuple #[.agg #[.int .i64 k, .int .i64 u], .slice (if c = m then A else A.map (·.add m)) (n - m) (c - m)]) ∧ Below w.heap.size w w' := by
  obtain ⟨B, hBs⟩ : ∃ B, w.heap.size = B := ⟨_, rfl⟩
  obtain ⟨W0, hW0⟩ : ∃ W, w.alloc (.cells #[.int .i64 0, .int .i64 0] 23) = W := ⟨_, rfl⟩
  have hB0 : Below B w W0 := by rw [← hW0, ← hBs]; exact (Below.refl _ _).alloc (Nat.le_refl _) _
  have hZ0 : RowC W0 B #[.int .i64 0, .int .i64 0] 23 := by rw [← hW0, ← hBs]; exact RowC.new _ _ _ _ rfl
  have HR := Lib.hid (hr W0 (by rw [hBs]; exact hB0))
  have HB0 := Lib.hid hB0
  have HZ0 := Lib.hid hZ0
  have HW := Lib.hid hW0
  have HBS := Lib.hid hBs
  have i1 : (0 : Int) ≤ (m : Int) := by omega
  have i2 : (m : Int) ≤ (n : Int) := by omega
  have i3 : (n : Int) ≤ (c : Int) := by omega
  clear hW0 hBs hB0 hZ0 hr
  go_enter Tryz.func77, Tryz.ntmps77
  go_upto_region 1 with fail
  (try rw [HBS.out])
  (try rw [HW.out])
  go_wp2_with fail
  refine HR.out.mono ?_
  rintro e w1 ⟨rfl, hB1⟩
  have hz1 := HZ0.out.below hB1 HZ0.out.lt
  have HZ1 := Lib.hid hz1
  have HB1 := Lib.hid hB1
  clear hB1 hz1
  go_wp2_with (go_at_call 94; refine (demand_ok _).mono ?_; rintro e w2 ⟨rfl, rfl⟩)
  obtain ⟨X, hX⟩ : ∃ X, w1.heap.size = X := ⟨_, rfl⟩
  obtain ⟨W2, hW2⟩ : ∃ W, w1.alloc (.cells #[.int .i64 k, .int .i64 u] 23) = W := ⟨_, rfl⟩
  have hB2 : Below X w1 W2 := by rw [← hW2, ← hX]; exact (Below.refl _ _).alloc (Nat.le_refl _) _
  have hA2 : RowC W2 X #[.int .i64 k, .int .i64 u] 23 := by rw [← hW2, ← hX]; exact RowC.new _ _ _ _ rfl
  have hZ2 := HZ1.out.below hB2 (by rw [← hX]; exact HZ1.out.lt)
  have HZ2 := Lib.hid hZ2
  have HB2 := Lib.hid hB2
  have HX := Lib.hid hX
  have a0 := hA2.cell 0 (.int .i64 k) rfl
  have a1 := hA2.cell 1 (.int .i64 u) rfl
  have z0 := hZ2.cell 0 (.int .i64 0) rfl
  have z1 := hZ2.cell 1 (.int .i64 0) rfl
  have y0 := hZ2.frozen 0
  have y1 := hZ2.frozen 1
  (try rw [hX])
  (try rw [hW2])
  clear hX hW2 hB2 hA2 hZ2
  go_region
  all_goals go_wp2
  all_goals
    have hset := (HZ2.out.set 0 (.int .i64 k)).set 1 (.int .i64 u)
    have hsz := HB1.out.size
    have hsz0 := HB0.out.size
    exact bodyPost_ret (results_ct Tryz.results77 _ _ B _ _ (0, 0) _ _ (by rfl) (by rfl) (show RowC _ B #[.int .i64 k, .int .i64 u] 23 from hset) Tryz.underlying23 (by rfl) infoA28) rfl
      ⟨rfl, by rw [HBS.out]; exact ((((HB0.out.trans (HB1.out.mono (by rw [HBS.out] at hsz0; exact hsz0))).trans (HB2.out.mono (by rw [HBS.out] at hsz0; have := HX.out; omega))).setCell (p := ⟨B, 0, none⟩) (Nat.le_refl _) _).setCell (p := ⟨B, 1, none⟩) (Nat.le_refl _) _).drew⟩
end Go.Proofs.YtccklmleaffgiaaGreatDoor

/-
  Layer 14: policy.condsOf where nothing is wrong; what cond.Read answers at each place is a hypothesis here.
-/
namespace Go.Proofs.YtccklmleaffgiaaGreatDoor
open Go.RowKit Go.Shelf
set_option linter.unusedVariables false

/-- The word that stands ahead of the condition j. -/
def aheadW (j : Nat) : ByteArray := if j = 0 then ⟨#[105, 102]⟩ else ⟨#[97, 110, 100]⟩
/-- From place p on n - p words, in memory at b, o + p; the conditions from j on, how many words each takes. -/
inductive CondsR (w : World) (b o n c : Nat) (wd : Nat → ByteArray) : Nat → Nat → List CD → Prop
  | nil (j : Nat) : CondsR w b o n c wd n j []
  | cons (p j m : Nat) (cd : CD) (t : List CD) (hp : p < n) (hw : wd p = aheadW j) (hj : j < 6) (hm : p + 1 + m ≤ n) (hm1 : 1 ≤ m)
      (hr : ∀ W, Below w.heap.size w W → Calls Tryz.prog 95 #[.slice (some ⟨b, o + p + 1, none⟩) (n - p - 1) (c - p - 1)] W fun e w' => e = .returned (.tuple #[.agg #[.int .i64 cd.a, .int .i64 cd.o, .int .u64 cd.m, .int .u64 cd.v], .int .i64 m, .int .i64 0]) ∧ Below W.heap.size W w')
      (ht : CondsR w b o n c wd (p + 1 + m) (j + 1) t) : CondsR w b o n c wd p j (cd :: t)
theorem CondsR.le {w : World} {b o n c : Nat} {wd : Nat → ByteArray} {p j : Nat} {l : List CD} (h : CondsR w b o n c wd p j l) : p ≤ n := by
  cases h <;> omega
/-- The words from p on as a value. -/
def WordsV (b o n c p : Nat) (v : Value) : Prop := (p < n ∧ v = .slice (some ⟨b, o + p, none⟩) (n - p) (c - p)) ∨ (p = n ∧ ∃ A0 c0, v = .slice A0 0 c0)

set_option maxRecDepth 100000 in
set_option maxHeartbeats 8000000 in
theorem condsOf_ok (b o n c : Nat) (wd : Nat → ByteArray) (v : Value) (p0 : Nat) (CL : List CD) (w : World) (hv : WordsV b o n c p0 v) (hnc : n ≤ c) (hc : c ≤ 9223372036854775807) (hb : b < w.heap.size) (hw : ∀ i, i < n → w.cell? ⟨b, o + i, none⟩ = some (.string (wd i)))
    (hcr : CondsR w b o n c wd p0 0 CL) (h6 : CL.length ≤ 6) :
    Calls Tryz.prog 78 #[v] w fun e w' => ∃ A' c', e = .returned (.slice A' CL.length c') ∧ OwnC w' w.heap.size 53 4 A' CL.length c' (ccell fun i => CL[i]!) ∧ Below w.heap.size w w' := by
  have HC := Lib.hid hw
  have HV := Lib.hid hv
  have HR0 := Lib.hid hcr
  obtain ⟨b1, hb1⟩ : ∃ B, w.heap.size = B := ⟨_, rfl⟩
  have HB1 := Lib.hid hb1
  obtain ⟨C, hC⟩ : ∃ C : Nat → CD, (fun i => CL[i]!) = C := ⟨_, rfl⟩
  have HCC := Lib.hid (fun i => congrFun hC i)
  rw [hC]
  clear hw hv hcr hC hb1
  go_enter Tryz.func78, Tryz.ntmps78
  go_wp2
  go_loopw [0, 3, 4] (fun vw vl va wr => ∃ (p j : Nat) (A' : Option Addr) (c' : Nat), j ≤ CL.length ∧ va = .string (aheadW j) ∧ vl = .slice A' j c' ∧ Hid (WordsV b o n c p vw ∧ CondsR w b o n c wd p j (CL.drop j) ∧ OwnC wr w.heap.size 53 4 A' j c' (ccell C) ∧ Below w.heap.size w wr)) (fun vw _ _ _ => match vw with | .slice _ m _ => m | _ => 0)
  case atStart => exact ⟨p0, 0, none, 0, Nat.zero_le _, rfl, rfl, Lib.hid ⟨HV.out, HR0.out, OwnC.nil_, Below.refl _ _⟩⟩
  case round =>
    obtain ⟨p, j, A', c', hj, rfl, rfl, HI⟩ := hrel
    obtain ⟨rest, hrest⟩ : ∃ r, CL.drop j = r := ⟨_, rfl⟩
    have hcr := HI.out.2.1
    rw [hrest] at hcr
    cases hcr with
    | nil _ =>
      have hlen : j = CL.length := by
        have := congrArg List.length hrest
        simp at this
        omega
      rcases HI.out.1 with ⟨h1, _⟩ | ⟨_, A0, c0, rfl⟩
      · omega
      subst hlen
      go_wp2
      go_ret
      exact ⟨A', c', rfl, HI.out.2.2.1, HI.out.2.2.2⟩
    | cons _ _ m cd t hp hwp hj6 hm hm1 hr ht =>
      rcases HI.out.1 with ⟨_, rfl⟩ | ⟨h1, _⟩
      case inr => omega
      have hlt : j < CL.length := by
        have := congrArg List.length hrest
        simp at this
        omega
      have hcd : CL[j]! = cd ∧ CL.drop (j + 1) = t := by
        rw [List.drop_eq_getElem_cons hlt] at hrest
        injection hrest with e1 e2
        exact ⟨by rw [getElem!_pos CL j hlt]; exact e1, e2⟩
      obtain ⟨N1, hN1⟩ : ∃ N1, n - p = N1 := ⟨_, rfl⟩
      obtain ⟨c1, hc1⟩ : ∃ c1, c - p = c1 := ⟨_, rfl⟩
      obtain ⟨P, hP⟩ : ∃ P, o + p = P := ⟨_, rfl⟩
      obtain ⟨s, hs⟩ : ∃ s, aheadW j = s := ⟨_, rfl⟩
      have q0 : wr.cell? ⟨b, P, none⟩ = some (.string s) := by rw [HI.out.2.2.2.cell (show b < w.heap.size from hb), ← hP, ← hs, ← hwp]; exact HC.out p hp
      rw [hN1, hc1, hP] at hr
      have KR := Lib.hid (hr wr HI.out.2.2.2)
      have HH := Lib.hid (And.intro hN1 (And.intro hc1 (And.intro hP (And.intro hs (And.intro hcd ht)))))
      have d1 : (s.toList == s.toList) = true := by simp
      have d2 : ((j : Int) == 6) = false := by simp; omega
      have n1 : (N1 : Int) > 0 := by omega
      have n2 : 0 < N1 := by omega
      have n3 : (1 : Int) ≤ (N1 : Int) := by omega
      have n4 : (N1 : Int) ≤ (c1 : Int) := by omega
      have n5 : ¬ c1 = 1 := by omega
      have n6 : 1 + m ≤ N1 := by omega
      have n7 : c1 ≤ 9223372036854775807 := by omega
      rw [hN1, hc1, hP, hs]
      clear hN1 hc1 hP hs hcd ht hr hrest hwp
      obtain ⟨M, hM⟩ : ∃ M, 1 + m = M := ⟨_, rfl⟩
      have v1 : IntKind.i64.wrap (1 + (m : Int)) = (M : Int) := by rw [IntKind.wrap_i64]; omega
      have v2 : 1 + (m : Int) = (M : Int) := by omega
      have v3 : (0 : Int) ≤ (M : Int) := by omega
      have v4 : (M : Int) ≤ (N1 : Int) := by omega
      have HCat := Lib.hid (ccell_cat C j cd (by have h := HCC.out j; rw [← h]; exact HH.out.2.2.2.2.1.1))
      have HMM := Lib.hid hM
      clear hM
      go_wp2_with fail
      refine KR.out.mono ?_
      rintro e w1 ⟨rfl, hB1⟩
      obtain ⟨X, hX⟩ : ∃ X, w1.heap.size = X := ⟨_, rfl⟩
      obtain ⟨W1, hW1⟩ : ∃ W, w1.alloc (.cells #[.int .i64 cd.a, .int .i64 cd.o, .int .u64 cd.m, .int .u64 cd.v] 53) = W := ⟨_, rfl⟩
      have hB11 : Below X w1 W1 := by rw [← hW1, ← hX]; exact (Below.refl _ _).alloc (Nat.le_refl _) _
      have hx1 : RowC W1 X #[.int .i64 cd.a, .int .i64 cd.o, .int .u64 cd.m, .int .u64 cd.v] 53 := by rw [← hW1, ← hX]; exact RowC.new _ _ _ _ rfl
      have hBw : Below wr.heap.size wr W1 := hB1.trans (hB11.mono (by have := hB1.size; omega))
      have HO1 := Lib.hid (HI.out.2.2.1.below hBw (Nat.le_refl _))
      have HBW := Lib.hid hBw
      have HW1 := Lib.hid hW1
      have x0 := hx1.cell 0 (.int .i64 cd.a) rfl
      have x1 := hx1.cell 1 (.int .i64 cd.o) rfl
      have x2 := hx1.cell 2 (.int .u64 cd.m) rfl
      have x3 := hx1.cell 3 (.int .u64 cd.v) rfl
      have hsw : w.heap.size ≤ W1.heap.size := Nat.le_trans HI.out.2.2.2.size hBw.size
      clear hB1 hB11 hx1 hBw hW1
      go_upto_region 9 with fail
      (try rw [hX])
      (try rw [HW1.out])
      clear hX
      go_wp2_with (first
        | (go_at_call 94; refine (demand_ok _).mono ?_; rintro e w2 ⟨rfl, rfl⟩)
        | (at_builtin
           refine app_cells (zv := .agg zN) (z := 4) (by_ := 32) _ rfl _ _ 48 53 rfl Tryz.underlying48 infoC2 rfl (by omega) (base := w.heap.size) rfl (HO1.out.alloc _) rfl (one_cond _ cd _) (crow_one cd) (by unfold maxLen; omega) (by omega) (by simp; omega) (j + 1) rfl (ccell C) HCat.out ?_
           intro A6 c6 w6 hown6 hB6
           have HQ6 := Lib.hid (And.intro hown6 (HI.out.2.2.2.trans ((HBW.out.mono HI.out.2.2.2.size).trans (((Below.refl _ _).alloc hsw _).trans hB6))))
           clear hown6 hB6))
      obtain ⟨e1, e2, e3, e4, ⟨e5, e6⟩, e7⟩ := HH.out
      have hM := HMM.out
      refine ⟨⟨p + 1 + m, j + 1, A6, c6, hlt, rfl, rfl, Lib.hid ⟨?_, by rw [e6]; exact e7, HQ6.out.1, HQ6.out.2⟩⟩, ?_⟩
      · by_cases he : p + 1 + m < n
        · refine .inl ⟨he, ?_⟩
          rw [if_neg (by omega), show P + M = o + (p + 1 + m) by omega, show N1 - M = n - (p + 1 + m) by omega, show c1 - M = c - (p + 1 + m) by omega]
        · exact .inr ⟨by omega, _, _, by rw [show N1 - M = 0 by omega]⟩
      · show N1 - M < N1
        omega
end Go.Proofs.YtccklmleaffgiaaGreatDoor

/-
  Layer 14: the reader's setDefault and setX32 where nothing is wrong.
-/
namespace Go.Proofs.YtccklmleaffgiaaGreatDoor
open Go.RowKit Go.Shelf
set_option linter.unusedVariables false

/-- The reader's cells: the policy so far, the line's place. -/
abbrev rdA (k u : Int) (x : Bool) (R : Value) (pl : Nat) : Array Value := #[.int .i64 k, .int .i64 u, .bool x, R, .int .i64 pl]
/-- No block but RB has turned. -/
def ButR (RB : Nat) (w w' : World) : Prop := Below RB w w' ∧ ∀ b, b < w.heap.size → b ≠ RB → w'.heap[b]? = w.heap[b]?
theorem ButR.of_below {RB : Nat} {w w' : World} (h : Below w.heap.size w w') (hr : RB < w.heap.size) : ButR RB w w' := ⟨h.mono (by omega), fun b hb _ => h.block b hb⟩
theorem ButR.set {RB : Nat} {w w' : World} (h : ButR RB w w') (i : Nat) (v : Value) : ButR RB w (w'.setCell ⟨RB, i, none⟩ v) := ⟨h.1.setCell (Nat.le_refl _) _, fun b hb hn => (Below.heap_setCell _ _ _ _ hn).trans (h.2 b hb hn)⟩
theorem ButR.trans {RB : Nat} {w w' w'' : World} (h : ButR RB w w') (h' : ButR RB w' w'') : ButR RB w w'' := ⟨h.1.trans h'.1, fun b hb hn => (h'.2 b (Nat.lt_of_lt_of_le hb h.1.size) hn).trans (h.2 b hb hn)⟩

set_option maxRecDepth 100000 in
set_option maxHeartbeats 8000000 in
theorem setDefault_ok (RB b o n c pl : Nat) (k0 u0 k u : Int) (x : Bool) (R : Value) (w : World) (h : RowC w RB (rdA k0 u0 x R pl) 90) (hn : 2 ≤ n) (hnc : n ≤ c) (hc : c ≤ 9223372036854775807) (hr : ReadsA (some ⟨b, o + 1, none⟩) (n - 1) (c - 1) k u (n - 1) w) :
    Calls Tryz.prog 58 #[.pointer (some ⟨RB, 0, none⟩), .slice (some ⟨b, o, none⟩) n c] w fun e w' => e = .returned (.tuple #[]) ∧ RowC w' RB (rdA k u x R pl) 90 ∧ ButR RB w w' := by
  have K := Lib.hid (actionOf_ok (some ⟨b, o + 1, none⟩) (n - 1) (c - 1) (n - 1) k u w (Nat.le_refl _) (by omega) (by omega) hr)
  rw [Nat.sub_self] at K
  have HR := Lib.hid h
  have i1 : (1 : Int) ≤ (n : Int) := by omega
  have i2 : (n : Int) ≤ (c : Int) := by omega
  have i3 : ¬ c = 1 := by omega
  have hlt := h.lt
  obtain ⟨n1, hn1⟩ : ∃ z, n - 1 = z := ⟨_, rfl⟩
  obtain ⟨c1, hc1⟩ : ∃ z, c - 1 = z := ⟨_, rfl⟩
  rw [hn1, hc1] at K
  have HN := Lib.hid (And.intro hn1 hc1)
  obtain ⟨A9, hA9⟩ : ∃ z, (if c1 = n1 then some (⟨b, o + 1, none⟩ : Addr) else (some (⟨b, o + 1, none⟩ : Addr)).map (·.add n1)) = z := ⟨_, rfl⟩
  rw [hA9] at K
  clear hr h hA9
  go_enter Tryz.func58, Tryz.ntmps58
  go_wp2_with fail
  (try rw [hn1, hc1])
  refine K.out.mono ?_
  rintro e w1 ⟨rfl, hB1⟩
  have hr1 := HR.out.below hB1 HR.out.lt
  have hr2 := hr1.alloc (.cells #[.int .i64 k, .int .i64 u] 23)
  have HR2 := Lib.hid hr2
  have HB2 := Lib.hid (hB1.alloc hB1.size (.cells #[.int .i64 k, .int .i64 u] 23))
  have r0 := hr2.cell 0 (.int .i64 k0) rfl
  have r1 := hr2.cell 1 (.int .i64 u0) rfl
  have y0 := hr2.frozen 0
  have y1 := hr2.frozen 1
  clear hr1 hr2 hB1
  go_wp2
  go_end0
  exact ⟨rfl, (HR2.out.set 0 (.int .i64 k)).set 1 (.int .i64 u), ((ButR.of_below HB2.out hlt).set 0 _).set 1 _⟩

set_option maxRecDepth 100000 in
set_option maxHeartbeats 8000000 in
theorem setX32_ok (RB b o c : Nat) (k u : Int) (x on : Bool) (R : Value) (w : World) (h : RowC w RB (rdA k u x R 1) 90) (hc : 2 ≤ c) (hw : w.cell? ⟨b, o + 1, none⟩ = some (.string (if on then ⟨#[111, 110]⟩ else ⟨#[111, 102, 102]⟩))) :
    Calls Tryz.prog 59 #[.pointer (some ⟨RB, 0, none⟩), .slice (some ⟨b, o, none⟩) 2 c] w fun e w' => e = .returned (.tuple #[]) ∧ RowC w' RB (rdA k u on R 1) 90 ∧ ButR RB w w' := by
  have HR := Lib.hid h
  have hlt := h.lt
  have r4 := h.cell 4 (.int .i64 1) rfl
  have r2 := h.cell 2 (.bool x) rfl
  have y2 := h.frozen 2
  clear h
  cases on with
  | true =>
    simp only [if_true] at hw
    go_enter Tryz.func59, Tryz.ntmps59
    go_wp2
    go_end0
    exact ⟨rfl, HR.out.set 2 (.bool true), (ButR.of_below (Below.refl _ w) hlt).set 2 _⟩
  | false =>
    simp only [if_false, Bool.false_eq_true] at hw
    go_enter Tryz.func59, Tryz.ntmps59
    go_wp2
    go_end0
    exact ⟨rfl, HR.out.set 2 (.bool false), (ButR.of_below (Below.refl _ w) hlt).set 2 _⟩
end Go.Proofs.YtccklmleaffgiaaGreatDoor

/-
  Words for maps from texts to whatever values that a call makes.
-/
namespace Go.Proofs.YtccklmleaffgiaaGreatDoor
open Go.RowKit
set_option linter.unusedVariables false

def assocS (kv : List (ByteArray × Value)) (k : ByteArray) : Option Value := (kv.find? fun p => k == p.1).map (·.2)
/-- The block b is a map that holds the pairs kv, in the order of their coming. -/
def IsMapS (w : World) (b : Nat) (kv : List (ByteArray × Value)) : Prop :=
  ∃ es clock, w.heap[b]? = some (.map es clock) ∧ es.toList.map (fun e => (e.key, e.val)) = kv.map (fun p => (Value.string p.1, p.2))
theorem findNow_pairsS (k : ByteArray) : ∀ (es : List MapEntry) (kv : List (ByteArray × Value)) (i : Nat), es.map (fun e => (e.key, e.val)) = kv.map (fun p => (Value.string p.1, p.2)) →
    (assocS kv k = none → Instr.findNow .string (.string k) es i = some none) ∧ (∀ v, assocS kv k = some v → ∃ j, Instr.findNow .string (.string k) es i = some (some (j, v))) := by
  intro es
  induction es with
  | nil =>
    intro kv i h
    cases kv with
    | nil => exact ⟨fun _ => rfl, fun v h => by simp [assocS] at h⟩
    | cons p kv => simp at h
  | cons e es ih =>
    intro kv i h
    cases kv with
    | nil => simp at h
    | cons p kv =>
      simp only [List.map_cons, List.cons.injEq, Prod.mk.injEq] at h
      obtain ⟨⟨hk, hv⟩, hr⟩ := h
      obtain ⟨h1, h2⟩ := ih kv (i + 1) hr
      cases hpk : (k == p.1) with
      | true =>
        have e1 : assocS (p :: kv) k = some p.2 := by simp [assocS, hpk]
        rw [e1]
        refine ⟨fun h => (by cases h), fun v h => ?_⟩
        cases h
        exact ⟨i, by simp [Instr.findNow, Instr.sameNow, hk, hv, hpk]⟩
      | false =>
        have e1 : assocS (p :: kv) k = assocS kv k := by simp [assocS, hpk]
        rw [e1]
        have e2 : Instr.findNow .string (.string k) (e :: es) i = Instr.findNow .string (.string k) es (i + 1) := by simp [Instr.findNow, Instr.sameNow, hk, hpk]
        rw [e2]
        exact ⟨h1, h2⟩
section
variable {P : Program} {w w' : World} {t kt et : TypeId} {b : Nat} {kv : List (ByteArray × Value)}
theorem IsMapS.new (w : World) : IsMapS (w.alloc (.map #[] 0)) w.heap.size [] := ⟨#[], 0, (MapKept.heap_alloc w _).1, rfl⟩
theorem IsMapS.of_block (h : IsMapS w b kv) (hb : w'.heap[b]? = w.heap[b]?) : IsMapS w' b kv := by
  obtain ⟨es, c, h1, h2⟩ := h
  exact ⟨es, c, hb.trans h1, h2⟩
theorem IsMapS.lt (h : IsMapS w b kv) : b < w.heap.size := by
  obtain ⟨es, c, h1, h2⟩ := h
  exact (Array.getElem?_eq_some_iff.1 h1).1
theorem checkKey_str (em : Bool) (hk : P.underlying kt = some .string) (k : ByteArray) (n : Nat) (w : World) : (Instr.checkKey em (n + 1) kt (.string k)).run P w = .ok () w :=
  MapKept.run_checkKey (k := .string k) hk (by simp [MapKept.IsKey]) em n
theorem IsMapS.look_some (h : IsMapS w b kv) (ht : P.underlying t = some (.map kt et)) (hk : P.underlying kt = some .string) (k : ByteArray) (v : Value) (ha : assocS kv k = some v) :
    (Instr.lookup t (.map (some b)) (.string k) true).run P w = .ok (.tuple #[v, .bool true]) w := by
  obtain ⟨es, clock, hb, he⟩ := h
  obtain ⟨_, h2⟩ := findNow_pairsS k es.toList kv 0 he
  have hc := checkKey_str (P := P) (kt := kt) (es.isEmpty) hk k 9999 w
  obtain ⟨j, hj⟩ := h2 v ha
  have hf : (Instr.findKey kt (.string k) es.toList).run P w = .ok (some (j, v)) w := MapKept.run_findKey hk hj
  simp [Instr.lookup, run_underlying ht, MapKept.run_getObj_map hb, hc, hf, Result.andThen]
theorem IsMapS.look_none (h : IsMapS w b kv) (ht : P.underlying t = some (.map kt et)) (hk : P.underlying kt = some .string) {z : Value} (hz : (zeroValue et).run P w = .ok z w) (k : ByteArray) (ha : assocS kv k = none) :
    (Instr.lookup t (.map (some b)) (.string k) true).run P w = .ok (.tuple #[z, .bool false]) w := by
  obtain ⟨es, clock, hb, he⟩ := h
  obtain ⟨h1, _⟩ := findNow_pairsS k es.toList kv 0 he
  have hc := checkKey_str (P := P) (kt := kt) (es.isEmpty) hk k 9999 w
  have hf : (Instr.findKey kt (.string k) es.toList).run P w = .ok none w := MapKept.run_findKey hk (h1 ha)
  simp [Instr.lookup, run_underlying ht, MapKept.run_getObj_map hb, hc, hf, hz, Result.andThen]
theorem IsMapS.insert (h : IsMapS w b kv) (ht : P.underlying t = some (.map kt et)) (hk : P.underlying kt = some .string) (k : ByteArray) (v : Value) (hn : assocS kv k = none) :
    ∃ w', (Instr.mapUpdate t (.map (some b)) (.string k) v).run P w = .ok () w' ∧ IsMapS w' b (kv ++ [(k, v)]) ∧ w.grownBy w' (some b) := by
  obtain ⟨es, clock, hb, he⟩ := h
  obtain ⟨h1, _⟩ := findNow_pairsS k es.toList kv 0 he
  have hc := checkKey_str (P := P) (kt := kt) false hk k 9999 w
  have hf : (Instr.findKey kt (.string k) es.toList).run P w = .ok none w := MapKept.run_findKey hk (h1 hn)
  have hlt : b < w.heap.size := (Array.getElem?_eq_some_iff.1 hb).1
  refine ⟨{ w with heap := w.heap.setIfInBounds b (.map (es.push { key := .string k, val := v, born := clock }) (clock + 1)) }, ?_, ⟨es.push { key := .string k, val := v, born := clock }, clock + 1, ?_, ?_⟩, ⟨rfl, rfl, rfl, by simp, fun i _ hi => ?_⟩⟩
  · simp [Instr.mapUpdate, run_underlying ht, MapKept.run_getObj_map hb, hc, hf, MapKept.run_setObj_map _ hb, Result.andThen]
  · simp [hlt]
  · simp [he]
  · have hne : b ≠ i := fun e => hi (by rw [e])
    simp [hne]
/-- An insertion of a new key at the operation, for the walk. -/
theorem wpList_insS {ops : Array Oper} {rest : List Oper} {o : Oper} {a : Act} {Q : Exit → Act → World → Prop} (hg : o.guard = none) (m x y : Operand) (hop : o.op = Op.insert t m x y)
    (ht : P.underlying t = some (.map kt et)) (hk : P.underlying kt = some .string) (k : ByteArray) (v : Value) (hm : a.eval m = .map (some b)) (hx : a.eval x = .string k) (hy : a.eval y = v)
    {w0 : World} {B : Nat} (h : IsMapS w b kv) (hn : assocS kv k = none) (hB : Below B w0 w) (hb : B ≤ b)
    (hK : ∀ w', IsMapS w' b (kv ++ [(k, v)]) → Below B w0 w' → wpList P ops Q rest (a.put o.dst undef) w') : wpList P ops Q (o :: rest) a w := by
  refine wpList_plain hg fun K' hK' => ?_
  obtain ⟨w', hrun, r1, r2⟩ := h.insert ht hk k v hn
  have hlt : b < w.heap.size := by obtain ⟨es, c, h1, _⟩ := h; exact (Array.getElem?_eq_some_iff.1 h1).1
  have hB' : Below B w0 w' := hB.trans ⟨r2.os, r2.tape, r2.output, r2.size, fun i hi => by
    rcases Nat.lt_or_ge i w.heap.size with hl | hl
    · exact r2.block i hl (fun e => by cases e; omega)
    · omega⟩
  unfold Oper.wp
  simp [execOp, hop, hm, hx, hy, hrun, Result.andThen]
  exact hK' _ _ (hK w' r1 hB')
end
end Go.Proofs.YtccklmleaffgiaaGreatDoor

/-
  Layer 14: the reader's take where nothing is wrong: what the line's first word asks for is called.
-/
namespace Go.Proofs.YtccklmleaffgiaaGreatDoor
open Go.RowKit Go.Shelf
set_option linter.unusedVariables false

theorem zeroF (w : World) : (zeroValue 91).run Tryz.prog w = .ok .nilFunc w := by kernel_rfl
/-- A method value of the reader's. -/
abbrev mvR (F RB : Nat) : Value := .func (.func F) #[.pointer (some ⟨RB, 0, none⟩)] #[]
abbrev dfW : ByteArray := ⟨#[100, 101, 102, 97, 117, 108, 116]⟩
abbrev x3W : ByteArray := ⟨#[120, 51, 50]⟩
abbrev doesKV (RB : Nat) : List (ByteArray × Value) := ([] ++ [(dfW, mvR 58 RB)]) ++ [(x3W, mvR 59 RB)]
theorem bytesF {s t : ByteArray} (h : s ≠ t) : (s == t) = false := Bool.eq_false_iff.2 fun e => h ((MapKept.bytes_beq _ _).1 e)
theorem assoc_none (RB : Nat) {s : ByteArray} (h1 : (s == dfW) = false) (h2 : (s == x3W) = false) : assocS (doesKV RB) s = none := by
  simp [assocS, doesKV, List.find?, h1, h2]
theorem drawn_below {w : World} (n : Nat) : Below w.heap.size w (w.drewN n) := by
  induction n with
  | zero => exact Below.refl _ _
  | succ n ih => exact ih.drew

set_option maxRecDepth 100000 in
set_option maxHeartbeats 4000000 in
theorem take_dflt (RB b n c pl : Nat) (k u : Int) (x : Bool) (R : Value)  (w : World) (Q : World → World → Prop) (h : RowC w RB (rdA k u x R pl) 90) (hpl : pl = 0) (hn : 1 ≤ n) (hw : w.cell? ⟨b, 0, none⟩ = some (.string dfW))
    (hK : ∀ W, Below w.heap.size w W → Calls Tryz.prog 58 #[.pointer (some ⟨RB, 0, none⟩), .slice (some ⟨b, 0, none⟩) n c] W fun e w' => e = .returned (.tuple #[]) ∧ Q W w') :
    Calls Tryz.prog 33 #[.pointer (some ⟨RB, 0, none⟩), .slice (some ⟨b, 0, none⟩) n c] w fun e w' => e = .returned (.tuple #[]) ∧ ∃ W, Below w.heap.size w W ∧ Q W w' := by
  have hmf : ∀ (fn : Fn) (first cap : Array Value) (w : World), (Instr.makeFunc fn first cap).run Tryz.prog w = .ok (.func fn first cap) w := fun _ _ _ _ => rfl
  have hmm := @run_makeMap Tryz.prog
  have HK := Lib.hid hK
  have HW := Lib.hid hw
  have r4 := h.cell 4 (.int .i64 pl) rfl
  subst hpl
  have i1 : (0 : Int) < (n : Int) := by omega
  have i2 : 0 < n := by omega
  clear h hK
  go_enter Tryz.func33, Tryz.ntmps33
  go_wp2_with fail
  go_quiet (fail)
  have hB : Below w.heap.size w ((w.drewN nq).alloc (.map #[] 0)) := (drawn_below nq).alloc (Nat.le_refl _) _
  have hm := IsMapS.new (w.drewN nq)
  go_upto_region 3 with (refine wpList_insS rfl _ _ _ rfl Tryz.underlying126 Tryz.underlying9 _ _ rfl rfl rfl hm (by rfl) hB (Nat.le_refl _) ?_; clear hm hB; intro w' hm hB)
  have q0 := (hB.cell (p := ⟨b, 0, none⟩) (World.block_lt_of_cell? _ _ HW.out)).trans HW.out
  have hm2 : IsMapS w' w.heap.size (doesKV RB) := hm
  have hlk := hm2.look_some Tryz.underlying126 Tryz.underlying9 dfW (mvR 58 RB) (by rfl)
  have HB := Lib.hid hB
  clear hB hm hm2
  go_wp2_with (go_at_call 58; refine (HK.out _ HB.out).mono ?_; rintro e w9 ⟨rfl, hq⟩)
  go_end0
  exact ⟨rfl, _, HB.out, hq⟩

set_option maxRecDepth 100000 in
set_option maxHeartbeats 4000000 in
theorem take_x32 (RB b n c pl : Nat) (k u : Int) (x : Bool) (R : Value)  (w : World) (Q : World → World → Prop) (h : RowC w RB (rdA k u x R pl) 90) (hpl : pl ≠ 0) (hn : 1 ≤ n) (hw : w.cell? ⟨b, 0, none⟩ = some (.string x3W))
    (hK : ∀ W, Below w.heap.size w W → Calls Tryz.prog 59 #[.pointer (some ⟨RB, 0, none⟩), .slice (some ⟨b, 0, none⟩) n c] W fun e w' => e = .returned (.tuple #[]) ∧ Q W w') :
    Calls Tryz.prog 33 #[.pointer (some ⟨RB, 0, none⟩), .slice (some ⟨b, 0, none⟩) n c] w fun e w' => e = .returned (.tuple #[]) ∧ ∃ W, Below w.heap.size w W ∧ Q W w' := by
  have hmf : ∀ (fn : Fn) (first cap : Array Value) (w : World), (Instr.makeFunc fn first cap).run Tryz.prog w = .ok (.func fn first cap) w := fun _ _ _ _ => rfl
  have hmm := @run_makeMap Tryz.prog
  have HK := Lib.hid hK
  have HW := Lib.hid hw
  have r4 := h.cell 4 (.int .i64 pl) rfl
  have d2 : ((pl : Int) == 0) = false := by simp; omega
  have i1 : (0 : Int) < (n : Int) := by omega
  have i2 : 0 < n := by omega
  clear h hK
  go_enter Tryz.func33, Tryz.ntmps33
  go_wp2_with fail
  go_quiet (fail)
  have hB : Below w.heap.size w ((w.drewN nq).alloc (.map #[] 0)) := (drawn_below nq).alloc (Nat.le_refl _) _
  have hm := IsMapS.new (w.drewN nq)
  go_upto_region 3 with (refine wpList_insS rfl _ _ _ rfl Tryz.underlying126 Tryz.underlying9 _ _ rfl rfl rfl hm (by rfl) hB (Nat.le_refl _) ?_; clear hm hB; intro w' hm hB)
  have q0 := (hB.cell (p := ⟨b, 0, none⟩) (World.block_lt_of_cell? _ _ HW.out)).trans HW.out
  have hm2 : IsMapS w' w.heap.size (doesKV RB) := hm
  have hlk := hm2.look_some Tryz.underlying126 Tryz.underlying9 x3W (mvR 59 RB) (by rfl)
  have HB := Lib.hid hB
  clear hB hm hm2
  go_wp2_with (go_at_call 59; refine (HK.out _ HB.out).mono ?_; rintro e w9 ⟨rfl, hq⟩)
  go_end0
  exact ⟨rfl, _, HB.out, hq⟩

set_option maxRecDepth 100000 in
set_option maxHeartbeats 4000000 in
theorem take_rule (RB b n c pl : Nat) (k u : Int) (x : Bool) (R : Value) (s : ByteArray) (w : World) (Q : World → World → Prop) (h : RowC w RB (rdA k u x R pl) 90) (hpl : pl ≠ 0) (hd : s ≠ dfW) (hx : s ≠ x3W) (hn : 1 ≤ n) (hw : w.cell? ⟨b, 0, none⟩ = some (.string s))
    (hK : ∀ W, Below w.heap.size w W → Calls Tryz.prog 60 #[.pointer (some ⟨RB, 0, none⟩), .slice (some ⟨b, 0, none⟩) n c] W fun e w' => e = .returned (.tuple #[]) ∧ Q W w') :
    Calls Tryz.prog 33 #[.pointer (some ⟨RB, 0, none⟩), .slice (some ⟨b, 0, none⟩) n c] w fun e w' => e = .returned (.tuple #[]) ∧ ∃ W, Below w.heap.size w W ∧ Q W w' := by
  have hmf : ∀ (fn : Fn) (first cap : Array Value) (w : World), (Instr.makeFunc fn first cap).run Tryz.prog w = .ok (.func fn first cap) w := fun _ _ _ _ => rfl
  have hmm := @run_makeMap Tryz.prog
  have HK := Lib.hid hK
  have HW := Lib.hid hw
  have r4 := h.cell 4 (.int .i64 pl) rfl
  have d2 : ((pl : Int) == 0) = false := by simp; omega
  have d1 : (s.toList == ([100, 101, 102, 97, 117, 108, 116] : List UInt8)) = false := by
    refine beq_eq_false_iff_ne.2 fun e => hd ?_
    exact ByteArray.ext (Array.toList_inj.1 (by rw [← Lib.toList_data, e]))
  have i1 : (0 : Int) < (n : Int) := by omega
  have i2 : 0 < n := by omega
  clear h hK
  go_enter Tryz.func33, Tryz.ntmps33
  go_wp2_with fail
  go_quiet (fail)
  have hB : Below w.heap.size w ((w.drewN nq).alloc (.map #[] 0)) := (drawn_below nq).alloc (Nat.le_refl _) _
  have hm := IsMapS.new (w.drewN nq)
  go_upto_region 3 with (refine wpList_insS rfl _ _ _ rfl Tryz.underlying126 Tryz.underlying9 _ _ rfl rfl rfl hm (by rfl) hB (Nat.le_refl _) ?_; clear hm hB; intro w' hm hB)
  have q0 := (hB.cell (p := ⟨b, 0, none⟩) (World.block_lt_of_cell? _ _ HW.out)).trans HW.out
  have hm2 : IsMapS w' w.heap.size (doesKV RB) := hm
  have hlk := hm2.look_none Tryz.underlying126 Tryz.underlying9 (zeroF _) s (assoc_none RB (bytesF hd) (bytesF hx))
  have HB := Lib.hid hB
  clear hB hm hm2
  go_wp2_with (go_at_call 60; refine (HK.out _ HB.out).mono ?_; rintro e w9 ⟨rfl, hq⟩)
  go_end0
  exact ⟨rfl, _, HB.out, hq⟩
end Go.Proofs.YtccklmleaffgiaaGreatDoor
